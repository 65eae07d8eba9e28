import PyProof.Rows.All
import Wide.All
import OpenK.AllK
import PySem.Challenge.RW_playboard_k19_whole_webs
set_option Elab.async false
set_option linter.all false
set_option maxRecDepth 100000
set_option maxHeartbeats 4000000
set_option compiler.extract_closed false
noncomputable section
open List renaming length_map->U6,mem_map->U7,mem_cons->U8,getElem?_eq_getElem->U9,getElem?_map->Va,mem_singleton->Vb,size_toArray->Vc,mem_cons_of_mem->Vd,length_append->Ve,mem_cons_self->Vf,map_append->Vg,getD_eq_getElem?_getD->Vh,getElem?_eq_some_iff->Vi,map_map->Vj,mem_append->Vk,getElem_mem->Vl,map_cons->Vm,mem_of_getElem?->Vn,mem_range->Vo,length_cons->Vp,not_mem_nil->Vq,mem_append_right->Vr,length_take->Vs,all_eq_true->Vt,length_range->Vu,all_cons->Vv,getElem?_eq_none->Vw,append_nil->Vx,filter_eq_self->Vy,mem_filter->Vz,mem_append_left->VA,nodup_cons->VB,append_assoc->VC,map_congr_left->VD,pairwise_map->VE,any_eq_true->VF,take_length->VG,getElem?_append_left->VH,lookup_cons->VI,getElem?_range->VJ,range_succ->VL,length_filter_le->VM,any_eq_false->VN,any_cons->VO,replicate_succ->VP,find?_cons->VQ,getElem_of_mem->VR,take_add_one->VS,filterMap_cons->VT,nodup_nil->VU,ext_getElem?->VV,set_cons_zero->VW,mem_filterMap->VX,flatten_cons->VY,pairwise_cons->VZ,map_nil->V0,length_drop->V1,drop_eq_getElem_cons->V2,take_of_length_le->V3,take_append_drop->V4,nodup_append->V5,nodup_iff_pairwise_ne->V6,any_map->V7,filter_cons->V8,getElem?_of_mem->V9,getElem_map->Wa,of_mem_zip->Wb,getElem?_append_right->Wc,length_set->Wd,foldl_cons->We,length_singleton->Wf,length_nil->Wg,forIn_cons->Wh,length_eq_zero_iff->Wi,drop_zero->Wj,pairwise_iff_getElem->Wk,length_eraseIdx_of_lt->Wl,length_erase_of_mem->Wm,length_pos_of_mem->Wn,mem_erase_of_ne->Wo,getElem_append_left->Wp,getElem_append_right->Wq,getElem?_toArray->Wr,getElem_range->Ws,set_cons_succ->Wt,sum_cons->Wu,all_map->Wv,take_succ_eq_append_getElem->Ww,getElem?_set_self->Wx,getElem?_set_ne->Wy,getElem?_replicate->Wz,getElem?_take_of_lt->WA,take_sublist->WB,length_replicate->WD,mem_iff_getElem->WE,pairwise_append->WF,mem_drop_iff_getElem->WG,perm_cons_erase->WH,filter_append->WI,pairwise_singleton->WJ,filter_congr->WK,mem_of_mem_take->WL,length_flatMap->WM,getElem?_concat_length->WN,map_eq_nil_iff->WO,getElem_toArray->WP,getElem?_set->WQ
open Nat renaming le_refl->WR,ne_of_lt->WS,zero_le->WT,le_trans->WU,lt_of_lt_of_le->WV,le_succ->WW,ne_of_gt->WX,lt_irrefl->WY,lt_succ_self->WZ,lt_trans->W3,zero_add->W9,le_add_right->Xa,le_of_lt->Xb,le_of_eq->Xc,lt_succ_of_lt->Xd,lt_trichotomy->Xe,succ_ne_self->Xf,mod_lt->Xg,succ_pos->Xh,add_comm->Xi,eq_zero_or_pos->Xj
open Int renaming toNat_natCast->Xk,emod_nonneg->Xl,emod_lt_of_pos->Xm,mul_le_mul->Xn,mul_comm->Xo,mul_le_mul_of_nonneg_left->Xp,one_mul->Xq,mul_nonneg->Xr,zero_add->Xs,toNat_of_nonneg->Xu,mul_le_mul_of_nonneg_right->Xv
open Bool renaming false_ne_true->Xw,and_eq_true->Xx,eq_iff_iff->Xy,false_eq_true->Xz,not_eq_true'->XA,true_and->XB,not_eq_false'->XC,and_eq_true_iff->XD,or_false->XE,and_false->XF,or_eq_true->XG,not_true->XH,and_true->XI
open Array renaming getElem?_eq_getElem->XJ,getElem?_toList->XM,length_toList->XO,getElem?_eq_none->XQ,size_map->XR,toList_inj->XS,toList_push->XT,getElem_toList->XU,forIn_toList->XV
open Option renaming map_eq_some_iff->XW,getD_none->XX,isSome_map->XY
open PySem.W renaming findIn->XZ,nsIn->X0,isFn->X1,mg_of->X2,mg_none_of->X3,topRun->X4,kia_one->X5,keepIn->X6,fnOf->X7,emptyDict->X8,instObj->X9,plainGet->Yb,hasDictIn->Yc,plainOver->Yd,makesIn->Ye,lookIn->Yg,kitOne->Yh,codeIn->Yi,boot_heap->Yj,methodObj->Yk,plainGet_of->Yl,takerIn->Ym,callWith_K->Yn,doneF->Yo,handedIn->Yp,any_some->Yq,looks_findIn->Yr,kitx_list->Ys,kitx_dict->Yt,cellsFrom_some->Yu,methodCall_KW->Yv,boot_o_2->Yw,topStub->Yx,segRun->Yy,blockOf->Yz,restOf->YA
open PySem.W (Frag)
open PySem renaming wpAny_bind->Q6,wpAny_pure->Q7,wpAny->Ra,Shared->Rb,starEach->Rc,sizeLine_eq->Rf,Program->Rg,model->Rh,mainGlobals->Ri,World->Rk,FuncData->Rn,bootBuiltins->Rp,Heap->Rq,wpAny_holding->Rs,Stmt->Rt,IsTupleKey->Ru,wpAny_truthy_bool->Rv,treeTable->RB,wpAny_callSpecial?_slot->RC,compareOp->RD,backTo->RE,eval->RH,wpAny_call_entry->RJ,attributeBase->RK,cLine->RM,wpAny_seqItems->RN,codeAny_builtin->RO,wpAny_mono->RT,Expr->RU,wpAny_newObj_type->RX,wpAny_Call_method_late->RY,wpAny_field->R8,codeAny_mono->Sb,Around->Sd,keywordEach->Se,wpAny_passesOwn->Sj,wpAny_pyIter_list->Sk,Keyword->Sl,pyNext->Sm,Builtin->Sr,strIterType->Sv,sliceBounds->Sw,wpAny_setField_rec->Sx,wpAny_Call_Name_kw->Sy,wpAny_attempt->SB,plainId_quiet->SC,builtinLookup_eq_fast->SD,IsPair->SE,wpAny_setField->SF,setEntries->SH,call_meets->SI,wpAny_typeOf->SJ,wpAny_isInstance->SK,binaryOp->SR,backToKw->SS,importedModules->SU,codeAny->SV,OsState->SW,tupleKind_room_in1->SY,assignEach->SZ,pickOrder->S0,wpAny_pyIter_enum->S3,foldedSetIterable->S4,wpAny_isTrue_Compare1->S7,wpAny_askSetting->S8,swapsWith->S9,holding->Tb,codeAny_call_builtin->Td,wpAny_specialOf->Tf,wpAny_execs_nil->Tg,typeLookup_type->Th,rawInt->Ti,letOwnedTupleGo->Tj,Scope->Tn,wpAny_letOwnedTupleGo_enum->Tr,wpAny_fieldsOf->Ts,typeLookup->Tt,typeIs_str->Tu,isSubtype_stop->Tw,firstArgMember->Tx,ofAClassStatement->TF,IsZip->TJ,wpAny_comprehension_free->TN,Params->TV,wpAny_pyNext_enum_itemD->TZ,wpAny_forIn_list->T0,wpAny_Call_method0_late->T2,tupleKind->T3,GenState->T4,wpAny_rule->T6,wpAny_pyNext_list_item->T7,wpAny_call->T8,setNext->Ua,wpAny_updateSeq->Uc,wpAny_ite_split->Ud,codeAny_of_tree->Ue,wpAny_pyNext_list_end->Ug,wpAny_eqIsQuiet_tuple->Uh,weight_type_call_type->Ui,Pos->Uk,wpAny_runValue->Ul,wpAny_of_eq->Um,wpAny_listPart->Uo,subscripted->Uq,isSubtype_type->Ur,valueAt->Ut,callerA->Uu,wpAny_standAt->Uw,wpAny_onRaise->Ux,setSearchFrom->Uz,CmpOp->UC,sliceRange->UD,assign->UE,standAt->UH,seqIndex_neg->UI,relabel->UJ,getItem->UL,call_meetsIn->UM,BindsTo->UQ,lastMarks->US,isTrue->UU,getMethod->UV,Paired->UW,atKey->UX,setItem->UY,stored->UZ,bindL->U0,bindC->U1,IsPart->U2,Tok->U3,Env->U4,sizeLine->v1,Value->YB,Addr->YC
open PySem.Heap renaming get?_push_of_some->Q8,lt_size->Q9,get?_push_size->Re,size_push->Rz,SameBut->RQ,get?_update_other->Sc,get?_update_self->Si,get?_none_of_le->Te
open PySem.Value renaming ref->Rj,none->Sf,str->SL,int->SM,type->Tz,isInt->TH,isStrOf->UA,bool->UG
open PySem.SetTable renaming below->Rl,insertAt->Rx,runEnd->RI,bits->RP,sizeAbove->R0,turns->Sh,insertAt_perm->S5,advance->Ta,grown->TB,toList_insertAt->TR,slot->TU,Probe->Us,fits->UB,has->UO
open PySem.PassesOwn renaming never->Rr
open PySem.Calls renaming callWith_builtin->RA,evalArgs_plain->RW,Name_function_global->TC
open PySem.Around renaming under_plainId->RF,under->UR
open PySem.Builtin.Str renaming strSliceIndices->RL,occurrences->Sa,tooLong->SO
open PySem.Heap.SameBut renaming update->RR
open PySem.Builtin.SmallTypes renaming ownedTupleIsFree->RS,nextOf->SN,ownedTupleHandOut->SQ
open PyProof.Rows.F renaming plain_set_update_loop->RV,entry_set_update_loop->Su
open PySem.SetTable.layClean renaming free->RZ
open PySem.Obj renaming mapSeq->R7,putSet->Ub
open PySem.SetTable.probe renaming go->R9
open PySem.NameKind renaming free->Sn,cell->TX
open PySem.Builtin.List renaming listTooLong->So,listSameRef->Sq,listSubscript?->To,listLengthHint->Tp,listExtendWith->Tq,listAllItems->TD
open PySem.Str renaming empty->Ss,ofString->SA
open PyProof.Rows renaming seqObj->Sz,AllBare->TM,envOfC->TQ,subscriptTail_builtinR->T9,IntsAre->Uv,subscriptTail->Uy,lo1->U5
open PySem.W.KasT renaming kasWp_bind->SX
open PySem.SetTable.below renaming go->S6
open PySem.Shared renaming TypeIs->Tc
open PySem.F renaming slot_zip_next->Tk,slot_enumerate_next->Uj
open PySem.Builtin.Frozenset renaming updateFrom->Tl,sizeOf->TY
open PySem.EqBoolInt renaming of_rcne->TL
open PySem.Paired renaming length->TW
open PySem.Builtin.Dict renaming updateFrom->T5
open PySem.Unicode renaming lowerAt->Uf
open PySem.Walks renaming list->UF
open PySem.pickOrder renaming go->UK
open PySem.Txt renaming join->UN
open PySem.Code renaming isFrame->UP
open PySem.W renaming kas_place->UT
abbrev QT:=@decide_eq_true
abbrev QU:=@decide_eq_false
abbrev QV:=@if_neg
abbrev QW:=@if_pos
abbrev QX:=@of_decide_eq_true
abbrev QY:=@of_decide_eq_false
abbrev QZ:=@absurd
abbrev Q0:=@Option.some.inj
abbrev Q2:=@congrArg
abbrev Q3:=PySem.Str->Option PySem.Value
abbrev Q4:=PySem.Value->PySem.Shared->Prop
abbrev Q5:=List (PySem.Addr×PySem.Obj)
noncomputable section
namespace L2
open PySem PySem.Spec PyProof.Rows
abbrev Key:=Sum Int Str
noncomputable def pP:Key->YB->Bool
 | .inl k,v=>TH k v
 | .inr x,v=>UA x v
noncomputable def Qm(w:Rk):Key->Int
 | .inl k=>hashInt k
 | .inr x=>hashStr w x
def cg:∀{k:Key}{v:YB},pP k v=true->(∃i t,k=Sum.inl i/\v=SM i t)\/(∃x t,k=Sum.inr x/\v=SL x t)
 | .inl i,v,h=>by obtain⟨t,e⟩:=Value.isInt_shape (k:=i) (v:=v) h;exact .inl ⟨i,t,rfl,e⟩
 | .inr x,v,h=>by obtain⟨t,e⟩:=Value.isStrOf_shape (x:=x) (v:=v) h;exact .inr ⟨x,t,rfl,e⟩
def zK(i:Int)(t:U3):pP (.inl i) (.int i t)=true:=by simp[pP,TH]
def zJ(x:Str)(t:U3):pP (.inr x) (.str x t)=true:=by simp[pP,UA]
def KJ(a b:Int):decide ((Sum.inl a:Key)=Sum.inl b)=(a == b):=by
 by_cases e:a=b
 .subst e;simp
 .have h:¬(Sum.inl a:Key)=Sum.inl b:=λq=>e (Sum.inl.inj q);rw[QU h];exact(beq_eq_false_iff_ne.mpr e).symm
def KG(a b:Str):decide ((Sum.inr a:Key)=Sum.inr b)=decide (a=b):=by
 by_cases e:a=b
 .subst e;simp
 .have h:¬(Sum.inr a:Key)=Sum.inr b:=λq=>e (Sum.inr.inj q);rw[QU h,QU e]
def KI(a:Int)(b:Str):decide ((Sum.inl a:Key)=Sum.inr b)=false:=QU (λq=>nomatch q)
def KH(a:Str)(b:Int):decide ((Sum.inr a:Key)=Sum.inl b)=false:=QU (λq=>nomatch q)
noncomputable def mixKind(prog:Rg)(w:Rk):PySem.KeyKind prog w Key where
 is:=pP
 hash:=Qm w
 inj:=λv a b ha hb=>by
  rcases cg ha with⟨i,t,rfl,rfl⟩|⟨x,t,rfl,rfl⟩
  .rcases cg hb with⟨j,u,rfl,e⟩|⟨y,u,rfl,e⟩
   .injection e with e1 _;rw[e1]
   .exact nomatch e
  .rcases cg hb with⟨j,u,rfl,e⟩|⟨y,u,rfl,e⟩
   .exact nomatch e
   .injection e with e1 _;rw[e1]
 byValue:=λk v h=>by
   rcases cg h with⟨i,t,rfl,rfl⟩|⟨x,t,rfl,rfl⟩<;>rfl
 pyHash:=λhv h=>by
  rcases cg hv with⟨i,t,rfl,rfl⟩|⟨x,t,rfl,rfl⟩
  .exact wpAny_pyHash_int h
  .exact wpAny_pyHash_str h
 eqBool:=λhu hv h=>by
  rcases cg hu with⟨i,t,rfl,rfl⟩|⟨x,t,rfl,rfl⟩
  .rcases cg hv with⟨j,u,rfl,rfl⟩|⟨y,u,rfl,rfl⟩
   .rw[KJ]at h;exact wpAny_eqBool_int h
   .rw[KI]at h;exact SeqAt.EqAt.int_str i t y u _ _ _ _ h
  .rcases cg hv with⟨j,u,rfl,rfl⟩|⟨y,u,rfl,rfl⟩
   .rw[KH]at h;exact SeqAt.EqAt.str_int x t j u _ _ _ _ h
   .rw[KG]at h;exact wpAny_eqBool_str h
 «strs» :=λk x t v h=>by
  rcases cg h with⟨i,u,rfl,e⟩|⟨y,u,rfl,e⟩
  .exact nomatch e
  .injection e with e1 _;subst e1;cases v<;>rfl
def uh(prog:Rg)(w:Rk)(i:Int)(t:U3):(mixKind prog w).is (.inl i) (.int i t)=true:=zK i t
def ug(prog:Rg)(w:Rk)(x:Str)(t:U3):(mixKind prog w).is (.inr x) (.str x t)=true:=zJ x t
inductive V where
 |non|bl (b:Bool)|int (i:Int)|str (x:Str)|byt (b:Array UInt8)|flt (b:UInt64)|ref (a:YC)|ty (n:String)|tok (x:Str) (t:Nat)
 deriving DecidableEq
def aU:V->YB->Prop
 | .non,u=>u=Sf
 | .bl b,u=>u=UG b
 | .int i,u=>∃t,u=SM i t
 | .str x,u=>∃t,u=SL x t
 | .byt b,u=>∃t,u=Value.bytes b t
 | .flt b,u=>∃t,u=Value.float b t
 | .ref a,u=>u=Rj a
 | .ty n,u=>u=Tz n
 | .tok x t,u=>u=SL x t
abbrev a9:List V->List YB->Prop:=UW aU
theorem a9.length(r:a9 xs us):xs.length=us.length:=TW r
theorem a9.get:∀{xs:List V}{us:List YB}{i:Nat}{x:V},a9 xs us->xs[i]? =some x->∃u,us[i]? =some u/\aU x u
 |_,_,_,_,.nil,e=>by simp at e
 |_,_,0,_,.cons r _,e=>by simp at e;subst e;exact⟨_,rfl,r⟩
 |_,_,i+1,x,.cons _ t,e=>by obtain⟨u,h1,h2⟩:=a9.get (i:=i) (x:=x) t (by simpa using e);exact⟨u,by simpa using h1,h2⟩
theorem a9.set(r:aU x u):∀{xs:List V}{us:List YB}(i:Nat),a9 xs us->a9 (xs.set i x) (us.set i u)
 |_,_,_,.nil=>.nil
 |_,_,0,.cons _ t=>.cons r t
 |_,_,i+1,.cons q t=>.cons q (a9.set r i t)
theorem a9.append:∀{xs ys:List V}{us ws:List YB},a9 xs us->a9 ys ws->a9 (xs++ys) (us++ws)
 |_,_,_,_,.nil,s=>s
 |_,_,_,_,.cons r t,s=>.cons r (a9.append t s)
theorem a9.take:∀{xs:List V}{us:List YB}(n:Nat),a9 xs us->a9 (xs.take n) (us.take n)
 |_,_,0,_=>.nil
 |_,_,_+1,.nil=>.nil
 |_,_,n+1,.cons r t=>.cons r (a9.take n t)
theorem a9.drop:∀{xs:List V}{us:List YB}(n:Nat),a9 xs us->a9 (xs.drop n) (us.drop n)
 |_,_,0,r=>r
 |_,_,_+1,.nil=>.nil
 |_,_,n+1,.cons _ t=>a9.drop n t
def iR:Option V->Option YB->Prop
 |some v,some u=>aU v u
 |none,none=>True
 |_,_=>False
def KV{κ:Type}:List (κ×V)->List (κ×YB)->Prop:=UW λ(p:κ×V)(q:κ×YB)=>p.1=q.1/\aU p.2 q.2
noncomputable def kV:Key->V
 | .inl i=>.int i
 | .inr x=>.str x
inductive HO where
 |lst (xs:List V)
 |tup (xs:List V)
 |dK (kvs:List (Key×V))|dT (kvs:List (List Key×V))
 |set (S:Int->Bool) (n:Nat)
 |ins (C dx:YC) (fs:List (Str×V))
 |own (x:YC)
 |xd (fs:List (Str×V))
 |met (f x:YC)
 |rng (lo hi:Int)
 |frz (o:Obj) (u:HO)
 |tbl (ps:Array YB)
 |ext (φ:Rq->Prop)
abbrev Hp:=YC->Option HO
noncomputable def upd(H:Hp)(a:YC)(o:HO):Hp:=λb=>if b=a then some o else H b
def af:upd H a o a=some o:=by unfold upd;rw[QW rfl]
def ak(h:b≠a):upd H a o b=H b:=by unfold upd;rw[QV h]
def N3{H:Hp}{a b:YC}{o u:HO}(h:H a=some o)(h':H b=some u)(d:o≠u):a≠b:=by intro e;subst e;rw[h]at h';exact d (Q0 h')
def ay{H:Hp}{a b:YC}{o:HO}(h:H a=some o)(h':H b=none):a≠b:=by intro e;subst e;rw[h]at h';cases h'
section
variable(P:Rg)(w:Rk)
def bC(H:Hp)(h:Rq)(a:YC):HO->Prop
 | .lst xs=>xs.length<=v1/\∃its n,a9 xs its/\h.get? a=some {cls:=.type "list",data:=.seq its.toArray n}
 | .tup xs=>xs.length<=v1/\∃its:List YB,a9 xs its/\IsTup h a its.toArray
 | .dK kvs=>kvs.length<=v1/\(a == sysModules)=false/\∃vs,KV kvs vs/\h.DictOf (mixKind P w) a vs
 | .dT kvs=>kvs.length<=v1/\(a == sysModules)=false/\∃xs:List (List Key×YC×YB),
   UW (λ(p:List Key×V)(q:List Key×YC×YB)=>p.1=q.1/\H q.2.1=some (.tup (p.1.map kV))/\aU p.2 q.2.2) kvs xs/\
   ∃o es ep,h.get? a=some o/\o.ExactDict/\o.data=.dict es ep/\es.toList=xs.map (entryOfKey (T3 (mixKind P w)))/\(xs.map (·.1)).Nodup
 | .set S n=>h.SetOf (intKind P w) a S n
 | .ins C dx fs=>H dx=some (.own a)/\fs.length<=1000/\dx≠a/\h.get? a=some (X9 C dx)/\
   ∃mA,h.Ns1 dx mA/\(∀f,iR (fs.lookup f) (mA f))/\PySem.Within mA (fs.map (·.1))
 | .own _=>∃o,h.get? a=some o
 | .xd fs=>∃mA,h.Ns1 a mA/\∀f,iR (fs.lookup f) (mA f)
 | .rng lo hi=>∃t u v,h.get? a=some {cls:=.type "range",data:=.fields #[.int lo t,.int hi u,.int 1 v]}
 | .frz o u=>h.get? a=some o/\bC H h a u
 | .tbl ps=>h.get? a=some {cls:=.none,data:=.fields ps}
 | .met f x=>h.get? a=some (Yk (.ref f) (.ref x))
 | .ext φ=>φ h/\(∃o,h.get? a=some o)/\∀h1 h2:Rq,φ h1->(∀o,h1.get? a=some o->h2.get? a=some o)->φ h2
def j2(H:Hp)(h:Rq):Prop:= ∀a o,H a=some o->bC P w H h a o
end
section
variable{P:Rg}{w:Rk}{H H':Hp}{h h':Rq}{a:YC}{o:HO}
theorem bC.lt(x:bC P w H h a o):a<h.objs.size:=by
 cases o with
 |lst xs=>obtain⟨_,_,_,_,e⟩:=x;exact Q9 e
 |tup xs=>obtain⟨_,_,_,p⟩:=x;exact p.lt
 |dK kvs=>obtain⟨_,_,_,_,o,_,_,e,_⟩:=x;exact Q9 e
 |dT kvs=>obtain⟨_,_,_,_,o,_,_,e,_⟩:=x;exact Q9 e
 |set S n=>obtain⟨o,_,_,_,e,_⟩:=x;exact Q9 e
 |ins C dx fs=>obtain⟨_,_,_,e,_⟩:=x;exact Q9 e
 |own y=>obtain⟨_,e⟩:=x;exact Q9 e
 |xd fs=>obtain⟨_,⟨_,_,_,e,_⟩,_⟩:=x;exact Q9 e
 |rng lo hi=>obtain⟨_,_,_,e⟩:=x;exact Q9 e
 |frz ob u=>obtain⟨e,_⟩:=x;exact Q9 e
 |tbl ps=>exact Q9 (show h.get? a=some _ from x)
 |met f y=>exact Q9 (show h.get? a=some _ from x)
 |ext φ=>obtain⟨_,⟨_,e⟩,_⟩:=x;exact Q9 e
theorem Paired.mapP:∀{l₁:List α}{l₂:List β},UW F l₁ l₂->(∀a b,F a b->G a b)->UW G l₁ l₂
 |_,_,.nil,_=>.nil
 |_,_,.cons r t,f=>.cons (f _ _ r) (Paired.mapP t f)
def bC.stay(x:bC P w H h a o)(k:∀b u,(b=a\/H b=some (.own a))->h.get? b=some u->h'.get? b=some u)(ho:∀b,H b=some (.own a)->H' b=some (.own a))(ht:∀b xs,H b=some (.tup xs)->H' b=some (.tup xs)):bC P w H' h' a o:=by
 induction o with
 |lst xs=>obtain⟨z,its,n,r,e⟩:=x;exact⟨z,its,n,r,k _ _ (.inl rfl) e⟩
 |tup xs=>obtain⟨z,its,r,ob,e,c⟩:=x;exact⟨z,its,r,ob,k _ _ (.inl rfl) e,c⟩
 |dK kvs=>obtain⟨z,y,vs,r,ob,es,ep,e,c⟩:=x;exact⟨z,y,vs,r,ob,es,ep,k _ _ (.inl rfl) e,c⟩
 |dT kvs=>
  obtain⟨z,y,xs,r,ob,es,ep,e,c⟩:=x;exact⟨z,y,xs,Paired.mapP r λp q z=>⟨z.1,ht _ _ z.2.1,z.2.2⟩,ob,es,ep,k _ _ (.inl rfl) e,c⟩
 |set S n=>obtain⟨ob,es,ep,t,e,c⟩:=x;exact⟨ob,es,ep,t,k _ _ (.inl rfl) e,c⟩
 |ins C dx fs=>
  obtain⟨d,z,ne,e,mA,⟨od,es,ep,e2,c⟩,r⟩:=x;exact⟨ho _ d,z,ne,k _ _ (.inl rfl) e,mA,⟨od,es,ep,k _ _ (.inr d) e2,c⟩,r⟩
 |own y=>obtain⟨ob,e⟩:=x;exact⟨ob,k _ _ (.inl rfl) e⟩
 |xd fs=>obtain⟨mA,⟨od,es,ep,e,c⟩,r⟩:=x;exact⟨mA,⟨od,es,ep,k _ _ (.inl rfl) e,c⟩,r⟩
 |rng lo hi=>obtain⟨t,u,v,e⟩:=x;exact⟨t,u,v,k _ _ (.inl rfl) e⟩
 |frz ob u ih=>obtain⟨e,q⟩:=x;exact⟨k _ _ (.inl rfl) e,ih q⟩
 |tbl ps=>
  have e:h.get? a=some {cls:=.none,data:=.fields ps}:=x;show h'.get? a=some {cls:=.none,data:=.fields ps};exact k a _ (.inl rfl) e
 |met f y=>
  have e:h.get? a=some (Yk (.ref f) (.ref y)):=x;show h'.get? a=some (Yk (.ref f) (.ref y));exact k a _ (.inl rfl) e
 |ext φ=>obtain⟨p,⟨o,e⟩,st⟩:=x;exact⟨st _ _ p λo q=>k _ _ (.inl rfl) q,⟨o,k _ _ (.inl rfl) e⟩,st⟩
theorem j2.lt(x:j2 P w H h)(e:H a=some o):a<h.objs.size:=(x a o e).lt
def j2.fresh(x:j2 P w H h)(e:h.objs.size<=a):H a=none:=by
 cases q:H a with
 |none=>rfl
 |some u=>exact QZ (WV (x.lt q) e) (WY _)
def j2.kept(x:j2 P w H h)(k:∀b u,h.get? b=some u->h'.get? b=some u):j2 P w H h':=λa o e=>
 (x a o e).stay (λb u _ q=>k b u q) (λ_ q=>q) λ_ _ q=>q
def j2.laid(x:j2 P w H h)(k:∀b u,h.get? b=some u->h'.get? b=some u)(hp:h.objs.size<=a)(new:bC P w (upd H a o) h' a o):j2 P w (upd H a o) h':=λb u e=>by
 have hn:=x.fresh hp
 by_cases hb:b=a
 .subst hb;rw[af]at e;cases e;exact new
 .rw[ak hb]at e;exact(x b u e).stay (λc v _ q=>k c v q) (λc q=>by rw[ak (ay q hn)];exact q) λc xs q=>by rw[ak (ay q hn)];exact q
end
def Rd(H:Hp)(a:YC)(u:HO):Prop:=H a=some u\/∃o,H a=some (.frz o u)
def Rd.ok(r:Rd H a u)(x:j2 P w H h):bC P w H h a u:=by
 rcases r with r|⟨o,r⟩
 .exact x a u r
 .obtain⟨_,q⟩:=x a _ r;exact q
def O5:Option HO->Prop
 |some (.lst _)=>True
 |some (.dK _)=>True
 |some (.dT _)=>True
 |some (.set _ _)=>True
 |some (.ins _ _ _)=>True
 |some (.ext _)=>True
 |_=>False
section
def j2.write(ok:j2 P w H h)(mu:O5 (H x))(he:e=x\/H e=some (.own x))(k:∀b u,b≠e->h.get? b=some u->h'.get? b=some u)(heo:∃u,h'.get? e=some u)(new:bC P w (upd H x o') h' x o'):j2 P w (upd H x o') h':=λb u q=>by
 have nown:∀c y,H c=some (.own y)->c≠x:=λc y r z=>by subst z;rw[r]at mu;exact mu
 have ntup:∀c xs,H c=some (.tup xs)->c≠x:=λc xs r z=>by subst z;rw[r]at mu;exact mu
 by_cases hb:b=x
 .subst hb;rw[af]at q;cases q;exact new
 .rw[ak hb]at q
  by_cases hbe:b=e
  .have q':H b=some (.own x):=by
    rcases he with z|z
    .exact QZ (hbe.trans z) hb
    .rw[hbe];exact z
   rw[q]at q';cases q';obtain⟨v,hv⟩:=heo;exact⟨v,by rw[hbe];exact hv⟩
  .refine(ok b u q).stay (λc v hc r=>k c v ?_ r) (λc r=>by rw[ak (nown c b r)];exact r) λc xs r=>by rw[ak (ntup c xs r)];exact r
   rcases hc with rfl|hc
   .exact hbe
   .rintro rfl
    rcases he with z|z
    .exact nown c b hc z
    .rw[hc]at z;cases z;exact hb rfl
end
structure Un(fs ex:List YC)(H H':Hp)(h h':Rq):Prop where
 keep:∀b o,h.get? b=some o->H b=none->b∉fs->b∉ex->h'.get? b=some o
 slot:∀b o,h.get? b=some o->H b=none->b∈fs->b∉ex->∃sl,h'.get? b=some {o with slots:=sl}
 free:∀b o,h.get? b=some o->H b=none->b∉ex->H' b=none
 there:∀b o,h.get? b=some o->b∉ex->∃o',h'.get? b=some o'
 tups:∀b xs,H b=some (.tup xs)->H' b=some (.tup xs)
 frzs:∀b o u,H b=some (.frz o u)->H' b=some (.frz o u)
 tbls:∀b ps,H b=some (.tbl ps)->∃more,H' b=some (.tbl (ps++more))
section
def Un.any(u:Un fs ex H H1 h h1)(q:h.get? b=some ob)(n:H b=none)(hx:b∉ex):∃sl,h1.get? b=some {ob with slots:=sl}:=by
 by_cases hb:b∈fs
 .exact u.slot b ob q n hb hx
 .exact⟨ob.slots,u.keep b ob q n hb hx⟩
def Un.kept(k:∀b u,h.get? b=some u->h'.get? b=some u):Un fs ex H H h h':=
 ⟨λb ob q _ _ _=>k b ob q,λb ob q _ _ _=>⟨ob.slots,k b ob q⟩,λ_ _ _ n _=>n,λb ob q _=>⟨ob,k b ob q⟩,λ_ _ q=>q,λ_ _ _ q=>q,λ_ ps q=>⟨#[],by rw[q];simp⟩⟩
def Un.refl:Un fs ex H H h h:=Un.kept λ_ _ q=>q
def Un.laid(k:∀b u,h.get? b=some u->h'.get? b=some u)(hp:h.objs.size<=a)(hn:H a=none):Un fs ex H (upd H a o) h h' where
 keep:=λb u q _ _ _=>k b u q
 slot:=λb u q _ _ _=>⟨u.slots,k b u q⟩
 free:=λb u q n _=>by rw[ak (WS (WV (Q9 q) hp))];exact n
 there:=λb u q _=>⟨u,k b u q⟩
 tups:=λb xs q=>by rw[ak (ay q hn)];exact q
 frzs:=λb u xs q=>by rw[ak (ay q hn)];exact q
 tbls:=λb ps q=>⟨#[],by rw[ak (ay q hn),q];simp⟩
def Un.write(mu:O5 (H x))(he:e=x\/H e=some (.own x))(k:∀b u,b≠e->h.get? b=some u->h'.get? b=some u)(heo:∃u,h'.get? e=some u):Un fs ex H (upd H x o) h h':=by
 have hx:∀b,H b=none->b≠x:=λb n z=>by subst z;rw[n]at mu;exact mu
 have hb:∀b,H b=none->b≠e:=λb n z=>by
  subst z
  rcases he with r|r
  .exact hx b n r
  .rw[n]at r;cases r
 have hm:∀b u,H b=some u->¬O5 (some u)->b≠x:=λb u q nm z=>by subst z;rw[q]at mu;exact nm mu
 refine⟨λb u q n _ _=>k b u (hb b n) q,λb u q n _ _=>⟨u.slots,k b u (hb b n) q⟩,λb u q n _=>by rw[ak (hx b n)];exact n,λb u q _=>?_,
  λb xs q=>by rw[ak (hm b _ q λz=>z)];exact q,λb u xs q=>by rw[ak (hm b _ q λz=>z)];exact q,λb ps q=>⟨#[],by rw[ak (hm b _ q λz=>z),q];simp⟩⟩
 by_cases hbe:b=e
 .subst hbe;exact heo
 .exact⟨u,k b u hbe q⟩
end
noncomputable def Pa(h:Rq)(H:Hp):List YC:=(List.range h.objs.size).filter λa=>(H a).isSome
noncomputable def rP(h:Rq)(H:Hp):Rq:=PySem.W.hideAll h (Pa h H)
def zO(h:Rq)(H:Hp):(rP h H).objs.size=h.objs.size:=PySem.W.hideAll_size _ _
def BR(e:h.get? b=some o)(n:H b=none):(rP h H).get? b=some o:=
 PySem.W.hideAll_get _ e λhm=>by have q:(H b).isSome=true:=(Vz.mp hm).2;rw[n]at q;simp at q
def DO(e:(rP h H).get? b=some o):h.get? b=some o/\H b=none:=by
 have e':h.get? b=some o:=PySem.W.of_hideAll (Pa h H) e;refine⟨e',?_⟩;cases q:H b with
 |none=>rfl
 |some x=>
  have hm:b∈Pa h H:=Vz.mpr ⟨Vo.mpr (Q9 e'),by simp[q]⟩;have z:(rP h H).get? b=none:=PySem.W.hideAll_none (Pa h H) hm;rw[z]at e;cases e
noncomputable def mH(g h:Rq)(L:YC):List (YC×Obj):=(List.range h.objs.size).filterMap λa=>if a=L\/(g.get? a).isSome=true then none else(h.get? a).map λo=>(a,o)
def ui(h1:a≠L)(h2:g.get? a=none)(h3:h.get? a=some o):(a,o)∈mH g h L:=
 VX.mpr ⟨a,Vo.mpr (Q9 h3),by simp[h1,h2,h3]⟩
def nE(hp:p∈mH g h L):p.1≠L/\g.get? p.1=none/\h.get? p.1=some p.2:=by
 obtain⟨b,_,e⟩:=VX.mp hp;split at e
 .cases e
 .rename_i hn;cases q:h.get? b with
  |none=>rw[q]at e;simp at e
  |some u=>
   rw[q]at e;simp only[Option.map_some,Option.some.injEq]at e;subst e;refine⟨λz=>hn (.inl z),?_,q⟩;show g.get? b=none;cases r:g.get? b with
   |none=>rfl
   |some v=>exact(hn (.inr (by simp[r]))).elim
noncomputable def rest(g h:Rq)(L d:YC):List (YC×Obj):=(mH g h L).filter λp=>decide (p.1≠d)
def rest_ne:∀p∈rest g h L d,p.1≠d:=λp hp=>QX (Vz.mp hp).2
def BB(h1:a≠L)(h2:g.get? a=none)(h3:h.get? a=some o)(h4:a≠d):(a,o)∈rest g h L d:=
 Vz.mpr ⟨ui h1 h2 h3,QT h4⟩
def Bu:News g L h (mH g h L):=λp hp=>let ⟨a,b,c⟩:=nE hp;⟨c,a,b⟩
def DQ(h1:d≠L)(h2:g.get? d=none)(h3:h.get? d=some o):News g L h ((d,o)::rest g h L d):=λp hp=>by
 rcases U8.mp hp with rfl|hp
 .exact⟨h3,h1,h2⟩
 .exact Bu p (Vz.mp hp).1
def kF(k:∀b o,g.get? b=some o->h.get? b=some o)(F:Fr g L h' m)(N:News g L h' (rest g h L d)):∀b o,b≠L->b≠d->h.get? b=some o->h'.get? b=some o:=λb o h1 h2 e=>by
 cases q:g.get? b with
 |some u=>
  have:=k b u q;rw[e]at this;cases this;exact F.keep b _ q
 |none=>exact(N (b,o) (BB h1 q e h2)).1
structure Mod(K:Frag)(mg:Q3)(QR:Rq):Prop where
 kin:K.In QR
 glob:QR.Ns Ri mg
 blt:∃mb,QR.Ns builtinsNs mb/\∀x:Str,x≠"__name__"->mb x=Rp x
 nolimit:QR.NoLimit
structure Cx where
 prog:Rg
 w:Rk
 K:Frag
 mg:Str->Option YB
 QR:Rq
 A:Sd
 N:List Str
 s₀:Rb
 H₀:Hp
 env:U4
 QS:List U4
 stack:List U4
 ex:List YC
 fn:Str->Bool
 calm:Bool
 pn:List (YC×Obj)
 xe:YB->Rb->Prop
noncomputable def x6(l:List U4):List YC:=l.filterMap (·.frame)
noncomputable abbrev Cx.fs(X:Cx):List YC:=x6 X.QS
def Pm(sc:Tn)(x:Str):Prop:=sc.names.lookup x=some .local\/sc.names.lookup x=some .cell\/sc.names.lookup x=some .free
def JB(sc:Tn)(x:Str):Prop:=sc.names.lookup x=some .local\/sc.names.lookup x=some .cell
def QE(env:U4)(h:Rq)(m:Q3)(x:Str)(u:YB):Prop:=
 (env.kindOf x=some .local/\m x=some u)\/((env.kindOf x=some .cell\/env.kindOf x=some .free)/\∃c,env.cells.lookup x=some c/\h.IsCell c (some u))
structure Cx.Ok(X:Cx):Prop where
 mod:Mod X.K X.mg X.QR
 kind:X.env.scope.kind=.function
 glob:X.env.globals=Ri
 blt:X.env.builtins=builtinsNs
 above:X.s₀.heap.objs.size<=X.env.locals
 inj:∀x y c,X.env.cells.lookup x=some c->X.env.cells.lookup y=some c->x=y
 has:∀x,(X.env.kindOf x=some .cell\/X.env.kindOf x=some .free)->∃c,X.env.cells.lookup x=some c
 cab:∀x c,X.fn x=true->X.env.cells.lookup x=some c->X.s₀.heap.objs.size<=c
 hd:X.calm=true->X.A.handled=none
 frames:X.A.frames=some X.stack
 stk:X.stack=X.QS\/(X.stack=X.env::X.QS/\X.env.frame=some X.env.locals)
 exf:∀b∈X.ex,b≠X.env.locals/\∀x c,X.env.cells.lookup x=some c->c≠b
 bs:∀b o,X.QR.get? b=some o->X.s₀.heap.get? b=some o/\X.H₀ b=none
 bsz:X.QR.objs.size<=X.s₀.heap.objs.size
 noex:∀b o,X.QR.get? b=some o->b∉X.ex
 exfs:∀b∈X.ex,b∉X.fs
 funs:X.s₀.heap.FunFrames X.QR X.QS
 frf:∀b∈X.fs,X.H₀ b=none
structure aL(X:Cx)(QQ:Q5)(σ:List (Option V))(H:Hp)(s:Rb):Prop where
 ok:X.Ok
 os:s.os=X.s₀.os
 bare:TM s.gens
 QR:Un X.fs X.ex X.H₀ H X.s₀.heap s.heap
 loc:∃m,s.heap.Ns X.env.locals m/\∀(i:Nat)(x:Str)(v:V),X.N[i]? =some x->σ[i]? =some (some v)->Pm X.env.scope x->∃u,aU v u/\QE X.env s.heap m x u
 cell:∀x c,X.env.cells.lookup x=some c->∃v,s.heap.IsCell c v
 free:H X.env.locals=none
 freeC:∀x c,X.env.cells.lookup x=some c->H c=none
 pin:∀p∈X.pn++QQ,s.heap.get? p.1=some p.2/\H p.1=none/\p.1≠X.env.locals/\p.1∉X.fs/\∀v,p.2.data≠.cell v
 hok:j2 X.prog X.w H s.heap
 len:σ.length=X.N.length
section
variable{X:Cx}
def Cx.Ok.nofr(ok:X.Ok)(e:X.QR.get? b=some o):b∉X.fs:=λhb=>by have:=(ok.funs.mem hb).1;rw[e]at this;cases this
theorem aL.bs(I:aL X QQ σ H s):∀b o,X.QR.get? b=some o->s.heap.get? b=some o/\H b=none:=λb o e=>
 ⟨I.QR.keep b o (I.ok.bs b o e).1 (I.ok.bs b o e).2 (I.ok.nofr e) (I.ok.noex b o e),I.QR.free b o (I.ok.bs b o e).1 (I.ok.bs b o e).2 (I.ok.noex b o e)⟩
def aL.bk(I:aL X QQ σ H s):∀b o,X.QR.get? b=some o->s.heap.get? b=some o:=λb o e=>(I.bs b o e).1
theorem aL.mod(I:aL X QQ σ H s):Mod X.K X.mg X.QR:=I.ok.mod
def aL.kIn(I:aL X QQ σ H s):X.K.In s.heap:=I.ok.mod.kin.keeps I.bk
def aL.fr(I:aL X QQ σ H s):∃m,Fr X.QR X.env.locals s.heap m:=
 let ⟨m,hn,_⟩:=I.loc
 ⟨m,hn,I.bk,WU I.ok.bsz I.ok.above⟩
theorem aL.lt(I:aL X QQ σ H s):X.env.locals<s.heap.objs.size:=let ⟨_,hn,_⟩:=I.loc;hn.lt
def aL.sz(I:aL X QQ σ H s):X.s₀.heap.objs.size<=s.heap.objs.size:=WU I.ok.above (Xb I.lt)
def aL.nofs(I:aL X QQ σ H s){a:YC}(h:s.heap.objs.size<=a):a∉X.fs:=λhb=>by obtain⟨_,o,ho,_⟩:=I.ok.funs.mem hb;exact QZ (WV (Q9 ho) (WU I.sz h)) (WY _)
def aL.cne(I:aL X QQ σ H s):∀x c,X.env.cells.lookup x=some c->c≠X.env.locals:=λx c e z=>by obtain⟨v,o,ho,hd⟩:=I.cell x c e;obtain⟨m,⟨o',es,ep,ho',hd',_⟩,_⟩:=I.loc;rw[z,ho']at ho;cases ho;rw[hd']at hd;cases hd
theorem aL.funs(I:aL X QQ σ H s):s.heap.FunFrames X.QR X.QS:=by
 have all:∀(l:List U4),(∀b∈x6 l,b∈X.fs)->X.s₀.heap.FunFrames X.QR l->s.heap.FunFrames X.QR l:=by
  intro l
  induction l with
  |nil=>intro _ _;trivial
  |cons env r ih=>
   intro hs hl;obtain⟨hk,⟨L,o,hf,hn,ho,hd⟩,hr⟩:=hl;have hL:L∈X.fs:=hs L (by unfold x6;rw[VT,hf];exact Vf);obtain⟨sl,e⟩:=I.QR.slot L o ho (I.ok.frf L hL) hL λz=>I.ok.exfs L z hL;exact⟨hk,⟨L,_,hf,hn,e,hd⟩,ih (λb hb=>hs b (by unfold x6;rw[VT,hf];exact Vd _ hb)) hr⟩
 exact all X.QS (λ_ hb=>hb) I.ok.funs
theorem aL.stack(I:aL X QQ σ H s):s.heap.FunFrames X.QR X.stack:=by
 rcases I.ok.stk with e|⟨e,hf⟩
 .rw[e];exact I.funs
 .rw[e];obtain⟨m,hn,_⟩:=I.loc;refine .cons (by rw[I.ok.kind];decide) hf hn ?_ I.funs;exact Te (WU I.ok.bsz I.ok.above)
def aL.stkSub(I:aL X QQ σ H s):∀b∈x6 X.stack,b∈X.env.locals::X.fs:=λb hb=>by
 rcases I.ok.stk with e|⟨e,hf⟩
 .rw[e]at hb;exact Vd _ hb
 .rw[e]at hb;unfold x6 at hb;rw[VT,hf]at hb;exact hb
def aL.stkFree(I:aL X QQ σ H s):∀b∈x6 X.stack,H b=none:=λb hb=>by
 rcases U8.mp (I.stkSub b hb)with e|hb
 .rw[e];exact I.free
 .obtain⟨_,o,ho,_⟩:=I.ok.funs.mem hb;exact I.QR.free b o ho (I.ok.frf b hb) λz=>I.ok.exfs b z hb
def aL.step{g':Array T4}{t':Nat}{ch:List YC}(I:aL X QQ σ H s)(hch:∀b∈ch,(b∈X.ex\/X.s₀.heap.objs.size<=b)/\b≠X.env.locals/\(∀x c,X.env.cells.lookup x=some c->c≠b)/\∀p∈X.pn++QQ,p.1≠b)(keep:∀b o,b≠X.env.locals->b∉X.fs->b∉ch->s.heap.get? b=some o->H b=none->h'.get? b=some o)(slot:∀b o,b≠X.env.locals->b∈X.fs->b∉ch->s.heap.get? b=some o->H b=none->∃sl,h'.get? b=some {o with slots:=sl})(free:∀b o,b∉ch->s.heap.get? b=some o->H b=none->H' b=none)(there:∀b o,b∉ch->s.heap.get? b=some o->∃o',h'.get? b=some o')(tups:∀b xs,H b=some (.tup xs)->H' b=some (.tup xs))(frzs:∀b o u,H b=some (.frz o u)->H' b=some (.frz o u))(tbls:∀b ps,H b=some (.tbl ps)->∃more,H' b=some (.tbl (ps++more)))(ns:∀m,s.heap.Ns X.env.locals m->h'.Ns X.env.locals m)(hok:j2 X.prog X.w H' h')(hg:TM g'):aL X QQ σ H' {s with heap:=h',gens:=g',drawn:=d',toks:=t'}:=by
 have neL:∀b o,X.s₀.heap.get? b=some o->b≠X.env.locals:=λb o e=>WS (WV (Q9 e) I.ok.above);have neC:∀b o,X.s₀.heap.get? b=some o->b∉X.ex->b∉ch:=λb o e hx hb=>by
  rcases(hch b hb).1 with z|z
  .exact hx z
  .exact QZ (WV (Q9 e) z) (WY _)
 have cellK:∀x c,X.env.cells.lookup x=some c->∀v,s.heap.IsCell c v->h'.IsCell c v:=λx c e v ⟨o,ho,hd⟩=>by
  have nch:c∉ch:=λz=>(hch c z).2.2.1 x c e rfl
  by_cases hc:c∈X.fs
  .obtain⟨sl,q⟩:=slot c o (I.cne x c e) hc nch ho (I.freeC x c e);exact⟨_,q,hd⟩
  .exact⟨o,keep c o (I.cne x c e) hc nch ho (I.freeC x c e),hd⟩
 refine⟨I.ok,I.os,hg,⟨λb o e n hb hx=>?_,λb o e n hb hx=>?_,λb o e n hx=>?_,λb o e hx=>?_,λb xs e=>tups b xs (I.QR.tups b xs e),λb o xs e=>frzs b o xs (I.QR.frzs b o xs e),λb ps e=>?_⟩,?_,λx c e=>?_,?_,λx c e=>?_,λp hp=>?_,hok,I.len⟩
 .exact keep b o (neL b o e) hb (neC b o e hx) (I.QR.keep b o e n hb hx) (I.QR.free b o e n hx)
 .obtain⟨sl,e1⟩:=I.QR.slot b o e n hb hx;obtain⟨sl',e2⟩:=slot b _ (neL b o e) hb (neC b o e hx) e1 (I.QR.free b o e n hx);exact⟨sl',e2⟩
 .obtain⟨o',e1⟩:=I.QR.there b o e hx;exact free b o' (neC b o e hx) e1 (I.QR.free b o e n hx)
 .obtain⟨o',e1⟩:=I.QR.there b o e hx;exact there b o' (neC b o e hx) e1
 .obtain⟨m1,e1⟩:=I.QR.tbls b ps e;obtain⟨m2,e2⟩:=tbls b _ e1;exact⟨m1++m2,by rw[e2,Array.append_assoc]⟩
 .obtain⟨m,hn,hl⟩:=I.loc;refine⟨m,ns m hn,λi x v e1 e2 e3=>?_⟩;obtain⟨u,r,l⟩:=hl i x v e1 e2 e3;refine⟨u,r,?_⟩
  rcases l with l|⟨k,c,e,z⟩
  .exact .inl l
  .exact .inr ⟨k,c,e,cellK x c e _ z⟩
 .obtain⟨v,z⟩:=I.cell x c e;exact⟨v,cellK x c e v z⟩
 .obtain⟨m,⟨o,_,_,ho,_⟩,_⟩:=I.loc;exact free _ o (λz=>(hch _ z).2.1 rfl) ho I.free
 .obtain⟨v,o,ho,hd⟩:=I.cell x c e;exact free c o (λz=>(hch c z).2.2.1 x c e rfl) ho (I.freeC x c e)
 .obtain⟨e,n,ne,nf,d⟩:=I.pin p hp;have nch:p.1∉ch:=λz=>(hch p.1 z).2.2.2 p hp rfl;exact⟨keep p.1 p.2 ne nf nch e n,free p.1 p.2 nch e n,ne,nf,d⟩
def aL.un(I:aL X QQ σ H s)(u:Un X.fs [] H H' s.heap h')(hok:j2 X.prog X.w H' h'):aL X QQ σ H' {s with heap:=h',toks:=t'}:=by
 obtain⟨m,⟨o,es,ep,ho,r⟩,_⟩:=id I.loc;obtain⟨sl,hL⟩:=u.any ho I.free (by simp);exact I.step (g':=s.gens) (d':=s.drawn) (ch:=[]) (λ_ z=>nomatch z) (λb o _ hb _ e n=>u.keep b o e n hb (by simp)) (λb o _ hb _ e n=>u.slot b o e n hb (by simp)) (λb o _ e n=>u.free b o e n (by simp)) (λb o _ e=>u.there b o e (by simp)) u.tups u.frzs u.tbls (λm' hm=>by
  obtain⟨o',es',ep',ho',r'⟩:=hm;rw[ho]at ho';cases ho';exact⟨_,es',ep',hL,r'⟩) hok I.bare
def aL.call(I:aL X QQ σ H s)(u:Un (x6 X.stack) ch H H' s.heap h')(hok:j2 X.prog X.w H' h')(hg:TM g')(hch:∀b∈ch,(b∈X.ex\/X.s₀.heap.objs.size<=b)/\b≠X.env.locals/\(∀x c,X.env.cells.lookup x=some c->c≠b)/\∀p∈X.pn++QQ,p.1≠b):aL X QQ σ H' {s with heap:=h',gens:=g',drawn:=d',toks:=t'}:=by
 obtain⟨m,⟨o,es,ep,ho,r⟩,_⟩:=id I.loc;obtain⟨sl,hL⟩:=u.any ho I.free λz=>(hch _ z).2.1 rfl;exact I.step (ch:=ch) hch (λb o hL hb hc e n=>u.keep b o e n (λz=>(U8.mp (I.stkSub b z)).elim hL hb) hc) (λb o _ _ hc e n=>u.any e n hc) (λb o hc e n=>u.free b o e n hc) (λb o hc e=>u.there b o e hc) u.tups u.frzs u.tbls (λm' hm=>by
  obtain⟨o',es',ep',ho',r'⟩:=hm;rw[ho]at ho';cases ho';exact⟨_,es',ep',hL,r'⟩) hok hg
def aL.turned(I:aL X QQ σ H s)(k:∀b o,b≠it->s.heap.get? b=some o->h'.get? b=some o)(hn:H it=none)(hL:it≠X.env.locals)(h1:it∈X.ex\/X.s₀.heap.objs.size<=it)(h2:∀x c,X.env.cells.lookup x=some c->c≠it)(h3:∀p∈X.pn++QQ,p.1≠it):aL X QQ σ H {s with heap:=h',toks:=t'}:=by
 have nit:∀b u,H b=some u->b≠it:=λb u e z=>by rw[z,hn]at e;cases e
 refine I.step (g':=s.gens) (d':=s.drawn) (ch:=[it]) (λb hb=>?_) (λb o _ _ hc e _=>k b o (λz=>hc (by simp[z])) e) (λb o _ _ hc e _=>⟨o.slots,k b o (λz=>hc (by simp[z])) e⟩) (λ_ _ _ _ n=>n)
  (λb o hc e=>⟨o,k b o (λz=>hc (by simp[z])) e⟩) (λ_ _ e=>e) (λ_ _ _ e=>e) (λb ps e=>⟨#[],by rw[e];simp⟩) (λm hm=>?_) (λb u e=>?_) I.bare
 .have e:b=it:=by simpa using hb
  subst e;exact⟨h1,hL,h2,h3⟩
 .obtain⟨o,es,ep,ho,r⟩:=hm;exact⟨o,es,ep,k _ o (Ne.symm hL) ho,r⟩
 .refine(I.hok b u e).stay (λc v hc q=>k c v ?_ q) (λ_ q=>q) λ_ _ q=>q
  rcases hc with z|z
  .rw[z];exact nit b u e
  .exact nit c _ z
def aL.tok(I:aL X QQ σ H s)(t:Nat):aL X QQ σ H {s with toks:=t}:=I.un (h':=s.heap) (t':=t) Un.refl I.hok
theorem aL.kept(I:aL X QQ σ H s)(k:∀b u,s.heap.get? b=some u->h'.get? b=some u):aL X QQ σ H {s with heap:=h',toks:=t'}:=I.un (Un.kept k) (I.hok.kept k)
theorem aL.laid{a:YC}{o:HO}{t':Nat}(I:aL X QQ σ H s)(k:∀b u,s.heap.get? b=some u->h'.get? b=some u)(hp:s.heap.objs.size<=a)(new:bC X.prog X.w (upd H a o) h' a o):aL X QQ σ (upd H a o) {s with heap:=h',toks:=t'}:=I.un (Un.laid k hp (I.hok.fresh hp)) (I.hok.laid k hp new)
theorem aL.write(I:aL X QQ σ H s)(mu:O5 (H x))(he:e=x\/H e=some (.own x))(k:∀b u,b≠e->s.heap.get? b=some u->h'.get? b=some u)(heo:∃u,h'.get? e=some u)(new:bC X.prog X.w (upd H x o) h' x o):aL X QQ σ (upd H x o) {s with heap:=h',toks:=t'}:=I.un (Un.write mu he k heo) (I.hok.write mu he k heo new)
def aL.pins_of(I:aL X QQ σ H s)(h:∀p∈pins',s.heap.get? p.1=some p.2/\H p.1=none/\p.1≠X.env.locals/\p.1∉X.fs/\∀v,p.2.data≠.cell v):aL X pins' σ H s:=
 ⟨I.ok,I.os,I.bare,I.QR,I.loc,I.cell,I.free,I.freeC,λp hp=>(Vk.mp hp).elim (λz=>I.pin p (VA _ z)) (h p),I.hok,I.len⟩
def uf{N:List Str}(hN:N.Nodup){i j:Nat}{x:Str}(a:N[i]? =some x)(b:N[j]? =some x):i=j:=by obtain⟨h1,e1⟩:=Vi.mp a;obtain⟨h2,e2⟩:=Vi.mp b;exact(List.getElem_inj hN).mp (e1.trans e2.symm)
def pj(I:aL X QQ σ H s)(hN:X.N.Nodup)(hi:X.N[i]? =some x)(hx:JB X.env.scope x)(r:aU v u)(h:∀s',aL X QQ (σ.set i (some v)) H s'->(∃a,RQ a s.heap s'.heap/\(a=X.env.locals\/X.env.cells.lookup x=some a))->Q () s')(hf:X.fn x=true\/X.env.scope.names.lookup x=some .local:=by first|exact .inl rfl|exact .inr rfl|assumption):Ra M A (storeName X.env x u) Q E s:=by
 obtain⟨m,hn,hl⟩:=id I.loc;have hcls:(X.env.scope.kind == .class||(X.env.scope.kind == .module&&X.env.locals != X.env.globals))=false:=by rw[I.ok.kind];rfl
 have hiσ:i<σ.length:=by rw[I.len];exact(Vi.mp hi).1
 have cne:=I.cne;have tracked:∀{a:YC}{h':Rq},(∃o,s.heap.get? a=some o/\H a=none)->RQ a s.heap h'->j2 X.prog X.w H h':=λ{a h'} ha hs b ob e=>by
  obtain⟨_,_,hfree⟩:=ha;refine(I.hok b ob e).stay (λc w' hc q=>(hs.2 c ?_).trans q) (λ_ q=>q) λ_ _ q=>q;rintro rfl
  rcases hc with rfl|hc
  .rw[hfree]at e;cases e
  .rw[hfree]at hc;cases hc
 rcases hx with hk|hk
 .refine wpAny_storeName_local hk hn (λh' hn' hs=>?_) hcls;obtain⟨oL,_,_,hoL,_⟩:=id hn;refine h _ ⟨I.ok,I.os,I.bare,⟨λb o e n hb hx=>?_,λb o e n hb hx=>?_,I.QR.free,λb o e hx=>?_,I.QR.tups,I.QR.frzs,I.QR.tbls⟩,⟨_,hn',λj y v' e1 e2 e3=>?_⟩,λy c e=>?_,I.free,I.freeC,λp hp=>?_,tracked ⟨oL,hoL,I.free⟩ hs,by simpa using I.len⟩ ⟨_,hs,.inl rfl⟩
  .exact(hs.2 b (WS (WV (Q9 e) I.ok.above))).trans (I.QR.keep b o e n hb hx)
  .obtain⟨sl,e1⟩:=I.QR.slot b o e n hb hx;exact⟨sl,(hs.2 b (WS (WV (Q9 e) I.ok.above))).trans e1⟩
  .obtain⟨o',e1⟩:=I.QR.there b o e hx;exact⟨o',(hs.2 b (WS (WV (Q9 e) I.ok.above))).trans e1⟩
  .by_cases hj:j=i
   .subst hj;rw[hi]at e1;cases e1;rw[Wx hiσ]at e2;cases e2;exact⟨u,r,.inl ⟨hk,by simp⟩⟩
   .rw[Wy (Ne.symm hj)]at e2;obtain⟨u',r',q⟩:=hl j y v' e1 e2 e3;refine⟨u',r',?_⟩
    rcases q with⟨k,e⟩|⟨k,c,e,z⟩
    .refine .inl ⟨k,?_⟩;have:y≠x:=λe=>hj (uf hN e1 (e▸hi));simp[this,e]
    .exact .inr ⟨k,c,e,z.sameBut hs (cne y c e)⟩
  .obtain⟨w',z⟩:=I.cell y c e;exact⟨w',z.sameBut hs (cne y c e)⟩
  .obtain⟨e,n,ne,nf,d⟩:=I.pin p hp;exact⟨(hs.2 p.1 ne).trans e,n,ne,nf,d⟩
 .have hfn:X.fn x=true:=by
   rcases hf with z|z
   .exact z
   .rw[z]at hk;cases hk
  obtain⟨c,hc⟩:=I.ok.has x (.inl hk);obtain⟨w',z⟩:=I.cell x c hc;refine wpAny_storeName_cell I.ok.kind hk hc z (λh' hc' hs=>?_);obtain⟨oc,hoc,hocd⟩:=id z;refine h {s with heap:=h'} ⟨I.ok,I.os,I.bare,⟨λb o e n hb hx=>?_,λb o e n hb hx=>?_,I.QR.free,λb o e hx=>?_,I.QR.tups,I.QR.frzs,I.QR.tbls⟩,⟨m,hn.sameBut hs (Ne.symm (cne x c hc)),λj y v' e1 e2 e3=>?_⟩,λy c' e=>?_,I.free,I.freeC,λp hp=>?_,tracked ⟨oc,hoc,I.freeC x c hc⟩ hs,by simpa using I.len⟩ ⟨c,hs,.inr hc⟩
  .exact(hs.2 b (WS (WV (Q9 e) (I.ok.cab x c hfn hc)))).trans (I.QR.keep b o e n hb hx)
  .obtain⟨sl,e1⟩:=I.QR.slot b o e n hb hx;exact⟨sl,(hs.2 b (WS (WV (Q9 e) (I.ok.cab x c hfn hc)))).trans e1⟩
  .obtain⟨o',e1⟩:=I.QR.there b o e hx;exact⟨o',(hs.2 b (WS (WV (Q9 e) (I.ok.cab x c hfn hc)))).trans e1⟩
  .by_cases hj:j=i
   .subst hj;rw[hi]at e1;cases e1;rw[Wx hiσ]at e2;cases e2;exact⟨u,r,.inr ⟨.inl hk,c,hc,hc'⟩⟩
   .rw[Wy (Ne.symm hj)]at e2;obtain⟨u',r',q⟩:=hl j y v' e1 e2 e3;refine⟨u',r',?_⟩
    rcases q with q|⟨k,c',e,z'⟩
    .exact .inl q
    .refine .inr ⟨k,c',e,z'.sameBut hs ?_⟩;rintro rfl;exact hj (uf hN e1 (I.ok.inj _ _ _ e hc▸hi))
  .by_cases hcc:c'=c
   .subst hcc;exact⟨_,hc'⟩
   .obtain⟨w2,z2⟩:=I.cell y c' e;exact⟨w2,z2.sameBut hs hcc⟩
  .obtain⟨e,n,ne,nf,d⟩:=I.pin p hp;refine⟨(hs.2 p.1 ?_).trans e,n,ne,nf,d⟩;intro q;rw[q,hoc]at e;have q':oc=p.2:=Q0 e;exact d w' (by rw[<-q'];exact hocd)
def tm(I:aL X QQ σ H s)(hN:X.N.Nodup)(hi:X.N[i]? =some x)(hx:JB X.env.scope x)(r:aU v u)(h:∀s',aL X QQ (σ.set i (some v)) H s'->Q () s')(hf:X.fn x=true\/X.env.scope.names.lookup x=some .local:=by first|exact .inl rfl|exact .inr rfl|assumption):Ra M A (storeName X.env x u) Q E s:=
 pj I hN hi hx r (λs' I' _=>h s' I') hf
def aL.call'(I:aL X QQ σ H s)(ho:s'.os=s.os)(u:Un (x6 X.stack) ch H H' s.heap s'.heap)(hok:j2 X.prog X.w H' s'.heap)(hg:TM s'.gens)(hch:∀b∈ch,(b∈X.ex\/X.s₀.heap.objs.size<=b)/\b≠X.env.locals/\(∀x c,X.env.cells.lookup x=some c->c≠b)/\∀p∈X.pn++QQ,p.1≠b):aL X QQ σ H' s':=by obtain⟨h',g',d',t',o'⟩:=s';have e:o'=s.os:=ho;subst e;exact I.call (g':=g') (t':=t') (d':=d') u hok hg hch
end
abbrev XK:=YB->Option YC->Hp->Prop
abbrev St:=List (Option V)
noncomputable abbrev oR(a:YC):Option V:=some (.ref a)
noncomputable abbrev oJ(a:Int):Option V:=some (.int a)
noncomputable abbrev oT(a:Str):Option V:=some (.str a)
abbrev VK:=V->Hp->Prop
abbrev TE:=St->Hp->VK->Prop
abbrev TT:=St->Hp->(Bool->Hp->Prop)->Prop
abbrev TA:=St->Hp->(List V->Hp->Prop)->Prop
structure o8 where
 nx:St->Hp->Prop
 rt:VK
 bk:St->Hp->Prop:=λ_ _=>False
 ct:St->Hp->Prop:=λ_ _=>False
abbrev TS:=o8->St->Hp->Prop
def EP(X:Cx)(QQ:Q5)(σ:St)(Q:VK)(u:YB)(s':Rb):Prop:= ∃v H',aL X QQ σ H' s'/\aU v u/\Q v H'
def TP(X:Cx)(QQ:Q5)(σ:St)(Q:Bool->Hp->Prop)(b:Bool)(s':Rb):Prop:= ∃H',aL X QQ σ H' s'/\Q b H'
def AP(X:Cx)(QQ:Q5)(σ:St)(Q:List V->Hp->Prop)(us:List YB)(s':Rb):Prop:= ∃vs H',aL X QQ σ H' s'/\a9 vs us/\Q vs H'
def SP(X:Cx)(QQ:Q5)(D:o8)(f:Flow)(s':Rb):Prop:=
 match f with
 | .next=>∃σ' H',aL X QQ σ' H' s'/\D.nx σ' H'
 | .brk=>∃σ' H',aL X QQ σ' H' s'/\D.bk σ' H'
 | .cont=>∃σ' H',aL X QQ σ' H' s'/\D.ct σ' H'
 | .ret u=>∃v σ' H',aL X QQ σ' H' s'/\aU v u/\D.rt v H'
def PE(X:Cx)(e:RU)(t:TE):Prop:=
 ∀(QQ:Q5)(s:Rb)(σ:St)(H:Hp)(Q:VK),aL X QQ σ H s->t σ H Q->Ra (Rh X.prog X.w) X.A (RH e X.env) (EP X QQ σ Q) X.xe s
def PT(X:Cx)(e:RU)(t:TT):Prop:=
 ∀(QQ:Q5)(s:Rb)(σ:St)(H:Hp)(Q:Bool->Hp->Prop),aL X QQ σ H s->t σ H Q->Ra (Rh X.prog X.w) X.A (UU e X.env (RH e X.env)) (TP X QQ σ Q) X.xe s
def PW(X:Cx)(e:RU)(t:TT):Prop:=
 ∀(whole:Sem YB)(QQ:Q5)(s:Rb)(σ:St)(H:Hp)(Q:Bool->Hp->Prop),aL X QQ σ H s->t σ H Q->Ra (Rh X.prog X.w) X.A (UU e X.env whole) (TP X QQ σ Q) X.xe s
def PW.pt(h:PW X e t):PT X e t:=h _
def PA(X:Cx)(es:List RU)(t:TA):Prop:=
 ∀(pos:Uk)(QQ:Q5)(s:Rb)(σ:St)(H:Hp)(Q:List V->Hp->Prop),aL X QQ σ H s->t σ H Q->Ra (Rh X.prog X.w) X.A (spliced (RE pos (Rc es X.env))) (AP X QQ σ Q) X.xe s
def PS(X:Cx)(st:Rt)(t:TS):Prop:=
 ∀(QQ:Q5)(s:Rb)(σ:St)(H:Hp)(D:o8),aL X QQ σ H s->t D σ H->Ra (Rh X.prog X.w) X.A (exec st X.env) (SP X QQ D) X.xe s
def w9(X:Cx)(st:List Rt)(t:TS):Prop:=
 ∀(QQ:Q5)(s:Rb)(σ:St)(H:Hp)(D:o8),aL X QQ σ H s->t D σ H->Ra (Rh X.prog X.w) X.A (execs st X.env) (SP X QQ D) X.xe s
def bH{α:Type}{t:Sem α}{Q Q':α->Rb->Prop}{M:Model}{A:Sd}{E:Q4}{s:Rb}(h:Ra M A t Q E s)(hQ:∀a s,Q a s->Q' a s):Ra M A t Q' E s:=RT h hQ λ_ _ x=>x
section
variable{X:Cx}
def Qa(i:Nat):TE:=λσ H Q=>∃v,σ[i]? =some (some v)/\Q v H
def tC(v:V):TE:=λ_ H Q=>Q v H
def Ke{i:Nat}{x:Str}{pos:Uk}(hN:X.N[i]? =some x)(hv:Pm X.env.scope x)(hd:(x == ("__debug__":Str))=false:=by decide)(hcd:(x == ("__classdict__":Str))=false:=by decide):PE X (.Name x pos) (Qa i):=by
 intro QQ s σ H Q I h;obtain⟨v,e,h⟩:=h;obtain⟨m,hn,hl⟩:=I.loc;obtain⟨u,r,l⟩:=hl i x v hN e hv;have fin:EP X QQ σ Q u s:=⟨v,H,I,r,h⟩
 rcases l with⟨hk,hm⟩|⟨hk,c,hc,hcell⟩
 .exact wpAny_Name (wpAny_loadName_local I.ok.kind hk hn hm fin) hd
 .rcases hk with hk|hk
  .exact wpAny_Name (wpAny_loadName_cell I.ok.kind hk hc hcell fin) hd
  .exact wpAny_Name (wpAny_loadName_free I.ok.kind hk hc hcell fin hcd) hd
def ag{i j pos}:PE X (.Constant (.int i) j pos) (tC (.int i)):=λ_ _ _ H _ I h=>wpAny_Constant_int ⟨.int i,H,I.tok _,⟨_,rfl⟩,h⟩
def eO{b j pos}:PE X (.Constant (.bool b) j pos) (tC (.bl b)):=λ_ _ _ H _ I h=>Constant_bool ⟨.bl b,H,I,rfl,h⟩
def cm{j pos}:PE X (.Constant .none j pos) (tC .non):=λ_ _ _ H _ I h=>Constant_none ⟨.non,H,I,rfl,h⟩
def bR{x j pos}:PE X (.Constant (.str x) j pos) (tC (.str x)):=λ_ _ _ H _ I h=>Calls.Constant_str ⟨.str x,H,I.tok _,⟨_,rfl⟩,h⟩
def Gl(X:Cx)(x:Str):Prop:=X.env.kindOf x=some .globalImplicit
def rN{E:Q4}{QQ:Q5}{s:Rb}{σ:St}{H:Hp}{x:Str}{u:YB}{pos:Uk}{Q:Q4}(I:aL X QQ σ H s)(hg:Gl X x)(hm:X.mg x=some u)(h:Q u s)(hd:(x == ("__debug__":Str))=false:=by decide):Ra (Rh X.prog X.w) X.A (RH (.Name x pos) X.env) Q E s:=
 TC I.ok.kind hg (Calls.loadGlobal_global (by rw[I.ok.glob];exact I.mod.glob.keeps I.bk) hm h) hd
def j0{E:Q4}{QQ:Q5}{s:Rb}{σ:St}{H:Hp}{x:Str}{u:YB}{pos:Uk}{Q:Q4}(I:aL X QQ σ H s)(hg:Gl X x)(hm:X.mg x=none)(hv:Rp x=some u)(h:Q u s)(hn:x≠"__name__":=by decide)(hd:(x == ("__debug__":Str))=false:=by decide):Ra (Rh X.prog X.w) X.A (RH (.Name x pos) X.env) Q E s:=by obtain⟨mb,h1,h2⟩:=I.mod.blt;exact TC I.ok.kind hg (Calls.loadGlobal_builtin (by rw[I.ok.glob];exact I.mod.glob.keeps I.bk) hm (by rw[I.ok.blt];exact h1.keeps I.bk) ((h2 x hn).trans hv) h) hd
def DC(hg:Gl X x)(hm:X.mg x=some u)(r:aU v u)(hd:(x == ("__debug__":Str))=false:=by decide):PE X (.Name x pos) (tC v):=
 λ_ _ _ H _ I h=>rN I hg hm ⟨v,H,I,r,h⟩ hd
def DG{x:Str}{v:V}{u:YB}{pos:Uk}(hg:Gl X x)(hm:X.mg x=none)(hv:Rp x=some u)(r:aU v u)(hn:x≠"__name__":=by decide)(hd:(x == ("__debug__":Str))=false:=by decide):PE X (.Name x pos) (tC v):=
 λ_ _ _ H _ I h=>j0 I hg hm hv ⟨v,H,I,r,h⟩ hn hd
variable{a b:RU}{pos:Uk}
def PC(X:Cx)(op:UC)(a b:RU)(t:TE):Prop:=
 ∀(QQ:Q5)(s:Rb)(σ:St)(H:Hp)(Q:VK),aL X QQ σ H s->t σ H Q->
  Ra (Rh X.prog X.w) X.A (RH a X.env) (λv s₁=>Ra (Rh X.prog X.w) X.A (RH b X.env) (λu s₂=>Ra (Rh X.prog X.w) X.A (RD op v u) (EP X QQ σ Q) X.xe s₂) X.xe s₁) X.xe s
def tB(t:TE):TT:=λσ H Q=>t σ H λx H1=>∃c,x=.bl c/\Q c H1
def J9(h:PC X op a b t)(h1:behindInMarks op b=false:=by first|exact nobehind _ (by decide) (by decide)|rfl):PT X (.Compare a [op] [b] pos) (tB t):=by intro QQ s σ H Q I hw;refine S7 (bH (h QQ s σ H _ I hw) λv s1 h1=>bH h1 λu s2 h2=>bH h2 λc s3 ⟨x,H1,I1,r1,q1⟩=>?_) h1;obtain⟨d,rfl,q⟩:=q1;cases r1;exact Rv ⟨H1,I1,q⟩
variable{tA tB':TT}{rest:List RU}
def JV(t u:TT):TT:=λσ H Q=>t σ H λc H1=>if c=true then u σ H1 Q else Q false H1
def Lz(t u:TT):TT:=λσ H Q=>t σ H λc H1=>if c=true then Q true H1 else u σ H1 Q
def yI(t:TT):TT:=λσ H Q=>t σ H λc H1=>Q (!c) H1
def eK(ha:PT X a tA):PW X (.BoolOp .And [a] pos) tA:=by
 intro wh QQ s σ H Q I h;refine isTrue_and (bH (ha QQ s σ H Q I h) λc s1 e=>?_);cases c with
 |true=>exact isTrue_and_nil e
 |false=>exact e
def fo(ha:PT X a tA):PW X (.BoolOp .Or [a] pos) tA:=by
 intro wh QQ s σ H Q I h;refine isTrue_or (bH (ha QQ s σ H Q I h) λc s1 e=>?_);cases c with
 |false=>exact isTrue_or_nil e
 |true=>exact e
def gI(ha:PT X a tA)(hb:PW X (.BoolOp .And (b::rest) pos) tB'):PW X (.BoolOp .And (a::b::rest) pos) (JV tA tB'):=by
 intro wh QQ s σ H Q I h;refine isTrue_and (bH (ha QQ s σ H _ I h) λc s1 ⟨H1,I1,q1⟩=>?_);cases c with
 |true=>exact hb wh QQ s1 σ H1 Q I1 q1
 |false=>exact⟨H1,I1,q1⟩
def gH(ha:PT X a tA)(hb:PW X (.BoolOp .Or (b::rest) pos) tB'):PW X (.BoolOp .Or (a::b::rest) pos) (Lz tA tB'):=by
 intro wh QQ s σ H Q I h;refine isTrue_or (bH (ha QQ s σ H _ I h) λc s1 ⟨H1,I1,q1⟩=>?_);cases c with
 |true=>exact⟨H1,I1,q1⟩
 |false=>exact hb wh QQ s1 σ H1 Q I1 q1
def bA(ha:PT X a tA):PT X (.UnaryOp .Not a pos) (yI tA):=by intro QQ s σ H Q I h;exact isTrue_not (ha QQ s σ H (λc H1=>Q (!c) H1) I h)
def dh{op}(h:PE X a t):PE X (.BoolOp op [a] pos) t:=λQQ s σ H Q I hw=>BoolOp_one (h QQ s σ H Q I hw)
def NK(t:TT)(ta tb:TE):TE:=λσ H Q=>t σ H λc H1=>if c=true then ta σ H1 Q else tb σ H1 Q
def bP(hc:PT X c tA)(ha:PE X a ta)(hb:PE X b tb):PE X (.IfExp c a b pos) (NK tA ta tb):=by
 intro QQ s σ H Q I h;refine wpAny_IfExp (bH (hc QQ s σ H _ I h) λd s1 ⟨H1,I1,q1⟩=>?_);cases d with
 |true=>exact ha QQ s1 σ H1 Q I1 q1
 |false=>exact hb QQ s1 σ H1 Q I1 q1
end
noncomputable def QA:YB->Option V
 | .none=>some .non
 | .bool b=>some (.bl b)
 | .int i _=>some (.int i)
 | .str x _=>some (.str x)
 | .bytes b _=>some (.byt b)
 | .float b _=>some (.flt b)
 | .ref a=>some (.ref a)
 | .type n=>some (.ty n)
 |_=>none
def sN:V->YB->Prop
 | .tok _ _,_=>False
 |x,u=>aU x u
def sN.v(r:sN x u):aU x u:=by cases x<;>first|exact r|exact r.elim
abbrev iP:List V->List YB->Prop:=UW sN
theorem iP.v:∀{xs:List V}{us:List YB},iP xs us->a9 xs us
 |_,_,.nil=>.nil
 |_,_,.cons r t=>.cons r.v (iP.v t)
def sN.abs(r:sN x u):QA u=some x:=by
 cases x with
 |non=>cases r;rfl
 |bl _=>cases r;rfl
 |int _=>obtain⟨t,rfl⟩:=r;rfl
 |str _=>obtain⟨t,rfl⟩:=r;rfl
 |byt _=>obtain⟨t,rfl⟩:=r;rfl
 |flt _=>obtain⟨t,rfl⟩:=r;rfl
 |ref _=>cases r;rfl
 |ty _=>cases r;rfl
 |tok _ _=>exact r.elim
def sN.inj(r:sN x u)(q:sN y u):x=y:=Q0 (r.abs.symm.trans q.abs)
def aN(K:Frag)(H:Hp)(a:YC)(xs:List V):Prop:=
 Rd H a (.lst xs)\/
  ∃o its n,K.lookup a=some o/\o.cls=.type "list"/\o.dict=none/\o.data=.seq its n/\its.size<=v1/\iP xs its.toList
def cY(K:Frag)(H:Hp)(a:YC)(xs:List V):Prop:=
 Rd H a (.tup xs)\/
  ∃o its n,K.lookup a=some o/\o.cls=.type "tuple"/\o.data=.seq its n/\its.size<=v1/\iP xs its.toList
theorem iP.ints:∀{ns:List Int}{us:List YB},a9 (ns.map V.int) us->iP (ns.map V.int) us
 | [],_,.nil=>.nil
 |_::_,_,.cons r t=>.cons r (iP.ints t)
theorem iP.inj:∀{xs ys:List V}{us:List YB},iP xs us->iP ys us->xs=ys
 |_,_,_,.nil,.nil=>rfl
 |_,_,_,.cons r t,.cons r' t'=>by rw[sN.inj r r',iP.inj t t']
section
variable{X:Cx}{QQ:Q5}{σ:St}{H:Hp}{s:Rb}{a:YC}{xs ys:List V}
def aN.of{K:Frag}(h:H a=some (.lst xs)):aN K H a xs:=.inl (.inl h)
def cY.of{K:Frag}(h:H a=some (.tup xs)):cY K H a xs:=.inl (.inl h)
def aL.list(I:aL X QQ σ H s)(h:aN X.K H a xs):∃its:List YB,a9 xs its/\PlainL s.heap a its.toArray/\xs.length<=v1:=by
 rcases h with h|⟨o,its,n,hk,hc,hd,hs,hz,r⟩
 .obtain⟨z,its,n,r,e⟩:=h.ok I.hok;exact⟨its,r,⟨_,n,e,rfl,rfl,rfl⟩,z⟩
 .refine⟨its.toList,r.v,⟨o,n,I.kIn a o hk,hc,hd,by simpa using hs⟩,?_⟩;have e:=r.v.length;simp only[XO]at e;lia
def aL.tuple(I:aL X QQ σ H s)(h:cY X.K H a xs):∃its:List YB,a9 xs its/\IsTup s.heap a its.toArray/\xs.length<=v1:=by
 rcases h with h|⟨o,its,n,hk,hc,hs,hz,r⟩
 .obtain⟨z,its,r,p⟩:=h.ok I.hok;exact⟨its,r,p,z⟩
 .refine⟨its.toList,r.v,⟨o,I.kIn a o hk,hc,n,by simpa using hs⟩,?_⟩;have e:=r.v.length;simp only[XO]at e;lia
def aL.list_inj(I:aL X QQ σ H s)(h:aN X.K H a xs)(h':aN X.K H a ys):xs=ys:=by
 have kn:∀o,X.K.lookup a=some o->∀u,¬Rd H a u:=λo hk u r=>by
  have hn:=(I.bs a o (I.ok.mod.kin a o hk)).2
  rcases r with r|⟨_,r⟩<;>(rw[hn]at r;cases r)
 rcases h with h|⟨o,its,n,hk,hc,hd,hs,hz,r⟩
 .rcases h' with h'|⟨o',its',n',hk',hc',hd',hs',hz',r'⟩
  .rcases h with h|⟨_,h⟩<;>rcases h' with h'|⟨_,h'⟩<;>(rw[h]at h';cases h';try rfl)
  .exact(kn _ hk' _ h).elim
 .rcases h' with h'|⟨o',its',n',hk',hc',hd',hs',hz',r'⟩
  .exact(kn _ hk _ h').elim
  .rw[hk]at hk';cases hk';rw[hs]at hs';injection hs' with d1 _;subst d1;exact iP.inj r r'
end
noncomputable abbrev Cx.wish(X:Cx)(E:Q4):Cx:={X with xe:=E}
noncomputable abbrev Cx.nox(X:Cx):Cx:=X.wish λ_ _=>False
theorem Cx.Ok.wish{X:Cx}(ok:X.Ok)(E:Q4):(X.wish E).Ok:=
 ⟨ok.mod,ok.kind,ok.glob,ok.blt,ok.above,ok.inj,ok.has,ok.cab,ok.hd,ok.frames,ok.stk,ok.exf,ok.bs,ok.bsz,ok.noex,ok.exfs,ok.funs,ok.frf⟩
def Cx.Ok.unwish{X:Cx}{E:Q4}(ok:(X.wish E).Ok):X.Ok:=
 ⟨ok.mod,ok.kind,ok.glob,ok.blt,ok.above,ok.inj,ok.has,ok.cab,ok.hd,ok.frames,ok.stk,ok.exf,ok.bs,ok.bsz,ok.noex,ok.exfs,ok.funs,ok.frf⟩
section
variable{X:Cx}{QQ:Q5}{σ:St}{H:Hp}{s:Rb}{E:Q4}
theorem aL.wish(I:aL X QQ σ H s)(E:Q4):aL (X.wish E) QQ σ H s:=⟨I.ok.wish E,I.os,I.bare,I.QR,I.loc,I.cell,I.free,I.freeC,I.pin,I.hok,I.len⟩
theorem aL.unwish(I:aL (X.wish E) QQ σ H s):aL X QQ σ H s:=⟨I.ok.unwish,I.os,I.bare,I.QR,I.loc,I.cell,I.free,I.freeC,I.pin,I.hok,I.len⟩
theorem SP.unwish(h:SP (X.wish E) QQ D f s'):SP X QQ D f s':=by
 cases f with
 |next=>obtain⟨σ',H',I,q⟩:=h;exact⟨σ',H',I.unwish,q⟩
 |brk=>obtain⟨σ',H',I,q⟩:=h;exact⟨σ',H',I.unwish,q⟩
 |cont=>obtain⟨σ',H',I,q⟩:=h;exact⟨σ',H',I.unwish,q⟩
 |ret u=>obtain⟨v,σ',H',I,r,q⟩:=h;exact⟨v,σ',H',I.unwish,r,q⟩
theorem w9.nox{st:List Rt}(h:w9 X.nox st t):w9 X st t:=λQQ s σ H D I hw=>
 RT (h QQ s σ H D (I.wish _) hw) (λ_ _ q=>q.unwish) λ_ _ z=>False.elim z
end
section
variable{X:Cx}{st:Rt}{rest:List Rt}{t u:TS}
def tj:TS:=λD σ H=>D.nx σ H
def bg(t u:TS):TS:=λD σ H=>t {D with nx:=u D} σ H
def aG:w9 X [] tj:=λ_ _ σ H _ I h=>Tg ⟨σ,H,I,h⟩
def ae(h1:PS X st t)(h2:w9 X rest u):w9 X (st::rest) (bg t u):=by
 intro QQ s σ H D I h;refine wpAny_execs_cons (bH (h1 QQ s σ H {D with nx:=u D} I h) λf s1 q=>?_);cases f with
 |next=>
  obtain⟨σ',H',I',q⟩:=q;exact h2 QQ s1 σ' H' D I' q
 |ret v=>exact q
 |brk=>exact q
 |cont=>exact q
def aj(h1:PS X st t):w9 X [st] t:=by
 intro QQ s σ H D I h;refine wpAny_execs_cons (bH (h1 QQ s σ H D I h) λf s1 q=>?_);cases f with
 |next=>exact Tg q
 |ret v=>exact q
 |brk=>exact q
 |cont=>exact q
def JU:TS:=λD σ H=>D.bk σ H
def Bc:PS X (.Break pos) JU:=λ_ _ σ H _ I h=>wpAny_Break ⟨σ,H,I,h⟩
def aL.quiet{QQ:Q5}{σ:St}{H:Hp}{s:Rb}(I:aL X QQ σ H s):interactive X.env=false:=by simp[interactive,I.ok.kind]
def iY(te:TE):TS:=λD σ H=>te σ H λ_ H1=>D.nx σ H1
def bK(he:PE X e te)(hs:S9 e none pos.line X.env=pure false:=by rfl):PS X (.Expr e pos) (iY te):=by intro QQ s σ H D I h;exact wpAny_Expr_any (bH (he QQ s σ H _ I h) λv s1 ⟨x,H1,I1,r1,q1⟩=>⟨σ,H1,I1,q1⟩) I.quiet hs
def cJ(te:TE):TS:=λD σ H=>te σ H D.rt
def aB(he:PE X e te):PS X (.Return (some e) pos) (cJ te):=by intro QQ s σ H D I h;exact wpAny_Return_some (bH (he QQ s σ H _ I h) λv s1 ⟨x,H1,I1,r1,q1⟩=>⟨x,σ,H1,I1,r1,q1⟩)
def l7(c:TT)(t u:TS):TS:=λD σ H=>c σ H λb H1=>if b=true then t D σ H1 else u D σ H1
def aR(hc:PT X c tc)(ha:w9 X a t)(hb:w9 X b u):PS X (.If c a b pos) (l7 tc t u):=by
 intro QQ s σ H D I h;refine wpAny_If (bH (hc QQ s σ H _ I h) λd s1 ⟨H1,I1,q1⟩=>?_);cases d with
 |true=>exact ha QQ s1 σ H1 D I1 q1
 |false=>exact hb QQ s1 σ H1 D I1 q1
def JT:TS:=λ_ _ _=>False
def eM:PS X st JT:=λ_ _ _ _ _ _ h=>h.elim
end
abbrev TG:=V->St->Hp->(St->Hp->Prop)->Prop
abbrev Lu:=List V->St->Hp->(St->Hp->Prop)->Prop
def PG(X:Cx)(target:RU)(t:TG):Prop:=
 ∀(QQ:Q5)(s:Rb)(σ:St)(H:Hp)(v:V)(u:YB)(Q:St->Hp->Prop),aL X QQ σ H s->aU v u->t v σ H Q->
  Ra (Rh X.prog X.w) X.A (UE target X.env u) (λ_ s'=>∃σ' H',aL X QQ σ' H' s'/\Q σ' H') X.xe s
def LF(X:Cx)(ts:List RU)(t:Lu):Prop:=
 ∀(QQ:Q5)(s:Rb)(σ:St)(H:Hp)(vs:List V)(us:List YB)(Q:St->Hp->Prop),aL X QQ σ H s->a9 vs us->t vs σ H Q->
  Ra (Rh X.prog X.w) X.A (assignInOrder ((SZ ts X.env).map (·.2)) us) (λ_ s'=>∃σ' H',aL X QQ σ' H' s'/\Q σ' H') X.xe s
abbrev OY:=V->V->V->Hp->(Hp->Prop)->Prop
def O3(X:Cx)(t:OY):Prop:=
 ∀(QQ:Q5)(s:Rb)(σ:St)(H:Hp)(o i v:V)(ov iv u:YB)(Q:Hp->Prop),aL X QQ σ H s->aU o ov->aU i iv->aU v u->t o i v H Q->
  Ra (Rh X.prog X.w) X.A (UY ov iv u) (λ_ s'=>∃H',aL X QQ σ H' s'/\Q H') X.xe s
section
variable{X:Cx}{pos:Uk}
def gName(i:Nat):TG:=λv σ H Q=>Q (σ.set i (some v)) H
def xC(hN:X.N.Nodup)(hi:X.N[i]? =some x)(hx:JB X.env.scope x)(hf:X.fn x=true\/X.env.scope.names.lookup x=some .local:=by first|exact .inl rfl|exact .inr rfl|assumption):PG X (.Name x pos) (gName i):=by intro QQ s σ H v u Q I r h;exact wpAny_assign_Name (tm I hN hi hx r (λs' I'=>⟨_,H,I',h⟩) hf)
def bY(i:Nat)(hN:X.N.Nodup)(hi:X.N[i]? =some x:=by rfl)(hx:JB X.env.scope x:=by first|exact .inl rfl|exact .inr rfl)(hf:X.fn x=true\/X.env.scope.names.lookup x=some .local:=by first|exact .inl rfl|exact .inr rfl|assumption):PG X (.Name x pos) (gName i):=xC hN hi hx hf
def B0:Lu:=λvs σ H Q=>vs=[]/\Q σ H
def kL(t:TG)(u:Lu):Lu:=λvs σ H Q=>∃v r,vs=v::r/\t v σ H λσ' H'=>u r σ' H' Q
def mz:LF X [] B0:=by intro QQ s σ H vs us Q I r h;obtain⟨e,h⟩:=h;subst e;cases r;exact assignInOrder_nil ⟨σ,H,I,h⟩
def fR(h1:PG X e t)(h2:LF X es u)(hs:(SZ (e::es) X.env).map (·.2)=UE e X.env::(SZ es X.env).map (·.2):=by rfl):LF X (e::es) (kL t u):=by
 intro QQ s σ H vs us Q I r h;obtain⟨v,vr,e1,h⟩:=h;subst e1;cases r with
 |cons r rr=>
  rw[hs];refine assignInOrder_cons (bH (h1 QQ s σ H _ _ _ I r h) λ_ s1 ⟨σ1,H1,I1,q1⟩=>?_);exact h2 QQ s1 σ1 H1 _ _ Q I1 rr q1
def zQ(K:Frag)(n:Nat)(t:Lu):TG:=λv σ H Q=>∃a xs,v=.ref a/\cY K H a xs/\xs.length=n/\t xs σ H Q
def Kd{es:List RU}{k:Nat}{t:Lu}{n:Nat}(hc:X.calm=true)(h:LF X es t)(hn:(SZ es X.env).length=n:=by rfl)(hst:(SZ es X.env).findIdx? (·.1)=none:=by rfl):PG X (.Tuple es k pos) (zQ X.K n t):=by intro QQ s σ H v u Q I r hw;obtain⟨a,xs,e1,hq,hl,hw⟩:=hw;subst e1;cases r;obtain⟨its,rv,ht,hz⟩:=I.tuple hq;refine assign_Tuple_tuple (I.ok.hd hc) ht (by simp[hn,<-hl,rv.length]) hst λh' hx=>?_;have I1:aL X QQ σ H {s with heap:=h'}:=I.kept (t':=s.toks) λb o e=>hx b o (WS (Q9 e)) e;exact h QQ _ σ H xs _ Q I1 (by simpa using rv) hw
def gSub(to ti:TE)(t:OY):TG:=λv σ H Q=>to σ H λo H1=>ti σ H1 λi H2=>t o i v H2 λH3=>Q σ H3
def Bk(ho:PE X o to)(hi:PE X i ti)(hs:O3 X t)(ha:∀v,UE (.Subscript o i pos) X.env v=(do
   let ov<-Tb [v] (RH o X.env)
   let iv<-Tb [v,ov] (RH i X.env)
   UH pos
   Tb [v,ov,iv] (UY ov iv v)
   release [v,ov,iv] []):=by intro _;rfl):PG X (.Subscript o i pos) (gSub to ti t):=by
 intro QQ s σ H v u Q I r h;rw[ha];refine Q6 (Rs (bH (ho QQ s σ H _ I h) λov s1 ⟨x,H1,I1,r1,q1⟩=>?_));refine Q6 (Rs (bH (hi QQ s1 σ H1 _ I1 q1) λiv s2 ⟨y,H2,I2,r2,q2⟩=>?_));refine Q6 (Uw (Q6 (Rs (bH (hs QQ s2 σ H2 x y v ov iv u _ I2 r1 r2 r q2) λ_ s3 ⟨H3,I3,q3⟩=>?_))));exact wpAny_release ⟨σ,H3,I3,q3⟩
def tAsg(te:TE)(g:TG):TS:=λD σ H=>te σ H λx H1=>g x σ H1 D.nx
def vQ(he:PE X e te)(hg:PG X tg g)(hs:swapsWithSole [tg] e pos.line X.env=pure false:=by rfl)(hw:swappedStores [tg] e X.env=pure none:=by rfl)(h1:(SZ [tg] X.env).map (·.2)=[UE tg X.env]:=by rfl):PS X (.Assign [tg] e pos) (tAsg te g):=by intro QQ s σ H D I h;refine wpAny_Assign_stores (bH (he QQ s σ H _ I h) λv s1 ⟨x,H1,I1,r1,q1⟩=>?_) hs hw;rw[h1];exact bH (hg QQ s1 σ H1 x v _ I1 r1 q1) λ_ s2 q=>q
def Ka(hN:X.N.Nodup)(hi:X.N[i]? =some x)(hx:JB X.env.scope x)(he:PE X e te)(hs:S9 e (some (.Name x pos')) pos.line X.env=pure false:=by rfl)(hf:X.fn x=true\/X.env.scope.names.lookup x=some .local:=by first|exact .inl rfl|exact .inr rfl|assumption):PS X (.Assign [.Name x pos'] e pos) (tAsg te (gName i)):=by intro QQ s σ H D I h;refine wpAny_Assign_Name (bH (he QQ s σ H _ I h) λv s1 ⟨y,H1,I1,r1,q1⟩=>?_) hs;exact tm I1 hN hi hx r1 (λs2 I2=>⟨_,H1,I2,q1⟩) hf
def au{x:Str}{e:RU}{te:TE}{pos':Uk}(i:Nat)(hN:X.N.Nodup)(he:PE X e te)(hi:X.N[i]? =some x:=by rfl)(hx:JB X.env.scope x:=by first|exact .inl rfl|exact .inr rfl)(hs:S9 e (some (.Name x pos')) pos.line X.env=pure false:=by rfl)(hf:X.fn x=true\/X.env.scope.names.lookup x=some .local:=by first|exact .inl rfl|exact .inr rfl|assumption):PS X (.Assign [.Name x pos'] e pos) (tAsg te (gName i)):=Ka hN hi hx he hs hf
end
section
def JS(c:TT)(tb:TS):TS:=λD σ H=>∃W:Nat->St->Hp->Prop,(∃m,W m σ H)/\∀m σ H,W m σ H->
 c σ H λb H1=>if b=true then∃N:St->Hp->Prop,(∀σ' H',N σ' H'->∃m',m'<m/\W m' σ' H')/\tb {D with nx:=N,ct:=N,bk:=D.nx} σ H1 else D.nx σ H1
def nu(hp:PassesOwn (Rh X.prog X.w) X.A X.env X.xe)(hc:PT X c tc)(hb:w9 X body tb):PS X (.While c body [] pos) (JS tc tb):=by
 intro QQ s σ H D I h;obtain⟨W,⟨m0,w0⟩,turn⟩:=h;refine wpAny_While (codeAny_whileLoop (λn s'=>∃σ' H',aL X QQ σ' H' s'/\W n σ' H') ?_ m0 ⟨σ,H,I,w0⟩);rintro n s1 ⟨σ1,H1,I1,w1⟩;refine Sj hp (bH (hc QQ s1 σ1 H1 _ I1 (turn n σ1 H1 w1)) λb s2 ⟨H2,I2,q2⟩=>?_);cases b with
 |true=>
  obtain⟨N,hN,q2⟩:=q2;rw[QW rfl];refine Sj hp (bH (hb QQ s2 σ1 H2 _ I2 q2) λf s3 q3=>?_);cases f with
  |next=>
   obtain⟨σ3,H3,I3,n3⟩:=q3;obtain⟨m',hm,w3⟩:=hN σ3 H3 n3;exact⟨m',hm,σ3,H3,I3,w3⟩
  |cont=>
   obtain⟨σ3,H3,I3,n3⟩:=q3;obtain⟨m',hm,w3⟩:=hN σ3 H3 n3;exact⟨m',hm,σ3,H3,I3,w3⟩
  |brk=>exact q3
  |ret v=>exact q3
 |false=>
  rw[QV Xw];exact Tg ⟨σ1,H2,I2,q2⟩
end
structure It where
 go:Nat->Hp->Prop
 yld:Nat->Hp->V->Hp->Prop
 stop:Nat->Hp->Prop
def jt(X:Cx)(QQ:Q5)(H:Hp)(b:YC):Prop:=
 H b=none/\b≠X.env.locals/\b∉X.fs/\(b∈X.ex\/X.s₀.heap.objs.size<=b)/\(∀x c,X.env.cells.lookup x=some c->c≠b)/\∀p∈X.pn++QQ,p.1≠b
def aL.fpOk{X:Cx}{QQ:Q5}{σ:St}{H H':Hp}{s:Rb}{b:YC}(I:aL X QQ σ H s)(hb:s.heap.objs.size<=b)(hn:H' b=none):jt X QQ H' b:=by
 refine⟨hn,WX (WV I.lt hb),I.nofs hb,.inr (WU I.sz hb),λx c e z=>?_,λp hp z=>?_⟩
 .obtain⟨v,q⟩:=I.cell x c e;exact QZ (WV q.lt (by rw[z];exact hb)) (WY _)
 .exact QZ (WV (Q9 (I.pin p hp).1) (by rw[z];exact hb)) (WY _)
structure Am(P:Rg)(w:Rk)(K:Frag)(tg:RU)(J:It)(fp:List YC)(it:YC)(tn:Nat->Rq->Prop):Prop where
 mem:it∈fp
 obj:∀i h,tn i h->∀b∈fp,∃o,h.get? b=some o/\∀v,o.data≠.cell v
 keep:∀i h h',tn i h->(∀b∈fp,∀o,h.get? b=some o->h'.get? b=some o)->tn i h'
 item:∀(X:Cx),X.prog=P->X.w=w->X.K=K->X.calm=true->∀(i:Nat)(QQ:Q5)(s:Rb)(σ:St)(H:Hp)(E:Q4),aL X QQ σ H s->(∀b∈fp,jt X QQ H b)->tn i s.heap->J.go i H->
  Ra (Rh P w) X.A (Sm (.ref it)) (λr s1=>∃u,r=some u/\
   Ra (Rh P w) X.A (Tj tg (.ref it) u) (λ_ s2=>∃x H',aL X QQ σ H' s2/\aU x u/\J.yld i H x H'/\tn (i+1) s2.heap/\∀b∈fp,H' b=none) E s1) E s
 done:∀(X:Cx),X.prog=P->X.w=w->X.K=K->X.calm=true->∀(i:Nat)(QQ:Q5)(s:Rb)(σ:St)(H:Hp)(E:Q4),aL X QQ σ H s->(∀b∈fp,jt X QQ H b)->tn i s.heap->J.stop i H->
   Ra (Rh P w) X.A (Sm (.ref it)) (λr s1=>r=none/\aL X QQ σ H s1) E s
 self:∀(A:Sd)(i:Nat)(s:Rb)(Q:Q4)(E:Q4),tn i s.heap->Q (.ref it) s->Ra (Rh P w) A (pyIter (.ref it)) Q E s
abbrev TI:=St->Hp->(It->Hp->Prop)->Prop
def QD(X:Cx)(QQ:Q5)(σ:St)(tg:RU)(R:It->Hp->Prop)(itv:YB)(s2:Rb):Prop:=
 ∃it fp tn J H',itv=.ref it/\aL X QQ σ H' s2/\Am X.prog X.w X.K tg J fp it tn/\tn 0 s2.heap/\(∀b∈fp,jt X QQ H' b)/\R J H'
def PI(X:Cx)(tg iter:RU)(wi:TI):Prop:=
 ∀(QQ:Q5)(s:Rb)(σ:St)(H:Hp)(R:It->Hp->Prop),aL X QQ σ H s->wi σ H R->
  Ra (Rh X.prog X.w) X.A (RH iter X.env) (λv s1=>Ra (Rh X.prog X.w) X.A (pyIter v) (QD X QQ σ tg R) X.xe s1) X.xe s
def Jn(ho:s.heap.get? it=some o)(hc:o.cls=.type n)(hd:o.data=.fields vs)(hn:["enumerate","zip","dict_itemiterator","dict_reverseitemiterator","odict_iterator","itertools.zip_longest","itertools.pairwise"].contains n=false)(hQ:Q () s):Ra M A (Tj tg (.ref it) u) Q E s:=by
 unfold Tj;cases tg<;>first
  |exact Q7 hQ
  |(cases u<;>first
    |exact Q7 hQ
    |(refine Q6 (wpAny_load ho ?_)
      rw[hc,hd];show Ra M A (if(["enumerate","zip","dict_itemiterator","dict_reverseitemiterator","odict_iterator","itertools.zip_longest","itertools.pairwise"].contains n&&vs[0]? == some (Ti _))=true then _ else _) Q E s;rw[QV (by intro h;rw[hn,Bool.false_and]at h;cases h)];exact Q7 hQ))
noncomputable def JC(K:Frag)(a:YC):It:=
 ⟨λi H=>∃xs x,aN K H a xs/\xs[i]? =some x,λi H x H'=>H'=H/\∀xs,aN K H a xs->xs[i]? =some x,λi H=>∃xs,aN K H a xs/\xs.length<=i⟩
noncomputable def LG(lo:Int)(n:Nat):It:=⟨λi _=>i<n,λi H x H'=>H'=H/\x=.int (lo+i),λi _=>n<=i⟩
def yG{P:Rg}{w:Rk}{K:Frag}{tg:RU}(a it:YC):Am P w K tg (JC K a) [it] it (λi h=>h.IsListIter it a i) where
 mem:=by simp
 obj:=λi h st b hb=>by
  have e:b=it:=by simpa using hb
  subst e;obtain⟨o,e,c,d⟩:=st;exact⟨o,e,λv z=>by rw[d]at z;cases z⟩
 keep:=λi h h' st k=>st.at λo e=>k it (by simp) o e
 item:=by intro X hP hw hK hc i QQ s σ H E I hf st hg;subst hP hw hK;obtain⟨xs,x,hq,hx⟩:=hg;obtain⟨its,rv,p,hz⟩:=I.list hq;obtain⟨u,hu,ru⟩:=rv.get hx;obtain⟨f0,f1,f2,f3,f4,f5⟩:=hf it (by simp);refine T7 st p.isList (x:=u) (by simpa using hu) λh' st' sb=>?_;have I1:aL X QQ σ H {s with heap:=h'}:=I.turned (t':=s.toks) (λb o hb e=>(sb.2 b hb).trans e) f0 f1 f3 f4 f5;obtain⟨o,e,c,d⟩:=id st';exact⟨u,rfl,Jn (s:={s with heap:=h'}) e c d (by decide) ⟨x,H,I1,ru,⟨rfl,λys hy=>by rw[I.list_inj hy hq];exact hx⟩,st',λb hb=>(hf b hb).1⟩⟩
 done:=by intro X hP hw hK hc i QQ s σ H E I hf st hg;subst hP hw hK;obtain⟨xs,hq,hx⟩:=hg;obtain⟨its,rv,p,hz⟩:=I.list hq;obtain⟨f0,f1,f2,f3,f4,f5⟩:=hf it (by simp);have hl:=rv.length;exact Ug (I.ok.hd hc) st p.isList (by simp;lia) λh' eb=>⟨rfl,I.turned (t':=s.toks) (λb o hb e=>eb b o hb e) f0 f1 f3 f4 f5⟩
 self:=λ_ _ _ _ _ st h=>wpAny_pyIter_listiter st h
def vf{P:Rg}{w:Rk}{K:Frag}{tg:RU}(it:YC)(lo:Int)(n:Nat):Am P w K tg (LG lo n) [it] it (λi h=>IsRangeIter h it (lo+(i:Nat)*1) ((n:Int) - (i:Nat)) 1) where
 mem:=by simp
 obj:=λi h st b hb=>by
  have e:b=it:=by simpa using hb
  subst e;exact⟨_,st,λv z=>by
   have z':Data.fields _=Data.cell v:=z;cases z'⟩
 keep:=λi h h' st k=>k it (by simp) _ st
 item:=by intro X hP hw hK hc i QQ s σ H E I hf st hg;subst hP hw hK;obtain⟨f0,f1,f2,f3,f4,f5⟩:=hf it (by simp);have W:=Walks.range (prog:=X.prog) (w:=X.w) (I.ok.hd hc) it lo 1 n;refine W.item i s _ _ hg st λv h' tk hv st' kk=>?_;obtain⟨t,rfl⟩:=hv;have I1:aL X QQ σ H {s with heap:=h',toks:=tk}:=I.turned (λb o hb e=>kk b o (by simpa using hb) e) f0 f1 f3 f4 f5;refine⟨_,rfl,Jn (s:={s with heap:=h',toks:=tk}) (n:="range_iterator") st' rfl rfl (by decide) ⟨.int (lo+i),H,I1,⟨t,?_⟩,⟨rfl,rfl⟩,st',λb hb=>(hf b hb).1⟩⟩;rw[Int.mul_one]
 done:=by intro X hP hw hK hc i QQ s σ H E I hf st hg;subst hP hw hK;obtain⟨f0,f1,f2,f3,f4,f5⟩:=hf it (by simp);exact wpAny_pyNext_range_end (I.ok.hd hc) st (by have:n<=i:=hg;lia) λh' eb=>⟨rfl,I.turned (t':=s.toks) (λb o hb e=>eb b o hb e) f0 f1 f3 f4 f5⟩
 self:=λ_ _ _ _ _ st h=>wpAny_pyIter_rangeiter st h
section
def nT(K:Frag)(tl:TE):TI:=λσ H R=>tl σ H λx H1=>∃a,x=.ref a/\(∃xs,aN K H1 a xs)/\R (JC K a) H1
def Dx(hl:PE X l tl):PI X tg l (nT X.K tl):=by
 intro QQ s σ H R I h;refine bH (hl QQ s σ H _ I h) λv s1 ⟨x,H1,I1,r1,q1⟩=>?_;obtain⟨a,e,⟨xs,hq⟩,q⟩:=q1;subst e;cases r1;obtain⟨its,rv,p,hz⟩:=I1.list hq;refine Sk p.isList ?_;refine⟨s1.heap.objs.size,[s1.heap.objs.size],_,_,H1,rfl,I1.kept (t':=s1.toks) λb o e=>Q8 _ e,yG a _,⟨_,Re _ rfl,rfl,rfl⟩,λb hb=>?_,q⟩;have e:b=s1.heap.objs.size:=by simpa using hb
 subst e;exact I1.fpOk (WR _) (I1.hok.fresh (WR _))
def A4{QQ:Q5}{σ:St}{H:Hp}{s:Rb}{R:It->Hp->Prop}{E:Q4}{lo hi:Int}{t u v:U3}{tk:Nat}(I:aL X QQ σ H s)(h1: -(2 ^ 62)<=lo)(h2:lo<2 ^ 62)(h3: -(2 ^ 62)<=hi)(h4:hi<2 ^ 62)(q:R (LG lo (hi - lo).toNat) H):Ra (Rh X.prog X.w) X.A (pyIter (.ref s.heap.objs.size)) (QD X QQ σ tg R) E {s with heap:=s.heap.push {cls:=.type "range",data:=.fields #[.int lo t,.int hi u,.int 1 v]},toks:=tk}:=by
 refine wpAny_pyIter_range (IsRange.new ..) (small_one h1 h2 h3 h4) ?_;have I1:aL X QQ σ H {s with heap:=s.heap.push {cls:=.type "range",data:=.fields #[.int lo t,.int hi u,.int 1 v]},toks:=tk}:=I.kept λb o e=>Q8 _ e;refine⟨(s.heap.push {cls:=.type "range",data:=.fields #[.int lo t,.int hi u,.int 1 v]}).objs.size,[(s.heap.push {cls:=.type "range",data:=.fields #[.int lo t,.int hi u,.int 1 v]}).objs.size],_,_,H,rfl,
  I1.kept (t':=tk) λb o e=>Q8 _ e,vf _ lo (hi - lo).toNat,?_,λb hb=>?_,q⟩
 .have e1:lo+((0:Nat):Int)*1=lo:=by simp
  have e2:(((hi - lo).toNat:Nat):Int) - ((0:Nat):Int)=Builtin.Range.rangeSize lo hi 1:=by rw[rangeSize_one];split<;>lia
  show IsRangeIter _ _ (lo+((0:Nat):Int)*1) ((((hi - lo).toNat:Nat):Int) - ((0:Nat):Int)) 1;rw[e1,e2];exact Re _ rfl
 .have e:b=(s.heap.push {cls:=.type "range",data:=.fields #[.int lo t,.int hi u,.int 1 v]}).objs.size:=by simpa using hb
  subst e;exact I1.fpOk (WR _) (I1.hok.fresh (WR _))
def xW(ta:TA):TI:=λσ H R=>ta σ H λvs H1=>∃j:Int,vs=[.int j]/\-(2 ^ 62)<=j/\j<2 ^ 62/\R (LG 0 j.toNat) H1
def zc(hg:Gl X "range")(hm:X.mg "range"=none)(ha:PA X [a] ta)(hs:Rc [a] X.env=[(false,RH a X.env)]:=by rfl):PI X tg (.Call (.Name "range" p) [a] [] pos) (xW ta):=by
 intro QQ s σ H R I h;refine Call_ (j0 I hg hm boot_range (PyProof.Rows.callWith_type1 (bH (ha pos QQ s σ H _ I h) λus s1 ⟨vs,H1,I1,r1,q1⟩=>?_) hs rfl));obtain⟨j,e,q1,q2,q⟩:=q1;subst e;cases r1 with
 |cons r rr=>
  cases rr;obtain⟨t,rfl⟩:=r;exact call_range_1 (A4 I1 (by lia) (by lia) q1 q2 (by simpa using q))
def tFor(wi:TI)(g:TG)(tb:TS):TS:=λD σ H=>wi σ H λJ H1=>∃W:Nat->Nat->St->Hp->Prop,(∃m,W 0 m σ H1)/\∀i m σ H,W i m σ H->
 (J.stop i H/\D.nx σ H)\/(J.go i H/\∃N:St->Hp->Prop,(∀σ' H',N σ' H'->∃m',m'<m/\W (i+1) m' σ' H')/\∀x H',J.yld i H x H'->g x σ H' λσ2 H2=>tb {D with nx:=N,ct:=N,bk:=D.nx} σ2 H2)
noncomputable def jg(fp:List YC)(h:Rq):List (YC×Obj):=fp.filterMap λb=>(h.get? b).map λo=>(b,o)
def iE(hb:b∈fp)(e:h.get? b=some o):(b,o)∈jg fp h:=VX.mpr ⟨b,hb,by rw[e];rfl⟩
def pF(hp:p∈jg fp h):p.1∈fp/\h.get? p.1=some p.2:=by
 obtain⟨b,hb,e⟩:=VX.mp hp;cases q:h.get? b with
 |none=>rw[q]at e;cases e
 |some o=>
  rw[q]at e;have e':(b,o)=p:=Q0 e;subst e';exact⟨hb,q⟩
def aL.pinned{QQ:Q5}{σ:St}{H:Hp}{s:Rb}{fp:List YC}(I:aL X QQ σ H s)(hf:∀b∈fp,jt X QQ H b)(ho:∀b∈fp,∃o,s.heap.get? b=some o/\∀v,o.data≠.cell v):aL X (QQ++jg fp s.heap) σ H s:=
 I.pins_of λp hp=>(Vk.mp hp).elim (λz=>I.pin p (Vr _ z)) λz=>by obtain⟨hb,e⟩:=pF z;obtain⟨f0,f1,f2,_⟩:=hf p.1 hb;obtain⟨o,e',d⟩:=ho p.1 hb;rw[e]at e';cases e';exact⟨e,f0,f1,f2,d⟩
def aL.unpinned{QQ pl:Q5}{σ:St}{H:Hp}{s:Rb}(I:aL X (QQ++pl) σ H s):aL X QQ σ H s:=I.pins_of λp hp=>I.pin p (Vr _ (VA _ hp))
def fu(hp:PassesOwn (Rh X.prog X.w) X.A X.env X.xe)(hc:X.calm=true)(hi:PI X tg iter wi)(hg:PG X tg g)(hb:w9 X body tb)(hs:∀x,S4 iter X.env x=pure x:=by intro _;rfl):PS X (.For tg iter body [] pos) (tFor wi g tb):=by
 intro QQ s σ H D I h;refine wpAny_For (bH (hi QQ s σ H _ I h) λv s1 h1=>bH h1 λitv s2 h2=>?_) hs;obtain⟨it,fp,tn,J,H2,e,I2,T,st2,f2,W,⟨m0,w0⟩,turn⟩:=h2;subst e;have stat:∀{H':Hp},(∀b∈fp,H' b=none)->∀b∈fp,jt X QQ H' b:=λhn b hb=>⟨hn b hb,(f2 b hb).2⟩;refine codeAny_forLoop_any (λn s'=>∃i σ' H',aL X QQ σ' H' s'/\tn i s'.heap/\(∀b∈fp,H' b=none)/\W i n σ' H') ?_ m0 ⟨0,σ,H2,I2,st2,λb hb=>(f2 b hb).1,w0⟩;rintro n s3 ⟨i,σ3,H3,I3,st3,fr3,w3⟩
 rcases turn i n σ3 H3 w3 with⟨stop,qn⟩|⟨go,N,hN,step⟩
 .refine Sj hp (bH (T.done X rfl rfl rfl hc i QQ s3 σ3 H3 X.xe I3 (stat fr3) st3 stop) λr s4 ⟨hr,I4⟩=>?_);subst hr;exact Tg ⟨σ3,H3,I4,qn⟩
 .refine Sj hp (bH (T.item X rfl rfl rfl hc i QQ s3 σ3 H3 X.xe I3 (stat fr3) st3 go) λr s4 ⟨u,hr,h4⟩=>?_);subst hr;refine Sj hp (bH h4 λ_ s5 ⟨x,H5,I5,r5,y5,st5,fr5⟩=>?_);have I5':=I5.pinned (stat fr5) (T.obj _ _ st5);refine Sj hp (bH (hg _ s5 σ3 H5 x u _ I5' r5 (step x H5 y5)) λ_ s6 ⟨σ6,H6,I6,q6⟩=>?_);refine Sj hp (bH (hb _ s6 σ6 H6 _ I6 q6) λf s7 q7=>?_);have again:∀{σ7:St}{H7:Hp},aL X (QQ++jg fp s5.heap) σ7 H7 s7->N σ7 H7->∃m,m<n/\∃i σ' H',aL X QQ σ' H' s7/\tn i s7.heap/\(∀b∈fp,H' b=none)/\W i m σ' H':=λ{σ7 H7} I7 n7=>by obtain⟨m',hm,w7⟩:=hN σ7 H7 n7;refine⟨m',hm,i+1,σ7,H7,I7.unpinned,T.keep _ _ _ st5 λb hb o e=>(I7.pin (b,o) (Vr _ (Vr _ (iE hb e)))).1,λb hb=>?_,w7⟩;obtain⟨o,e,d⟩:=T.obj _ _ st5 b hb;exact(I7.pin (b,o) (Vr _ (Vr _ (iE hb e)))).2.1
  cases f with
  |next=>obtain⟨σ7,H7,I7,n7⟩:=q7;exact again I7 n7
  |cont=>obtain⟨σ7,H7,I7,n7⟩:=q7;exact again I7 n7
  |brk=>obtain⟨σ7,H7,I7,q7⟩:=q7;exact⟨σ7,H7,I7.unpinned,q7⟩
  |ret v=>obtain⟨x7,σ7,H7,I7,r7,q7⟩:=q7;exact⟨x7,σ7,H7,I7.unpinned,r7,q7⟩
end
def B2{K:Frag}{a:YC}{xs:List V}{g:TG}{tb:TS}{D:o8}{σ:St}{H:Hp}(Pv:Nat->St->Hp->Prop)(h0:Pv 0 σ H)(hl:∀i σ H,i<=xs.length->Pv i σ H->aN K H a xs)(hs:∀i x σ H,xs[i]? =some x->Pv i σ H->g x σ H λσ2 H2=>tb {D with nx:=Pv (i+1),ct:=Pv (i+1),bk:=D.nx} σ2 H2)(hd:∀σ H,Pv xs.length σ H->D.nx σ H):∃W:Nat->Nat->St->Hp->Prop,(∃m,W 0 m σ H)/\∀i m σ H,W i m σ H->((JC K a).stop i H/\D.nx σ H)\/((JC K a).go i H/\∃N:St->Hp->Prop,(∀σ' H',N σ' H'->∃m',m'<m/\W (i+1) m' σ' H')/\∀x H',(JC K a).yld i H x H'->g x σ H' λσ2 H2=>tb {D with nx:=N,ct:=N,bk:=D.nx} σ2 H2):=by
 refine⟨λi m σ H=>m=xs.length - i/\i<=xs.length/\Pv i σ H,⟨xs.length,by simp,WT _,h0⟩,?_⟩;rintro i m σ H ⟨rfl,hi,p⟩;have q:=hl i σ H hi p
 by_cases hlt:i<xs.length
 .refine .inr ⟨⟨xs,xs[i],q,by simp[hlt]⟩,Pv (i+1),λσ' H' p'=>⟨xs.length - (i+1),by lia,rfl,hlt,p'⟩,λx H' y=>?_⟩;obtain⟨e,y⟩:=y;subst e;exact hs i x σ _ (y xs q) p
 .have e:i=xs.length:=by lia
  subst e;exact .inl ⟨⟨xs,q,WR _⟩,hd σ H p⟩
def zS{lo:Int}{n:Nat}{g:TG}{tb:TS}{D:o8}{σ:St}{H:Hp}(Pv:Nat->St->Hp->Prop)(h0:Pv 0 σ H)(hs:∀i σ H,i<n->Pv i σ H->g (.int (lo+i)) σ H λσ2 H2=>tb {D with nx:=Pv (i+1),ct:=Pv (i+1),bk:=D.nx} σ2 H2)(hd:∀σ H,Pv n σ H->D.nx σ H):∃W:Nat->Nat->St->Hp->Prop,(∃m,W 0 m σ H)/\∀i m σ H,W i m σ H->((LG lo n).stop i H/\D.nx σ H)\/((LG lo n).go i H/\∃N:St->Hp->Prop,(∀σ' H',N σ' H'->∃m',m'<m/\W (i+1) m' σ' H')/\∀x H',(LG lo n).yld i H x H'->g x σ H' λσ2 H2=>tb {D with nx:=N,ct:=N,bk:=D.nx} σ2 H2):=by
 refine⟨λi m σ H=>m=n - i/\i<=n/\Pv i σ H,⟨n,by simp,WT _,h0⟩,?_⟩;rintro i m σ H ⟨rfl,hi,p⟩
 by_cases hlt:i<n
 .refine .inr ⟨hlt,Pv (i+1),λσ' H' p'=>⟨n - (i+1),by lia,rfl,hlt,p'⟩,λx H' y=>?_⟩;obtain⟨e,y⟩:=y;subst e y;exact hs i σ _ hlt p
 .have e:i=n:=by lia
  subst e;exact .inl ⟨WR _,hd σ H p⟩
abbrev R2:=V->V->Hp->VK->Prop
def iS(X:Cx)(f:YB->YB->Sem YB)(r:R2):Prop:=
 ∀(QQ:Q5)(s:Rb)(σ:St)(H:Hp)(x y:V)(v u:YB)(Q:VK),aL X QQ σ H s->aU x v->aU y u->r x y H Q->
  Ra (Rh X.prog X.w) X.A (f v u) (EP X QQ σ Q) X.xe s
def QB(X:Cx)(f:YB->Sem YB)(r:V->Hp->VK->Prop):Prop:=
 ∀(QQ:Q5)(s:Rb)(σ:St)(H:Hp)(x:V)(v:YB)(Q:VK),aL X QQ σ H s->aU x v->r x H Q->
  Ra (Rh X.prog X.w) X.A (f v) (EP X QQ σ Q) X.xe s
def bq(X:Cx)(f:YB)(r:List V->Hp->VK->Prop):Prop:=
 ∀(QQ:Q5)(s:Rb)(σ:St)(H:Hp)(xs:List V)(us:List YB)(Q:VK),aL X QQ σ H s->a9 xs us->r xs H Q->
  Ra (Rh X.prog X.w) X.A (call f us) (EP X QQ σ Q) X.xe s
def QC(X:Cx)(r:V->Hp->(Bool->Hp->Prop)->Prop):Prop:=
 ∀(QQ:Q5)(s:Rb)(σ:St)(H:Hp)(x:V)(v:YB)(Q:Bool->Hp->Prop),aL X QQ σ H s->aU x v->r x H Q->
  Ra (Rh X.prog X.w) X.A (truthy v) (TP X QQ σ Q) X.xe s
def Pb(r:R2)(ta tb:TE):TE:=λσ H Q=>ta σ H λx H1=>tb σ H1 λy H2=>r x y H2 Q
def rI(C:Int->Int->Prop)(g:Int->Int->V):R2:=λx y H Q=>∃i j,x=.int i/\y=.int j/\C i j/\Q (g i j) H
def IY(g:Int->Int->V):R2:=λx y H Q=>∃i j,x=.int i/\y=.int j/\Q (g i j) H
def rU(g:Int->V):V->Hp->VK->Prop:=λx H Q=>∃i,x=.int i/\Q (g i) H
section
def Lm(ha:PE X a ta)(hb:PE X b tb){QQ:Q5}{s:Rb}{σ:St}{H:Hp}{R:V->V->Hp->Prop}(I:aL X QQ σ H s)(h:ta σ H λx H1=>tb σ H1 λy H2=>R x y H2){Q:Q4}{f:YB->YB->Sem YB}(hf:∀v u s2 x y H2,aL X QQ σ H2 s2->aU x v->aU y u->R x y H2->Ra (Rh X.prog X.w) X.A (f v u) Q X.xe s2):Ra (Rh X.prog X.w) X.A (RH a X.env) (λv s₁=>Ra (Rh X.prog X.w) X.A (RH b X.env) (λu s₂=>Ra (Rh X.prog X.w) X.A (f v u) Q X.xe s₂) X.xe s₁) X.xe s:=by refine bH (ha QQ s σ H _ I h) λv s1 ⟨x,H1,I1,r1,q1⟩=>?_;refine bH (hb QQ s1 σ H1 _ I1 q1) λu s2 ⟨y,H2,I2,r2,q2⟩=>?_;exact hf v u s2 x y H2 I2 r1 r2 q2
def Jb(ho:iS X (SR op) r)(ha:PE X a ta)(hb:PE X b tb):PE X (.BinOp a op b pos) (Pb r ta tb):=by intro QQ s σ H Q I h;exact wpAny_BinOp (Lm ha hb I h λv u s2 x y H2 I2 rx ry q=>ho QQ s2 σ H2 x y v u Q I2 rx ry q)
def Pe{f:YB->YB->Sem YB}{C:Int->Int->Prop}{g:Int->Int->Int}(rule:∀i j t u s Q E,C i j->Q (.int (g i j) s.toks) {s with toks:=s.toks+1}->Ra (Rh X.prog X.w) X.A (f (.int i t) (.int j u)) Q E s):iS X f (rI C λi j=>.int (g i j)):=by intro QQ s σ H x y v u Q I rx ry h;obtain⟨i,j,rfl,rfl,hc,q⟩:=h;obtain⟨t,rfl⟩:=rx;obtain⟨t',rfl⟩:=ry;exact rule i j t t' s _ _ hc ⟨.int (g i j),H,I.tok _,⟨_,rfl⟩,q⟩
def N2{f:YB->YB->Sem YB}{g:Int->Int->Int}(rule:∀i j t u s Q E,Q (.int (g i j) s.toks) {s with toks:=s.toks+1}->Ra (Rh X.prog X.w) X.A (f (.int i t) (.int j u)) Q E s):iS X f (IY λi j=>.int (g i j)):=by intro QQ s σ H x y v u Q I rx ry h;obtain⟨i,j,rfl,rfl,q⟩:=h;obtain⟨t,rfl⟩:=rx;obtain⟨t',rfl⟩:=ry;exact rule i j t t' s _ _ ⟨.int (g i j),H,I.tok _,⟨_,rfl⟩,q⟩
def DL{f:YB->YB->Sem YB}{g:Int->Int->Bool}(rule:∀i j t u s Q E,Q (.bool (g i j)) s->Ra (Rh X.prog X.w) X.A (f (.int i t) (.int j u)) Q E s):iS X f (IY λi j=>.bl (g i j)):=by intro QQ s σ H x y v u Q I rx ry h;obtain⟨i,j,rfl,rfl,q⟩:=h;obtain⟨t,rfl⟩:=rx;obtain⟨t',rfl⟩:=ry;exact rule i j t t' s _ _ ⟨.bl (g i j),H,I,rfl,q⟩
def Ly(i j:Int):Prop:=0<j/\j<1073741824
def O9(i j:Int):Prop:=0<=j/\j<=1000000/\i.natAbs<2 ^ 64
def CT(i j:Int):Prop:=(-(2 ^ 64)<i/\i<2 ^ 64)\/(-(2 ^ 64)<j/\j<2 ^ 64)
def CT.ok(h:CT i j):IntMulOk i j:=by
 rcases h with⟨h1,h2⟩|⟨h1,h2⟩
 .exact .of_left (intBits_le_64 h1 h2)
 .exact .of_right (intBits_le_64 h1 h2)
def Ks:iS X (SR .Add) (IY λi j=>.int (i+j)):=N2 λ_ _ _ _ _ _ _ q=>add_int q
def Kg:iS X (SR .Sub) (IY λi j=>.int (i - j)):=N2 λ_ _ _ _ _ _ _ q=>sub_int q
def Kk:iS X (SR .Mult) (rI CT λi j=>.int (i*j)):=Pe λ_ _ _ _ _ _ _ hc q=>mul_int q hc.ok
def DK:iS X (SR .FloorDiv) (rI Ly λi j=>.int (i / j)):=Pe λi j _ _ _ _ _ hc q=>by have h1:(0:Int)<j:=hc.1;have h2:j<1073741824:=hc.2;exact floordiv_int (by lia) (by rw[Int.fdiv_eq_ediv_of_nonneg i (by lia)];exact q) (.inl (PyProof.noPylong_small (by lia)))
def Kl:iS X (SR .Mod) (rI (λ_ j=>0<j) λi j=>.int (i % j)):=Pe λi j _ _ _ _ _ hc q=>by have h1:(0:Int)<j:=hc;exact mod_int' (by lia) (by rw[Int.fmod_eq_emod_of_nonneg i (by lia)];exact q)
def Ki:iS X (SR .Pow) (rI O9 λi j=>.int (i ^ j.toNat)):=Pe λ_ _ _ _ _ _ _ hc q=>pow_int_small hc.1 hc.2.1 hc.2.2 q
def unI{f:YB->Sem YB}{g:Int->Int}(rule:∀i t s Q E,Q (.int (g i) s.toks) {s with toks:=s.toks+1}->Ra (Rh X.prog X.w) X.A (f (.int i t)) Q E s):QB X f (rU λi=>.int (g i)):=by intro QQ s σ H x v Q I rx h;obtain⟨i,rfl,q⟩:=h;obtain⟨t,rfl⟩:=rx;exact rule i t s _ _ ⟨.int (g i),H,I.tok _,⟨_,rfl⟩,q⟩
def JK:QB X (unaryOp .USub) (rU λi=>.int (-i)):=unI λ_ _ _ _ _ q=>neg_int q
end
noncomputable def scal:V->V->Bool
 | .non,.non=>true| .non,.int _=>true| .int _,.non=>true| .non,.bl _=>true| .bl _,.non=>true| .non,.str _=>true| .str _,.non=>true
 | .int _,.int _=>true| .bl _,.bl _=>true| .str _,.str _=>true| .byt _,.byt _=>true
 | .int _,.str _=>true| .str _,.int _=>true| .bl _,.str _=>true| .str _,.bl _=>true
 |_,_=>false
def rEq:R2:=λx y H Q=>scal x y=true/\Q (.bl (decide (x=y))) H
def rNe:R2:=λx y H Q=>scal x y=true/\Q (.bl (!decide (x=y))) H
def yl:decide (V.int i=V.int j)=(i == j):=by rw[Xy];simp
def dec_bl:decide (V.bl i=V.bl j)=(i == j):=by rw[Xy];simp
def yk:decide (V.str i=V.str j)=(i == j):=by rw[Xy];simp
def yn:decide (V.byt i=V.byt j)=(i.toList == j.toList):=by rw[Xy];cases i;cases j;simp
section
def fin_bl{QQ:Q5}{σ:St}{H:Hp}{s:Rb}{Q:VK}{k k':Bool}(I:aL X QQ σ H s)(q:Q (.bl k) H)(e:k=k'):EP X QQ σ Q (.bool k') s:=by subst e;exact⟨.bl k,H,I,rfl,q⟩
def N1:iS X (RD .Eq) rEq:=by
 intro QQ s σ H x y v u Q I rx ry h;obtain⟨hs,q⟩:=h;cases x with
 |non=>
  cases rx;cases y with
  |non=>cases ry;exact PySem.EqNone.eq_none_none (fin_bl I q (by simp))
  |bl j=>cases ry;exact PySem.EqNone.eq_none_bool (fin_bl I q (by simp))
  |int j=>obtain⟨t',rfl⟩:=ry;exact PySem.EqNone.eq_none_int (fin_bl I q (by simp))
  |str j=>obtain⟨t',rfl⟩:=ry;exact PySem.EqNone.eq_none_str (fin_bl I q (by simp))
  |_=>exact QZ (show false=true from hs) Xw
 |bl i=>
  cases rx;cases y with
  |non=>cases ry;exact PySem.EqNone.eq_bool_none (fin_bl I q (by simp))
  |bl j=>cases ry;exact eq_bool (fin_bl I q dec_bl)
  |str j=>obtain⟨t',rfl⟩:=ry;exact PySem.EqMixed.eq_bool_str (fin_bl I q (by simp))
  |_=>exact QZ (show false=true from hs) Xw
 |int i=>
  obtain⟨t,rfl⟩:=rx;cases y with
  |non=>cases ry;exact PySem.EqNone.eq_int_none (fin_bl I q (by simp))
  |int j=>obtain⟨t',rfl⟩:=ry;exact eq_int (fin_bl I q yl)
  |str j=>obtain⟨t',rfl⟩:=ry;exact PySem.EqMixed.eq_int_str (fin_bl I q (by simp))
  |_=>exact QZ (show false=true from hs) Xw
 |str i=>
  obtain⟨t,rfl⟩:=rx;cases y with
  |non=>cases ry;exact PySem.EqNone.eq_str_none (fin_bl I q (by simp))
  |bl j=>cases ry;exact PySem.EqMixed.eq_str_bool (fin_bl I q (by simp))
  |int j=>obtain⟨t',rfl⟩:=ry;exact PySem.EqMixed.eq_str_int (fin_bl I q (by simp))
  |str j=>obtain⟨t',rfl⟩:=ry;exact eq_str (fin_bl I q yk)
  |_=>exact QZ (show false=true from hs) Xw
 |byt i=>
  obtain⟨t,rfl⟩:=rx;cases y with
  |byt j=>obtain⟨t',rfl⟩:=ry;exact PySem.W.eq_bytes (fin_bl I q yn)
  |_=>exact QZ (show false=true from hs) Xw
 |_=>cases y<;>exact QZ (show false=true from hs) Xw
def NW:iS X (RD .NotEq) rNe:=by
 intro QQ s σ H x y v u Q I rx ry h;obtain⟨hs,q⟩:=h;cases x with
 |non=>
  cases rx;cases y with
  |non=>cases ry;exact PySem.EqNone.ne_none_none (fin_bl I q (by simp))
  |bl j=>cases ry;exact PySem.EqNone.ne_none_bool (fin_bl I q (by simp))
  |int j=>obtain⟨t',rfl⟩:=ry;exact PySem.EqNone.ne_none_int (fin_bl I q (by simp))
  |str j=>obtain⟨t',rfl⟩:=ry;exact PySem.EqNone.ne_none_str (fin_bl I q (by simp))
  |_=>exact QZ (show false=true from hs) Xw
 |bl i=>
  cases rx;cases y with
  |non=>cases ry;exact PySem.EqNone.ne_bool_none (fin_bl I q (by simp))
  |bl j=>cases ry;exact ne_bool (fin_bl I q (Q2 not dec_bl))
  |str j=>obtain⟨t',rfl⟩:=ry;exact PySem.EqMixed.ne_bool_str (fin_bl I q (by simp))
  |_=>exact QZ (show false=true from hs) Xw
 |int i=>
  obtain⟨t,rfl⟩:=rx;cases y with
  |non=>cases ry;exact PySem.EqNone.ne_int_none (fin_bl I q (by simp))
  |int j=>obtain⟨t',rfl⟩:=ry;exact ne_int (fin_bl I q (Q2 not yl))
  |str j=>obtain⟨t',rfl⟩:=ry;exact PySem.EqMixed.ne_int_str (fin_bl I q (by simp))
  |_=>exact QZ (show false=true from hs) Xw
 |str i=>
  obtain⟨t,rfl⟩:=rx;cases y with
  |non=>cases ry;exact PySem.EqNone.ne_str_none (fin_bl I q (by simp))
  |bl j=>cases ry;exact PySem.EqMixed.ne_str_bool (fin_bl I q (by simp))
  |int j=>obtain⟨t',rfl⟩:=ry;exact PySem.EqMixed.ne_str_int (fin_bl I q (by simp))
  |str j=>obtain⟨t',rfl⟩:=ry;exact ne_str (fin_bl I q (Q2 not yk))
  |_=>exact QZ (show false=true from hs) Xw
 |byt i=>
  obtain⟨t,rfl⟩:=rx;cases y with
  |byt j=>obtain⟨t',rfl⟩:=ry;exact PySem.W.ne_bytes (fin_bl I q (Q2 not yn))
  |_=>exact QZ (show false=true from hs) Xw
 |_=>cases y<;>exact QZ (show false=true from hs) Xw
def NX:iS X (RD .Lt) (IY λi j=>.bl (decide (i<j))):=DL λ_ _ _ _ _ _ _ q=>lt_int q
def NY:iS X (RD .LtE) (IY λi j=>.bl (decide (i<=j))):=DL λ_ _ _ _ _ _ _ q=>le_int q
def NZ:iS X (RD .Gt) (IY λi j=>.bl (decide (j<i))):=DL λ_ _ _ _ _ _ _ q=>gt_int q
def N0:iS X (RD .GtE) (IY λi j=>.bl (decide (j<=i))):=DL λ_ _ _ _ _ _ _ q=>ge_int q
def zh:iS X (RD .Lt) (λx y H Q=>∃i j,x=.str i/\y=.str j/\Q (.bl (decide (i.cps.toList<j.cps.toList))) H):=by intro QQ s σ H x y v u Q I rx ry h;obtain⟨i,j,rfl,rfl,q⟩:=h;obtain⟨t,rfl⟩:=rx;obtain⟨t',rfl⟩:=ry;exact lt_str (fin_bl I q rfl)
def zj:iS X (RD .In) (λx y H Q=>∃i j,x=.str i/\y=.str j/\Q (.bl (!(Sa j i 0 j.length 1).isEmpty)) H):=by intro QQ s σ H x y v u Q I rx ry h;obtain⟨i,j,rfl,rfl,q⟩:=h;obtain⟨t,rfl⟩:=rx;obtain⟨t',rfl⟩:=ry;exact in_str (fin_bl I q rfl)
def Km:iS X (RD .Is) (λx y H Q=>y=.non/\Q (.bl (decide (x=.non))) H):=by
 intro QQ s σ H x y v u Q I rx ry h;obtain⟨rfl,q⟩:=h;cases ry;refine is_none_gen (fin_bl I q ?_);cases x<;>first
  |(cases rx;rfl)
  |(obtain⟨t,rfl⟩:=rx;rfl)
def DJ:iS X (RD .IsNot) (λx y H Q=>y=.non/\Q (.bl (!decide (x=.non))) H):=by
 intro QQ s σ H x y v u Q I rx ry h;obtain⟨rfl,q⟩:=h;cases ry;refine isnot_none_gen (fin_bl I q ?_);cases x<;>first
  |(cases rx;rfl)
  |(obtain⟨t,rfl⟩:=rx;rfl)
def qZ:iS X (RD .NotIn) (λx y H Q=>∃i j,x=.str i/\y=.str j/\Q (.bl (!(!(Sa j i 0 j.length 1).isEmpty))) H):=by intro QQ s σ H x y v u Q I rx ry h;obtain⟨i,j,rfl,rfl,q⟩:=h;obtain⟨t,rfl⟩:=rx;obtain⟨t',rfl⟩:=ry;exact notIn_str (fin_bl I q rfl)
def jY(b:RU)(h:op≠.In:=by decide)(h2:op≠.NotIn:=by decide):behindInMarks op b=false:=by
 have e1:(op == CmpOp.In)=false:=by cases op<;>first|rfl|exact QZ rfl h
 have e2:(op == CmpOp.NotIn)=false:=by cases op<;>first|rfl|exact QZ rfl h2
 cases b<;>simp[behindInMarks,e1,e2]
def xE(ho:iS X (RD op) r)(ha:PE X a ta)(hb:PE X b tb)(hm:behindInMarks op b=false):PE X (.Compare a [op] [b] pos) (Pb r ta tb):=by intro QQ s σ H Q I h;exact wpAny_Compare1 (Lm ha hb I h λv u s2 x y H2 I2 rx ry q=>ho QQ s2 σ H2 x y v u Q I2 rx ry q) hm
def CN(K:Frag)(x:V)(H:Hp)(k:Bool):Prop:=
 match x with
 | .non=>k=false
 | .bl b=>k=b
 | .int i=>k=(i != 0)
 | .str y=>y.length<=v1/\k=((y.length:Int) != 0)
 | .byt y=>y.size<=v1/\k=((y.size:Int) != 0)
 | .ref p=>(∃xs,aN K H p xs/\k= !xs.isEmpty)\/(∃xs,cY K H p xs/\k= !xs.isEmpty)\/∃kvs,H p=some (.dK kvs)/\k= !kvs.isEmpty
 |_=>False
def wt{κ:Type}{kvs:List (κ×V)}{vs:List (κ×YB)}(r:KV kvs vs):(!vs.isEmpty)= !kvs.isEmpty:=by cases r<;>rfl
def nQ(r:a9 xs its):(!its.toArray.isEmpty)= !xs.isEmpty:=by cases r<;>simp
def jZ:(v1:Nat)<2 ^ 63:=by rw[Rf];decide
def JN:QC X (λx H Q=>∃k,CN X.K x H k/\Q k H):=by
 intro QQ s σ H x v Q I rx h;obtain⟨k,e,q⟩:=h;have hl:=jZ;have hs:v1=16777216:=Rf;cases x with
 |non=>
  cases rx;have e':k=false:=e;subst e';exact truthy_none ⟨H,I,q⟩
 |bl b=>
  cases rx;have e':k=b:=e;subst e';exact Rv ⟨H,I,q⟩
 |int i=>
  obtain⟨t,rfl⟩:=rx;have e':k=(i != 0):=e;subst e';exact PySem.P.truthy_int ⟨H,I,q⟩
 |str y=>
  obtain⟨t,rfl⟩:=rx;obtain⟨hy,e'⟩:y.length<=v1/\k=((y.length:Int) != 0):=e;subst e';exact PySem.P.truthy_str (by lia) ⟨H,I.tok _,q⟩
 |byt y=>
  obtain⟨t,rfl⟩:=rx;obtain⟨hy,e'⟩:y.size<=v1/\k=((y.size:Int) != 0):=e;subst e';exact PySem.W.truthy_bytes (by lia) ⟨H,I.tok _,q⟩
 |ref p=>
  cases rx;have e':(∃xs,aN X.K H p xs/\k= !xs.isEmpty)\/(∃xs,cY X.K H p xs/\k= !xs.isEmpty)\/∃kvs,H p=some (.dK kvs)/\k= !kvs.isEmpty:=e
  rcases e' with⟨xs,hx,e'⟩|⟨xs,hx,e'⟩|⟨kvs,hx,e'⟩
  .subst e';obtain⟨its,r,pl,hz⟩:=I.list hx;have hlen:=r.length;exact wpAny_truthy_list pl.isList (by simp only[Vc];lia) ⟨H,I.tok _,by rw[nQ r];exact q⟩
  .subst e';obtain⟨its,r,pl,hz⟩:=I.tuple hx;have hlen:=r.length;exact truthy_tuple pl (by simp only[Vc];lia) ⟨H,I.tok _,by rw[nQ r];exact q⟩
  .subst e';obtain⟨hz,hS,vs,r,m⟩:kvs.length<=v1/\(p == sysModules)=false/\∃vs,KV kvs vs/\s.heap.DictOf (mixKind X.prog X.w) p vs:=I.hok p _ hx;have hlen:kvs.length=vs.length:=TW r;exact wpAny_truthy_dict hS m (by lia) ⟨H,I.tok _,by rw[wt r];exact q⟩
 |_=>exact(show False from e).elim
def Bb(ha:PE X a ta)(he:∀whole,UU a X.env whole=(do let v<-whole;UH a.pos;Tb [v] (truthy v))):PT X a (λσ H Q=>ta σ H λx H'=>∃k,CN X.K x H' k/\Q k H'):=by intro QQ s σ H Q I h;exact isTrue_plain (bH (ha QQ s σ H _ I h) λv s1 ⟨x,H1,I1,r1,q1⟩=>JN QQ s1 σ H1 x v Q I1 r1 q1) (he _)
def vT:iS X (SR .Add) (λx y H Q=>∃i j,x=.str i/\y=.str j/\i.length+j.length<=v1/\Q (.str (i++j)) H):=by intro QQ s σ H x y v u Q I rx ry h;obtain⟨i,j,rfl,rfl,hz,q⟩:=h;obtain⟨t,rfl⟩:=rx;obtain⟨t',rfl⟩:=ry;exact add_str (λt' tk=>⟨.str (i++j),H,I.tok _,⟨_,rfl⟩,q⟩) hz
def fG(r:a9 [x] us):∃u,us=[u]/\aU x u:=by
 cases r with
 |cons r1 r2=>cases r2;exact⟨_,rfl,r1⟩
def Aw(r:a9 [x,y] us):∃u w',us=[u,w']/\aU x u/\aU y w':=by
 cases r with
 |cons r1 r2=>
  cases r2 with
  |cons r3 r4=>cases r4;exact⟨_,_,rfl,r1,r3⟩
def Ae(hc:X.calm=true):bq X (.builtin "min") (λxs H Q=>∃i j,xs=[.int i,.int j]/\Q (.int (if j<i then j else i)) H):=by
 intro QQ s σ H xs us Q I r h;obtain⟨i,j,rfl,q⟩:=h;obtain⟨u,w',rfl,⟨t,rfl⟩,⟨t',rfl⟩⟩:=Aw r;refine min_two_ints (I.ok.hd hc) λh' tk k=>⟨_,H,I.kept k,?_,q⟩
 by_cases hj:j<i
 .rw[QW hj,QW hj];exact⟨_,rfl⟩
 .rw[QV hj,QV hj];exact⟨_,rfl⟩
def Ag:bq X (.type "int") (λxs H Q=>(∃i,xs=[.int i]/\Q (.int i) H)\/∃k,xs=[.bl k]/\Q (.int (if k then 1 else 0)) H):=by
 intro QQ s σ H xs us Q I r h
 rcases h with⟨i,rfl,q⟩|⟨k,rfl,q⟩
 .obtain⟨u,rfl,t,rfl⟩:=fG r;exact call_int_int ⟨.int i,H,I,⟨_,rfl⟩,q⟩
 .obtain⟨u,rfl,r1⟩:=fG r;cases r1;exact call_int_bool ⟨.int (if k then 1 else 0),H,I.tok _,⟨_,rfl⟩,q⟩
end
structure xb(h:Rq)(x dx C:YC)(mA:Q3):Prop where
 obj:h.get? x=some (X9 C dx)
 ns:h.Ns1 dx mA
 ne:dx≠x
def zx{h:Rq}{mA:Q3}(n:h.Ns1 dx mA):∃od,h.get? dx=some od/\∀name,Yg name od=some (mA name):=by
 obtain⟨o,es,ep,ho,hd,hk,_,hm⟩:=n;refine⟨o,ho,λname=>?_⟩;have e:=hm name;unfold nsFind findBy at e;rw[<-Array.find?_toList]at e;unfold Yg;rw[hd];dsimp only;split
 .rename_i y q;rw[q]at e;exact Q2 some e
 .rename_i q;rw[q]at e;have a:es.toList.any (·.refKey)=false:=by rw[VN];intro y hy;obtain⟨z,t,hkey⟩:=hk y (Array.mem_toList_iff.mp hy);simp[DictEntry.refKey,hkey]
  have a':¬es.toList.any (·.refKey)=true:=by rw[a];exact Xw
  rw[QV a'];exact Q2 some e
def xb.look(I:xb h x dx C mA):∃od,PySem.W.InstAt h x (X9 C dx) C (some od)/\∀name,Yg name od=some (mA name):=
 let ⟨od,ho,hl⟩:=zx I.ns
 ⟨od,⟨I.obj,rfl,rfl,ho⟩,hl⟩
section
variable{prog:Rg}{w:Rk}{A:Sd}{E:Q4}{s:Rb}{K:Frag}{x dx C f:YC}{mA:Q3}{name:Str}{v:YB}
def Eb(X:K.In s.heap)(I:xb s.heap x dx C mA)(hg:Yb K C name=true)(hh:Yc K C=true)(ha:XZ K (.ref C) name=some none)(hv:mA name=some v)(hv':Yp v=true)(h:Q v {s with toks:=s.toks+1}):Ra (Rh prog w) A (getAttr (.ref x) name expr) Q E s:=by obtain⟨od,J,hl⟩:=I.look;exact PySem.W.get_value X J (Yl hg).1 (PySem.W.findObj_own hh ha rfl (by rw[hl,hv])) hv' h
def BZ(X:K.In s.heap)(I:xb s.heap x dx C mA)(hg:Yb K C name=true)(hf:XZ K (.ref C) name=some (some (.ref f)))(ht:X1 K (.ref f)=true)(hv:mA name=none)(h:Q (.ref f,[.ref x]) s):Ra (Rh prog w) A (UV (.ref x) name pl) Q E s:=by obtain⟨od,J,hl⟩:=I.look;exact PySem.W.method_fn X J (Yl hg).1 (Yl hg).2 hf (beq_iff_eq.mp ht) (by show(Yg name od).map (·.isSome)=some false;rw[hl,hv];rfl) h
def Dr(X:K.In s.heap)(I:xb s.heap x dx C mA)(hs:XZ K (.ref C) "__setattr__"=some (some (.builtin "object.__setattr__")))(hp:Yd K C=true)(ht:Ym K C name=some none)(hh:Yc K C=true)(hw:PySem.Within mA ns)(hsz:ns.length<=v1)(h:∀h',xb h' x dx C (λy=>if y=name then some v else mA y)->RQ dx s.heap h'->Q () {s with heap:=h',toks:=s.toks+2}):Ra (Rh prog w) A (setAttr (.ref x) name v) Q E s:=by obtain⟨od,J,hl⟩:=I.look;refine PySem.W.set_plain X J hs (PySem.W.osa_open (s:={s with toks:=s.toks+1}) (r:=none) X J hp ht λb=>?_);obtain⟨cd,hc,hd'⟩:=Yq hh;have hx:s.heap.get? x=some ⟨.ref C,some dx,.plain,#[]⟩:=I.obj;refine Q6 (Q7 (Q6 (Q6 (wpAny_loadPart hx (Q6 (PySem.W.Looks.here (s:={s with toks:=s.toks+1}) (PySem.W.looks_clsIn X hc) ?_))))));rw[hd'];refine Q7 (a:=some dx) (Q6 (Q7 (Q6 ?_)));refine wpAny_nsSet1 (s:={s with toks:=s.toks+1}) I.ns λh' hn2 hs2=>?_;obtain⟨oD,esD,epD,hoD,hdD,hcD⟩:=hn2.count (PySem.Within.cons name v hw);refine Q6 (wpAny_lookBehind hoD (by rw[hdD];exact pastItsLine_dict (WU hcD (by rw[Vp];lia))) ?_);exact Q7 (h _ ⟨(hs2.2 _ (Ne.symm I.ne)).trans I.obj,hn2,I.ne⟩ hs2)
def BD(X:K.In s.heap)(hm:Ye K C=true)(hi:XZ K (.ref C) "__init__"=some (some (.ref f)))(hf:PySem.W.typeIn K (.ref f)=some (.type "function"))(h:SV (Rh prog w) (A.under (.builtin "type.__call__" ⟨.ref C::vs,kw⟩)) (.call (.ref f) ⟨.ref (s.heap.objs.size+1)::vs,kw⟩) (PySem.W.InitBack (s.heap.objs.size+1) R)
   {s with heap:=(s.heap.push X8).push (X9 C s.heap.objs.size)}):SV (Rh prog w) A (.call (.ref C) ⟨vs,kw⟩) R s:=by
 obtain⟨hh,g,d,t,os⟩:=s;exact PySem.W.make_core (PySem.W.makes_of X hm) (Yr X hi) (λself=>PySem.W.bind_fn X self hf) (.inl rfl) h
end
noncomputable def putF(f:Str)(v:V):List (Str×V)->List (Str×V)
 | []=>[(f,v)]
 |(g,x)::r=>if g=f then(g,v)::r else(g,x)::putF f v r
theorem ao(f g:Str)(v:V):∀fs:List (Str×V),(putF f v fs).lookup g=if g=f then some v else fs.lookup g
 | []=>by
   show List.lookup g [(f,v)]=_
   by_cases h:g=f
   .have hb:(g == f)=true:=beq_iff_eq.mpr h;simp only[List.lookup,hb,QW h]
   .have hb:(g == f)=false:=beq_eq_false_iff_ne.mpr h;simp only[List.lookup,hb,QV h]
 |(k,x)::r=>by
  have ih:=ao f g v r;rw[show putF f v ((k,x)::r)=(if k=f then(k,v)::r else(k,x)::putF f v r)from rfl]
  by_cases hk:k=f
  .rw[QW hk]
   by_cases h:g=k
   .have hb:(g == k)=true:=beq_iff_eq.mpr h;simp only[List.lookup,hb,QW (h.trans hk)]
   .have hb:(g == k)=false:=beq_eq_false_iff_ne.mpr h;simp only[List.lookup,hb,QV (λe:g=f=>h (e.trans hk.symm))]
  .rw[QV hk]
   by_cases h:g=k
   .have hb:(g == k)=true:=beq_iff_eq.mpr h;simp only[List.lookup,hb,QV (λe:g=f=>hk (h.symm.trans e))]
   .have hb:(g == k)=false:=beq_eq_false_iff_ne.mpr h;simp only[List.lookup,hb];exact ih
theorem lB(f:Str)(v:V):∀fs:List (Str×V),f∈(putF f v fs).map (·.1)/\∀g,g∈fs.map (·.1)->g∈(putF f v fs).map (·.1)
 | []=>⟨by simp[putF],λg h=>by simp at h⟩
 |(k,x)::r=>by
  obtain⟨i1,i2⟩:=lB f v r;rw[show putF f v ((k,x)::r)=(if k=f then(k,v)::r else(k,x)::putF f v r)from rfl]
  by_cases hk:k=f
  .rw[QW hk];subst hk;exact⟨by simp,λg h=>by simpa using h⟩
  .rw[QV hk];refine⟨?_,λg h=>?_⟩
   .rw[Vm];exact Vd _ i1
   .rw[Vm]at h ⊢
    rcases U8.mp h with e|e
    .exact U8.mpr (.inl e)
    .exact Vd _ (i2 g e)
theorem bw(f:Str)(v:V):∀fs:List (Str×V),(putF f v fs).length<=fs.length+1
 | []=>by simp[putF]
 |(k,x)::r=>by
  have ih:=bw f v r;rw[show putF f v ((k,x)::r)=(if k=f then(k,v)::r else(k,x)::putF f v r)from rfl]
  by_cases hk:k=f
  .rw[QW hk,Vp,Vp];lia
  .rw[QV hk,Vp,Vp];lia
def iR.some_of(r:iR (some v) o):∃u,o=some u/\aU v u:=by
 cases o with
 |none=>exact(show False from r).elim
 |some u=>exact⟨u,rfl,r⟩
def iR.none_of(r:iR none o):o=none:=by
 cases o with
 |none=>rfl
 |some u=>exact(show False from r).elim
def zP(r:aU v u):Yp u=true:=by
 cases v with
 |non=>cases(show u=Sf from r);rfl
 |bl b=>cases(show u=UG b from r);rfl
 |int i=>obtain⟨t,e⟩:=(show∃t,u=SM i t from r);cases e;rfl
 |str x=>obtain⟨t,e⟩:=(show∃t,u=SL x t from r);cases e;rfl
 |byt b=>obtain⟨t,e⟩:=(show∃t,u=Value.bytes b t from r);cases e;rfl
 |flt b=>obtain⟨t,e⟩:=(show∃t,u=Value.float b t from r);cases e;rfl
 |ref a=>cases(show u=Rj a from r);rfl
 |ty n=>cases(show u=Tz n from r);rfl
 |tok x t=>cases(show u=SL x t from r);rfl
section
def kI(hok:j2 P w H h)(e:H a=some (.ins C dx fs)):∃mA,xb h a dx C mA/\(∀f,iR (fs.lookup f) (mA f))/\PySem.Within mA (fs.map (·.1))/\fs.length<=1000/\H dx=some (.own a):=by obtain⟨d,z,ne,ob,mA,n,r,q⟩:=(show bC P w H h a (.ins C dx fs)from hok a _ e);exact⟨mA,⟨ob,n,ne⟩,r,q,z,d⟩
end
structure oA(K:Frag)(C:YC):Prop where
 pg:Yb K C Ss=true
 hd:Yc K C=true
 po:Yd K C=true
 sa:XZ K (.ref C) "__setattr__"=some (some (.builtin "object.__setattr__"))
def oA.get{K:Frag}{C:YC}(c:oA K C)(f:Str):Yb K C f=true:=c.pg
def bN(K:Frag)(C:YC)(f:Str):Prop:=XZ K (.ref C) f=some none
def bN.taker{K:Frag}{C:YC}{f:Str}(n:bN K C f):Ym K C f=some none:=by unfold Ym;rw[show XZ K (.ref C) f=some none from n];rfl
structure O7(K:Frag)(C:YC)(m:Str)(f:YC):Prop where
 at_:XZ K (.ref C) m=some (some (.ref f))
 fn:X1 K (.ref f)=true
 kp:X6 K (.ref f)=true
section
variable{X:Cx}{QQ:Q5}{σ:St}{H:Hp}{s:Rb}{a C dx:YC}{fs:List (Str×V)}{f:Str}{v:V}{A:Sd}{E:Q4}
def wu(I:aL X QQ σ H s)(e:H a=some (.ins C dx fs))(c:oA X.K C)(n:bN X.K C f)(l:fs.lookup f=some v)(h:∀u s',aL X QQ σ H s'->aU v u->Q u s'):Ra (Rh X.prog X.w) A (getAttr (.ref a) f b) Q E s:=by obtain⟨mA,O,r,_,_,_⟩:=kI I.hok e;obtain⟨u,hu,ru⟩:=iR.some_of (v:=v) (o:=mA f) (by rw[<-l];exact r f);exact Eb I.kIn O (c.get f) c.hd n hu (zP ru) (h u _ (I.tok _) ru)
def nU(I:aL X QQ σ H s)(e:H a=some (.ins C dx fs))(c:oA X.K C)(k:O7 X.K C m g)(l:fs.lookup m=none)(h:Q (.ref g,[.ref a]) s):Ra (Rh X.prog X.w) A (UV (.ref a) m pl) Q E s:=by obtain⟨mA,O,r,_,_,_⟩:=kI I.hok e;have hn:mA m=none:=iR.none_of (by rw[<-l];exact r m);exact BZ I.kIn O (c.get m) k.at_ k.fn hn h
def vA(I:aL X QQ σ H s)(e:H a=some (.ins C dx fs))(c:oA X.K C)(n:bN X.K C f)(hl:fs.length<1000)(ry:aU y u)(h:∀s',aL X QQ σ (upd H a (.ins C dx (putF f y fs))) s'->Q () s'):Ra (Rh X.prog X.w) A (setAttr (.ref a) f u) Q E s:=by
 obtain⟨mA,O,r,wi,_,ho⟩:=kI I.hok e;have hz:(fs.map (·.1)).length<=v1:=by rw[U6,Rf];lia
 refine Dr I.kIn O c.sa c.po n.taker c.hd wi hz λh' O' sb=>h _ ?_;have hd:∃o,h'.get? dx=some o:=let ⟨o,_,_,e',_⟩:=O'.ns;⟨o,e'⟩;refine I.write (x:=a) (e:=dx) (by rw[e];exact True.intro) (.inr ho) (λb q hb z=>(sb.2 b hb).trans z) hd ?_;refine⟨by rw[ak O.ne];exact ho,?_,O.ne,O'.obj,_,O'.ns,λg=>?_,λg hg=>?_⟩
 .have:=bw f y fs;lia
 .show iR ((putF f y fs).lookup g) (if g=f then some u else mA g);rw[ao]
  by_cases q:g=f
  .rw[QW q,QW q];exact ry
  .rw[QV q,QV q];exact r g
 .by_cases q:g=f
  .rw[q];exact(lB f y fs).1
  .refine(lB f y fs).2 g (wi g λz=>hg ?_);show(if g=f then some u else mA g)=none;rw[QV q];exact z
def aL.made(I:aL X QQ σ H s):aL X QQ σ (upd (upd H s.heap.objs.size (.own (s.heap.objs.size+1))) (s.heap.objs.size+1) (.ins C s.heap.objs.size [])) {s with heap:=(s.heap.push X8).push (X9 C s.heap.objs.size)}:=by
 have e1:(s.heap.push X8).get? s.heap.objs.size=some X8:=Re s.heap rfl;have e2:((s.heap.push X8).push (X9 C s.heap.objs.size)).get? (s.heap.objs.size+1)=some (X9 C s.heap.objs.size):=by
  have:=Re (s.heap.push X8) (o:=X9 C s.heap.objs.size) rfl
  rwa[Rz]at this
 have e3:(s.heap.push X8).Ns s.heap.objs.size (λ_=>none):=⟨X8,#[],_,e1,rfl,(λe he=>QZ he (by simp)),λ_=>rfl⟩;have I1:=I.laid (a:=s.heap.objs.size) (o:=.own (s.heap.objs.size+1)) (h':=s.heap.push X8) (t':=s.toks) (λb u q=>Q8 _ q) (WR _) ⟨_,e1⟩;refine I1.laid (a:=s.heap.objs.size+1) (o:=.ins C s.heap.objs.size []) (t':=s.toks) (λb u q=>Q8 _ q) (Xc (Rz _ _)) ?_;have ne:s.heap.objs.size≠s.heap.objs.size+1:=WS (WZ _);refine⟨by rw[ak ne,af],WT _,ne,e2,λ_=>none,(Heap.Ns1.of_empty e3).at λo q=>Q8 _ q,λ_=>True.intro,λy hy=>QZ rfl hy⟩
def EJ(hb:RK e f env (RH e env)=RH e env)(h:Ra (Rh prog w) A (RH e env) (λo s₁=>Ra (Rh prog w) A (getAttr o f true) Q E s₁) E s):Ra (Rh prog w) A (RH (.Attribute e f pos) env) Q E s:=
 Attribute_any_ h (by rw[arm_eval_Attribute,hb])
end
def ma(K:Frag)(ta tv:TE)(f:Str):TS:=λD σ H=>tv σ H λy H1=>ta σ H1 λx H2=>∃a C dx fs,x=.ref a/\H2 a=some (.ins C dx fs)/\oA K C/\bN K C f/\fs.length<1000/\
 D.nx σ (upd H2 a (.ins C dx (putF f y fs)))
section
def Kb(ha:PE X o ta)(hv:PE X value tv)(hs:S9 value (some (.Attribute o f pos')) pos.line X.env=pure false):PS X (.Assign [.Attribute o f pos'] value pos) (ma X.K ta tv f):=by intro QQ s σ H D I h;refine plainObj_wpAny_Assign_Attribute (bH (hv QQ s σ H _ I h) λu s1 ⟨y,H1,I1,ry,q⟩=>bH (ha QQ s1 σ H1 _ I1 q) λov s2 ⟨x,H2,I2,rx,a,C,dx,fs,ex,ea,c,n,l,q2⟩=>?_) hs;subst ex;obtain rfl:ov=Rj a:=rx;exact vA I2 ea c n l ry λs3 I3=>⟨σ,_,I3,q2⟩
end
section
variable{X:Cx}{QQ:Q5}{σ:St}{H:Hp}{s:Rb}{A:Sd}{E:Q4}{Q:Q4}{c:YB}{b:Bool}
inductive lK(K:Frag)(H:Hp):V->YB->Prop where
 |non:lK K H .non (.type "NoneType")
 |bl (x:Bool):lK K H (.bl x) (.type "bool")
 |int (i:Int):lK K H (.int i) (.type "int")
 |str (x:Str):lK K H (.str x) (.type "str")
 |flt (x:UInt64):lK K H (.flt x) (.type "float")
 |lst {a:YC} {xs:List V} (e:H a=some (.lst xs)):lK K H (.ref a) (.type "list")
 |frz {a:YC} {o:Obj} {xs:List V} (e:H a=some (.frz o (.lst xs))):lK K H (.ref a) (.type "list")
 |tup {a:YC} {xs:List V} (e:H a=some (.tup xs)):lK K H (.ref a) (.type "tuple")
 |dK {a:YC} {kvs:List (Key×V)} (e:H a=some (.dK kvs)):lK K H (.ref a) (.type "dict")
 |dT {a:YC} {kvs:List (List Key×V)} (e:H a=some (.dT kvs)):lK K H (.ref a) (.type "dict")
 |ins {a C dx:YC} {fs:List (Str×V)} (e:H a=some (.ins C dx fs)) (cl:oA K C) (ha:XZ K (.ref C) "__class__"=some (some (.builtin "object.__class__")))
   (hn:PySem.W.specialIn K (.builtin "object.__class__") "__get__"=some (some (.builtin "getset_descriptor.__get__"))) (htk:PySem.W.takesIn K (.builtin "object.__class__")=some true)
   (hm:PySem.W.mroIn K C (.type "object")=some true):lK K H (.ref a) (.ref C)
def zM(I:aL X QQ σ H s)(rx:aU x u)(ty:lK X.K H x t)(e:Yh X.K t c=some b)(h:∀tk,Q (.bool b) {s with toks:=tk}):Ra (Rh X.prog X.w) A (call (.builtin "isinstance") [u,c]) Q E s:=by
 cases ty with
 |non=>cases(show u=Sf from rx);exact X5 PySem.W.kitx_none I.kIn True.intro e (λz=>nomatch z) h
 |bl y=>cases(show u=UG y from rx);exact X5 PySem.W.kitx_bool I.kIn True.intro e (λz=>nomatch z) h
 |int i=>obtain⟨t,q⟩:=(show∃t,u=SM i t from rx);cases q;exact X5 PySem.W.kitx_int I.kIn True.intro e (λz=>nomatch z) h
 |str y=>obtain⟨t,q⟩:=(show∃t,u=SL y t from rx);cases q;exact X5 PySem.W.kitx_str I.kIn True.intro e (λz=>nomatch z) h
 |flt y=>obtain⟨t,q⟩:=(show∃t,u=Value.float y t from rx);cases q;exact X5 PySem.W.kitx_float I.kIn True.intro e (λz=>nomatch z) h
 | @lst a xs ea=>
   cases(show u=Rj a from rx);obtain⟨_,_,n,_,h1⟩:=(show bC X.prog X.w H s.heap a (.lst xs)from I.hok a _ ea);exact X5 Ys I.kIn ⟨_,h1,rfl⟩ e (λz=>nomatch z) h
 | @frz a ob xs ea=>
   cases(show u=Rj a from rx);obtain⟨_,_,_,n,_,h1⟩:=(show bC X.prog X.w H s.heap a (.frz ob (.lst xs))from I.hok a _ ea);exact X5 Ys I.kIn ⟨_,h1,rfl⟩ e (λz=>nomatch z) h
 | @tup a xs ea=>
   cases(show u=Rj a from rx);obtain⟨_,_,_,p⟩:=(show bC X.prog X.w H s.heap a (.tup xs)from I.hok a _ ea);obtain⟨o,h1,h2,_⟩:=p;exact X5 PySem.W.kitx_tuple I.kIn ⟨o,h1,h2⟩ e (λz=>nomatch z) h
 | @dK a kvs ea=>
   cases(show u=Rj a from rx);obtain⟨_,_,vs,_,p⟩:=(show bC X.prog X.w H s.heap a (.dK kvs)from I.hok a _ ea);obtain⟨o,es,ep,h1,h2,_⟩:=p;exact X5 Yt I.kIn ⟨o,h1,h2.1⟩ e (λz=>nomatch z) h
 | @dT a kvs ea=>
   cases(show u=Rj a from rx);obtain⟨_,_,xs,_,o,es,ep,h1,h2,_⟩:=(show bC X.prog X.w H s.heap a (.dT kvs)from I.hok a _ ea);exact X5 Yt I.kIn ⟨o,h1,h2.1⟩ e (λz=>nomatch z) h
 | @ins a C dx fs ea cl ha hn htk hm=>
   cases(show u=Rj a from rx);obtain⟨mA,O,_⟩:=kI I.hok ea;obtain⟨od,J,_⟩:=O.look;exact X5 (PySem.W.kitx_own (cl.get _) cl.hd ha hn htk hm) I.kIn J e (λz=>nomatch z) h
end
structure db(k:Nat)(A:Sd):Prop where
 hd:A.handled=none
 dp:A.depth+3*k+5<recursionLimit
 un:A.units+16*k+200<RM
def db.mono(r:db k A)(h:j<=k):db j A:=⟨r.hd,by have:=r.dp;lia,by have:=r.un;lia⟩
theorem db.deeper(r:db (k+1) A)(env:U4):db k (A.deeper env):=
 ⟨r.hd,by have:=r.dp;show A.depth+1+3*k+5<_;lia,by have:=r.un;show A.units+3+16*k+200<_;lia⟩
def wf{A:Sd}{C:YC}{us:List YB}{kw:List (Str×YB)}:(A.under (.builtin "type.__call__" ⟨.ref C::us,kw⟩)).depth=A.depth+1:=by
 first|rfl|simp[UR,Code.weight,Code.isCreation,Code.isGuard,Code.isCaller,Code.frames,UP,guardIds]
def wc{A:Sd}{C:YC}{us:List YB}{kw:List (Str×YB)}:(A.under (.builtin "type.__call__" ⟨.ref C::us,kw⟩)).units=A.units+1:=by
 first|rfl|simp[UR,Code.cUnits,Code.frames,UP]
def db.make(r:db (k+1) A)(C:YC)(us:List YB)(kw:List (Str×YB)):db k (A.under (.builtin "type.__call__" ⟨.ref C::us,kw⟩)):=
 ⟨r.hd,by have:=r.dp;rw[wf];lia,by have:=r.un;rw[wc];lia⟩
theorem db.depth(r:db k A):A.depth<recursionLimit:=by have:=r.dp;lia
theorem db.units(r:db k A):A.units+64<RM:=by have:=r.un;lia
def cw:TA:=λ_ H Q=>Q [] H
def bf(ta:TE)(tr:TA):TA:=λσ H Q=>ta σ H λx H1=>tr σ H1 λxs H2=>Q (x::xs) H2
section
def pan:PA X [] cw:=λ_ _ _ _ H Q I h=>Calls.spliced_nil ⟨[],H,I,.nil,h⟩
def pa_cons(ha:PE X e te)(hr:PA X es t)(hs:Rc (e::es) X.env=(false,RH e X.env)::Rc es X.env:=by rfl):PA X (e::es) (bf te t):=by intro pos QQ s σ H Q I h;rw[hs];show Ra _ _ (spliced ((false,RH e X.env)::RE pos (Rc es X.env))) _ _ s;refine Calls.spliced_cons (bH (ha QQ s σ H _ I h) λu s1 ⟨x,H1,I1,r1,q1⟩=>?_);exact bH (hr pos QQ s1 σ H1 _ I1 q1) λus s2 ⟨xs,H2,I2,r2,q2⟩=>⟨x::xs,H2,I2,.cons r1 r2,q2⟩
def yH(t:TA):TE:=λσ H Q=>t σ H λxs H1=>xs.length<=v1/\∀p,H1 p=none->Q (.ref p) (upd H1 p (.tup xs))
def qo(t:TA):TE:=λσ H Q=>t σ H λxs H1=>xs.length<=v1/\∀p,H1 p=none->Q (.ref p) (upd H1 p (.lst xs))
def ck{x1}(h:PA X es t):PE X (.Tuple es x1 pos) (yH t):=by intro QQ s σ H Q I hq;refine wpAny_Tuple_spliced (bH (h pos QQ s σ H _ I hq) λus s1 ⟨xs,H1,I1,r,z,q⟩=>⟨by rw[<-r.length];exact z,?_⟩);have hf:H1 s1.heap.objs.size=none:=I1.hok.fresh (WR _);refine⟨.ref s1.heap.objs.size,upd H1 s1.heap.objs.size (.tup xs),I1.laid (t':=s1.toks) (λb u e=>Q8 _ e) (WR _) ?_,rfl,q _ hf⟩;exact⟨z,us,r,⟨_,Re _ rfl,rfl,_,rfl⟩⟩
def bp(h:PA X es t):PE X (.List es pos) (qo t):=by intro QQ s σ H Q I hq;refine wpAny_List_spliced (bH (h pos QQ s σ H _ I hq) λus s1 ⟨xs,H1,I1,r,z,q⟩=>⟨by rw[<-r.length];exact z,?_⟩);have hf:H1 s1.heap.objs.size=none:=I1.hok.fresh (WR _);refine⟨.ref s1.heap.objs.size,upd H1 s1.heap.objs.size (.lst xs),I1.laid (t':=s1.toks) (λb u e=>Q8 _ e) (WR _) ?_,rfl,q _ hf⟩;exact⟨z,us,0,r,Re _ rfl⟩
end
abbrev Sp:=List V->Hp->VK->XK->Prop
abbrev CS:=List U4->Hp->Rb->XK->YB->Rb->Prop
structure xc(P:Rg)(w:Rk)(K:Frag)(mg:Q3)(QR:Rq)(A:Sd)(QS:List U4)(s:Rb)(H:Hp):Prop where
 frames:A.frames=some QS
 mod:Mod K mg QR
 bs:∀b o,QR.get? b=some o->s.heap.get? b=some o/\H b=none
 bsz:QR.objs.size<=s.heap.objs.size
 funs:s.heap.FunFrames QR QS
 frf:∀b∈x6 QS,H b=none
 hok:j2 P w H s.heap
 bare:TM s.gens
def CE(QS:List U4)(P:Rg)(w:Rk)(H:Hp)(s:Rb)(Q:VK)(u:YB)(s':Rb):Prop:=
 ∃v H',s'.os=s.os/\TM s'.gens/\Un (x6 QS) [] H H' s.heap s'.heap/\j2 P w H' s'.heap/\aU v u/\Q v H'
def CR(CX:CS)(QS:List U4)(P:Rg)(w:Rk)(H:Hp)(s:Rb)(Q:VK)(E:XK)(r:Result)(s':Rb):Prop:=
 match r with
 | .ok (.ret u)=>CE QS P w H s Q u s'
 | .ok _=>False
 | .error e=>CX QS H s E e s'
structure aX(P:Rg)(w:Rk)(K:Frag)(mg:Q3)(QR:Rq)(CX:CS)(k:Nat)(f:YC)(fd:Rn)(ps:List Str)(sp:Sp):Prop where
 len:∀vs H Q E,sp vs H Q E->vs.length=ps.length
 run:∀A QS s H args us vs Q E,db k A->xc P w K mg QR A QS s H->UQ s fd args (ps.zip us)->a9 vs us->sp vs H Q E->
  SV (Rh P w) A (.call (.ref f) args) (CR CX QS P w H s Q E) s
def aX.imp{P:Rg}{w:Rk}{K:Frag}{mg:Q3}{QR:Rq}{CX:CS}{k:Nat}{f:YC}{fd:Rn}{ps:List Str}{sp sp':Sp}(F:aX P w K mg QR CX k f fd ps sp)(h:∀vs H Q E,sp' vs H Q E->sp vs H Q E):aX P w K mg QR CX k f fd ps sp':=
 ⟨λvs H Q E q=>F.len vs H Q E (h _ _ _ _ q),λA QS s H args us vs Q E hr he hb hv hs=>F.run A QS s H args us vs Q E hr he hb hv (h _ _ _ _ hs)⟩
def xc.make{P:Rg}{w:Rk}{K:Frag}{mg:Q3}{QR:Rq}{A:Sd}{QS:List U4}{s:Rb}{H:Hp}(e:xc P w K mg QR A QS s H)(C:YC)(us:List YB)(kw:List (Str×YB)):xc P w K mg QR (A.under (.builtin "type.__call__" ⟨.ref C::us,kw⟩)) QS s H:=⟨by first|exact e.frames|(simpa[UR,Code.envs,UP,pushEnvs]using e.frames),e.mod,e.bs,e.bsz,e.funs,e.frf,e.hok,e.bare⟩
section
variable{X:Cx}{QQ:Q5}{σ:St}{H:Hp}{s s':Rb}
def aL.env0(I:aL X QQ σ H s):xc X.prog X.w X.K X.mg X.QR X.A X.stack s H:=
 ⟨I.ok.frames,I.ok.mod,I.bs,WU I.ok.bsz I.sz,I.stack,I.stkFree,I.hok,I.bare⟩
def aL.after(I:aL X QQ σ H s)(h:CE X.stack X.prog X.w H s Q u s'):EP X QQ σ Q u s':=by obtain⟨v,H',os,bare,un,hok,r,q⟩:=h;obtain⟨hh,g,d,t,os'⟩:=s';obtain rfl:os'=s.os:=os;exact⟨v,H',I.call (h':=hh) (g':=g) (d':=d) (t':=t) (ch:=[]) un hok bare (λb z=>QZ z (by simp)),r,q⟩
end
def AC(sp:Sp)(dvs:List V)(E:XK)(t:TA):TE:=λσ H Q=>t σ H λvs H1=>sp (vs++dvs) H1 Q E
def Az(C:YC)(sp:Sp)(dvs:List V)(E:XK)(t:TA):TE:=λσ H Q=>t σ H λvs H1=>∀x dx,H1 x=none->H1 dx=none->dx≠x->
 sp (.ref x::(vs++dvs)) (upd (upd H1 dx (.own x)) x (.ins C dx [])) (λv H2=>v=.non/\Q (.ref x) H2) E
def jS(K:Frag)(fd:Rn)(ps:List Str)(ds:List YB):Prop:=
 ∀s us,K.In s.heap->(us++ds).length=ps.length->UQ s fd ⟨us,[]⟩ (ps.zip (us++ds))
def jS.all{K:Frag}{fd:Rn}{ps:List Str}(h:∀us:List YB,us.length=ps.length->bindArgs fd ⟨us,[]⟩=pure (ps.zip us)):jS K fd ps []:=λs us _ hl=>by rw[Vx]at hl ⊢;exact .of_eq (h us hl)
def ou(CX:CS)(X:Cx)(E:XK):Prop:= ∀(QQ:Q5)(σ:St)(H:Hp)(s:Rb)(e:YB)(s':Rb),aL X QQ σ H s->CX X.stack H s E e s'->X.xe e s'
section
variable{X:Cx}{CX:CS}{k:Nat}{f C:YC}{fd:Rn}{ps:List Str}{sp:Sp}{dvs:List V}{ds:List YB}{E:XK}{x m:Str}{p pos apos:Uk}{e o:RU}{es:List RU}{t:TA}
def vJ{QQ:Q5}{σ:St}{H:Hp}{s:Rb}{Q:VK}{us:List YB}{vs:List V}(F:aX X.prog X.w X.K X.mg X.QR CX k f fd ps sp)(hr:db k X.A)(hb:jS X.K fd ps ds)(hd:a9 dvs ds)(hx:ou CX X E)(I:aL X QQ σ H s)(r:a9 vs us)(h:sp (vs++dvs) H Q E):Ra (Rh X.prog X.w) X.A (call (.ref f) us) (EP X QQ σ Q) X.xe s:=by
 have r2:a9 (vs++dvs) (us++ds):=r.append hd;have hl:(us++ds).length=ps.length:=by rw[<-r2.length];exact F.len _ _ _ _ h
 refine T8 (Sb (F.run X.A X.stack s H ⟨us,[]⟩ (us++ds) (vs++dvs) Q E hr I.env0 (hb s us I.kIn hl) r2 h) λr s' hq=>?_);cases r with
 |error e=>exact hx QQ σ H s e s' I hq
 |ok fl=>
  cases fl with
  |ret u=>exact I.after hq
  |next=>exact False.elim hq
  |brk=>exact False.elim hq
  |cont=>exact False.elim hq
def DF(F:aX X.prog X.w X.K X.mg X.QR CX k f fd ps sp)(hr:db k X.A)(hg:Gl X x)(hm:X.mg x=some (.ref f))(hk:X6 X.K (.ref f)=true)(hb:jS X.K fd ps ds)(hd:a9 dvs ds)(hx:ou CX X E)(ha:PA X (e::es) t)(hdb:(x == ("__debug__":Str))=false:=by decide)(he:Rc (e::es) X.env=(false,RH e X.env)::Rc es X.env:=by rfl)(hpl:(RE pos (Rc es X.env)).any (·.1)=false:=by rfl):PE X (.Call (.Name x p) (e::es) [] pos) (AC sp dvs E t):=by intro QQ s σ H Q I h;refine Sy (rN I hg hm ?_ hdb);refine Yn (h₀:=X.QR) I.ok.mod.kin hk (bH (ha pos QQ s σ H _ I h) λus s1 ⟨vs,H1,I1,r,q⟩=>⟨I1.kIn,?_⟩) he hpl;exact vJ F hr hb hd hx I1 r q
structure Mk(K:Frag)(C f:YC):Prop where
 makes:Ye K C=true
 init:XZ K (.ref C) "__init__"=some (some (.ref f))
 fn:X1 K (.ref f)=true
 kp:X6 K (.ref C)=true
def A2{QQ:Q5}{σ:St}{H:Hp}{s:Rb}{Q:VK}{us:List YB}{vs:List V}(M:Mk X.K C f)(F:aX X.prog X.w X.K X.mg X.QR CX k f fd ps sp)(hr:db (k+1) X.A)(hb:jS X.K fd ps ds)(hd:a9 dvs ds)(hx:ou CX X E)(I:aL X QQ σ H s)(r:a9 vs us)(h:∀x dx,H x=none->H dx=none->dx≠x->sp (.ref x::(vs++dvs)) (upd (upd H dx (.own x)) x (.ins C dx [])) (λv H2=>v=.non/\Q (.ref x) H2) E):Ra (Rh X.prog X.w) X.A (call (.ref C) us) (EP X QQ σ Q) X.xe s:=by
 have hq:=h (s.heap.objs.size+1) s.heap.objs.size (I.hok.fresh (WW _)) (I.hok.fresh (WR _)) (WS (WZ _));have I2:=aL.made (C:=C) I;have r2:a9 (V.ref (s.heap.objs.size+1)::(vs++dvs)) (Rj (s.heap.objs.size+1)::(us++ds)):=.cons rfl (r.append hd);have hl:(Rj (s.heap.objs.size+1)::us++ds).length=ps.length:=by have e:=r2.length;rw[F.len _ _ _ _ hq]at e;exact e.symm
 refine T8 (BD (f:=f) I.kIn M.makes M.init (beq_iff_eq.mp M.fn) (Sb (F.run _ X.stack _ _ ⟨Rj (s.heap.objs.size+1)::us,[]⟩ (Rj (s.heap.objs.size+1)::(us++ds)) _ _ E (hr.make C us [])
  (I2.env0.make C us []) (hb _ (Rj (s.heap.objs.size+1)::us) I2.kIn hl) r2 hq) λr s' hq'=>?_))
 cases r with
 |error e=>exact hx QQ σ _ _ e s' I2 hq'
 |ok fl=>
  cases fl with
  |ret u=>
   obtain⟨v,H',I3,rv,ev,q3⟩:=I2.after hq';subst ev;exact⟨rv,⟨V.ref (s.heap.objs.size+1),H',I3,rfl,q3⟩⟩
  |next=>exact False.elim hq'
  |brk=>exact False.elim hq'
  |cont=>exact False.elim hq'
def DB(M:Mk X.K C f)(F:aX X.prog X.w X.K X.mg X.QR CX k f fd ps sp)(hr:db (k+1) X.A)(hg:Gl X x)(hm:X.mg x=some (.ref C))(hb:jS X.K fd ps ds)(hd:a9 dvs ds)(hx:ou CX X E)(ha:PA X (e::es) t)(hdb:(x == ("__debug__":Str))=false:=by decide)(he:Rc (e::es) X.env=(false,RH e X.env)::Rc es X.env:=by rfl)(hpl:(RE pos (Rc es X.env)).any (·.1)=false:=by rfl):PE X (.Call (.Name x p) (e::es) [] pos) (Az C sp dvs E t):=by intro QQ s σ H Q I h;refine Sy (rN I hg hm ?_ hdb);refine Yn (h₀:=X.QR) I.ok.mod.kin M.kp (bH (ha pos QQ s σ H _ I h) λus s1 ⟨vs,H1,I1,r,q⟩=>⟨I1.kIn,?_⟩) he hpl;exact A2 M F hr hb hd hx I1 r q
end
structure aC(N P:List Str)(sc:Tn):Prop where
 kind:sc.kind=.function
 co:sc.isCoroutine=false
 gen:sc.isGenerator=false
 nd:N.Nodup
 pre:N.take P.length=P
 par:∀x∈P,sc.names.lookup x=some .local\/sc.names.lookup x=some .cell
 nofree:∀y∈sc.names,y.2≠.free
theorem qc{kindOf:Str->Option NameKind}{x:Str}:∀{binds:List (Str×YB)}{m:Q3},(∀v,(x,v)∉binds)->U0 kindOf binds m x=m x
 | [],_,_=>rfl
 |(n,v)::r,m,h=>by
  unfold U0;rw[qc λw hw=>h w (Vd _ hw)];split
  .have:x≠n:=by rintro rfl;exact h v Vf
   simp[this]
  .rfl
theorem qg{kindOf:Str->Option NameKind}{x:Str}:∀{binds:List (Str×YB)}{m:Q3},(∀v,(x,v)∉binds)->U1 kindOf binds m x=m x
 | [],_,_=>rfl
 |(n,v)::r,m,h=>by
  unfold U1;rw[qg λw hw=>h w (Vd _ hw)];split
  .rfl
  .have:x≠n:=by rintro rfl;exact h v Vf
   simp[this]
theorem qd{kindOf:Str->Option NameKind}{x:Str}{v:YB}:∀{P:List Str}{vs:List YB}{i:Nat}{m:Q3},P.Nodup->P[i]? =some x->vs[i]? =some v->kindOf x=some .local->U0 kindOf (P.zip vs) m x=some v
 | [],_,_,_,_,h,_,_=>by simp at h
 |_::_,[],_,_,_,_,h,_=>by simp at h
 |p::P,w::vs,0,m,nd,h1,h2,hk=>by simp at h1 h2;subst h1;subst h2;show U0 kindOf ((p,w)::P.zip vs) m p=_;unfold U0;rw[qc λv hv=>(VB.mp nd).1 (Wb hv).1,QW hk];simp
 |p::P,w::vs,i+1,m,nd,h1,h2,hk=>by show U0 kindOf ((p,w)::P.zip vs) m x=_;unfold U0;exact qd (i:=i) (VB.mp nd).2 (by simpa using h1) (by simpa using h2) hk
theorem qh{kindOf:Str->Option NameKind}{x:Str}{v:YB}:∀{P:List Str}{vs:List YB}{i:Nat}{m:Q3},P.Nodup->P[i]? =some x->vs[i]? =some v->kindOf x≠some .local->U1 kindOf (P.zip vs) m x=some v
 | [],_,_,_,_,h,_,_=>by simp at h
 |_::_,[],_,_,_,_,h,_=>by simp at h
 |p::P,w::vs,0,m,nd,h1,h2,hk=>by simp at h1 h2;subst h1;subst h2;show U1 kindOf ((p,w)::P.zip vs) m p=_;unfold U1;rw[qg λv hv=>(VB.mp nd).1 (Wb hv).1,QV hk];simp
 |p::P,w::vs,i+1,m,nd,h1,h2,hk=>by show U1 kindOf ((p,w)::P.zip vs) m x=_;unfold U1;exact qh (i:=i) (VB.mp nd).2 (by simpa using h1) (by simpa using h2) hk
noncomputable def start(N:List Str)(vs:List V):St:=vs.map some++List.replicate (N.length - vs.length) none
noncomputable def wL(CX:CS)(P:Rg)(w:Rk)(K:Frag)(mg:Q3)(QR:Rq)(N:List Str)(qual:Str)(scope:Tn)(f:YC)(cd:YB)(A:Sd)(QS:List U4)(s:Rb)(H:Hp)(E:XK):Cx where
 prog:=P
 w:=w
 K:=K
 mg:=mg
 QR:=QR
 A:=A.deeper (TQ qual scope s.heap.objs.size f cd)
 N:=N
 s₀:=s
 H₀:=H
 env:=TQ qual scope s.heap.objs.size f cd
 QS:=QS
 stack:=TQ qual scope s.heap.objs.size f cd::QS
 ex:=[]
 calm:=true
 fn:=λ_=>true
 pn:=[]
 xe:=λe s'=>Ra (Rh P w) (A.deeper (TQ qual scope s.heap.objs.size f cd)) (leaving (TQ qual scope s.heap.objs.size f cd) e) (λ_ s''=>CX QS H s E e s'') (λe' s''=>CX QS H s E e' s'') s'
def uL{sc:Tn}{n:Nat}{x:Str}(h:sc.names.lookup x=some .cell):∃c,(cellsFrom n sc.names []).lookup x=some c:=by have q:=Yu sc.names n [] (.inl h);exact Option.isSome_iff_exists.mp q
def zN{CX:CS}{P:Rg}{w:Rk}{K:Frag}{mg:Q3}{QR:Rq}{N ps:List Str}{qual:Str}{scope:Tn}{f:YC}{cd:YB}{A:Sd}{QS:List U4}{s s1:Rb}{H:Hp}{E:XK}{us:List YB}{vs:List V}(S:aC N ps scope)(hd:A.handled=none)(e0:xc P w K mg QR A QS s H)(hl:vs.length=ps.length)(r:a9 vs us)(x:InCallC s s.heap.objs.size (U0 (TQ qual scope s.heap.objs.size f cd).kindOf (ps.zip us) λ_=>none) (cellsFrom (s.heap.objs.size+1) scope.names []) (U1 (TQ qual scope s.heap.objs.size f cd).kindOf (ps.zip us) λ_=>none) s1):aL (wL CX P w K mg QR N qual scope f cd A QS s H E) [] (start N vs) H s1:=by
 have hpl:ps.length<=N.length:=by have:=Q2 List.length S.pre;rw[Vs]at this;lia
 obtain⟨h1,tk,rfl,hk⟩:=x.done;have noA:∀b:YC,b∉(wL CX P w K mg QR N qual scope f cd A QS s H E).ex:=λb z=>QZ (show b∈([]:List YC)from z) (by simp);refine⟨⟨e0.mod,S.kind,rfl,rfl,WR _,λy z c h1 h2=>?_,λy hy=>?_,λy c _ h=>?_,λ_=>hd,Around.frames_deeper e0.frames,.inr ⟨rfl,rfl⟩,λb z=>QZ z (noA b),e0.bs,e0.bsz,λb _ _=>noA b,λb z=>QZ z (noA b),e0.funs,e0.frf⟩,
  rfl,e0.bare,Un.kept hk,⟨_,x.toInCall.ns,λi y v h1 h2 h3=>?_⟩,λy c h=>⟨_,x.cell y c h⟩,e0.hok.fresh (WR _),λy c h=>?_,λp hp=>QZ (show p∈([]:Q5)from hp) (by simp),e0.hok.kept hk,?_⟩
 .exact name_of_addr x.apart (PySem.mem_of_lookup h1) (PySem.mem_of_lookup h2)
 .have hy:scope.names.lookup y=some .cell\/scope.names.lookup y=some .free:=hy
  rcases hy with hy|hy
  .exact uL hy
  .exact QZ rfl (S.nofree _ (PySem.mem_of_lookup hy))
 .exact Xb (x.above y c (PySem.mem_of_lookup h))
 .have hi:i<vs.length:=by
   unfold start at h2
   by_cases hi:i<vs.length
   .exact hi
   .rw[Wc (by simpa using hi)]at h2;rw[Wz]at h2;split at h2<;>cases h2
  have ha:vs[i]? =some v:=by
   unfold start at h2;rw[VH (by simpa using hi),Va]at h2;cases e:vs[i]? with
   |none=>rw[e]at h2;cases h2
   |some a=>rw[e]at h2;cases h2;rfl
  obtain⟨u,hu,rv⟩:=r.get ha;have hp:ps[i]? =some y:=by rw[<-S.pre,WA (by lia)];exact h1
  have ndP:ps.Nodup:=by rw[<-S.pre];exact S.nd.sublist (WB _ _)
  refine⟨u,rv,?_⟩
  rcases S.par y (Vn hp)with k|k
  .exact .inl ⟨k,qd ndP hp hu k⟩
  .obtain⟨c,e⟩:=uL (n:=s.heap.objs.size+1) k;refine .inr ⟨.inl k,c,e,?_⟩;have q:=x.cell y c e;rw[qh ndP hp hu (by show scope.names.lookup y≠_;rw[k];decide)]at q;exact q
 .exact e0.hok.fresh (Xb (x.above y c (PySem.mem_of_lookup h)))
 .unfold start;show _=N.length;rw[Ve,U6,WD];lia
def Ov{CX:CS}{P:Rg}{w:Rk}{K:Frag}{mg:Q3}{QR:Rq}{k:Nat}{f:YC}{name qual:Str}{params:Arguments}{body:List Rt}{scope:Tn}{dV kV doc pm cdv ct oc:YB}{an od:Option YC}{osl:Array (Option YB)}{N ps:List Str}{sp:Sp}(lk:K.lookup f=some ⟨oc,od,.func (X7 name qual params body scope dV kV doc pm an cdv ct),osl⟩)(hcd:Yi K cdv qual=true)(S:aC N ps scope)(len:∀vs H Q E,sp vs H Q E->vs.length=ps.length)(hbody:∀A QS s H vs Q E,db k (A.deeper (TQ qual scope s.heap.objs.size f cdv))->sp vs H Q E->
   ∃t,w9 (wL CX P w K mg QR N qual scope f cdv A QS s H E) body t/\t {nx:=λ_ H'=>Q .non H',rt:=Q} (start N vs) H):aX P w K mg QR CX (k+1) f (X7 name qual params body scope dV kV doc pm an cdv ct) ps sp:=by
 refine⟨len,λA QS s H args us vs Q E hr e0 hb r hsp=>?_⟩;have hl:=len _ _ _ _ hsp;have KX:K.In s.heap:=e0.mod.kin.keeps λb o e=>(e0.bs b o e).1;have lim:s.heap.NoLimit:=e0.mod.nolimit.keeps λb o e=>(e0.bs b o e).1;have hkind:∀y∈ps.zip us,scope.names.lookup y.1=some .local\/(scope.names.lookup y.1=some .cell/\((cellsFrom (s.heap.objs.size+1) scope.names []).lookup y.1).isSome=true):=λ⟨n,v⟩ hy=>by
  rcases S.par n (Wb hy).1 with q|q
  .exact .inl q
  .exact .inr ⟨q,Yu _ _ _ (.inl q)⟩
 refine codeAny_call_function hr.depth (KX _ _ lk) rfl S.co S.gen rfl (PySem.W.codeRec_of KX hcd) (hb _ _ _ _ ?_);refine wpAny_newFunctionEnv_cells S.kind hkind λenv he s1 x=>?_;subst he;refine⟨lim.keeps x.toInCall.keep,codeAny_func ?_⟩;obtain⟨t,ht,hq⟩:=hbody A QS s H vs Q E (hr.deeper _) hsp;have I:aL (wL CX P w K mg QR N qual scope f cdv A QS s H E) [] (start N vs) H s1:=zN S hr.hd e0 hl r x;refine RT (ht [] s1 (start N vs) H _ I hq) (λfl s' hs=>?_) λe s' hs=>hs;have fin:∀{σ':St}{H':Hp}{v:V}{u:YB},aL (wL CX P w K mg QR N qual scope f cdv A QS s H E) [] σ' H' s'->aU v u->Q v H'->CE QS P w H s Q u s':=
  λ{σ' H' v u} J rv q=>⟨v,H',J.os,J.bare,J.QR,J.hok,rv,q⟩
 cases fl with
 |ret u=>
  obtain⟨v,σ',H',J,rv,q⟩:=hs;exact fin J rv q
 |next=>
  obtain⟨σ',H',J,q⟩:=hs;exact fin (v:=V.non) (u:=Sf) J rfl q
 |brk=>
  obtain⟨_,_,_,q⟩:=hs;exact False.elim q
 |cont=>
  obtain⟨_,_,_,q⟩:=hs;exact False.elim q
section
variable{X:Cx}{x:Str}{p pos:Uk}{e:RU}{es:List RU}{t:TA}{id T:String}{r:List V->Hp->VK->Prop}
def tCB(r:List V->Hp->VK->Prop)(t:TA):TE:=λσ H Q=>t σ H λvs H1=>r vs H1 Q
def Bq(hc:bq X (.builtin id) r)(hg:Gl X x)(hm:X.mg x=none)(hv:Rp x=some (.builtin id))(ha:PA X (e::es) t)(hn:x≠"__name__":=by decide)(hdb:(x == ("__debug__":Str))=false:=by decide)(he:Rc (e::es) X.env=(false,RH e X.env)::Rc es X.env:=by rfl)(hpl:(RE pos (Rc es X.env)).any (·.1)=false:=by rfl):PE X (.Call (.Name x p) (e::es) [] pos) (tCB r t):=by intro QQ s σ H Q I h;refine Sy (j0 I hg hm hv ?_ hn hdb);exact PyProof.Rows.callWith_builtin1 (bH (ha pos QQ s σ H _ I h) λus s1 ⟨vs,H1,I1,r1,q1⟩=>hc QQ s1 σ H1 vs us Q I1 r1 q1) he hpl
def zd(hc:bq X (.type T) r)(hg:Gl X x)(hm:X.mg x=none)(hv:Rp x=some (.type T))(ha:PA X (e::es) t)(hn:x≠"__name__":=by decide)(hdb:(x == ("__debug__":Str))=false:=by decide)(he:Rc (e::es) X.env=(false,RH e X.env)::Rc es X.env:=by rfl)(hpl:(RE pos (Rc es X.env)).any (·.1)=false:=by rfl):PE X (.Call (.Name x p) (e::es) [] pos) (tCB r t):=by intro QQ s σ H Q I h;refine Sy (j0 I hg hm hv ?_ hn hdb);exact PyProof.Rows.callWith_type1 (bH (ha pos QQ s σ H _ I h) λus s1 ⟨vs,H1,I1,r1,q1⟩=>hc QQ s1 σ H1 vs us Q I1 r1 q1) he hpl
end
end L2
namespace HT
open PySem PyProof.Rows
section
def sIx(n d:Nat):Option Int->Nat
 |none=>d
 |some v=>if v<0 then(v+(n:Int)).toNat else min v.toNat n
def sIx_none(n d:Nat):sIx n d none=d:=rfl
def sIx_nat(n d k:Nat):sIx n d (some (k:Int))=min k n:=by show(if(k:Int)<0 then((k:Int)+(n:Int)).toNat else min (k:Int).toNat n)=min k n;rw[QV (by lia),Xk]
def sIx_le(n d:Nat)(hd:d<=n)(o:Option Int):sIx n d o<=n:=by
 cases o with
 |none=>exact hd
 |some v=>
  show(if v<0 then(v+(n:Int)).toNat else min v.toNat n)<=n
  by_cases hv:v<0
  .rw[QW hv];lia
  .rw[QV hv];exact Nat.min_le_right _ _
end
end HT
namespace L2
open PySem PySem.Spec PyProof.Rows
abbrev TO:=St->Hp->(Option Int->Hp->Prop)->Prop
def PO(X:Cx)(e:Option RU)(t:TO):Prop:=
 ∀(QQ:Q5)(s:Rb)(σ:St)(H:Hp)(Q:Option Int->Hp->Prop),aL X QQ σ H s->t σ H Q->
  Ra (Rh X.prog X.w) X.A (evalPart e X.env) (λu s'=>∃o H',aL X QQ σ H' s'/\U2 u o/\Q o H') X.xe s
def xi:TO:=λ_ H Q=>Q none H
def nR:∀{us:List YB},a9 (ns.map V.int) us->Uv us ns:=by
 induction ns with
 |nil=>intro us r;rw[V0]at r;cases r;exact .nil
 |cons n ns ih=>
  intro us r;rw[Vm]at r;cases r with
  |cons r1 r2=>
   obtain⟨t,e⟩:=r1;subst e;exact .cons n t (ih r2)
section
variable{X:Cx}{e:RU}{te:TE}{lo hi:Option RU}{tl th:TO}{pos p2:Uk}
def iD:PO X none xi:=by intro QQ s σ H Q I h;rw[evalPart_none];exact Q7 ⟨none,H,I,.none,h⟩
def Aq(X:Cx)(r:V->Option Int->Option Int->Hp->VK->Prop):Prop:=
 ∀(QQ:Q5)(s:Rb)(σ:St)(H:Hp)(x:V)(v vl vu:YB)(lo hi:Option Int)(sl:YC)(Q:VK),aL X QQ σ H s->aU x v->s.heap.IsSliceOf sl vl vu .none->U2 vl lo->U2 vu hi->r x lo hi H Q->
  ∃T id,Tt (.type T) "__getitem__"=pure (some (.builtin id))/\s.TypeIs v T/\Ra (Rh X.prog X.w) X.A (UL v (.ref sl)) (EP X QQ σ Q) X.xe s
def Aq.or(h:Aq X r)(h':Aq X r'):Aq X (λx lo hi H Q=>r x lo hi H Q\/r' x lo hi H Q):=by
 intro QQ s σ H x v vl vu lo hi sl Q I rx hs pl pu q
 rcases q with q|q
 .exact h QQ s σ H x v vl vu lo hi sl Q I rx hs pl pu q
 .exact h' QQ s σ H x v vl vu lo hi sl Q I rx hs pl pu q
def tSl(r:V->Option Int->Option Int->Hp->VK->Prop)(te:TE)(tl th:TO):TE:=λσ H Q=>te σ H λx H1=>tl σ H1 λl H2=>th σ H2 λu H3=>r x l u H3 Q
def Bm(hr:Aq X r)(he:PE X e te)(hl:PO X lo tl)(hu:PO X hi th):PE X (.Subscript e (.Slice lo hi none p2) pos) (tSl r te tl th):=by intro QQ s σ H Q I h;refine Subscript_ (bH (he QQ s σ H _ I h) λv s1 ⟨x,H1,I1,r1,q1⟩=>?_);refine wpAny_Slice (bH (hl QQ s1 σ H1 _ I1 q1) λvl s2 ⟨l,H2,I2,pl,q2⟩=>bH (hu QQ s2 σ H2 _ I2 q2) λvu s3 ⟨u,H3,I3,pu,q3⟩=>?_);rw[evalPart_none];refine Q7 ?_;have I4:aL X QQ σ H3 {s3 with heap:=s3.heap.push {cls:=.type "slice",data:=.fields #[vl,vu,.none]}}:=I3.kept (t':=s3.toks) λb ob q=>Q8 _ q;obtain⟨T,id,hT,ht,hg⟩:=hr QQ {s3 with heap:=s3.heap.push {cls:=.type "slice",data:=.fields #[vl,vu,.none]}} σ H3 x v vl vu l u s3.heap.objs.size Q I4 r1 (Heap.IsSliceOf.new ..) pl pu q3;show Ra (Rh X.prog X.w) X.A (Uy e (.Slice lo hi none p2) v (.ref s3.heap.objs.size)) (EP X QQ σ Q) X.xe {s3 with heap:=s3.heap.push {cls:=.type "slice",data:=.fields #[vl,vu,.none]}};exact tail_any (ops:=[.ref s3.heap.objs.size,v]) ht hT hg (by with_unfolding_all rfl)
noncomputable def oX(xs:List V)(lo hi:Option Int):List V:=(xs.drop (HT.sIx xs.length 0 lo)).take (HT.sIx xs.length xs.length hi - HT.sIx xs.length 0 lo)
def uE(xs:List V)(lo hi:Option Int):(oX xs lo hi).length<=xs.length:=by unfold oX;rw[Vs,V1];lia
end
noncomputable def ixN(n:Nat)(i:Int):Option Nat:=if 0<=i then(if i<n then some i.toNat else none)else if -(n:Int)<=i then some (i+n).toNat else none
noncomputable def atI{α:Type}(xs:List α)(i:Int):Option α:=(ixN xs.length i).bind λj=>xs[j]?
def xT(h:ixN n i=some j):seqIndex? i n=some j/\j<n/\-(n:Int)<=i/\i<n:=by
 unfold ixN at h
 by_cases h0:0<=i
 .rw[QW h0]at h
  by_cases h1:i<n
  .rw[QW h1]at h;have e:i.toNat=j:=Q0 h;exact⟨by rw[seqIndex_of h0 h1,e],by lia,by lia,h1⟩
  .rw[QV h1]at h;cases h
 .rw[QV h0]at h
  by_cases h1: -(n:Int)<=i
  .rw[QW h1]at h;have e:(i+n).toNat=j:=Q0 h;exact⟨by rw[UI (by lia) h1,e],by lia,h1,by lia⟩
  .rw[QV h1]at h;cases h
def sK{α:Type}{xs:List α}{i:Int}{v:α}(h:atI xs i=some v):∃j,seqIndex? i xs.length=some j/\xs[j]? =some v/\j<xs.length/\-(xs.length:Int)<=i/\i<xs.length:=by
 unfold atI at h;cases e:ixN xs.length i with
 |none=>rw[e]at h;cases h
 |some j=>
  rw[e]at h;obtain⟨h1,h2,h3,h4⟩:=xT e;exact⟨j,h1,h,h2,h3,h4⟩
def bx{α:Type}{xs:List α}{j:Nat}{v:α}(h:xs[j]? =some v):atI xs (j:Int)=some v:=by
 have hj:j<xs.length:=(Vi.mp h).1;have e:ixN xs.length (j:Int)=some j:=by unfold ixN;rw[QW (by lia),QW (by lia)];simp
 unfold atI;rw[e];exact h
def CD(xs:List α)(v:α):atI (xs++[v]) (-1)=some v:=by
 have hl:(xs++[v]).length=xs.length+1:=by simp
 have e:ixN (xs++[v]).length (-1)=some xs.length:=by unfold ixN;rw[hl,QV (by decide),QW (by lia)];congr 1;lia
 unfold atI;rw[e];show(xs++[v])[xs.length]? =some v;simp
def sO(b:RU):Prop:= ∀o i,Uq b false o i=operate [o,i] (UL o i)
def yy(X:Cx)(r:R2):Prop:=
 ∀(value slice:RU)(QQ:Q5)(s:Rb)(σ:St)(H:Hp)(x y:V)(v u:YB)(Q:VK),aL X QQ σ H s->aU x v->aU y u->r x y H Q->
  Uq slice false v u=operate [v,u] (UL v u)->Ra (Rh X.prog X.w) X.A (Uy value slice v u) (EP X QQ σ Q) X.xe s
def sQ(X:Cx)(id:String)(r:V->List V->Hp->VK->Prop):Prop:=
 ∀(QQ:Q5)(s:Rb)(σ:St)(H:Hp)(x:V)(xs:List V)(v:YB)(us:List YB)(Q:VK),aL X QQ σ H s->aU x v->a9 xs us->r x xs H Q->
  Ra (Rh X.prog X.w) X.A (call (.builtin id) (v::us)) (EP X QQ σ Q) X.xe s
section
variable{X:Cx}
def yy.or(h:yy X r)(h':yy X r'):yy X (λx y H Q=>r x y H Q\/r' x y H Q):=by
 intro value slice QQ s σ H x y v u Q I rx ry q hs
 rcases q with q|q
 .exact h value slice QQ s σ H x y v u Q I rx ry q hs
 .exact h' value slice QQ s σ H x y v u Q I rx ry q hs
def NU(hr:yy X r)(ha:PE X a ta)(hb:PE X b tb)(hs:sO b):PE X (.Subscript a b pos) (Pb r ta tb):=by intro QQ s σ H Q I h;exact Subscript_ (Lm ha hb I h λv u s2 x y H2 I2 rx ry q=>hr a b QQ s2 σ H2 x y v u Q I2 rx ry q (hs _ _))
def NS(K:Frag):R2:=λx y H Q=>∃p xs i v,x=.ref p/\y=.int i/\aN K H p xs/\atI xs i=some v/\Q v H
def NQ(K:Frag):R2:=λx y H Q=>∃p xs i v,x=.ref p/\y=.int i/\cY K H p xs/\atI xs i=some v/\Q v H
def NR:R2:=λx y H Q=>∃z i c,x=.str z/\y=.int i/\z.length<=v1/\atI z.cps.toList i=some c/\Q (.str ⟨#[c]⟩) H
def DZ:yy X (NS X.K):=by
 intro value slice QQ s σ H x y v u Q I rx ry h hs;obtain⟨p,xs,i,z,rfl,rfl,hq,he,q⟩:=h;cases rx;obtain⟨t,rfl⟩:=ry;obtain⟨its,r,pl,hz⟩:=I.list hq;obtain⟨j,h1,h2,h3,h4,h5⟩:=sK he;obtain⟨w,ew,rw'⟩:=r.get h2;have hl:=r.length;have hn:=jZ;have fin:EP X QQ σ Q w s:=⟨z,H,I,rw',q⟩
 by_cases h0:0<=i
 .have hj:i.toNat=j:=by rw[seqIndex_of h0 h5]at h1;exact Q0 h1
  exact item_listR pl.isList h0 (by lia) (by rw[hj];simpa using ew) fin hs
 .have hj:(i+(its.toArray.size:Int)).toNat=j:=by rw[UI (by lia) h4]at h1;rw[Vc,<-hl];exact Q0 h1
  exact T9 (x:=w) pl.isList.typeIs slot_list_getitem.lookup
   (wpAny_getItem_list_neg (Q:=λr s'=>r=w/\EP X QQ σ Q r s') pl.isList (by lia) (by rw[Vc]<;>lia) (by lia) (by rw[hj];simpa using ew) ⟨rfl,fin⟩) hs
def KN:yy X (NQ X.K):=by
 intro value slice QQ s σ H x y v u Q I rx ry h hs;obtain⟨p,xs,i,z,rfl,rfl,hq,he,q⟩:=h;cases rx;obtain⟨t,rfl⟩:=ry;obtain⟨its,r,pl,hz⟩:=I.tuple hq;obtain⟨j,h1,h2,h3,h4,h5⟩:=sK he;obtain⟨w,ew,rw'⟩:=r.get h2;have hl:=r.length;have hn:=jZ;have fin:EP X QQ σ Q w s:=⟨z,H,I,rw',q⟩;exact T9 (x:=w) pl.typeIs slot_tuple_getitem.lookup
  (getItem_tuple (j:=j) (Q:=λr s'=>r=w/\EP X QQ σ Q r s') pl (by lia) (by lia) (by rw[Vc,<-hl];exact h1) (by simpa using ew) ⟨rfl,fin⟩) hs
def KO:yy X NR:=by
 intro value slice QQ s σ H x y v u Q I rx ry h hs;obtain⟨z,i,c,rfl,rfl,hz,he,q⟩:=h;obtain⟨t,rfl⟩:=rx;obtain⟨t',rfl⟩:=ry;obtain⟨j,h1,h2,h3,h4,h5⟩:=sK he;have hl:z.cps.toList.length=z.length:=by simp[Str.length]
 rw[hl]at h1 h4 h5;have hn:=jZ;exact tail_any (Tu s z t) slot_str_getitem.lookup (getItem_str (c:=c) (by
  have e1:decide (i< -(2 ^ 63:Int))=false:=QU (by lia);have e2:decide (i≥2 ^ 63)=false:=QU (by lia);rw[e1,e2,XE]) (by rw[h1];simpa using h2) ⟨.str ⟨#[c]⟩,H,I.tok _,⟨_,rfl⟩,q⟩) hs
def rIx(K:Frag):R2:=λx y H Q=>NS K x y H Q\/NQ K x y H Q\/NR x y H Q
def KP:yy X (rIx X.K):=DZ.or (KN.or KO)
def wb(its:List YB)(n j:Nat)(u:YB):R7 (·.setIfInBounds j u) {cls:=.type "list",data:=.seq its.toArray n}={cls:=.type "list",data:=.seq (its.set j u).toArray n}:=by simp[R7]
theorem aL.lst{QQ:Q5}{σ:St}{H:Hp}{s:Rb}{p:YC}{xs:List V}(I:aL X QQ σ H s)(h:H p=some (.lst xs)):∃its n,a9 xs its/\s.heap.get? p=some {cls:=.type "list",data:=.seq its.toArray n}/\xs.length<=v1:=by obtain⟨z,its,n,r,e⟩:=I.hok p _ h;exact⟨its,n,r,e,z⟩
def aL.lstUpd{QQ:Q5}{σ:St}{H:Hp}{s:Rb}{p:YC}{xs ys:List V}{its its':List YB}{n n':Nat}{f:Obj->Obj}(I:aL X QQ σ H s)(h:H p=some (.lst xs))(ho:s.heap.get? p=some {cls:=.type "list",data:=.seq its.toArray n})(hf:f {cls:=.type "list",data:=.seq its.toArray n}={cls:=.type "list",data:=.seq its'.toArray n'})(r:a9 ys its')(hz:ys.length<=v1)(t:Nat):aL X QQ σ (upd H p (.lst ys)) {s with heap:=s.heap.update p f,toks:=t}:=by
 have e:(s.heap.update p f).get? p=some {cls:=.type "list",data:=.seq its'.toArray n'}:=by rw[Si f ho (by rw[hf]<;>rfl),hf]
 refine I.write (x:=p) (e:=p) (by rw[h];trivial) (.inl rfl) (λb u hb q=>(Sc _ _ (Ne.symm hb)).trans q) ⟨_,e⟩ ?_;exact⟨hz,its',n',r,e⟩
def A7:V->V->V->Hp->(Hp->Prop)->Prop:=λo i v H Q=>∃p xs k j,o=.ref p/\i=.int k/\H p=some (.lst xs)/\ixN xs.length k=some j/\Q (upd H p (.lst (xs.set j v)))
def tM:O3 X A7:=by
 intro QQ s σ H o i v ov iv u Q I ro ri rv h;obtain⟨p,xs,k,j,rfl,rfl,hp,hj,q⟩:=h;cases ro;obtain⟨t,rfl⟩:=ri;obtain⟨its,n,r,ho,hz⟩:=I.lst hp;obtain⟨h1,h2,h3,h4⟩:=xT hj;have hl:=r.length;have hn:=jZ;have I':aL X QQ σ (upd H p (.lst (xs.set j v))) {s with heap:=s.heap.update p (R7 (·.setIfInBounds j u))}:=
  I.lstUpd hp ho (wb its n j u) (r.set rv j) (by rw[Wd];exact hz) s.toks
 by_cases h0:0<=k
 .have hk:k.toNat=j:=by rw[seqIndex_of h0 h4]at h1;exact Q0 h1
  exact PySem.W.ki_setAt ho h0 (by lia) (by rw[Vc,<-hl];exact h4) (by rw[hk];exact⟨_,I',q⟩)
 .have hk:(k+(its.toArray.size:Int)).toNat=j:=by rw[UI (by lia) h3]at h1;rw[Vc,<-hl];exact Q0 h1
  exact PySem.W.ki_setBack ho (by lia) (by rw[Vc,<-hl];exact h3) (by lia) (by rw[hk];exact⟨_,I',q⟩)
def qE(lo hi:Option Int)(n:Nat):(Sw lo hi none n).1=((HT.sIx n 0 lo:Nat):Int)/\(Sw lo hi none n).2.1=((HT.sIx n n hi:Nat):Int)/\(Sw lo hi none n).2.2=1:=by
 refine⟨?_,?_,rfl⟩
 .cases lo with
  |none=>simp[Sw,HT.sIx]
  |some i=>
   simp only[Sw,HT.sIx,XX,show(1:Int) > 0 by decide,if_true]
   by_cases h:i<0
   .simp only[h,if_true]<;>lia
   .simp only[h,if_false]<;>lia
 .cases hi with
  |none=>simp[Sw,HT.sIx]
  |some i=>
   simp only[Sw,HT.sIx,XX,show(1:Int) > 0 by decide,if_true]
   by_cases h:i<0
   .simp only[h,if_true]<;>lia
   .simp only[h,if_false]<;>lia
def oB(its:List YB)(lo hi:Option Int):slicePick its.toArray lo hi none=((its.drop (HT.sIx its.length 0 lo)).take (HT.sIx its.length its.length hi - HT.sIx its.length 0 lo)).toArray:=by obtain⟨h1,h2,h3⟩:=qE lo hi its.toArray.size;unfold slicePick;rw[h1,h2,h3];simp only[sliceRange_one,pick_run,Vc]<;>rfl
def Qh(K:Frag):V->Option Int->Option Int->Hp->VK->Prop:=λx lo hi H Q=>∃a xs,x=.ref a/\aN K H a xs/\∀p,H p=none->Q (.ref p) (upd H p (.lst (oX xs lo hi)))
def Do:Aq X (Qh X.K):=by intro QQ s σ H x v vl vu lo hi sl Q I rx hs pl pu h;obtain⟨a,xs,rfl,hx,q⟩:=h;cases rx;obtain⟨its,r,ht,hz⟩:=I.list hx;have hlen:=r.length;refine⟨"list",_,slot_list_getitem.lookup,ht.isList.typeIs,?_⟩;refine wpAny_getItem_list_slice ht.isList hs pl pu .none (by simp) ?_ (by rw[Vc]<;>lia);rw[oB,<-hlen];refine⟨.ref s.heap.objs.size,_,I.laid (t':=s.toks) (o:=.lst (oX xs lo hi)) (λb ob q=>Q8 _ q) (WR _) ?_,rfl,q _ (I.hok.fresh (WR _))⟩;exact⟨WU (uE xs lo hi) hz,_,0,(r.drop (HT.sIx xs.length 0 lo)).take (HT.sIx xs.length xs.length hi - HT.sIx xs.length 0 lo),Re _ rfl⟩
noncomputable def flatV:V->Bool
 | .non=>true
 | .bl _=>true
 | .int _=>true
 | .str _=>true
 |_=>false
noncomputable def eqV:V->V->Bool
 | .non,.non=>true
 | .bl a,.bl b=>a == b
 | .bl a,.int b=>(if a then 1 else 0) == b
 | .int a,.bl b=>a == (if b then 1 else 0)
 | .int a,.int b=>a == b
 | .str a,.str b=>a == b
 |_,_=>false
def Ci(ry:aU y u)(rx:aU x v)(fy:flatV y=true)(fx:flatV x=true):SeqAt.EqAt A s u v (eqV y x):=by
 cases y with
 |non=>
  cases ry;cases x with
  |non=>cases rx;exact SeqAt.EqAt.same _
  |bl b=>cases rx;exact SeqAt.EqAt.none_bool b
  |int b=>obtain⟨t,rfl⟩:=rx;exact SeqAt.EqAt.none_int b t
  |str b=>obtain⟨t,rfl⟩:=rx;exact SeqAt.EqAt.none_str b t
  |_=>exact QZ (show false=true from fx) Xw
 |bl a=>
  cases ry;cases x with
  |non=>cases rx;exact SeqAt.EqAt.bool_none a
  |bl b=>cases rx;exact SeqAt.EqAt.bool_bool a b
  |int b=>obtain⟨t,rfl⟩:=rx;exact SeqAt.EqAt.bool_int a b t
  |str b=>obtain⟨t,rfl⟩:=rx;exact SeqAt.EqAt.bool_str a b t
  |_=>exact QZ (show false=true from fx) Xw
 |int a=>
  obtain⟨t',rfl⟩:=ry;cases x with
  |non=>cases rx;exact SeqAt.EqAt.int_none a t'
  |bl b=>cases rx;exact SeqAt.EqAt.int_bool a t' b
  |int b=>obtain⟨t,rfl⟩:=rx;exact SeqAt.EqAt.int_int a t' b t
  |str b=>obtain⟨t,rfl⟩:=rx;exact SeqAt.EqAt.int_str a t' b t
  |_=>exact QZ (show false=true from fx) Xw
 |str a=>
  obtain⟨t',rfl⟩:=ry;cases x with
  |non=>cases rx;exact SeqAt.EqAt.str_none a t'
  |bl b=>cases rx;exact SeqAt.EqAt.str_bool a t' b
  |int b=>obtain⟨t,rfl⟩:=rx;exact SeqAt.EqAt.str_int a t' b t
  |str b=>obtain⟨t,rfl⟩:=rx;exact SeqAt.EqAt.str_str a t' b t
  |_=>exact QZ (show false=true from fx) Xw
 |_=>exact QZ (show false=true from fy) Xw
noncomputable def wE(x:V)(u:YB):Bool:=match u with
 | .none=>eqV .non x
 | .bool b=>eqV (.bl b) x
 | .int i _=>eqV (.int i) x
 | .str z _=>eqV (.str z) x
 |_=>false
def Cd(r:aU y u)(f:flatV y=true):wE x u=eqV y x:=by
 cases y with
 |non=>cases r;rfl
 |bl b=>cases r;rfl
 |int i=>obtain⟨t,rfl⟩:=r;rfl
 |str z=>obtain⟨t,rfl⟩:=r;rfl
 |_=>exact QZ (show false=true from f) Xw
theorem kR:∀{xs:List V}{us:List YB},a9 xs us->xs.all flatV=true->us.any (wE x)=xs.any λy=>eqV y x
 |_,_,.nil,_=>rfl
 |y::xs,u::us,.cons r t,f=>by rw[Vv,Xx]at f;rw[VO,VO,Cd r f.1,kR t f.2]
theorem jj(rx:aU x v)(fx:flatV x=true):∀{xs:List V}{us:List YB},a9 xs us->xs.all flatV=true->∀u∈us,SeqAt.EqAt A s u v (wE x u)
 |_,_,.nil,_=>λu hu=>by cases hu
 |y::xs,u::us,.cons r t,f=>λu' hu=>by
  rw[Vv,Xx]at f
  rcases U8.mp hu with rfl|hu
  .rw[Cd r f.1];exact Ci r rx f.1 fx
  .exact jj rx fx t f.2 u' hu
noncomputable def D5(x:V)(xs:List V):Bool:=xs.any λy=>eqV y x
def LA(K:Frag)(neg:Bool):R2:=λx y H Q=>∃p xs,y=.ref p/\(aN K H p xs\/cY K H p xs)/\flatV x=true/\xs.all flatV=true/\Q (.bl (if neg then !D5 x xs else D5 x xs)) H
def zk:iS X (RD .In) (LA X.K false):=by
 intro QQ s σ H x y v u Q I rx ry h;obtain⟨p,xs,rfl,hq,fx,fs,q⟩:=h;cases ry
 rcases hq with hq|hq
 .obtain⟨its,r,pl,hz⟩:=I.list hq;refine SeqAt.in_listAt (wE x) pl.isList (λw hw=>jj rx fx r fs w (by simpa using hw)) ⟨.bl _,H,I,rfl,?_⟩;rw[show its.toArray.any (wE x)=its.any (wE x) by simp,kR r fs];exact q
 .obtain⟨its,r,pl,hz⟩:=I.tuple hq;refine SeqAt.in_tupleAt (wE x) pl (λw hw=>jj rx fx r fs w (by simpa using hw)) ⟨.bl _,H,I,rfl,?_⟩;rw[show its.toArray.any (wE x)=its.any (wE x) by simp,kR r fs];exact q
def q0:iS X (RD .NotIn) (LA X.K true):=by
 intro QQ s σ H x y v u Q I rx ry h;obtain⟨p,xs,rfl,hq,fx,fs,q⟩:=h;cases ry
 rcases hq with hq|hq
 .obtain⟨its,r,pl,hz⟩:=I.list hq;refine SeqAt.notIn_listAt (wE x) pl.isList (λw hw=>jj rx fx r fs w (by simpa using hw)) ⟨.bl _,H,I,rfl,?_⟩;rw[show its.toArray.any (wE x)=its.any (wE x) by simp,kR r fs];exact q
 .obtain⟨its,r,pl,hz⟩:=I.tuple hq;refine SeqAt.notIn_tupleAt (wE x) pl (λw hw=>jj rx fx r fs w (by simpa using hw)) ⟨.bl _,H,I,rfl,?_⟩;rw[show its.toArray.any (wE x)=its.any (wE x) by simp,kR r fs];exact q
def sh:bq X (.builtin "len") (λxs H Q=>∃p ys,xs=[.ref p]/\(aN X.K H p ys\/cY X.K H p ys)/\Q (.int ys.length) H):=by
 intro QQ s σ H xs us Q I r h;obtain⟨p,ys,rfl,hq,q⟩:=h;obtain⟨u,rfl,rx⟩:=fG r;cases rx;have hn:=jZ
 rcases hq with hq|hq
 .obtain⟨its,r',pl,hz⟩:=I.list hq;have hlen:=r'.length;exact Calls.call_len_list pl.isList (by simp only[Vc]<;>lia) ⟨.int ys.length,H,I.tok _,⟨s.toks+1,by rw[Vc,hlen]⟩,q⟩
 .obtain⟨its,r',pl,hz⟩:=I.tuple hq;have hlen:=r'.length;exact len_tuple pl (by simp only[Vc]<;>lia) ⟨.int ys.length,H,I.tok _,⟨s.toks+1,by rw[Vc,hlen]⟩,q⟩
def se:bq X (.builtin "len") (λxs H Q=>∃z,xs=[.str z]/\z.length<=v1/\Q (.int z.length) H):=by intro QQ s σ H xs us Q I r h;obtain⟨z,rfl,hz,q⟩:=h;obtain⟨u,rfl,t,rfl⟩:=fG r;have hn:=jZ;exact len_str (by lia) ⟨.int z.length,H,I.tok _,⟨_,rfl⟩,q⟩
def bq.or(h:bq X f r)(h':bq X f r'):bq X f (λxs H Q=>r xs H Q\/r' xs H Q):=by
 intro QQ s σ H xs us Q I rs q
 rcases q with q|q
 .exact h QQ s σ H xs us Q I rs q
 .exact h' QQ s σ H xs us Q I rs q
def rZ:bq X (.type "list") (λxs H Q=>∃p ys,xs=[.ref p]/\(aN X.K H p ys\/cY X.K H p ys)/\∀l,H l=none->Q (.ref l) (upd H l (.lst ys))):=by
 intro QQ s σ H xs us Q I r h;obtain⟨p,ys,rfl,hq,q⟩:=h;obtain⟨u,rfl,rx⟩:=fG r;cases rx;have fin:∀(its:List YB),a9 ys its->ys.length<=v1->∀(h':Rq)(c':Nat),(∀b o',s.heap.get? b=some o'->h'.get? b=some o')->
   h'.get? s.heap.objs.size=some {cls:=.type "list",dict:=none,data:=.seq its.toArray c',slots:= #[]}->EP X QQ σ Q (.ref s.heap.objs.size) {s with heap:=h'}:=λits r' hz h' c' kp e=>
  ⟨.ref s.heap.objs.size,_,I.laid (t':=s.toks) kp (WR _) (show bC X.prog X.w _ h' _ (.lst ys)from⟨hz,its,c',r',e⟩),rfl,q _ (I.hok.fresh (WR _))⟩
 rcases hq with hq|hq
 .obtain⟨its,r',pl,hz⟩:=I.list hq;have hlen:=r'.length;obtain⟨o,ho,hc,n,hd⟩:=pl.isList;exact call_list_seq p (.inl rfl) ho hc hd (λh' c' kp e=>fin its r' hz h' c' kp e) (by simp only[Vc]<;>lia)
 .obtain⟨its,r',pl,hz⟩:=I.tuple hq;have hlen:=r'.length;obtain⟨o,ho,hc,n,hd⟩:=pl;exact call_list_seq p (.inr rfl) ho hc hd (λh' c' kp e=>fin its r' hz h' c' kp e) (by simp only[Vc]<;>lia)
def Db(K:Frag)(T:String)(x:V)(H:Hp):Prop:=match x with
 | .str _=>T="str"
 | .int _=>T="int"
 | .ref p=>(T="list"/\∃xs,aN K H p xs)\/(T="tuple"/\∃o,K.lookup p=some o/\o.cls=.type "tuple"/\o.dict=none)\/
   (T="dict"/\((∃kvs,H p=some (.dK kvs))\/∃kvs,H p=some (.dT kvs)))\/(T="set"/\∃S n,H p=some (.set S n))
 |_=>False
def iV{QQ:Q5}{σ:St}{H:Hp}{s:Rb}{T:String}{x:V}{v:YB}(I:aL X QQ σ H s)(r:aU x v)(ty:Db X.K T x H):s.TypeIs v T/\∀a,v=.ref a->∃ob,s.heap.get? a=some ob/\ob.dict=none:=by
 cases x with
 |str z=>
  obtain⟨t,rfl⟩:=r;cases(show T="str"from ty);exact⟨Tu s z t,λ_ e=>nomatch e⟩
 |int i=>
  obtain⟨t,rfl⟩:=r;cases(show T="int"from ty);exact⟨typeIs_int s i t,λ_ e=>nomatch e⟩
 |ref p=>
  cases r
  rcases ty with⟨rfl,xs,hq⟩|⟨rfl,o,hk,hc,hd⟩|⟨rfl,hk⟩|⟨rfl,S,n,hk⟩
  .obtain⟨its,_,pl,_⟩:=I.list hq;refine⟨pl.isList.typeIs,λa e=>?_⟩;cases e;obtain⟨o,n,e,c,hd,_⟩:=pl;exact⟨o,e,hd⟩
  .refine⟨⟨o,I.kIn p o hk,hc⟩,λa e=>?_⟩;cases e;exact⟨o,I.kIn _ o hk,hd⟩
  .have z:∃o,s.heap.get? p=some o/\o.ExactDict:=by
    rcases hk with⟨kvs,hk⟩|⟨kvs,hk⟩
    .obtain⟨_,_,_,_,o,_,_,e,ex,_⟩:=I.hok p _ hk;exact⟨o,e,ex⟩
    .obtain⟨_,_,_,_,o,_,_,e,ex,_⟩:=I.hok p _ hk;exact⟨o,e,ex⟩
   obtain⟨o,e,ex⟩:=z;refine⟨⟨o,e,ex.1⟩,λa e2=>?_⟩;cases e2;exact⟨o,e,ex.2.1⟩
  .obtain⟨o,_,_,_,e,ex,_⟩:=I.hok p _ hk;refine⟨⟨o,e,ex.1⟩,λa e2=>?_⟩;cases e2;exact⟨o,e,ex.2.1⟩
 |_=>exact False.elim ty
def Qb(K:Frag)(T:String)(r:V->List V->Hp->VK->Prop)(to:TE)(t:TA):TE:=λσ H Q=>to σ H λx H1=>Db K T x H1/\t σ H1 λxs H2=>r x xs H2 Q
variable{o e:RU}{es:List RU}{to:TE}{t:TA}{name:Str}{apos cpos:Uk}{T id:String}{r:V->List V->Hp->VK->Prop}
def NV(pa:PlainAttrs T)(slot:Slot T name id)(hty:typeOf (.builtin id)=pure (.type "method_descriptor"))(hm:sQ X id r)(ho:PE X o to)(ha:PA X (e::es) t)(hbase:RK o name X.env (RH o X.env)=RH o X.env:=by rfl)(hfew:((RE cpos (Rc (e::es) X.env)).all (λx=> !x.1)&&(SS cpos (Se [] X.env)).all (λx=>x.1.isSome)
   &&decide ((e::es).length+([]:List Sl).length+(if([]:List Sl).isEmpty then 0 else 1)<30))=true:=by rfl) (hline:(apos.endLine == cpos.line)=true:=by rfl) (hs:Rc (e::es) X.env=(false,RH e X.env)::Rc es X.env:=by rfl) (hplain:(RE cpos (Rc es X.env)).any (·.1)=false:=by rfl):PE X (.Call (.Attribute o name apos) (e::es) [] cpos) (Qb X.K T r to t):=by
 intro QQ s σ H Q I h;refine RY hbase hfew hline rfl (bH (ho QQ s σ H _ I h) λv s1 ⟨x,H1,I1,r1,ty,q1⟩=>?_);obtain⟨h1,h2⟩:=iV I1 r1 ty;refine⟨T,id,pa,slot,hty,h1,h2,?_⟩;have hA:=ha cpos QQ s1 σ H1 _ I1 q1;rw[hs]at hA ⊢;refine RA (by show(false||(RE cpos (Rc es X.env)).any (·.1))=false;rw[hplain]<;>rfl) (RW ?_)
 exact bH hA λus s2 ⟨vs,H2,I2,r2,q2⟩=>hm QQ s2 σ H2 x vs v us Q I2 r1 r2 q2
end
def O6(X:Cx)(id:String)(r:V->List V->Hp->VK->Prop):Prop:=
 ∀(QQ:Q5)(s:Rb)(σ:St)(H:Hp)(x:V)(xs:List V)(v:YB)(us:List YB)(Q:VK),aL X QQ σ H s->aU x v->a9 xs us->r x xs H Q->
  Ra (Rh X.prog X.w) X.A (call (.builtin id) (v::us)) (EP X QQ σ Q) X.xe s
def a9.one:∀{x:V}{us:List YB},a9 [x] us->∃u,us=[u]/\aU x u
 |_,_,.cons r .nil=>⟨_,rfl,r⟩
def a9.zero:∀{us:List YB},a9 [] us->us=[]
 |_,.nil=>rfl
theorem a9.eraseIdx:∀{xs:List V}{us:List YB}(i:Nat),a9 xs us->a9 (xs.eraseIdx i) (us.eraseIdx i)
 |_,_,_,.nil=>.nil
 |_,_,0,.cons _ t=>t
 |_,_,i+1,.cons r t=>.cons r (a9.eraseIdx i t)
theorem a9.rep(h:a9 xs us):∀k:Nat,a9 (List.replicate k xs).flatten (List.replicate k us).flatten
 |0=>.nil
 |k+1=>by rw[VP,VP,VY,VY];exact a9.append h (a9.rep h k)
theorem pK{α:Type}:∀(l:List α)(i:Nat),(l.eraseIdx i).length<=l.length
 | [],_=>WR _
 |_::_,0=>WW _
 |_::r,i+1=>Nat.succ_le_succ (pK r i)
theorem pV(its:List YB):∀k acc,List.foldl (λx1 x2=>x1++x2) acc.toArray (List.replicate k its.toArray)=(acc++(List.replicate k its).flatten).toArray
 |0,acc=>by simp
 |k+1,acc=>by
  have e:acc.toArray++its.toArray=(acc++its).toArray:=by simp
  have e2:(acc++its)++(List.replicate k its).flatten=acc++(List.replicate (k+1) its).flatten:=by rw[VP,VY,VC]
  rw[<-e2,<-pV its k (acc++its),<-e,VP,We]
section
variable{X:Cx}{QQ:Q5}{σ:St}{H:Hp}{s:Rb}{l b:YC}{xs ys zs:List V}
def aL.lset{its its':List YB}{n:Nat}{f:Array YB->Array YB}{t':Nat}(I:aL X QQ σ H s)(hH:H l=some (.lst xs))(e:s.heap.get? l=some {cls:=.type "list",data:=.seq its.toArray n})(hf:f its.toArray=its'.toArray)(hv:a9 ys its')(hz:ys.length<=v1):aL X QQ σ (upd H l (.lst ys)) {s with heap:=s.heap.update l (R7 f),toks:=t'}:=by have q:=PySem.IsL.update e f;rw[hf]at q;refine I.write (x:=l) (e:=l) (by rw[hH];exact trivial) (.inl rfl) (λb' u hb hu=>(Sc s.heap (R7 f) (Ne.symm hb)).trans hu) ⟨_,q⟩ ?_;exact⟨hz,its',_,hv,q⟩
def aL.lnew(I:aL X QQ σ H s)(hv:a9 ys its)(hz:ys.length<=v1):aL X QQ σ (upd H s.heap.objs.size (.lst ys)) {s with heap:=s.heap.push {cls:=.type "list",data:=.seq its.toArray},toks:=t'}:=
 I.laid (λ_ _ q=>Q8 _ q) (WR _) ⟨hz,its,0,hv,Re _ rfl⟩
theorem aL.fresh(I:aL X QQ σ H s):H s.heap.objs.size=none:=I.hok.fresh (WR _)
def aL.lstM(I:aL X QQ σ H s)(hH:H l=some (.lst xs)):xs.length<=v1/\∃its n,a9 xs its/\xs.length=its.length/\s.heap.get? l=some {cls:=.type "list",data:=.seq its.toArray n}:=by obtain⟨z,its,n,r,e⟩:=I.hok l _ hH;exact⟨z,its,n,r,r.length,e⟩
def kA(h:n<=v1):So n=false:=by unfold So;exact QU (by lia)
end
section
def Du:V->List V->Hp->VK->Prop:=λx vs H Q=>∃l xs y,x=.ref l/\vs=[y]/\H l=some (.lst xs)/\xs.length<v1/\Q .non (upd H l (.lst (xs++[y])))
def zw:O6 X "list.append" Du:=by intro QQ s σ H x vs v us Q I rx rv h;obtain⟨l,xs,y,rfl,rfl,hH,hz,q⟩:=h;cases rx;obtain⟨u,rfl,ru⟩:=rv.one;obtain⟨z,its,n,r,hl,e⟩:=I.lstM hH;refine SI F.slot_list_append ⟨_,e,rfl⟩ F.entry_list_append (F.args_list_append_2 _ _) (PySem.list_append l its.toArray n u (by rw[Vc];lia)) ⟨e,?_⟩;refine⟨.non,_,I.lset (its':=its++[u]) hH e (by simp) (r.append (.cons ru .nil)) ?_,rfl,q⟩;rw[Ve,Wf];lia
def mx:V->List V->Hp->VK->Prop:=λx vs H Q=>∃l b xs zs,x=.ref l/\vs=[.ref b]/\H l=some (.lst xs)/\H b=some (.lst zs)/\xs.length+zs.length<=v1/\Q .non (upd H l (.lst (xs++zs)))
def zv:O6 X "list.extend" mx:=by
 intro QQ s σ H x vs v us Q I rx rv h;obtain⟨l,b,xs,zs,rfl,rfl,hH,hB,hz,q⟩:=h;cases rx;obtain⟨u,rfl,ru⟩:=rv.one;cases ru;obtain⟨z,its,n,r,hl,e⟩:=I.lstM hH;obtain⟨z2,its2,n2,r2,hl2,e2⟩:=I.lstM hB;have hsz:its.toArray.size+its2.toArray.size<=v1:=by rw[Vc,Vc];lia
 have hlong:¬(!its.toArray.isEmpty&&So (its.toArray.size+its2.toArray.size))=true:=by rw[kA hsz,XF];exact Xw
 refine SI F.slot_list_extend ⟨_,e,rfl⟩ F.entry_list_extend (F.args_list_extend_2 _ _)
  (AutoSeq1.list_extend_list_list_0 l its.toArray n b its2.toArray n2 hlong (by rw[Vc];lia) (by lia)) ⟨e,e2,?_⟩
 refine⟨.non,_,I.lset (its':=its++its2) hH e (by simp) (r.append r2) ?_,rfl,q⟩;rw[Ve];lia
def vP:V->List V->Hp->VK->Prop:=λx vs H Q=>∃l xs i k y,x=.ref l/\vs=[.int i]/\H l=some (.lst xs)/\-(2 ^ 63)<=i/\i<2 ^ 63/\seqIndex? i xs.length=some k/\xs[k]? =some y/\Q y (upd H l (.lst (xs.eraseIdx k)))
def By:O6 X "list.pop" vP:=by
 intro QQ s σ H x vs v us Q I rx rv h;obtain⟨l,xs,i,k,y,rfl,rfl,hH,h1,h2,hk,hy,q⟩:=h;cases rx;obtain⟨u,rfl,ru⟩:=rv.one;obtain⟨t,rfl⟩:=ru;obtain⟨z,its,n,r,hl,e⟩:=I.lstM hH;obtain⟨w,hw,rw'⟩:=r.get hy;refine SI F.slot_list_pop ⟨_,e,rfl⟩ F.entry_list_pop (F.args_list_pop_2 _ _)
  (MeetsSeq.list_pop_at l its.toArray n i t k w (fitsIndex_both h1 h2) (by rw[Vc,<-hl];exact hk) (by rw[<-XM];exact hw) (by rw[Vc];lia)) ⟨e,?_⟩
 refine⟨y,_,I.lset (its':=its.eraseIdx k) hH e ?_ (r.eraseIdx k) ?_,rw',q⟩
 .show its.toArray.eraseIdxIfInBounds k=(its.eraseIdx k).toArray;rw[List.eraseIdxIfInBounds_toArray]
 .have:=pK xs k;lia
def A8:V->List V->Hp->VK->Prop:=λx vs H Q=>∃l xs,x=.ref l/\vs=[]/\H l=some (.lst xs)/\Q .non (upd H l (.lst []))
def BA:O6 X "list.clear" A8:=by intro QQ s σ H x vs v us Q I rx rv h;obtain⟨l,xs,rfl,rfl,hH,q⟩:=h;cases rx;have hus:=rv.zero;subst hus;obtain⟨z,its,n,r,hl,e⟩:=I.lstM hH;refine SI F.slot_list_clear ⟨_,e,rfl⟩ F.entry_list_clear (F.args_list_clear_1 _) (AutoSeq1.list_clear_list_0 l its.toArray n (by rw[Vc];lia)) ⟨e,?_⟩;exact⟨.non,_,I.lset (its':=[]) (ys:=[]) hH e rfl .nil (WT _),rfl,q⟩
def J8:R2:=λx y H Q=>∃l b xs zs,x=.ref l/\y=.ref b/\H l=some (.lst xs)/\H b=some (.lst zs)/\xs.length+zs.length<=v1/\∀p,H p=none->Q (.ref p) (upd H p (.lst (xs++zs)))
def Kq:iS X (SR .Add) J8:=by
 intro QQ s σ H x y v u Q I rx ry h;obtain⟨l,b,xs,zs,rfl,rfl,hH,hB,hz,q⟩:=h;cases rx;cases ry;obtain⟨z,its,n,r,hl,e⟩:=I.lstM hH;obtain⟨z2,its2,n2,r2,hl2,e2⟩:=I.lstM hB;refine PySem.P.add_list e e2 ?_ (by rw[Vc,Vc];lia);have ea:its.toArray++its2.toArray=(its++its2).toArray:=by simp
 rw[ea];exact⟨.ref _,_,I.lnew (t':=s.toks) (r.append r2) (by rw[Ve];lia),rfl,q _ I.fresh⟩
def NP:R2:=λx y H Q=>∃l k xs,x=.ref l/\y=.int k/\H l=some (.lst xs)/\-(2 ^ 63)<=k/\k<2 ^ 63/\xs.length*k.toNat<=v1/\
 ∀p,H p=none->Q (.ref p) (upd H p (.lst (List.replicate k.toNat xs).flatten))
def DW{α:Type}(xs:List α)(k:Nat):(List.replicate k xs).flatten.length=k*xs.length:=by
 induction k with
 |zero=>simp
 |succ k ih=>rw[VP,VY,Ve,ih,Nat.succ_mul,Xi]
def Kh:iS X (SR .Mult) NP:=by
 intro QQ s σ H x y v u Q I rx ry h;obtain⟨l,k,xs,rfl,rfl,hH,h1,h2,hz,q⟩:=h;cases rx;obtain⟨t,rfl⟩:=ry;obtain⟨z,its,n,r,hl,e⟩:=I.lstM hH;have hlen:its.toArray.size*k.toNat<=v1:=by rw[Vc,<-hl];exact hz
 have hcap:¬its.toArray.size*k.toNat > (2 ^ 63 - 1) / 8:=by
  have:(v1:Nat)<=(2 ^ 63 - 1) / 8:=by decide
  lia
 have hfit:¬(!Builtin.List.listFitsIndex k)=true:=by rw[fitsIndex_both h1 h2];exact Xw
 have hlong:¬So (its.toArray.size*k.toNat)=true:=by rw[kA hlen];exact Xw
 have hnew:List.foldl (λx1 x2=>x1++x2) #[] (List.replicate (if its.toArray.isEmpty=true then 0 else k.toNat) its.toArray)=(List.replicate k.toNat its).flatten.toArray:=by
  have f0:∀m:Nat,List.foldl (λx1 x2=>x1++x2) #[] (List.replicate m its.toArray)=(List.replicate m its).flatten.toArray:=λm=>by have:=pV its m [];rw[List.nil_append]at this;exact this
  rw[f0];cases its with
  |nil=>simp
  |cons a r'=>rw[QV (by simp)]
 refine wpAny_binaryOp_repeat_ref (T:="list") (U:="int") (by decide) ⟨_,e,rfl⟩ (λs'=>typeIs_int s' k t) noFill_list_mul F.fills_int_mul F.slot_int_rmul repeat_list F.slot_int_index.lookup
  (SI F.slot_int_rmul (typeIs_int s k t) F.entry_int_rmul (F.args_int_rmul_2 _ _) (int___rmul___int_list k t l its.toArray n)
   ⟨e,rfl,⟨_,e,rfl⟩,SI F.slot_list_mul ⟨_,e,rfl⟩ F.entry_list_mul (F.args_list_mul_2 _ _) (AutoListH.list___mul___list_int_3 l its.toArray n k t hfit hcap hlong) ⟨e,?_⟩⟩)
 rw[hnew];exact⟨.ref _,_,I.lnew (t':=s.toks) (r.rep k.toNat) (by rw[DW,Nat.mul_comm];exact hz),rfl,q _ I.fresh⟩
end
section
def wX{a c n:Nat}(hac:a<=c)(hc:c<=n):Sw (some (a:Int)) (some (c:Int)) none n=((a:Int),(c:Int),1):=by
 simp only[Sw,XX];have h1:¬((a:Int)<0):=by lia
 have h2:¬((c:Int)<0):=by lia
 simp only[h1,h2,if_false,show(1:Int) > 0 by decide,if_true];congr 1
 .lia
 .congr 1;lia
set_option maxRecDepth 100000 in
def CU{items new:Array YB}{n n2:Nat}{vl vu:YB}{a c:Nat}(e:s.heap.get? l=some {cls:=.type "list",data:=.seq items n})(e2:s.heap.get? b=some {cls:=.type "list",data:=.seq new n2})(hne:l≠b)(hs:s.heap.IsSliceOf sl vl vu .none)(pl:U2 vl (some (a:Int)))(pu:U2 vu (some (c:Int)))(hac:a<=c)(hc:c<=items.size)(hsz:items.size+new.size<=v1)(h:Q () {s with heap:=s.heap.update l (R7 λxs=>xs.extract 0 a++new++xs.extract c xs.size)}):Ra (Rh prog w) A (UY (.ref l) (.ref sl) (.ref b)) Q E s:=by
 have hl:s.heap.IsList l items:=PySem.IsL.isList e;have hb:s.heap.IsList b new:=PySem.IsL.isList e2;obtain⟨os,hos,hcs,hds⟩:=id hs;have hTs:s.TypeIs (.ref sl) "slice":=⟨os,hos,hcs⟩;have hstep:¬((rawPart none == Ti 0)=true):=Xw;have hsame:Sq (.ref l) (.ref b)=false:=by unfold Sq;exact beq_eq_false_iff_ne.mpr hne
 have hmax:(max (a:Int) (c:Int)).toNat=c:=by lia
 have hz':((λxs:Array YB=>xs.extract 0 a++new++xs.extract c xs.size) items).size<=v1+1:=by simp only[Array.size_append,Array.size_extract];lia
 unfold UY
 try with_reducible refine Rs ?_
 first|refine Q6 (Q7 ?_)|skip
 refine Q6 (wpAny_sequenceKey hl.typeIs (by decide) ?_);refine Q6 (RC (name:=SA "__setitem__") hl.typeIs slot_list_setitem
  (RJ slot_list_setitem hl.typeIs entry_list_setitem ?_ (args_list_setitem _ _ _)))
 show Ra _ _ (To (.ref sl) >>= _) _ _ s;refine Q6 ?_;unfold To;refine Q6 (Tf hTs slice_no_index ?_);simp only[Option.isNone_none,if_true];refine Q7 ?_;show Ra _ _ (typeOf (.ref sl) >>= _) _ _ s;refine Q6 (SJ hTs ?_)
 first
  |rw[QV (by decide)]
  |refine PySem.W.KFB.if_not (by decide) ?_
 rw[listSliceParts_eq];refine Q6 (Q6 (R8 hos hds (x:=.none) rfl (Q6 (Uo .none ?_))));rw[QV hstep];refine Q6 (R8 hos hds (x:=vl) rfl (Q6 (Uo pl ?_)));refine Q6 (R8 hos hds (x:=vu) rfl (Q6 (Uo pu (Q7 ?_))))
 first
  |simp only[hsame,Xz,if_false]
  |refine PySem.W.KFB.if_not hsame ?_
  |(dsimp only
    rw[QV (by rw[hsame];exact Xw)])
 refine Q6 (m:=TD (.ref b) "must assign iterable to extended slice") ?_;unfold TD;refine Q6 (SJ hb.typeIs ?_)
 first
  |refine PySem.W.KFB.if_so (by decide) ?_
  |rw[QW (by decide)]
  |simp only[beq_self_eq_true,Bool.true_or,if_true]
 unfold Builtin.List.listItems;refine Q6 (RN e2 rfl (Q7 ?_));refine Q6 (Q6 (RN e rfl (Q7 ?_)));refine Q6 (Um ((sliceIndices_raw (some (a:Int)) (some (c:Int)) none items.size (by simp)).trans (Q2 (pure:Int×Int×Int->Sem (Int×Int×Int)) (wX hac hc))) ?_);show Ra _ _ (if((1:Int) == 1)=true then _ else _) _ _ s;rw[QW (by decide)];refine Q6 (T6 ?_)
 first
  |simp only[kA hsz,Xz,if_false]
  |refine PySem.W.KFB.if_not (kA hsz) ?_
 first|refine Q6 (Q7 ?_)|skip
 show Ra _ _ (updateSeq l (λxs=>xs.extract 0 ((a:Int)).toNat++new++xs.extract (max (a:Int) (c:Int)).toNat xs.size) >>= _) _ _ s;rw[hmax,Xk];refine Q6 (Uc (hz:=WU (Xa _ _) hsz) (_hz':=hz') e rfl ?_);refine Q6 (wpAny_letGo ?_)
 first
  |exact Q6 (Q7 (Q7 ⟨.none,rfl,Q7 h⟩))
  |exact Q7 ⟨.none,rfl,Q7 h⟩
end
section
variable{κ:Type}[DecidableEq κ]
noncomputable def valV(kvs:List (κ×V))(k:κ):Option V:=(kvs.find? λkv=>decide (kv.1=k)).map (·.2)
noncomputable def iN(kvs:List (κ×V))(k:κ)(v:V):List (κ×V):=
 if(kvs.any λkv=>decide (kv.1=k))=true then kvs.map (λkv=>if kv.1=k then(kv.1,v)else kv)else kvs++[(k,v)]
def mM{p:κ×V}{r:List (κ×V)}{k:κ}(e:p.1=k):valV (p::r) k=some p.2:=by simp[valV,VQ,e]
def mN{p:κ×V}{r:List (κ×V)}{k:κ}(e:¬p.1=k):valV (p::r) k=valV r k:=by simp[valV,VQ,e]
theorem sV(k:κ):∀kvs:List (κ×V),(kvs.any λkv=>decide (kv.1=k))=(valV kvs k).isSome
 | []=>rfl
 |p::r=>by
  rw[VO]
  by_cases e:p.1=k
  .simp only[mM e,QT e,Bool.true_or,Option.isSome_some]
  .rw[mN e,QU e,Bool.false_or];exact sV k r
def jk(kvs:List (κ×V))(k:κ)(v:V):(iN kvs k v).length<=kvs.length+1:=by
 unfold iN;split
 .rw[U6];lia
 .rw[Ve,Vp,Wg];lia
def iR.isSome_eq(r:iR o u):o.isSome=u.isSome:=by
 cases o with
 |none=>cases u with
  |none=>rfl
  |some _=>exact(show False from r).elim
 |some _=>cases u with
  |none=>exact(show False from r).elim
  |some _=>rfl
theorem iR.getD(r:iR o u)(rd:aU d d'):aU (o.getD d) (u.getD d'):=by
 cases o with
 |none=>cases u with
  |none=>exact rd
  |some _=>exact(show False from r).elim
 |some _=>cases u with
  |none=>exact(show False from r).elim
  |some _=>exact r
def KV.val{kvs:List (κ×V)}{vs:List (κ×YB)}(r:KV kvs vs)(k:κ):iR (valV kvs k) (Ut vs k):=by
 unfold KV at r
 induction r with
 |nil=>exact True.intro
 | @cons p q ps qs h t ih=>
   obtain⟨h1,h2⟩:=h
   by_cases e:p.1=k
   .have e':q.1=k:=h1.symm.trans e;have b:Ut (q::qs) k=some q.2:=by simp[Ut,VQ,e']
    rw[mM e,b];exact h2
   .have e':¬q.1=k:=λz=>e (h1.trans z);have b:Ut (q::qs) k=Ut qs k:=by simp[Ut,VQ,e']
    rw[mN e,b];exact ih
theorem KV.any{kvs:List (κ×V)}{vs:List (κ×YB)}(r:KV kvs vs)(k:κ):(kvs.any λkv=>decide (kv.1=k))=vs.any λkv=>decide (kv.1=k):=by
 unfold KV at r
 induction r with
 |nil=>rfl
 |cons h t ih=>rw[VO,VO,ih,h.1]
def KV.repl{kvs:List (κ×V)}{vs:List (κ×YB)}(r:KV kvs vs)(k:κ){y:V}{u:YB}(ry:aU y u):KV (kvs.map λkv=>if kv.1=k then(kv.1,y)else kv) (vs.map λkv=>if kv.1=k then(kv.1,u)else kv):=by
 unfold KV at r ⊢
 induction r with
 |nil=>exact .nil
 | @cons p q ps qs h t ih=>
   rw[Vm,Vm];refine .cons ?_ ih;obtain⟨h1,h2⟩:=h
   by_cases e:p.1=k
   .rw[QW e,QW (h1.symm.trans e)];exact⟨h1,ry⟩
   .rw[QV e,QV (λz=>e (h1.trans z))];exact⟨h1,h2⟩
def KV.put{kvs:List (κ×V)}{vs:List (κ×YB)}(r:KV kvs vs)(k:κ){y:V}{u:YB}(ry:aU y u):KV (iN kvs k y) (UZ vs k u):=by
 unfold iN UZ;rw[r.any k]
 by_cases e:(vs.any λkv=>decide (kv.1=k))=true
 .rw[QW e,QW e];exact r.repl k ry
 .rw[QV e,QV e];exact Paired.snoc r ⟨rfl,ry⟩
theorem KV.length{kvs:List (κ×V)}{vs:List (κ×YB)}(r:KV kvs vs):kvs.length=vs.length:=TW r
end
def nM(r:aU (kV k) u):(mixKind P w).is k u=true:=by
 cases k with
 |inl i=>obtain⟨t,e⟩:=(show∃t,u=SM i t from r);subst e;exact uh P w i t
 |inr x=>obtain⟨t,e⟩:=(show∃t,u=SL x t from r);subst e;exact ug P w x t
theorem pT:∀{ks:List Key}{us:List YB},a9 (ks.map kV) us->ItemsAre (mixKind P w) ks us
 | [],_,r=>by rw[V0]at r;cases r;exact .nil
 |k::ks,_,r=>by
  rw[Vm]at r;cases r with
  |cons h t=>exact .cons (nM h) (pT t)
abbrev KT(H:Hp):List (List Key×V)->List (List Key×YC×YB)->Prop:=UW λp q=>p.1=q.1/\H q.2.1=some (.tup (p.1.map kV))/\aU p.2 q.2.2
def KT.val(r:KT H kvs xs)(k:List Key):iR (valV kvs k) ((UX xs k).map (·.2)):=by
 induction r with
 |nil=>exact True.intro
 | @cons p q ps qs h t ih=>
   obtain⟨h1,_,h2⟩:=h
   by_cases e:p.1=k
   .have e':q.1=k:=h1.symm.trans e;have b:UX (q::qs) k=some q.2:=by simp[UX,VQ,e']
    rw[mM e,b];exact h2
   .have e':¬q.1=k:=λz=>e (h1.trans z);have b:UX (q::qs) k=UX qs k:=by simp[UX,VQ,e']
    rw[mN e,b];exact ih
def KT.repl(r:KT H kvs xs)(k:List Key)(ry:aU y u):KT H (kvs.map λkv=>if kv.1=k then(kv.1,y)else kv) (xs.map (putAt k u)):=by
 induction r with
 |nil=>exact .nil
 | @cons p q ps qs h t ih=>
   rw[Vm,Vm];refine .cons ?_ ih;obtain⟨h1,h2,h3⟩:=h;unfold putAt
   by_cases e:p.1=k
   .rw[QW e,QW (h1.symm.trans e)];exact⟨h1,h2,ry⟩
   .rw[QV e,QV (λz=>e (h1.trans z))];exact⟨h1,h2,h3⟩
def KT.put(r:KT H kvs xs)(k:List Key)(hb:H b=some (.tup (k.map kV)))(ry:aU y u):KT H (iN kvs k y) (storedH xs k b u):=by
 have e:(kvs.any λkv=>decide (kv.1=k))=(UX xs k).isSome:=by rw[sV,(r.val k).isSome_eq,XY]
 unfold iN storedH;rw[e]
 by_cases q:(UX xs k).isSome=true
 .rw[QW q,QW q];exact r.repl k ry
 .rw[QV q,QV q];exact Paired.snoc r ⟨rfl,hb,ry⟩
def KT.keeps(r:KT H kvs xs)(ht:∀b ys,H b=some (.tup ys)->H' b=some (.tup ys)):KT H' kvs xs:=
 Paired.mapP r λ_ _ z=>⟨z.1,ht _ _ z.2.1,z.2.2⟩
section
def IX(ok:j2 P w H h)(e:Rd H a u):bC P w H h a u:=e.ok ok
def pZ(ok:j2 P w H h)(e:Rd H a (.dK kvs)):kvs.length<=v1/\(a == sysModules)=false/\∃vs,KV kvs vs/\h.DictOf (mixKind P w) a vs:=
 show bC P w H h a (.dK kvs)from IX ok e
def Js(ok:j2 P w H h)(e:H a=some (.dK kvs)):kvs.length<=v1/\(a == sysModules)=false/\∃vs,KV kvs vs/\h.DictOf (mixKind P w) a vs:=pZ ok (.inl e)
def nK(ok:j2 P w H h)(e:H a=some (.tup (ks.map kV))):(T3 (mixKind P w)).is h ks a:=by obtain⟨_,its,r,o,h1,h2,n,h3⟩:=(show bC P w H h a (.tup (ks.map kV))from ok a _ e);exact⟨o,its.toArray,n,h1,h2,h3,by simpa using pT r⟩
def pY(ok:j2 P w H h)(e:Rd H a (.dT kvs)):kvs.length<=v1/\(a == sysModules)=false/\∃xs,KT H kvs xs/\h.DictOfH (T3 (mixKind P w)) a xs:=by
 obtain⟨z,y,xs,r,o,es,ep,h1,h2,h3,h4,h5⟩:=(show bC P w H h a (.dT kvs)from IX ok e);refine⟨z,y,xs,r,o,es,ep,h1,h2,h3,h4,λx hx=>?_,h5⟩;have all:∀{l:List (List Key×V)}{m:List (List Key×YC×YB)},KT H l m->∀x∈m,(T3 (mixKind P w)).is h x.1 x.2.1:=by
  intro l m q
  induction q with
  |nil=>intro x hx;exact nomatch hx
  | @cons p q ps qs hq t ih=>
    intro x hx
    rcases U8.mp hx with e|hx
    .subst e;exact nK ok (by rw[<-hq.1];exact hq.2.1)
    .exact ih x hx
 exact all r x hx
def OD(ok:j2 P w H h)(e:H a=some (.dT kvs)):kvs.length<=v1/\(a == sysModules)=false/\∃xs,KT H kvs xs/\h.DictOfH (T3 (mixKind P w)) a xs:=pY ok (.inl e)
end
def lP(H:Hp)(a:YC)(y:V)(r:Option V):Prop:=
 (∃kvs k,Rd H a (.dK kvs)/\y=kV k/\r=valV kvs k)\/∃kvs k b,Rd H a (.dT kvs)/\y=.ref b/\H b=some (.tup (k.map kV))/\r=valV kvs k
def CQ(H:Hp)(a:YC)(y v:V)(H':Hp):Prop:=
 (∃kvs k,H a=some (.dK kvs)/\y=kV k/\kvs.length<v1/\H'=upd H a (.dK (iN kvs k v)))\/
 ∃kvs k b,H a=some (.dT kvs)/\y=.ref b/\H b=some (.tup (k.map kV))/\kvs.length<v1/\H'=upd H a (.dT (iN kvs k v))
def lP.t(e:H a=some (.dT kvs))(eb:H b=some (.tup (k.map kV))):lP H a (.ref b) (valV kvs k):=.inr ⟨kvs,k,b,.inl e,rfl,eb,rfl⟩
def CQ.t(e:H a=some (.dT kvs))(eb:H b=some (.tup (k.map kV)))(hl:kvs.length<v1):CQ H a (.ref b) v (upd H a (.dT (iN kvs k v))):=.inr ⟨kvs,k,b,e,rfl,eb,hl,rfl⟩
section
variable{X:Cx}{QQ:Q5}{σ:St}{H:Hp}{s:Rb}{a:YC}{y v:V}{u r:YB}{o:Option V}{A:Sd}{E:Q4}
def aL.big(I:aL X QQ σ H s):sysModules<s.heap.objs.size:=by have h:Ri<s.heap.objs.size:=(I.mod.glob.keeps I.bk).lt;exact W3 (by decide) h
def zX(hu:A.units+1<RM)(I:aL X QQ σ H s)(g:lP H a y (some v))(ry:aU y u)(h:∀w' s',aL X QQ σ H s'->aU v w'->Q w' s'):Ra (Rh X.prog X.w) A (UL (.ref a) u) Q E s:=by
 rcases g with⟨kvs,k,e,ey,l⟩|⟨kvs,k,b,e,ey,eb,l⟩
 .subst ey;obtain⟨z,hd,vs,rel,dd⟩:=pZ I.hok e;obtain⟨w',hw,rw'⟩:=iR.some_of (v:=v) (o:=Ut vs k) (by rw[l];exact rel.val k);exact wpAny_getItem_of (nM ry) dd.mapOf hw (h w' _ (I.tok _) rw')
 .subst ey;cases(show u=Rj b from ry);obtain⟨z,hd,xs,rel,dd⟩:=pY I.hok e;obtain⟨w',hw,rw'⟩:=iR.some_of (v:=v) (o:=(UX xs k).map (·.2)) (by rw[l];exact rel.val k);obtain⟨p,hp,hp2⟩:=XW.mp hw;refine wpAny_getItem_heap (SY hu) (nK I.hok eb) dd hp ?_;rw[hp2];exact h w' _ (I.tok _) rw'
def Eu(hu:A.units+1<RM)(I:aL X QQ σ H s)(g:lP H a y o)(ry:aU y u)(h:∀s',aL X QQ σ H s'->Q (.bool (!o.isSome)) s'):Ra (Rh X.prog X.w) A (RD .NotIn u (.ref a)) Q E s:=by
 rcases g with⟨kvs,k,e,ey,l⟩|⟨kvs,k,b,e,ey,eb,l⟩
 .subst ey;obtain⟨z,hd,vs,rel,dd⟩:=pZ I.hok e;refine wpAny_notIn_of (nM ry) hd dd.mapOf ?_;rw[<-(rel.val k).isSome_eq,<-l];exact h _ (I.tok _)
 .subst ey;cases(show u=Rj b from ry);obtain⟨z,hd,xs,rel,dd⟩:=pY I.hok e;refine wpAny_notIn_heap (SY hu) (nK I.hok eb) hd dd ?_;have q:=(rel.val k).isSome_eq;rw[XY]at q;rw[<-q,<-l];exact h _ (I.tok _)
def yo(I:aL X QQ σ H s)(mu:O5 (H a))(hs:RQ a s.heap h')(he:∃q,h'.get? a=some q)(new:bC X.prog X.w (upd H a ob) h' a ob):aL X QQ σ (upd H a ob) {s with heap:=h',toks:=t'}:=
 I.write (x:=a) (e:=a) mu (.inl rfl) (λb q hb z=>(hs.2 b hb).trans z) he new
def dk_new(z:kvs.length<=v1)(hd:(a == sysModules)=false)(rel:KV kvs vs)(dd:h'.DictOf (mixKind P w) a vs):bC P w H' h' a (.dK kvs):=⟨z,hd,vs,rel,dd⟩
def zW(hu:A.units+1<RM)(I:aL X QQ σ H s)(g:CQ H a y v H')(ry:aU y u)(rv:aU v r)(h:∀s',aL X QQ σ H' s'->Q () s'):Ra (Rh X.prog X.w) A (UY (.ref a) u r) Q E s:=by
 rcases g with⟨kvs,k,e,ey,l,eH⟩|⟨kvs,k,b,e,ey,eb,l,eH⟩
 .subst ey eH;obtain⟨z,hd,vs,rel,dd⟩:=Js I.hok e;have hz:vs.length<=v1:=by rw[<-rel.length];exact z
  have hl:(iN kvs k v).length<=v1:=by have:=jk kvs k v;lia
  refine wpAny_setItem_pairs (hsz:=hz) (nM ry) dd λh' dd' hs=>h _ ?_;have he:∃q,h'.get? a=some q:=let ⟨q,_,_,hq,_⟩:=dd';⟨q,hq⟩;exact yo I (by rw[e];exact True.intro) hs he (dk_new hl hd (rel.put k rv) dd')
 .subst ey eH;cases(show u=Rj b from ry);obtain⟨z,hd,xs,rel,dd⟩:=OD I.hok e;have hz:xs.length<=v1:=by rw[<-TW rel];exact z
  have hl:(iN kvs k v).length<=v1:=by have:=jk kvs k v;lia
  refine wpAny_setItem_heap (hsz:=hz) (SY hu) (nK I.hok eb) dd λh' dd' hs=>h _ ?_;obtain⟨q,es,ep,hq,h2,h3,h4,_,h5⟩:=dd';refine yo I (by rw[e];exact True.intro) hs ⟨q,hq⟩ ⟨hl,hd,_,(rel.put k eb rv).keeps λc ys ec=>?_,q,es,ep,hq,h2,h3,h4,h5⟩;rw[ak (N3 ec e (λz=>nomatch z))];exact ec
end
def Lw(i:RU):Prop:= ∀ov iv,Uq i false ov iv=operate [ov,iv] (UL ov iv)
def Dg{E:Q4}{s:Rb}{T id:String}{Q:Q4}(hl:Tt (.type T) "__getitem__"=pure (some (.builtin id)))(hs:Lw slice)(h:Ra (Rh prog w) A (RH value env) (λo s₁=>Ra (Rh prog w) A (RH slice env) (λi s₂=>s₂.TypeIs o T/\Ra (Rh prog w) A (UL o i) Q E s₂) E s₁) E s):Ra (Rh prog w) A (RH (.Subscript value slice pos) env) Q E s:=by
 refine Subscript_ (RT h (λo s₁ h₁=>RT h₁ (λi s₂ h₂=>?_) λ_ _ x=>x) λ_ _ x=>x);obtain⟨hT,h₂⟩:=h₂;unfold Uy;refine Q6 ?_;rw[getitemInPython_of_ne hT.not_modules];refine Q6 (Tf hT hl ?_);have fin:Ra (Rh prog w) A (Uq slice false o i) (λr s₃=>Ra (Rh prog w) A (letTemporaryGo value o r >>= λ_=>pure r) Q E s₃) E s₂:=by rw[hs o i];exact wpAny_operating (RT h₂ (λr s₃ h₃=>Q6 (wpAny_letTemporaryGo (Q7 h₃))) λ_ _ x=>x)
 first
  |exact Q7 (Q6 fin)
  |exact Q6 (Q7 (Q6 fin))
  |exact Q6 fin
def uD{X:Cx}{QQ:Q5}{σ:St}{H:Hp}{s:Rb}{a:YC}{y:V}{o:Option V}(I:aL X QQ σ H s)(g:lP H a y o):s.TypeIs (.ref a) "dict":=by
 rcases g with⟨kvs,k,e,_,_⟩|⟨kvs,k,b,e,_,_,_⟩
 .obtain⟨_,_,vs,_,dd⟩:=pZ I.hok e;exact dd.typeIs
 .obtain⟨_,_,xs,_,dd⟩:=pY I.hok e;exact dd.typeIs
def AB(td ty:TE):TE:=λσ H Q=>td σ H λx H1=>ty σ H1 λy H2=>∃a v,x=.ref a/\lP H2 a y (some v)/\Q v H2
def qq(ty td:TE):TE:=λσ H Q=>ty σ H λy H1=>td σ H1 λx H2=>∃a o,x=.ref a/\lP H2 a y o/\Q (.bl (!o.isSome)) H2
def A1(td ty tv:TE):TS:=λD σ H=>tv σ H λv H1=>td σ H1 λx H2=>ty σ H2 λy H3=>∃a H4,x=.ref a/\CQ H3 a y v H4/\D.nx σ H4
section
def DD(hu:X.A.units+1<RM)(ho:PE X o td)(hi:PE X i ty)(hs:Lw i):PE X (.Subscript o i pos) (AB td ty):=by intro QQ s σ H Q I h;refine Dg PySem.F.slot_dict_getitem.lookup hs (bH (ho QQ s σ H _ I h) λu s1 ⟨x,H1,I1,rx,q1⟩=>bH (hi QQ s1 σ H1 _ I1 q1) λiv s2 ⟨y,H2,I2,ry,a,v,ex,g,q2⟩=>?_);subst ex;obtain rfl:u=Rj a:=rx;exact⟨uD I2 g,zX hu I2 g ry λw' s3 I3 rw'=>⟨v,H2,I3,rw',q2⟩⟩
def zf(hu:X.A.units+1<RM)(hi:PE X i ty)(ho:PE X o td):PC X .NotIn i o (qq ty td):=by intro QQ s σ H Q I h;refine bH (hi QQ s σ H _ I h) λiv s1 ⟨y,H1,I1,ry,q1⟩=>bH (ho QQ s1 σ H1 _ I1 q1) λu s2 ⟨x,H2,I2,rx,a,ov,ex,g,q2⟩=>?_;subst ex;obtain rfl:u=Rj a:=rx;exact Eu hu I2 g ry λs3 I3=>⟨.bl (!ov.isSome),H2,I3,rfl,q2⟩
def Dw(hu:X.A.units+1<RM)(ho:PE X o td)(hi:PE X i ty)(hv:PE X value tv)(hs:S9 value (some (.Subscript o i pos')) pos.line X.env=pure false):PS X (.Assign [.Subscript o i pos'] value pos) (A1 td ty tv):=by intro QQ s σ H D I h;refine wpAny_Assign_Subscript (bH (hv QQ s σ H _ I h) λr s1 ⟨v,H1,I1,rv,q1⟩=>bH (ho QQ s1 σ H1 _ I1 q1) λu s2 ⟨x,H2,I2,rx,q2⟩=>bH (hi QQ s2 σ H2 _ I2 q2) λiv s3 ⟨y,H3,I3,ry,a,H4,ex,g,q3⟩=>?_) hs;subst ex;obtain rfl:u=Rj a:=rx;exact zW hu I3 g ry rv λs4 I4=>⟨σ,H4,I4,q3⟩
end
def Cm(h:Rq)(hb:sysModules<h.objs.size):bC P w H (h.push {cls:=.type "dict",data:=.dict #[]}) h.objs.size (.dT []):=
 ⟨WT _,beq_eq_false_iff_ne.mpr (Ne.symm (WS hb)),[],.nil,_,#[],0,Re _ rfl,⟨rfl,rfl,rfl⟩,rfl,rfl,VU⟩
def AA:TE:=λ_ H Q=>∀p,H p=none->Q (.ref p) (upd H p (.dT []))
section
def Bo:PE X (.Dict [] [] pos) AA:=λQQ s σ H Q I h=>
 wpAny_Dict_empty ⟨.ref s.heap.objs.size,_,I.laid (a:=s.heap.objs.size) (o:=.dT []) (t':=s.toks) (λ_ _ q=>Q8 _ q) (WR _) (Cm s.heap I.big),rfl,h _ (I.hok.fresh (WR _))⟩
end
structure M1(X:Cx)(o:RU)(m:Str)(apos:Uk)(e:RU)(cpos:Uk):Prop where
 QR:RK o m X.env (RH o X.env)=RH o X.env
 few:((RE cpos (Rc [e] X.env)).all (λx=> !x.1)&&(SS cpos (Se [] X.env)).all (λx=>x.1.isSome)
  &&decide (([e]:List RU).length+([]:List Sl).length+(if([]:List Sl).isEmpty then 0 else 1)<30))=true
 line:(apos.endLine == cpos.line)=true
 trees:RE cpos (Rc [e] X.env)=[(false,RH e X.env)]
def QF(H:Hp)(a:YC):Prop:=(∃kvs,Rd H a (.dK kvs))\/∃kvs,Rd H a (.dT kvs)
def KQ{X:Cx}{QQ:Q5}{σ:St}{H:Hp}{s:Rb}{a:YC}(I:aL X QQ σ H s)(d:QF H a):s.TypeIs (.ref a) "dict"/\(∀b,Rj a=.ref b->∃ob,s.heap.get? b=some ob/\ob.dict=none)/\(a == sysModules)=false:=by
 rcases d with⟨kvs,e⟩|⟨kvs,e⟩
 .obtain⟨_,hd,vs,_,dd⟩:=pZ I.hok e;refine⟨dd.typeIs,λb q=>?_,hd⟩;cases q;obtain⟨ob,_,_,h1,h2,_⟩:=dd;exact⟨ob,h1,h2.2.1⟩
 .obtain⟨_,hd,xs,_,dd⟩:=pY I.hok e;refine⟨dd.typeIs,λb q=>?_,hd⟩;cases q;obtain⟨ob,_,_,h1,h2,_⟩:=dd;exact⟨ob,h1,h2.2.1⟩
section
variable{X:Cx}{QQ:Q5}{σ:St}{H:Hp}{s:Rb}{a:YC}{y d:V}{u r:YB}{o:Option V}{A:Sd}{E:Q4}
def Lb(hu:A.units+1<RM)(I:aL X QQ σ H s)(g:lP H a y o)(ry:aU y u)(h:∀w' s',aL X QQ σ H s'->aU (o.getD .non) w'->Q w' s'):Ra (Rh X.prog X.w) A (call (.builtin "dict.get") [.ref a,u]) Q E s:=by
 rcases g with⟨kvs,k,e,ey,l⟩|⟨kvs,k,b,e,ey,eb,l⟩
 .subst ey;obtain⟨z,hd,vs,rel,dd⟩:=pZ I.hok e;refine UM PySem.F.slot_dict_get dd.typeIs PySem.F.entry_dict_get (PySem.F.args_dict_get_2 _ _) (meets_dict_get (mixKind X.prog X.w) a (nM ry) hd) ⟨_,dd.mapOf,h _ _ (I.tok _) ?_⟩;rw[l];exact(rel.val k).getD rfl
 .subst ey;cases(show u=Rj b from ry);obtain⟨z,hd,xs,rel,dd⟩:=pY I.hok e;refine UM PySem.F.slot_dict_get dd.typeIs PySem.F.entry_dict_get (PySem.F.args_dict_get_2 _ _) (meetsH_dict_get (T3 (mixKind X.prog X.w)) a b hd) ⟨SY hu,k,xs,nK I.hok eb,dd,h _ _ (I.tok _) ?_⟩;rw[l];exact(rel.val k).getD rfl
end
def qr(td ty:TE):TE:=λσ H Q=>td σ H λx H1=>∃a,x=.ref a/\QF H1 a/\ty σ H1 λy H2=>∃o,lP H2 a y o/\Q (o.getD .non) H2
section
def Bp(hu:X.A.units+1<RM)(ho:PE X o td)(he:PE X e ty)(m:M1 X o "get" apos e cpos):PE X (.Call (.Attribute o "get" apos) [e] [] cpos) (qr td ty):=by intro QQ s σ H Q I h;refine wpAny_Call_method m.QR m.few m.line PySem.F.plainAttrs_dict PySem.F.slot_dict_get PySem.F.type_dict_get (bH (ho QQ s σ H _ I h) λu s1 ⟨x,H1,I1,rx,a,ex,d,q1⟩=>?_);subst ex;obtain rfl:u=Rj a:=rx;obtain⟨t1,t2,_⟩:=KQ I1 d;refine⟨t1,t2,?_⟩;rw[m.trees];refine RA rfl (RW (Calls.spliced_cons (bH (he QQ s1 σ H1 _ I1 q1) λiv s2 ⟨y,H2,I2,ry,ov,g,q2⟩=>Calls.spliced_nil ?_)));exact Lb hu I2 g ry λw' s3 I3 rw'=>⟨_,H2,I3,rw',q2⟩
end
end L2
namespace Att
open PySem PySem.W PySem.Calls PyProof.Rows
def mf:∀ns vs,WellAll P h vs (ns.map WData.int)->Uv vs ns:=by
 intro ns
 induction ns with
 |nil=>
  intro vs w;rw[V0]at w;cases w;exact .nil
 |cons n ns ih=>
  intro vs w;rw[Vm]at w;cases w with
  |cons a b=>
   cases a;exact .cons _ _ (ih _ b)
def yS{l:OpenLaw}{n:Nat}(hn:l.most=some n){P:TV}{h:Rq}{args:List WData}{vals:List YB}(hpre:l.row.toRowW.claim.pre args=true)(hwl:WellAll P h vals args):∃a vs ns,vals=[Rj a]/\args=[WData.list (ns.map WData.int)]/\h.get? a=some {cls:=.type "list",data:=.seq vs.toArray}/\Uv vs ns/\ns.length<=n:=by
 have hsh:WShape.hasAll [] args [.list .int]=true:=(pre_splitW hpre).1;have hc:l.pre.holds [] {args:=args}=true:=(pre_splitW hpre).2;obtain⟨d,r,rfl,h1,h2⟩:=hasAllW_cons hsh;obtain rfl:=hasAllW_nil h2;obtain⟨xs,rfl,h3⟩:=hasW_list h1;obtain⟨ns,rfl⟩:=items_int h3;have hlen:ns.length<=n:=by
  unfold OpenLaw.pre at hc;have h4:(WTm.not (.lt (.lit (.int (n:Int))) (.len (.arg 0)))).holds [] {args:=[.list (ns.map .int)]}=true:=by have h4:=(holds_andW hc).1;rw[hn]at h4;exact h4
  have h5:=condW_of h4 (w_not (w_lt w_lit (w_len_list (w_arg rfl))));rw[U6]at h5;refine Nat.le_of_not_lt λq=>?_;have q':(n:Int)<((ns.length:Nat):Int):=by lia
  first
   |(rw[QT q']at h5;exact QZ h5 (by decide))
   |(simp at h5;lia)
 cases hwl with
 |cons w1 w2=>
  cases w2;cases w1 with
  |list ho hall=>exact⟨_,_,ns,rfl,rfl,ho,mf ns _ hall,hlen⟩
def y6(l:OpenLaw)(args:List WData):l.row.toRowW.claim.post args (.bool true) args=true:=
 postW_of (r:=l.row.toRowW) (X:=(true == true))
  (show WShape.has [] (.bool true) .bool=true by first|rfl|decide|simp[WShape.has,WShape.arms,WShape.armsAll])
  (show(WTm.eq .res (.lit (.bool true))).value [] {args:=args,res:=some (.bool true),after:=args}=some (.bool (true == true))from w_eq_bool (w_res rfl) w_lit) rfl
def attach_call{l:OpenLaw}{n:Nat}{q:Rg}{loose:List Str}{XP:(Q3)->Rq->Prop}{YP:Rk->Rq->Prop}{d:DefRec}(hn:l.most=some n)(hdf:d.params.defaults=[])(call:∀w s₀ s₁ mg mb fa o pm cd doc a vs ns,
   Ground q loose [] XP w s₀ mg mb s₁.heap->YP w s₁.heap->
   s₁.heap.get? fa=some o->o.data=.func (docDef d.name d.params d.body d.scope pm cd doc)->s₁.heap.CodeRec cd d.name->mg d.name=some (.ref fa)->
   s₁.heap.get? a=some {cls:=.type "list",data:=.seq vs.toArray}->Uv vs ns->ns.length<=n->s₁.gens= #[]->
   SV (Rh l.prog w) Uu (.call (.ref fa) ⟨[.ref a],[]⟩) (λr s'=>r=.ok (.ret (.bool true))/\OldK s₁.heap s'.heap/\s'.os=s₁.os/\TM s'.gens) s₁):WalkO q loose XP YP l.row.toRowW d [] (λf vs=>PySem.call f vs):=by
 intro w s₀ s₁ mg mb G Y fa o pm cd doc dV kV ho hd hcd hD hmg hg args vals as hpre hlay hrd hwl hlo;obtain rfl:dV=.none:=Dflts.none hD hdf;obtain rfl:kV=.none:=Dflts.noKw hD;obtain⟨a,vs,ns,rfl,rfl,hobj,hints,hlen⟩:=yS hn hpre hwl;refine enter_call (Sb (call w s₀ s₁ mg mb fa o pm cd doc a vs ns G Y ho (fd_plain hd) hcd hmg hobj hints hlen hg) λr s' hq=>?_);obtain⟨rfl,h2,h3,h4⟩:=hq;exact⟨.inl ⟨.bool true,.bool true,[],rfl,λ_=>rfl,.bool true,y6 l _,λ_=>⟨List.Pairwise.nil,λ_ hm=>(nomatch hm)⟩⟩,h2,h3,h4⟩
end Att
namespace L2
open PySem PySem.Spec PyProof.Rows
theorem kX:∀{vs:List YB}{ns:List Int},Uv vs ns->a9 (ns.map V.int) vs
 |_,_,.nil=>.nil
 |_,_,.cons n t h=>.cons ⟨t,rfl⟩ (kX h)
def Lv(H:Hp):Prop:= ∀b,H b=none\/∃o xs,H b=some (.frz o (.lst xs))
def BI{P:Rg}{w:Rk}{K:Frag}{mg mb:Q3}{CX:CS}{k:Nat}{fa a:YC}{fd:Rn}{x:Str}{sp:Sp}{s₁:Rb}{vs:List YB}{ns:List Int}(KX:K.In s₁.heap)(hns:s₁.heap.Ns Ri mg)(hb:s₁.heap.Ns builtinsNs mb)(hbb:∀x:Str,x≠"__name__"->mb x=Rp x)(hlim:s₁.heap.NoLimit)(hg:s₁.gens= #[])(ha:s₁.heap.get? a=some {cls:=.type "list",data:=.seq vs.toArray})(hi:Uv vs ns)(hl:ns.length<=v1)(hr:db k Uu)(F:∀QR:Rq,K.In QR->QR.Ns Ri mg->aX P w K mg QR CX k fa fd [x] sp)(hbind:∀s u,UQ s fd ⟨[u],[]⟩ [(x,u)])(hsp:∀H:Hp,Lv H->aN K H a (ns.map V.int)->sp [.ref a] H (λv _=>v=.bl true) λ_ _ _=>False)(hCX:∀H e s',CX [] H s₁ (λ_ _ _=>False) e s'->False):SV (Rh P w) Uu (.call (.ref fa) ⟨[.ref a],[]⟩) (λr s'=>r=.ok (.ret (.bool true))/\OldK s₁.heap s'.heap/\s'.os=s₁.os/\TM s'.gens) s₁:=by
 have rv:=kX hi;have lenV:=hi.length;have core:∀H:Hp,Lv H->aN K H a (ns.map V.int)->j2 P w H s₁.heap->(∀b,H b≠none->b=a)->(H a≠none->K.lookup a=none)->
   SV (Rh P w) Uu (.call (.ref fa) ⟨[.ref a],[]⟩) (λr s'=>r=.ok (.ret (.bool true))/\OldK s₁.heap s'.heap/\s'.os=s₁.os/\TM s'.gens) s₁:=by
  intro H hO hS hok hA hK;have base_of:∀{b:YC}{o:Obj},s₁.heap.get? b=some o->H b=none->(rP s₁.heap H).get? b=some o:=λe n=>BR e n;have noA:∀{b:YC}{o:Obj}{es:Array DictEntry}{ep:Nat},s₁.heap.get? b=some o->o.data=.dict es ep->H b=none:=λ{b o es ep} e d=>by
   cases q:H b with
   |none=>rfl
   |some u=>
    have e':b=a:=hA b (by rw[q];simp);subst e';rw[ha]at e;cases e;have d':Data.seq vs.toArray _=Data.dict es ep:=d;cases d'
  have nsK:∀{b:YC}{m:Q3},s₁.heap.Ns b m->(rP s₁.heap H).Ns b m:=λ{b m} ⟨o,es,ep,e,d,r⟩=>⟨o,es,ep,base_of e (noA e d),d,r⟩;have hKb:K.In (rP s₁.heap H):=λb o e=>base_of (KX b o e) (by
   cases q:H b with
   |none=>rfl
   |some u=>
    have e':b=a:=hA b (by rw[q];simp);subst e';rw[hK (by rw[q];simp)]at e;cases e)
  have hM:Mod K mg (rP s₁.heap H):=⟨hKb,nsK hns,⟨mb,nsK hb,hbb⟩,let ⟨mc,h1,h2⟩:=hlim;⟨mc,nsK h1,h2⟩⟩;have e0:xc P w K mg (rP s₁.heap H) Uu [] s₁ H:=⟨rfl,hM,λb o e=>DO e,Xc (zO _ _),trivial,λb hb=>QZ (show b∈([]:List YC)from hb) (by simp),hok,.of_eq hg⟩;refine Sb ((F _ hKb (nsK hns)).run Uu [] s₁ H ⟨[.ref a],[]⟩ [.ref a] [.ref a] _ _ hr e0 (hbind s₁ (.ref a)) (.cons rfl .nil) (hsp H hO hS)) λr s' h=>?_;cases r with
  |error e=>exact(hCX H e s' h).elim
  |ok fl=>
   cases fl with
   |next=>exact False.elim h
   |brk=>exact False.elim h
   |cont=>exact False.elim h
   |ret u=>
    obtain⟨v,H',os,bare,un,hok',r',q⟩:=h;have q':v=.bl true:=q;subst q';obtain rfl:u=UG true:=r';refine⟨rfl,OldK.of_keep λb o e=>?_,os,bare⟩;cases q:H b with
    |none=>exact un.keep b o e q (by intro z;exact QZ (show b∈([]:List YC)from z) (by simp)) (by simp)
    |some u=>
     rcases hO b with z|⟨ob,xs,z⟩
     .rw[q]at z;cases z
     .have z2:=un.frzs b ob _ z;obtain⟨e1,_⟩:=hok b _ z;obtain⟨e2,_⟩:=hok' b _ z2;rw[e]at e1;cases e1;exact e2
 cases hk:K.lookup a with
 |some o=>
  have e:=KX a o hk;rw[ha]at e;cases e;refine core (λ_=>none) (λ_=>.inl rfl) (.inr ⟨_,vs.toArray,_,hk,rfl,rfl,rfl,by rw[Vc,lenV];exact hl,by simpa using iP.ints rv⟩) (λb u z=>by have z':(none:Option HO)=some u:=z;cases z') (λb z=>QZ rfl z) λz=>QZ rfl z
 |none=>
  refine core (λb=>if b=a then some (.frz {cls:=.type "list",data:=.seq vs.toArray} (.lst (ns.map V.int)))else none) (λb=>?_) (.inl (.inr ⟨{cls:=.type "list",data:=.seq vs.toArray},QW rfl⟩)) (λb u z=>?_) (λb z=>?_) λ_=>hk
  .by_cases hb:b=a
   .exact .inr ⟨_,_,QW hb⟩
   .exact .inl (QV hb)
  .by_cases hb:b=a
   .have z':=(QW hb).symm.trans z;cases z';subst hb;exact⟨ha,by rw[U6];exact hl,vs,_,rv,ha⟩
   .have z':=(QV hb).symm.trans z;cases z'
  .by_cases hb:b=a
   .exact hb
   .exact QZ (QV hb) z
def C9{l:PySem.W.OpenLaw}{n k:Nat}{q:Rg}{loose:List Str}{XP:(Q3)->Rq->Prop}{YP:Rk->Rq->Prop}{d:DefRec}{K:TV->Frag}{CX:Rk->CS}{sp:Rk->Sp}{x:Str}(hn:l.most=some n)(hn2:n<=v1)(hdf:d.params.defaults=[])(hr:db k Uu)(hY:∀(w:Rk)(h:Rq),YP w h->(K w.params).In h)(F:∀(w:Rk)(mg:Q3)(fa:YC)(h:Rq),(K w.params).In h->h.Ns Ri mg->mg d.name=some (.ref fa)->
   ∃fd:Rn,(∀(s:Rb)(u:YB),UQ s fd ⟨[u],[]⟩ [(x,u)])/\
    ∀QR:Rq,(K w.params).In QR->QR.Ns Ri mg->aX l.prog w (K w.params) mg QR (CX w) k fa fd [x] (sp w)) (hsp:∀(w:Rk)(H:Hp)(a:YC)(ns:List Int),ns.length<=n->Lv H->aN (K w.params) H a (ns.map V.int)->sp w [.ref a] H (λv _=>v=.bl true) λ_ _ _=>False) (hCX:∀(w:Rk)(H:Hp)(s:Rb)(e:YB)(s':Rb),CX w [] H s (λ_ _ _=>False) e s'->False):PySem.W.WalkO q loose XP YP l.row.toRowW d [] (λf vs=>PySem.call f vs):=by
 refine Att.attach_call hn hdf λw s₀ s₁ mg mb fa o pm cd doc a vs ns G Y ho hd hcd hmg hobj hints hlen hg=>?_;have KX:=hY w _ Y;obtain⟨fd,hb,hF⟩:=F w mg fa _ KX G.T.g hmg;exact BI KX G.T.g G.T.b G.T.builtins G.T.nolimit hg hobj hints (WU hlen hn2) hr hF hb (λH hO hS=>hsp w H a ns hlen hO hS) λH e s'=>hCX w H s₁ e s'
noncomputable def c8(s:Rt)(j:Nat):Rt:=match s with
 | .ClassDef _ _ _ body _ _ _ _ _ _ _=>body.getD j (.Pass ⟨0,0,0,0⟩)
 |_=>.Pass ⟨0,0,0,0⟩
noncomputable def gq(s:Rt):Arguments:=match s with
 | .FunctionDef _ a _ _ _ _ _ _ _ _=>a
 |_=>{posonlyargs:=[],args:=[],vararg:=none,kwonlyargs:=[],kw_defaults:=[],kwarg:=none,defaults:=[]}
noncomputable def eU(s:Rt):List Rt:=match s with
 | .FunctionDef _ _ b _ _ _ _ _ _ _=>b
 |_=>[]
noncomputable def am(s:Rt):Tn:=match s with
 | .FunctionDef _ _ _ _ _ _ sc _ _ _=>sc
 |_=>{kind:=.function,names:=[],isGenerator:=false,isCoroutine:=false}
abbrev cI:CS:=λ_ _ _ _ _ _=>False
abbrev E0:XK:=λ_ _ _=>False
def xH:ou cI X E0:=λ_ _ _ _ _ _ _ h=>h.elim
structure ci(K:Frag)(x qual:Str)(st:Rt)(f:YC)(fd:Rn):Prop where
 ex:∃oc od kV doc pm an cdv ct osl,
  fd=X7 x qual (gq st) (eU st) (am st) .none kV doc pm an cdv ct/\K.lookup f=some ⟨oc,od,.func fd,osl⟩/\Yi K cdv qual=true
 kp:X6 K (.ref f)=true
section
variable{P:Rg}{w:Rk}{K:Frag}{mg:Q3}{QR:Rq}
def ci.ok{x qual:Str}{st:Rt}{f:YC}{fd:Rn}{N ps:List Str}{k:Nat}{sp:Sp}(F:ci K x qual st f fd)(S:aC N ps (am st))(len:∀vs H Q E,sp vs H Q E->vs.length=ps.length)(hbody:∀cdv A QS s H vs Q E,db k (A.deeper (TQ qual (am st) s.heap.objs.size f cdv))->sp vs H Q E->
   ∃t,w9 (wL cI P w K mg QR N qual (am st) f cdv A QS s H E).nox (eU st) t/\t {nx:=λ_ H'=>Q .non H',rt:=Q} (start N vs) H):aX P w K mg QR cI (k+1) f fd ps sp:=by
 obtain⟨oc,od,kV,doc,pm,an,cdv,ct,osl,rfl,lk,hcd⟩:=F.ex;refine Ov lk hcd S len λA QS s H vs Q E hr hsp=>?_;obtain⟨t,h,q⟩:=hbody cdv A QS s H vs Q E hr hsp;exact⟨t,h.nox,q⟩
def ci.ok2{x qual:Str}{st:Rt}{f:YC}{fd:Rn}{N ps:List Str}{k:Nat}{sp:Sp}(F:ci K x qual st f fd)(S:aC N ps (am st))(hbody:∀cdv A QS s H vs Q E,db k (A.deeper (TQ qual (am st) s.heap.objs.size f cdv))->(A.deeper (TQ qual (am st) s.heap.objs.size f cdv)).units+20<RM->sp vs H Q E->
   ∃t,w9 (wL cI P w K mg QR N qual (am st) f cdv A QS s H E).nox (eU st) t/\t {nx:=λ_ H'=>Q .non H',rt:=Q} (start N vs) H) (len:∀vs H Q E,sp vs H Q E->vs.length=ps.length:=by intro _ _ _ _ h;(repeat rcases h with⟨_,h⟩);subst_vars;rfl):aX P w K mg QR cI (k+1) f fd ps sp:=F.ok S len λc A o s H v Q E r h=>hbody c A o s H v Q E r (by have:=r.units;lia) h
def ci.binds{x qual:Str}{st:Rt}{f:YC}{fd:Rn}{ps:List Str}(F:ci K x qual st f fd)(h:∀kV doc pm an cdv ct us,us.length=ps.length->bindArgs (X7 x qual (gq st) (eU st) (am st) .none kV doc pm an cdv ct) ⟨us,[]⟩=pure (ps.zip us)):jS K fd ps []:=by obtain⟨oc,od,kV,doc,pm,an,cdv,ct,osl,rfl,lk,hcd⟩:=F.ex;exact .all (h kV doc pm an cdv ct)
def wv{x qual:Str}{st:Rt}{f:YC}{oc:YB}{od an:Option YC}{osl:Array (Option YB)}{kV doc pm cdv ct:YB}(l:K.lookup f=some ⟨oc,od,.func (X7 x qual (gq st) (eU st) (am st) .none kV doc pm an cdv ct),osl⟩)(c:Yi K cdv qual=true)(k:X6 K (.ref f)=true):ci K x qual st f (X7 x qual (gq st) (eU st) (am st) .none kV doc pm an cdv ct):=⟨⟨oc,od,kV,doc,pm,an,cdv,ct,osl,rfl,l,c⟩,k⟩
end
def gO{A B:Prop}(h:B):if false=true then A else B:=by rw[QV Xw];exact h
def gN{A B:Prop}(h:A):if true=true then A else B:=by rw[QW rfl];exact h
def ah(H H':Hp):Prop:= ∀b o,H b=some o->H' b=some o
def ah.refl(H:Hp):ah H H:=λ_ _ h=>h
def ah.trans(a:ah H H1)(b:ah H1 H2):ah H H2:=λc o h=>b c o (a c o h)
def ah.free(e:ah H H')(h:H' l=Option.none):H l=Option.none:=by
 cases q:H l with
 |none=>rfl
 |some o=>
  rw[e l o q]at h;cases h
def ah.seq{K:Frag}{H H':Hp}{a:YC}{xs:List V}(e:ah H H')(h:aN K H a xs):aN K H' a xs:=by
 rcases h with(h|⟨o,h⟩)|h
 .exact .inl (.inl (e _ _ h))
 .exact .inl (.inr ⟨o,e _ _ h⟩)
 .exact .inr h
noncomputable def kP(env:U4):List (Str×NameKind)->List (Str×YC)->List (Str×YC)
 | [],cs=>cs
 |(n,k)::r,cs=>kP env r (if k == .free then(match env.cells.lookup n with|some a=>(n,a)::cs|none=>cs)else cs)
theorem hJ(env:U4):∀l cs,(∀x∈l,x.2=.free->∃c,env.cells.lookup x.1=some c)->(forIn l cs λ(x:Str×NameKind) r=>if(x.2 == Sn)=true then do let a<-cellOf env x.1;pure (ForInStep.yield ((x.1,a)::r))else pure (ForInStep.yield r):Sem (List (Str×YC)))=pure (kP env l cs)
 | [],cs,_=>rfl
 |(n,k)::r,cs,h=>by
  have hr:∀x∈r,x.2=.free->∃c,env.cells.lookup x.1=some c:=λx hx=>h x (Vd _ hx);rw[Wh,kP]
  by_cases hk:(k == Sn)=true
  .obtain⟨c,hc⟩:=h (n,k) Vf (by simpa using hk);have hc':env.cells.lookup n=some c:=hc;have e:cellOf env n=pure c:=by unfold cellOf;rw[hc']
   simp only[hk,if_true,e,pure_bind,hc'];exact hJ env r _ hr
  .simp only[hk,if_false,pure_bind];exact hJ env r _ hr
def jR(h:∀x∈scope.names,x.2=.free->∃c,env.cells.lookup x.1=some c):closureFor scope env=pure (kP env scope.names []):=by have e:=hJ env scope.names [] h;unfold closureFor;show(forIn scope.names ([]:List (Str×YC)) _ >>= λr=>pure r:Sem (List (Str×YC)))=_;rw[bind_pure];exact e
theorem uK(env:U4):∀l cs x c,cs.lookup x=some c->env.cells.lookup x=some c->(kP env l cs).lookup x=some c
 | [],_,_,_,h,_=>h
 |(n,k)::r,cs,x,c,h,e=>by
  rw[kP];refine uK env r _ x c ?_ e;split
  .cases q:env.cells.lookup n with
   |none=>exact h
   |some a=>
    show List.lookup x ((n,a)::cs)=some c;rw[VI];cases hx:x == n with
    |false=>exact h
    |true=>
     have:x=n:=by simpa using hx
     subst this;rw[q]at e;exact e
  .exact h
theorem oj(env:U4):∀l cs x c,(∀y d,cs.lookup y=some d->env.cells.lookup y=some d)->(kP env l cs).lookup x=some c->env.cells.lookup x=some c
 | [],cs,x,c,h,e=>h x c e
 |(n,k)::r,cs,x,c,h,e=>by
  rw[kP]at e;refine oj env r _ x c ?_ e;intro y d q;split at q
  .cases z:env.cells.lookup n with
   |none=>rw[z]at q;exact h y d q
   |some a=>
    rw[z]at q;have q2:List.lookup y ((n,a)::cs)=some d:=q;rw[VI]at q2;cases hx:y == n with
    |false=>rw[hx]at q2;exact h y d q2
    |true=>
     rw[hx]at q2;have hyn:y=n:=by simpa using hx
     rw[hyn,z];exact q2
  .exact h y d q
theorem om(env:U4):∀l cs x c,(x,Sn)∈l->env.cells.lookup x=some c->(kP env l cs).lookup x=some c
 | [],_,_,_,h,_=>by simp at h
 |(n,k)::r,cs,x,c,h,e=>by
  rw[kP]
  rcases U8.mp h with h|h
  .have h1:n=x:=(Q2 Prod.fst h).symm;have h2:k=Sn:=(Q2 Prod.snd h).symm;subst h1 h2;refine uK env r _ n c ?_ e;rw[e];show List.lookup n (if(Sn == Sn)=true then(n,c)::cs else cs)=some c;rw[QW (by decide),VI];simp
  .exact om env r _ x c h e
def kj(scope:Tn)(env:U4)(x:Str):(UJ scope env).names.lookup x=(scope.names.lookup x).map λk=>if(k == .free&&env.scope.kind == .function&&env.kindOf x == some .cell)=true then TX else k:=by
 show(scope.names.map λ(p:Str×NameKind)=>if(p.2 == .free&&env.scope.kind == .function&&env.kindOf p.1 == some .cell)=true then(p.1,TX)else(p.1,p.2)).lookup x=_
 induction scope.names with
 |nil=>rfl
 |cons p r ih=>
  obtain⟨n,k⟩:=p;rw[Vm];show List.lookup x ((if(k == .free&&env.scope.kind == .function&&env.kindOf n == some .cell)=true then(n,TX)else(n,k))::_)=_;cases hx:x == n with
  |false=>
   have e1:List.lookup x ((n,k)::r)=List.lookup x r:=by rw[VI,hx]
   rw[e1];split<;>(rw[VI,hx];exact ih)
  |true=>
   have:x=n:=by simpa using hx
   subst this;have e1:List.lookup x ((x,k)::r)=some k:=by rw[VI,hx]
   rw[e1];show _=some _;split
   .rename_i hc;rw[VI,hx];show some TX=some (if _ then _ else _);rw[QW hc]
   .rename_i hc;rw[VI,hx];show some k=some (if _ then _ else _);rw[QV hc]
structure cA(X:Cx)(N:List Str)(src:List (Option Nat))(scope:Tn):Prop where
 kind:scope.kind=.function
 nocell:∀y∈scope.names,y.2≠.cell
 names:∀y∈scope.names,y.2=.local->scope.names.lookup y.1=some .local
 fre:∀y∈scope.names,y.2=.free->X.env.kindOf y.1=some .cell\/X.env.kindOf y.1=some .free
 len:src.length=N.length
 nd:N.Nodup
 src:∀(j i:Nat)(x:Str),N[j]? =some x->src[j]? =some (some i)->X.N[i]? =some x/\scope.names.lookup x=some .free
noncomputable def wN(dsc:Tn)(XN N:List Str)(src:List (Option Nat))(scope:Tn):Bool:=
 decide (scope.kind=.function)&&scope.names.all (λy=>decide (y.2≠.cell))&&scope.names.all (λy=> !decide (y.2=.local)||decide (scope.names.lookup y.1=some .local))&&
 scope.names.all (λy=> !decide (y.2=.free)||decide (dsc.names.lookup y.1=some .cell)||decide (dsc.names.lookup y.1=some .free))&&decide (src.length=N.length)&&decide N.Nodup&&
 (N.zip src).all λp=>match p.2 with
  |none=>true
  |some i=>decide (XN[i]? =some p.1)&&decide (scope.names.lookup p.1=some .free)
def cA.of{X:Cx}{XN N:List Str}{src:List (Option Nat)}(he:X.env.scope=dsc)(hN:X.N=XN)(h:wN dsc XN N src scope=true):cA X N src scope:=by
 subst he hN;unfold wN at h;simp only[Xx,decide_eq_true_eq,Vt,XG,XA,decide_eq_false_iff_not]at h;obtain⟨⟨⟨⟨⟨⟨h1,h2⟩,h3⟩,h4⟩,h5⟩,h6⟩,h7⟩:=h;refine⟨h1,h2,λy hy e=>?_,λy hy e=>?_,h5,h6,λj i x e1 e2=>?_⟩
 .rcases h3 y hy with q|q
  .exact QZ e q
  .exact q
 .rcases h4 y hy with(q|q)|q
  .exact QZ e q
  .exact .inl q
  .exact .inr q
 .have hm:(x,some i)∈N.zip src:=by
   have:(N.zip src)[j]? =some (x,some i):=by rw[List.getElem?_zip_eq_some];exact⟨e1,e2⟩
   exact Vn this
  have q:=h7 _ hm;simpa using q
noncomputable def cxC(X:Cx)(scope:Tn)(N:List Str)(s:Rb)(H:Hp)(ex:List YC):Cx:=
 {X with
  N:=N
  s₀:=s
  H₀:=H
  env:=compEnvC scope (kP X.env scope.names []) s.heap.objs.size X.env
  QS:=X.stack
  ex:=ex
  fn:=λ_=>false
  pn:=[]
  xe:=λ_ _=>False}
noncomputable def fc(src:List (Option Nat))(σ:St):St:=src.map λo=>match o with|none=>none|some i=>(σ[i]?).join
section
variable{X:Cx}{QQ:Q5}{σ:St}{H:Hp}{s:Rb}{N:List Str}{src:List (Option Nat)}{scope:Tn}{ex:List YC}
theorem cA.cells(S:cA X N src scope)(ok:X.Ok):∀x∈scope.names,x.2=.free->∃c,X.env.cells.lookup x.1=some c:=λx hx e=>ok.has _ (S.fre x hx e)
def aL.enterC(I:aL X QQ σ H s)(S:cA X N src scope)(hf:∀b∈ex,jt X QQ H b)(hlt:∀b∈ex,b<s.heap.objs.size)(hns:h1.Ns s.heap.objs.size m)(hk:∀b o,s.heap.get? b=some o->h1.get? b=some o):aL (cxC X scope N s H ex) [] (fc src σ) H {s with heap:=h1,toks:=tk}:=by
 have neC:∀b o,s.heap.get? b=some o->b≠s.heap.objs.size:=λb o e=>WS (Q9 e);have sub:∀x c,(kP X.env scope.names []).lookup x=some c->X.env.cells.lookup x=some c:=λx c e=>oj X.env _ _ x c (λy d z=>by simp at z) e;refine⟨⟨I.ok.mod,S.kind,I.ok.glob,I.ok.blt,WR _,λx y c e1 e2=>I.ok.inj x y c (sub x c e1) (sub y c e2),λx hx=>?_,λx c z=>QZ z (by simp[cxC]),I.ok.hd,I.ok.frames,.inl rfl,λb hb=>?_,I.bs,WU I.ok.bsz I.sz,λb o e hb=>?_,λb hb hz=>?_,I.stack,I.stkFree⟩,
  rfl,I.bare,Un.kept hk,⟨m,hns,λj x v e1 e2 e3=>?_⟩,λx c e=>?_,I.hok.fresh (WR _),λx c e=>I.freeC x c (sub x c e),λp hp=>QZ (show p∈([]:Q5)from hp) (by simp),I.hok.kept hk,?_⟩
 .have hx:(UJ scope X.env).names.lookup x=some .cell\/(UJ scope X.env).names.lookup x=some .free:=hx;have hm:(x,Sn)∈scope.names:=by
   rw[kj]at hx;cases q:scope.names.lookup x with
   |none=>rw[q]at hx;simp at hx
   |some k=>
    have hm:=PySem.mem_of_lookup q;cases k with
    |free=>exact hm
    |cell=>exact QZ rfl (S.nocell _ hm)
    |_=>rw[q]at hx;simp at hx
  obtain⟨c,hc⟩:=S.cells I.ok _ hm rfl;exact⟨c,om X.env _ _ x c hm hc⟩
 .obtain⟨f0,f1,f2,f3,f4,f5⟩:=hf b hb;exact⟨WS (hlt b hb),λx c e=>f4 x c (sub x c e)⟩
 .obtain⟨f0,f1,f2,f3,f4,f5⟩:=hf b hb
  rcases f3 with z|z
  .exact I.ok.noex b o e z
  .exact QZ (WV (Q9 (I.ok.bs b o e).1) z) (WY _)
 .obtain⟨f0,f1,f2,f3,f4,f5⟩:=hf b hb
  rcases U8.mp (I.stkSub b hz)with z|z
  .exact f1 z
  .exact f2 z
 .have e2:(fc src σ)[j]? =some (some v):=e2;unfold fc at e2;rw[Va]at e2;cases q:src[j]? with
  |none=>rw[q]at e2;simp at e2
  |some o=>
   rw[q]at e2;cases o with
   |none=>simp at e2
   |some i=>
    have e2:(σ[i]?).join=some v:=by simpa using e2
    have e2:σ[i]? =some (some v):=by
     cases z:σ[i]? with
     |none=>rw[z]at e2;simp at e2
     |some w=>rw[z]at e2;simp at e2;rw[e2]
    obtain⟨hX,hfr⟩:=S.src j i x e1 q;have hm:=PySem.mem_of_lookup hfr;have hk2:=S.fre _ hm rfl;obtain⟨mX,hnX,hl⟩:=I.loc;have hvis:Pm X.env.scope x:=.inr hk2;obtain⟨u,r,l⟩:=hl i x v hX e2 hvis;refine⟨u,r,?_⟩
    rcases l with⟨l1,_⟩|⟨_,c,hc,hcell⟩
    .rcases hk2 with z|z
     .have:X.env.kindOf x=some .cell:=z;rw[l1]at this;cases this
     .have:X.env.kindOf x=some .free:=z;rw[l1]at this;cases this
    .refine .inr ⟨?_,c,om X.env _ _ x c hm hc,?_⟩
     .show(UJ scope X.env).names.lookup x=some .cell\/(UJ scope X.env).names.lookup x=some .free;rw[kj,hfr]
      by_cases hcc:(Sn == .free&&X.env.scope.kind == .function&&X.env.kindOf x == some .cell)=true
      .left
       show some (if _ then _ else _)=_;rw[QW hcc]
      .right
       show some (if _ then _ else _)=_;rw[QV hcc]
     .exact hcell.keeps hk
 .obtain⟨v,z⟩:=I.cell x c (sub x c e);exact⟨v,z.keeps hk⟩
 .show(fc src σ).length=N.length;unfold fc;rw[U6];exact S.len
end
def uY(X:Cx)(ifs:List RU)(t:TT):Prop:=
 ∀(QQ:Q5)(s:Rb)(σ:St)(H:Hp)(Q:Bool->Hp->Prop),aL X QQ σ H s->t σ H Q->
  Ra (Rh X.prog X.w) X.A (forIn ifs true λc r=>if r=true then do let ok<-UU c X.env (RH c X.env);pure (ForInStep.yield ok)else pure (ForInStep.yield r)) (TP X QQ σ Q) X.xe s
def iK:TT:=λ_ H Q=>Q true H
def bO:uY X [] iK:=λ_ _ _ H _ I h=>wpAny_tests_nil ⟨H,I,h⟩
def ku(h:PT X c t):uY X [c] t:=λQQ s σ H Q I hw=>wpAny_tests_one (h QQ s σ H Q I hw)
def eV(g:TG)(tt:TT)(te:TE)(src:List (Option Nat))(σ:St)(Q:VK)(J:It)(H1:Hp):Prop:=
 ∃W:Nat->Nat->List V->St->Hp->Prop,(∃m,W 0 m [] (fc src σ) H1)/\∀i m ys σ' H',W i m ys σ' H'->
  (J.stop i H'/\∀p,H' p=none->Q (.ref p) (upd H' p (.lst ys)))\/
  (J.go i H'/\ys.length<v1/\∀x H2,J.yld i H' x H2->g x σ' H2 λσ3 H3=>tt σ3 H3 λb H4=>
   if b=true then te σ3 H4 λv H5=>∃m',m'<m/\W (i+1) m' (ys++[v]) σ3 H5 else∃m',m'<m/\W (i+1) m' ys σ3 H4)
def tComp(wi:TI)(g:TG)(tt:TT)(te:TE)(src:List (Option Nat)):TE:=λσ H Q=>wi σ H (eV g tt te src σ Q)
def yz(X:Cx)(QQ:Q5)(σ:St)(Q:VK)(acc:YB)(C:YC)(r:Result)(s':Rb):Prop:=
 (∃f,r=.ok f)/\∃D H',acc=.ref D/\aL X QQ σ H' s'/\(∃m,s'.heap.Ns C m)/\jt X QQ H' C/\Q (.ref D) H'
def rW(I:Nat->Rb->Prop)(turn:∀n s,I n s->Ra (Rh prog w) A (Sm it) (λr s₁=>match r with
   |none=>R (.ok .next) s₁
   |some v=>Ra (Rh prog w) A (Tj target it v) (λ_ s₂=>Ra (Rh prog w) A (UE target env v) (λ_ s₃=>
     Ra (Rh prog w) A (forIn ifs true λc r=>if r=true then do let ok<-UU c env (RH c env);pure (ForInStep.yield ok)else pure (ForInStep.yield r)) (λok s₄=>
      if ok=true then Ra (Rh prog w) A (RH elt env) (λx s₅=>Ra (Rh prog w) A (call (.builtin "list.append") [acc,x]) (λ_ s₆=>∃m,m<n/\I m s₆) (λ_ _=>False) s₅) (λ_ _=>False) s₄
      else∃m,m<n/\I m s₄) (λ_ _=>False) s₃) (λ_ _=>False) s₂) (λ_ _=>False) s₁) (λ_ _=>False) s) (n:Nat) (h:I n s):SV (Rh prog w) A (.compLoop (.ListComp elt [⟨target,iter,ifs,0⟩] scope pos) 0 it acc env) R s:=by
 refine codeAny_loop rfl I (λn s hI=>?_) n h;show Ra _ A ((compTurn (.ListComp elt [⟨target,iter,ifs,0⟩] scope pos) 0 it acc env).onRaise (λx=>do noteFrame x env;theTreesLotGoes x)) _ _ s;refine wpAny_noted ?_;rw[compTurn_list];refine Q6 (Uw (Q6 (RT (turn n s hI) (λr s₁ h₁=>?_) λ_ _ f=>f.elim)));cases r with
 |none=>exact Q7 h₁
 |some v=>
  refine Q6 (RT h₁ (λ_ s₂ h₂=>?_) λ_ _ f=>f.elim);refine Q6 (RT h₂ (λ_ s₃ h₃=>Q6 (RT h₃ (λok s₄ h₄=>?_) λ_ _ f=>f.elim)) λ_ _ f=>f.elim);cases ok with
  |false=>exact Q7 ⟨rfl,h₄⟩
  |true=>
   exact Q6 (Q6 (RT h₄ (λx s₅ h₅=>Q6 (RT h₅ (λ_ s₆ h₆=>Q7 (Q7 ⟨rfl,h₆⟩)) λ_ _ f=>f.elim)) λ_ _ f=>f.elim))
noncomputable abbrev jI(us:List YB)(k:Nat):Obj:={cls:=.type "list",data:=.seq us.toArray k}
section
def uF(hc:X.calm=true)(S:cA X N src scope)(hg:∀s H ex,PG (cxC X scope N s H ex) tg g)(ht:∀s H ex,uY (cxC X scope N s H ex) ifs tt)(he:∀s H ex,PE (cxC X scope N s H ex) elt te)(h:QD X QQ σ tg (eV g tt te src σ Q) itv s2):Ra (Rh X.prog X.w) X.A (newList []) (λacc s₃=>Ra (Rh X.prog X.w) X.A (newFunctionEnv scope X.env.globals (kP X.env scope.names []) [] X.env.qual none .none (some X.env)) (λcenv s₄=>
   SV (Rh X.prog X.w) X.A (.compStart (.ListComp elt [⟨tg,iter,ifs,0⟩] scope pos) 0 itv acc {cenv with scope:=UJ scope X.env}) (yz X QQ σ Q acc cenv.locals) s₄) E s₃) E s2:=by
 obtain⟨it,fp,tn,J,H1,e,I2,T,st2,f2,W,⟨m0,w0⟩,turn⟩:=h;subst e;refine RX (wpAny_newFunctionEnv S.nocell (by intro y hy;simp at hy) (λh₁ hns₁ hsb₁=>?_) S.kind);dsimp only at hns₁ hsb₁ ⊢;generalize hH2:s2.heap.push {cls:=.type "list",dict:=none,data:=.seq ([]:List YB).toArray}=H2 at hns₁ hsb₁ ⊢;have hC:H2.objs.size=s2.heap.objs.size+1:=by rw[<-hH2,Rz]
 have push:∀b o,s2.heap.get? b=some o->H2.get? b=some o:=λb o e=>hH2▸Q8 _ e;have hD2:H2.get? s2.heap.objs.size=some (jI [] 0):=hH2▸Re _ rfl;have hk:∀b o,H2.get? b=some o->h₁.get? b=some o:=λb o e=>hsb₁.extBut b o (WS (Q9 e)) (Q8 _ e);generalize hD:s2.heap.objs.size=D at*;have I3:aL X QQ σ H1 {s2 with heap:=H2}:=I2.kept (t':=s2.toks) push;have fD:jt X QQ H1 D:=I2.fpOk (Xc hD) (I2.hok.fresh (Xc hD));have fpl:∀b∈fp,b<D:=λb hb=>by obtain⟨o,e,_⟩:=T.obj _ _ st2 b hb;rw[<-hD];exact Q9 e
 have fex:∀b∈D::fp,jt X QQ H1 b:=λb hb=>by
  rcases U8.mp hb with z|z
  .rw[z];exact fD
  .exact f2 b z
 have lex:∀b∈D::fp,b<({s2 with heap:=H2}:Rb).heap.objs.size:=λb hb=>by
  show b<H2.objs.size
  rcases U8.mp hb with z|z
  .rw[z,hC];exact WZ _
  .rw[hC];exact Xd (fpl b z)
 have I4:=I3.enterC (N:=N) S fex lex (h1:=h₁) (tk:=s2.toks+([]:List (Str×YB)).length) hns₁ hk;generalize hY:cxC X scope N {s2 with heap:=H2} H1 (D::fp)=Y at*;have yP:Y.prog=X.prog:=by rw[<-hY];rfl
 have yw:Y.w=X.w:=by rw[<-hY];rfl
 have yA:Y.A=X.A:=by rw[<-hY];rfl
 have yC:Y.env.locals=H2.objs.size:=by rw[<-hY];rfl
 have yK:Y.K=X.K:=by rw[<-hY];rfl
 have yc:Y.calm=true:=by rw[<-hY];exact hc
 have yfs:Y.fs=x6 X.stack:=by rw[<-hY];rfl
 have yex:Y.ex=D::fp:=by rw[<-hY];rfl
 have ypn:Y.pn=[]:=by rw[<-hY];rfl
 have yxe:Y.xe=λ_ _=>False:=by rw[<-hY];rfl
 have ycl:∀x c,Y.env.cells.lookup x=some c->X.env.cells.lookup x=some c:=by rw[<-hY];exact λx c e=>oj X.env _ _ x c (λy d z=>by simp at z) e
 have ye:Y.env=compEnvC scope (kP X.env scope.names []) H2.objs.size X.env:=by rw[<-hY];rfl
 have ys0:Y.s₀={s2 with heap:=H2}:=by rw[<-hY];rfl
 have yH0:Y.H₀=H1:=by rw[<-hY];rfl
 have hgY:PG Y tg g:=by rw[<-hY];exact hg _ _ _
 have htY:uY Y ifs tt:=by rw[<-hY];exact ht _ _ _
 have heY:PE Y elt te:=by rw[<-hY];exact he _ _ _
 have nfs:∀b∈D::fp,b∉Y.fs:=λb hb z=>by
  rw[yfs]at z;obtain⟨f0,f1,f2',_⟩:=fex b hb
  rcases U8.mp (I2.stkSub b z)with q|q
  .exact f1 q
  .exact f2' q
 have ncl:∀b∈D::fp,∀x c,Y.env.cells.lookup x=some c->c≠b:=λb hb x c e=>(fex b hb).2.2.2.2.1 x c (ycl x c e);have nC:∀b∈D::fp,b≠Y.env.locals:=λb hb=>by rw[yC];exact WS (lex b hb)
 have stat:∀{H':Hp}{us:List YB}{k:Nat},(∀b∈fp,H' b=none)->∀b∈fp,jt Y [(D,jI us k)] H' b:=λ{H' us k} hn b hb=>
  ⟨hn b hb,nC b (Vd _ hb),nfs b (Vd _ hb),.inl (by rw[yex];exact Vd _ hb),ncl b (Vd _ hb),λp hp=>by
   rw[ypn]at hp;have hp1:p=(D,jI us k):=by simpa using hp
   rw[hp1];exact WX (fpl b hb)⟩
 have pinD:∀{σ':St}{H':Hp}{s':Rb}{pl:Q5}{us:List YB}{k:Nat},aL Y pl σ' H' s'->s'.heap.get? D=some (jI us k)->H' D=none->aL Y [(D,jI us k)] σ' H' s':=λ{σ' H' s' pl us k} I' e n=>
  I'.pins_of λp hp=>by
   have hp1:p=(D,jI us k):=by simpa using hp
   subst hp1;exact⟨e,n,nC D Vf,nfs D Vf,λv z=>by cases z⟩
 have I4':aL Y [(D,jI [] 0)] (fc src σ) H1 {s2 with heap:=h₁,toks:=s2.toks+([]:List (Str×YB)).length}:=pinD I4 (hk _ _ hD2) fD.1;have loop:SV (Rh X.prog X.w) X.A (.compLoop (.ListComp elt [⟨tg,iter,ifs,0⟩] scope pos) 0 (.ref it) (.ref D) Y.env) (yz X QQ σ Q (.ref D) H2.objs.size) {s2 with heap:=h₁,toks:=s2.toks+([]:List (Str×YB)).length}:=by
  refine rW (λn s'=>∃i ys us k σ' H',aL Y [(D,jI us k)] σ' H' s'/\tn i s'.heap/\(∀b∈fp,H' b=none)/\a9 ys us/\ys.length<=v1/\W i n ys σ' H') ?_ m0
   ⟨0,[],[],0,_,H1,I4',T.keep _ _ _ st2 λb hb o e=>hk _ _ (push b o e),λb hb=>(f2 b hb).1,.nil,WT _,w0⟩
  rintro n s3 ⟨i,ys,us,k,σ3,H3,I3',st3,fr3,rv,hz,w3⟩
  rcases turn i n ys σ3 H3 w3 with⟨stop,q⟩|⟨go,hlen,step⟩
  .have hd:=T.done Y yP yw yK yc i _ s3 σ3 H3 (λ_ _=>False) I3' (stat fr3) st3 stop;rw[yA]at hd;refine bH hd λr s4 ⟨hr,I4⟩=>?_;subst hr;obtain⟨eD,nD,_⟩:=I4.pin (D,jI us k) (by simp);have eD:s4.heap.get? D=some (jI us k):=eD;have nD:H3 D=none:=nD;have QR:Un (x6 X.stack) (D::fp) H1 H3 H2 s4.heap:=by have b:=I4.QR;rw[yex,yH0,ys0,yfs]at b;exact b
   have hnD:∀b o,s2.heap.get? b=some o->b≠D:=λb o e=>by rw[<-hD];exact WS (Q9 e)
   have nx:∀b o,s2.heap.get? b=some o->b∉fp->b∉D::fp:=λb o e hb z=>(U8.mp z).elim (hnD b o e) hb;have un:Un (x6 X.stack) fp H1 (upd H3 D (.lst ys)) s2.heap s4.heap:=
    ⟨λb o e n hb hx=>QR.keep b o (push b o e) n hb (nx b o e hx),λb o e n hb hx=>QR.slot b o (push b o e) n hb (nx b o e hx),λb o e n hx=>by rw[ak (hnD b o e)];exact QR.free b o (push b o e) n (nx b o e hx),
     λb o e hx=>QR.there b o (push b o e) (nx b o e hx),λb xs e=>by rw[ak (ay e fD.1)];exact QR.tups b xs e,λb o u e=>by rw[ak (ay e fD.1)];exact QR.frzs b o u e,
     λb ps e=>by rw[ak (ay e fD.1)];exact QR.tbls b ps e⟩
   have hok:j2 X.prog X.w (upd H3 D (.lst ys)) s4.heap:=λb u e=>by
    by_cases hb:b=D
    .subst hb;rw[af]at e;cases e;exact⟨hz,us,k,rv,eD⟩
    .rw[ak hb]at e;have x:=I4.hok b u e;rw[yP,yw]at x;exact x.stay (λc v _ z=>z) (λc z=>by rw[ak (ay z nD)];exact z) λc xs z=>by rw[ak (ay z nD)];exact z
   have ho:s4.os=s2.os:=by rw[I4.os,ys0]
   have J':aL X QQ σ (upd H3 D (.lst ys)) s4:=I2.call' (ch:=fp) ho un hok I4.bare λb hb=>⟨(f2 b hb).2.2.2.1,(f2 b hb).2.1,(f2 b hb).2.2.2.2.1,(f2 b hb).2.2.2.2.2⟩;refine⟨⟨_,rfl⟩,D,_,rfl,J',?_,?_,q D nD⟩
   .obtain⟨m,hm,_⟩:=I4.loc;rw[yC]at hm;exact⟨m,hm⟩
   .refine I2.fpOk (by rw[hC,hD];exact WW _) ?_;rw[ak (by rw[hC];exact Xf D)];have z:=I4.free;rw[yC]at z;exact z
  .have hd:=T.item Y yP yw yK yc i _ s3 σ3 H3 (λ_ _=>False) I3' (stat fr3) st3 go;rw[yA]at hd;refine bH hd λr s4 ⟨u,hr,h4⟩=>?_;subst hr;refine bH h4 λ_ s5 ⟨x,H5,I5,r5,y5,st5,fr5⟩=>?_;have I5':=I5.pinned (stat fr5) (T.obj _ _ st5);have hg':=hgY _ s5 σ3 H5 x u _ I5' r5 (step x H5 y5);rw[yP,yw,yA,yxe]at hg';refine bH hg' λ_ s6 ⟨σ6,H6,I6,q6⟩=>?_;have ht':=htY _ s6 σ6 H6 _ I6 q6;rw[yP,yw,yA,yxe]at ht';refine bH ht' λok s7 ⟨H7,I7,q7⟩=>?_;have again:∀{σ8:St}{H8:Hp}{s8:Rb}{ys':List V}{us':List YB}{k' m':Nat},aL Y ([(D,jI us' k')]++jg fp s5.heap) σ8 H8 s8->a9 ys' us'->ys'.length<=v1->m'<n->W (i+1) m' ys' σ8 H8->
     ∃m,m<n/\∃i ys us k σ' H',aL Y [(D,jI us k)] σ' H' s8/\tn i s8.heap/\(∀b∈fp,H' b=none)/\a9 ys us/\ys.length<=v1/\W i m ys σ' H':=λ{σ8 H8 s8 ys' us' k' m'} I8 rv' hz' hm w8=>by
    refine⟨m',hm,i+1,ys',us',k',σ8,H8,I8.unpinned,T.keep _ _ _ st5 λb hb o e=>(I8.pin (b,o) (Vr _ (Vr _ (iE hb e)))).1,λb hb=>?_,rv',hz',w8⟩;obtain⟨o,e,d⟩:=T.obj _ _ st5 b hb;exact(I8.pin (b,o) (Vr _ (Vr _ (iE hb e)))).2.1
   cases ok with
   |false=>
    obtain⟨m',hm,w8⟩:=q7;exact again I7 rv hz hm w8
   |true=>
    rw[QW rfl];have he':=heY _ s7 σ6 H7 _ I7 q7;rw[yP,yw,yA,yxe]at he';refine bH he' λu8 s8 ⟨v,H8,I8,r8,m',hm,w8⟩=>?_;obtain⟨eD,nD,_⟩:=I8.pin (D,jI us k) (by simp);have eD:s8.heap.get? D=some (jI us k):=eD;have nD:H8 D=none:=nD;have hl:=rv.length;refine SI F.slot_list_append ⟨_,eD,rfl⟩ F.entry_list_append (F.args_list_append_2 _ _) (PySem.list_append D us.toArray k u8 (by rw[Vc];lia)) ⟨eD,?_⟩;have q:=PySem.IsL.update eD (λa=>a.push u8);have eu:us.toArray.push u8=(us++[u8]).toArray:=by simp
    rw[eu]at q;obtain⟨k',q⟩:∃k',(s8.heap.update D (R7 λa=>a.push u8)).get? D=some (jI (us++[u8]) k'):=⟨_,q⟩;have I8':aL Y (jg fp s5.heap) σ6 H8 s8:=I8.pins_of λp hp=>I8.pin p (Vr _ (Vr _ hp));have I9:aL Y (jg fp s5.heap) σ6 H8 {s8 with heap:=s8.heap.update D (R7 λa=>a.push u8)}:=I8'.turned (it:=D) (t':=s8.toks) (λb o hb e=>(Sc s8.heap _ (Ne.symm hb)).trans e) nD (nC D Vf)
     (.inl (by rw[yex];exact Vf)) (ncl D Vf) λp hp=>by
      rw[ypn]at hp;have hp:p∈jg fp s5.heap:=by simpa using hp
      exact WS (fpl _ (pF hp).1)
    refine again (us':=us++[u8]) (ys':=ys++[v]) (m':=m') (k':=k') (I9.pins_of λp hp=>?_) (rv.append (.cons r8 .nil)) (by rw[Ve,Wf];lia) hm w8
    rcases Vk.mp hp with z|z
    .have hp1:p=(D,jI (us++[u8]) k'):=by simpa using z
     subst hp1;exact⟨q,nD,nC D Vf,nfs D Vf,λv z=>by cases z⟩
    .exact I9.pin p (Vr _ z)
 rw[ye]at loop;exact codeAny_compStart_list loop (T.self _ 0 _ _ _ (T.keep _ _ _ st2 λb hb o e=>hk _ _ (push b o e)) loop)
def DE(hc:X.calm=true)(S:cA X N src scope)(hi:PI X tg iter wi)(hg:∀s H ex,PG (cxC X scope N s H ex) tg g)(ht:∀s H ex,uY (cxC X scope N s H ex) ifs tt)(he:∀s H ex,PE (cxC X scope N s H ex) elt te)(hs:∀x,S4 iter X.env x=pure x:=by intro _;rfl):PE X (.ListComp elt [⟨tg,iter,ifs,0⟩] scope pos) (tComp wi g tt te src):=by intro QQ s σ H Q I h;rw[eval_ListComp];refine TN (use:=none) rfl hs (jR (S.cells I.ok)) S.kind S.names (bH (hi QQ s σ H _ I h) λv s1 h1=>bH h1 λit s2 h2=>?_);refine bH (uF hc S hg ht he h2) λacc s3 h3=>bH h3 λcenv s4 h4=>Sb h4 λr s' hr=>?_;obtain⟨⟨f,rfl⟩,D,H',rfl,J,⟨m,hm⟩,hf,q⟩:=hr;refine⟨m,hm,λh' sb=>?_⟩;exact⟨.ref D,H',J.turned (t':=s'.toks) (λb o hb e=>(sb.2 b hb).trans e) hf.1 hf.2.1 hf.2.2.2.1 hf.2.2.2.2.1 hf.2.2.2.2.2,rfl,q⟩
def Dv(hc:X.calm=true)(S:cA X N src scope)(hi:PI X tg iter wi)(hg:∀s H ex,PG (cxC X scope N s H ex) tg g)(ht:∀s H ex,uY (cxC X scope N s H ex) ifs tt)(he:∀s H ex,PE (cxC X scope N s H ex) elt te)(hN:X.N.Nodup)(hy:X.N[i]? =some y)(hx:JB X.env.scope y)(hsw:S9 (.ListComp elt [⟨tg,iter,ifs,0⟩] scope pos) (some (.Name y py)) spos.line X.env=pure true)(hf:X.fn y=true\/X.env.scope.names.lookup y=some .local)(hs:∀x,S4 iter X.env x=pure x:=by intro _;rfl):PS X (.Assign [.Name y py] (.ListComp elt [⟨tg,iter,ifs,0⟩] scope pos) spos) (tAsg (tComp wi g tt te src) (gName i)):=by
 intro QQ s σ H D I h;rw[exec_Assign_Name_used _ _ _ _ hsw];refine Q6 (Uw (Q6 ?_));show Ra _ X.A (do let _<-comprehension (.ListComp elt [⟨tg,iter,ifs,0⟩] scope pos) scope X.env _ (newList []) false (RH iter X.env) (some (UE (.Name y py) X.env))) _ _ s;refine Q6 (RT (TN (use:=some (UE (.Name y py) X.env)) (Q:=λ_ s'=>SP X QQ D .next s') rfl hs (jR (S.cells I.ok)) S.kind S.names (bH (hi QQ s σ H _ I h) λv s1 h1=>bH h1 λit s2 h2=>?_)) (λ_ s' hq=>Q7 (Q7 hq)) λ_ _ e=>e);refine bH (uF hc S hg ht he h2) λacc s3 h3=>bH h3 λcenv s4 h4=>Sb h4 λr s' hr=>?_;obtain⟨⟨f,rfl⟩,D',H',rfl,J,⟨m,hm⟩,hfp,q⟩:=hr;show Ra _ X.A (UE (.Name y py) X.env (.ref D')) _ _ _;refine wpAny_assign_Name (pj J hN hy hx (v:=.ref D') rfl (λs5 I5 ⟨a,sb,ha⟩=>?_) hf);have hne:cenv.locals≠a:=by
  rcases ha with z|z
  .rw[z];exact hfp.2.1
  .exact Ne.symm (hfp.2.2.2.2.1 y a z)
 refine⟨m,hm.sameBut sb hne,λh' sb'=>?_⟩;exact⟨_,H',I5.turned (t':=s5.toks) (λb o hb e=>(sb'.2 b hb).trans e) hfp.1 hfp.2.1 hfp.2.2.2.1 hfp.2.2.2.2.1 hfp.2.2.2.2.2,q⟩
end
section
def PE.imp(h:PE X e t)(i:∀σ H Q,t' σ H Q->t σ H Q):PE X e t':=λQQ s σ H Q I q=>h QQ s σ H Q I (i σ H Q q)
def bq.imp(h:bq X f r)(i:∀xs H Q,r' xs H Q->r xs H Q):bq X f r':=λQQ s σ H xs us Q I r q=>h QQ s σ H xs us Q I r (i xs H Q q)
def sQ.imp{id:String}(h:sQ X id r)(i:∀x xs H Q,r' x xs H Q->r x xs H Q):sQ X id r':=λQQ s σ H x xs v us Q I rx r q=>h QQ s σ H x xs v us Q I rx r (i x xs H Q q)
noncomputable abbrev Str.tl(x:Str):List Nat:=x.cps.toList
def qv{x y:Str}(h:x.cps.toList=y.cps.toList):x=y:=by obtain⟨a⟩:=x;obtain⟨b⟩:=y;have:a=b:=XS.mp h;rw[this]
def dO(x:Str):x.length=x.cps.toList.length:=by simp[Str.length]
def qw(x y:Str):(x++y).cps.toList=x.cps.toList++y.cps.toList:=by show(x.cps++y.cps).toList=_;simp
def zi:iS X (RD .LtE) (λx y H Q=>∃i j,x=.str i/\y=.str j/\Q (.bl (!decide (j.cps.toList<i.cps.toList))) H):=by intro QQ s σ H x y v u Q I rx ry h;obtain⟨i,j,rfl,rfl,q⟩:=h;obtain⟨t,rfl⟩:=rx;obtain⟨t',rfl⟩:=ry;exact PySem.P.le_str (fin_bl I q rfl)
def Bw:sQ X "str.upper" (λx vs H Q=>∃a,x=.str a/\vs=[]/\a.length<=v1/\(∀c∈a.cps.toList,c<128)/\Q (.str ⟨a.cps.map up1⟩) H):=by
 intro QQ s σ H x xs v us Q I rx r h;obtain⟨a,rfl,rfl,hz,ha,q⟩:=h;obtain⟨t,rfl⟩:=rx;cases r;have e:placed a (λ_ c=>Unicode.upperOf c)=a.cps.map up1:=placed_single a _ up1 λi c hc=>upperOf_ascii c (ha c (Vn hc));have hfit:SO (placed a λ_ c=>Unicode.upperOf c).size=false:=by rw[e,XR];unfold SO;exact QU (by show¬a.cps.size > v1;have:a.length=a.cps.size:=rfl;lia)
 refine call_gives F.slot_str_upper (Tu _ _ _) F.entry_str_upper (F.args_str_upper_1 _) (gives_str_upper a t hfit) ?_;rw[e];exact⟨by show(a.cps.map up1).size<=v1;rw[XR];exact hz,⟨.str _,H,I.tok _,⟨_,rfl⟩,q⟩⟩
noncomputable def j1(x:Str)(lo hi:Option Int):Str:=⟨((x.cps.toList.drop (HT.sIx x.length 0 lo)).take (HT.sIx x.length x.length hi - HT.sIx x.length 0 lo)).toArray⟩
theorem xB(l:List Nat):∀k i,i+k<=l.length->(List.range' i k).filterMap (λm=>l[m]?)=(l.drop i).take k
 |0,i,_=>by simp
 |k+1,i,h=>by have ih:=xB l k (i+1) (by lia);rw[List.range'_succ,VT,U9 (by lia),V2 (by lia),List.take_succ_cons];show l[i]::_=_;rw[ih]
def Bh(x:Str)(i k:Nat)(h:i+k<=x.length):((List.range k).map λ(m:Nat)=>i+m).filterMap (x.cps[·]?)=(x.cps.toList.drop i).take k:=by have hx:x.cps.toList.length=x.length:=(dO x).symm;rw[<-List.range'_eq_map_range,<-xB _ _ _ (by lia)];congr 1;funext m;rw[XM]
def xV(lo hi:Option Int)(n:Nat):RL lo hi 1 n=(List.range (HT.sIx n n hi - HT.sIx n 0 lo)).map λm=>HT.sIx n 0 lo+m:=by
 have cl:∀(v:Int)(d:Nat),max 0 (min (if v<0 then v+(n:Int)else v) (n:Int))=((HT.sIx n d (some v):Nat):Int):=λv d=>by
  show _=(((if v<0 then(v+(n:Int)).toNat else min v.toNat n):Nat):Int)
  by_cases hv:v<0
  .simp only[QW hv];lia
  .simp only[QV hv];lia
 have main:∀(a b:Nat),UD (a:Int) (b:Int) 1=(List.range (b - a)).map λm=>a+m:=λa b=>by
  have e:(if(1:Int) > 0 then(if(a:Int)<(b:Int)then((b:Int) - a+1 - 1) / 1 else 0)else(if(a:Int) > b then((a:Int) - b - 1 - 1) / (-1)else 0)).toNat=b - a:=by rw[QW (by decide)];split<;>lia
  show(List.range (if(1:Int) > 0 then(if(a:Int)<(b:Int)then((b:Int) - a+1 - 1) / 1 else 0)else(if(a:Int) > b then((a:Int) - b - 1 - 1) / (-1)else 0)).toNat).map (λ(k:Nat)=>((a:Int)+1*(k:Int)).toNat)=_;rw[e];apply VD;intro m _;lia
 have e1:HT.sIx n 0 none=0:=rfl;have e2:HT.sIx n n none=n:=rfl;unfold RL;simp only[show(1:Int) > 0 by decide,if_true];cases lo with
 |none=>
  cases hi with
  |none=>exact main 0 n
  |some h=>show UD ((0:Nat):Int) (max 0 (min (if h<0 then h+(n:Int)else h) (n:Int))) 1=_;rw[cl h n];exact main _ _
 |some l=>
  cases hi with
  |none=>show UD (max 0 (min (if l<0 then l+(n:Int)else l) (n:Int))) (n:Int) 1=_;rw[cl l 0];exact main _ _
  |some h=>show UD (max 0 (min (if l<0 then l+(n:Int)else l) (n:Int))) (max 0 (min (if h<0 then h+(n:Int)else h) (n:Int))) 1=_;rw[cl l 0,cl h n];exact main _ _
def yM(x:Str)(lo hi:Option Int):(⟨((RL lo hi 1 x.length).filterMap (x.cps[·]?)).toArray⟩:Str)=j1 x lo hi:=by
 unfold j1;rw[xV];have h1:=HT.sIx_le x.length 0 (WT _) lo;have h2:=HT.sIx_le x.length x.length (WR _) hi
 by_cases h:HT.sIx x.length 0 lo<=HT.sIx x.length x.length hi
 .rw[Bh x _ _ (by lia)]
 .have e:HT.sIx x.length x.length hi - HT.sIx x.length 0 lo=0:=by lia
  rw[e];simp
def jF(x:Str)(lo hi:Option Int):(j1 x lo hi).cps.toList=(x.cps.toList.drop (HT.sIx x.length 0 lo)).take (HT.sIx x.length x.length hi - HT.sIx x.length 0 lo):=by unfold j1;simp
def oh(x:Str)(lo hi:Option Int):(j1 x lo hi).length<=x.length:=by rw[dO,jF,dO x,Vs,V1];lia
def wM{x:Str}{lo hi:Option Int}(h:(RL lo hi 1 x.length).length=x.length):j1 x lo hi=x:=by
 rw[xV,U6,Vu]at h;have h1:=HT.sIx_le x.length 0 (WT _) lo;have h2:=HT.sIx_le x.length x.length (WR _) hi;apply qv;rw[jF]
 by_cases z:x.length=0
 .have e:x.cps.toList=[]:=Wi.mp (by rw[<-dO];exact z);rw[e];simp
 .have e1:HT.sIx x.length 0 lo=0:=by lia
  rw[h,e1,Wj,V3 (by rw[<-dO];exact WR _)]
def Qg:V->Option Int->Option Int->Hp->VK->Prop:=λx lo hi H Q=>∃z,x=.str z/\z.length<=v1/\Q (.str (j1 z lo hi)) H
def tX(p:U2 v o):∃q:Option (Int×U3),v=partValue q/\q.map (·.1)=o:=by
 cases p with
 |none=>exact⟨none,rfl,rfl⟩
 |int i t=>exact⟨some (i,t),rfl,rfl⟩
def J1:Aq X Qg:=by
 intro QQ s σ H x v vl vu lo hi sl Q I rx hs pl pu h;obtain⟨z,rfl,hz,q⟩:=h;obtain⟨t,rfl⟩:=rx;obtain⟨l,rfl,el⟩:=tX pl;obtain⟨u,rfl,eu⟩:=tX pu;refine⟨"str",_,F.slot_str_getitem.lookup,Tu _ _ _,?_⟩;obtain⟨o,ho,hc,hd⟩:=hs;refine wpAny_getItem_str_slice (l:=l) (u:=u) (st:=none) ⟨o,ho,hc,hd⟩ rfl ?_;unfold sliceMade slicePicked;rw[el,eu];split
 .rename_i hw;have hw:(RL lo hi 1 z.length).length=z.length:=by simpa using hw
  rw[wM hw]at q;exact⟨.str z,H,I,⟨t,rfl⟩,q⟩
 .have e:=yM z lo hi;have e':(⟨((RL lo hi ((Option.map (·.1) (none:Option (Int×U3))).getD 1) z.length).filterMap (z.cps[·]?)).toArray⟩:Str)=j1 z lo hi:=e;rw[e'];exact⟨WU (oh z lo hi) hz,⟨.str _,H,I.tok _,⟨_,rfl⟩,q⟩⟩
def oY:bq X (.type "int") (λxs H Q=>∃x n,xs=[.str x]/\PySem.intText? x=some n/\x.length<=640/\Q (.int n) H):=by intro QQ s σ H xs us Q I r h;obtain⟨x,n,rfl,hn,hl,q⟩:=h;obtain⟨u,rfl,t,rfl⟩:=fG r;exact PySem.W.KIN.call_text hn hl ⟨.int n,H,I.tok _,⟨_,rfl⟩,q⟩
theorem mO:∀{ys:List Str}{us:List YB},a9 (ys.map V.str) us->StrsAre us ys
 | [],us,r=>by rw[V0]at r;cases r;exact .nil
 |y::ys,us,r=>by
  rw[Vm]at r;cases r with
  |cons r1 r2=>
   obtain⟨t,e⟩:=r1;subst e;exact .cons y t (mO r2)
def DS:sQ X "str.join" (λx vs H Q=>∃sep p ys,x=.str sep/\vs=[.ref p]/\aN X.K H p (ys.map V.str)/\(ys.map (·.length)).sum+ys.length*sep.length<=16777216/\Q (.str (UN sep ys)) H):=by intro QQ s σ H x xs v us Q I rx r h;obtain⟨sep,p,ys,rfl,rfl,hp,hz,q⟩:=h;obtain⟨t,rfl⟩:=rx;obtain⟨u,rfl,ru⟩:=fG r;cases ru;obtain⟨its,rv,pl,hl⟩:=I.list hp;exact join_list pl.isList (by simpa using mO rv) hz λt' k=>⟨.str _,H,I.tok _,⟨t',rfl⟩,q⟩
def sZ{its:List YB}{ks:List Bool}(r:a9 (ks.map V.bl) its):TruthOf P w A (λi v=>its.toArray[i]? =some v) (λi=>ks.getD i false):=by
 intro i v s Q E hv hq;have hv:its[i]? =some v:=by simpa using hv
 have hlen:=r.length;rw[U6]at hlen;have hi:i<its.length:=(Vi.mp hv).1;have hk:(ks.map V.bl)[i]? =some (V.bl (ks.getD i false)):=by rw[Va,U9 (by lia),Vh,U9 (by lia)];rfl
 obtain⟨u,hu,ru⟩:=r.get hk;rw[hv]at hu;cases hu;cases ru;exact Rv hq
def yZ(ks:List Bool):(List.range ks.length).all (λi=>ks.getD i false)=ks.all id:=by
 rw[Xy,Vt,Vt]
 constructor
 .intro h b hb;obtain⟨i,hi,e⟩:=WE.mp hb;have:=h i (Vo.mpr hi);rw[Vh,U9 hi]at this;rw[<-e];exact this
 .intro h i hi;have hi:=Vo.mp hi;rw[Vh,U9 hi];exact h _ (Vl hi)
def Cw(hc:X.calm=true):bq X (.builtin "all") (λxs H Q=>∃(p:YC)(ks:List Bool),xs=[.ref p]/\aN X.K H p (ks.map V.bl)/\Q (.bl (ks.all id)) H):=by
 intro QQ s σ H xs us Q I r h;obtain⟨p,ks,rfl,hp,q⟩:=h;obtain⟨u,rfl,ru⟩:=fG r;cases ru;obtain⟨its,rv,pl,hl⟩:=I.list hp;have hlen:=rv.length;rw[U6]at hlen;refine call_all_walk (Sk pl.isList ?_);have hne:p≠s.heap.objs.size:=by obtain⟨o,ho,_⟩:=pl.isList;exact WS (Q9 ho)
 have W:=UF (prog:=X.prog) (w:=X.w) (A:=X.A.in1) (show X.A.in1.handled=none from I.ok.hd hc) s.heap.objs.size p hne its.toArray;have hpush:∀o b ob,s.heap.get? b=some ob->(s.heap.push o).get? b=some ob:=λo b ob e=>Q8 _ e;refine⟨_,_,_,_,_,_,λi=>ks.getD i false,rfl,W,⟨⟨_,Re _ rfl,rfl,rfl⟩,pl.isList.at λo e=>hpush _ _ o e⟩,sZ rv,λh' tk k=>?_⟩;have e:(List.range its.toArray.size).all (λi=>ks.getD i false)=ks.all id:=by rw[<-yZ,Vc,<-hlen]
 rw[e];refine⟨.bl _,H,I.kept (t':=tk) (h':=h') λb ob e=>k b ob ?_ (hpush _ b ob e),rfl,q⟩;intro hb;have:b=s.heap.objs.size:=by simpa using hb
 subst this;exact QZ (Q9 e) (WY _)
end
inductive jv(K:Frag)(H:Hp):Nat->V->V->Bool->Prop
 |flat {n:Nat} {x y:V} (hx:flatV x=true) (hy:flatV y=true):jv K H n x y (eqV x y)
 |same {n:Nat} {a:YC}:jv K H n (.ref a) (.ref a) true
 |len {n:Nat} {a b:YC} {xs ys:List V} (ha:aN K H a xs) (hb:aN K H b ys) (hab:a≠b) (hl:xs.length≠ys.length):jv K H (n+1) (.ref a) (.ref b) false
 |lst {n:Nat} {a b:YC} {xs ys:List V} {es:Nat->Bool} (ha:aN K H a xs) (hb:aN K H b ys) (hab:a≠b) (hl:xs.length=ys.length)
   (he:∀i x y,xs[i]? =some x->ys[i]? =some y->jv K H n x y (es i)):jv K H (n+1) (.ref a) (.ref b) ((List.range xs.length).all es)
 |tup {n:Nat} {a b:YC} {xs ys:List V} {es:Nat->Bool} (ha:cY K H a xs) (hb:cY K H b ys) (hab:a≠b)
   (he:∀i x y,xs[i]? =some x->ys[i]? =some y->jv K H n x y (es i)):jv K H (n+1) (.ref a) (.ref b) ((List.range (min xs.length ys.length)).all es&&xs.length == ys.length)
 |nref {n:Nat} {x:V} {a:YC} {xs:List V} (hx:flatV x=true) (ha:aN K H a xs\/cY K H a xs):jv K H n x (.ref a) false
 |refn {n:Nat} {x:V} {a:YC} {xs:List V} (hx:flatV x=true) (ha:aN K H a xs\/cY K H a xs):jv K H n (.ref a) x false
section
variable{X:Cx}{QQ:Q5}{σ:St}{H:Hp}{s:Rb}
def gb(r:a9 xs its)(h:j<its.toArray.size):∃x,xs[j]? =some x/\aU x its.toArray[j]:=by
 have hl:=r.length;have hj:j<its.length:=by simpa using h
 have hx:xs[j]? =some (xs[j]'(by lia)):=U9 (by lia);obtain⟨u,hu,ru⟩:=r.get hx;refine⟨_,hx,?_⟩;have e:its.toArray[j]=u:=by rw[U9 hj]at hu;simpa using Q0 hu
 rw[e];exact ru
def lG(I:aL X QQ σ H s):∀{n:Nat}{x y:V}{k:Bool},jv X.K H n x y k->∀(A:Sd),A.units+n<RM->∀{u v:YB},aU x u->aU y v->SeqAt.EqAt A s u v k:=by
 intro n x y k h
 induction h with
 |flat hx hy=>exact λA _ u v ru rv=>Ci ru rv hx hy
 |same=>
  intro A _ u v ru rv;cases ru;cases rv;exact SeqAt.EqAt.same _
 |len ha hb hab hl=>
  intro A hu u v ru rv;cases ru;cases rv;obtain⟨its,r1,p1,_⟩:=I.list ha;obtain⟨its2,r2,p2,_⟩:=I.list hb;have l1:=r1.length;have l2:=r2.length;refine .of_refs hab (.lists_lengths p1.isList p2.isList (by simp;lia) (by lia))
 | @lst n a b xs ys es ha hb hab hl he ih=>
   intro A hu u v ru rv;cases ru;cases rv;obtain⟨its,r1,p1,_⟩:=I.list ha;obtain⟨its2,r2,p2,_⟩:=I.list hb;have l1:=r1.length;have l2:=r2.length;have e:(List.range xs.length).all es=(List.range its.toArray.size).all es:=by rw[Vc,l1]
   rw[e];refine .of_refs hab (.lists p1.isList p2.isList (by simp;lia) (by lia) λj h1 h2=>?_);obtain⟨x,hx,rx⟩:=gb r1 h1;obtain⟨y,hy,ry⟩:=gb r2 h2;exact ih j x y hx hy A.in1 (by show A.units+1+n<RM;lia) rx ry
 | @tup n a b xs ys es ha hb hab he ih=>
   intro A hu u v ru rv;cases ru;cases rv;obtain⟨its,r1,p1,_⟩:=I.tuple ha;obtain⟨its2,r2,p2,_⟩:=I.tuple hb;have l1:=r1.length;have l2:=r2.length;have e:((List.range (min xs.length ys.length)).all es&&xs.length == ys.length)=((List.range (min its.toArray.size its2.toArray.size)).all es&&its.toArray.size == its2.toArray.size):=by rw[Vc,Vc,l1,l2]
   rw[e];refine .of_refs hab (.tuples (show s.heap.IsTuple a its.toArray from p1) (show s.heap.IsTuple b its2.toArray from p2) (by lia) λj h1 h2=>?_);obtain⟨x,hx,rx⟩:=gb r1 h1;obtain⟨y,hy,ry⟩:=gb r2 h2;exact ih j x y hx hy A.in1 (by show A.units+1+n<RM;lia) rx ry
 | @nref n x a xs hx ha=>
   intro A hu u v ru rv;cases rv
   rcases ha with ha|ha
   .obtain⟨its,r1,p1,_⟩:=I.list ha;have hl:=p1.isList;cases x with
    |non=>cases ru;exact .none_list hl (by lia)
    |bl b=>cases ru;exact .bool_list b hl (by lia)
    |int b=>obtain⟨t,rfl⟩:=ru;exact .int_list b t hl (by lia)
    |str b=>obtain⟨t,rfl⟩:=ru;exact .str_list b t hl (by lia)
    |_=>simp[flatV]at hx
   .obtain⟨its,r1,p1,_⟩:=I.tuple ha;have hl:s.heap.IsTuple a its.toArray:=p1;cases x with
    |non=>cases ru;exact .none_tuple hl (by lia)
    |bl b=>cases ru;exact .bool_tuple b hl (by lia)
    |int b=>obtain⟨t,rfl⟩:=ru;exact .int_tuple b t hl (by lia)
    |str b=>obtain⟨t,rfl⟩:=ru;exact .str_tuple b t hl (by lia)
    |_=>simp[flatV]at hx
 | @refn n x a xs hx ha=>
   intro A hu u v ru rv;cases ru
   rcases ha with ha|ha
   .obtain⟨its,r1,p1,_⟩:=I.list ha;have hl:=p1.isList;cases x with
    |non=>cases rv;exact .list_none hl (by lia)
    |bl b=>cases rv;exact .list_bool b hl (by lia)
    |int b=>obtain⟨t,rfl⟩:=rv;exact .list_int b t hl (by lia)
    |str b=>obtain⟨t,rfl⟩:=rv;exact .list_str b t hl (by lia)
    |_=>simp[flatV]at hx
   .obtain⟨its,r1,p1,_⟩:=I.tuple ha;have hl:s.heap.IsTuple a its.toArray:=p1;cases x with
    |non=>cases rv;exact .tuple_none hl (by lia)
    |bl b=>cases rv;exact .tuple_bool b hl (by lia)
    |int b=>obtain⟨t,rfl⟩:=rv;exact .tuple_int b t hl (by lia)
    |str b=>obtain⟨t,rfl⟩:=rv;exact .tuple_str b t hl (by lia)
    |_=>simp[flatV]at hx
end
inductive o7(K:Frag)(H:Hp):Nat->V->V->Bool->Prop
 |len {n:Nat} {a b:YC} {xs ys:List V} (ha:aN K H a xs) (hb:aN K H b ys) (hl:xs.length≠ys.length):o7 K H (n+1) (.ref a) (.ref b) false
 |lst {n:Nat} {a b:YC} {xs ys:List V} {es:Nat->Bool} (ha:aN K H a xs) (hb:aN K H b ys) (hl:xs.length=ys.length)
   (he:∀i x y,xs[i]? =some x->ys[i]? =some y->jv K H n x y (es i)):o7 K H (n+1) (.ref a) (.ref b) ((List.range xs.length).all es)
 |tup {n:Nat} {a b:YC} {xs ys:List V} {es:Nat->Bool} (ha:cY K H a xs) (hb:cY K H b ys)
   (he:∀i x y,xs[i]? =some x->ys[i]? =some y->jv K H n x y (es i)):o7 K H (n+1) (.ref a) (.ref b) ((List.range (min xs.length ys.length)).all es&&xs.length == ys.length)
section
def Ko(hu:X.A.units+n<RM):iS X (RD .Eq) (λx y H Q=>∃k,o7 X.K H n x y k/\Q (.bl k) H):=by
 intro QQ s σ H x y v u Q I rx ry h;obtain⟨k,h,q⟩:=h;cases h with
 | @len n a b xs ys ha hb hl=>
   cases rx;cases ry;obtain⟨its,r1,p1,_⟩:=I.list ha;obtain⟨its2,r2,p2,_⟩:=I.list hb;have l1:=r1.length;have l2:=r2.length;exact SeqAt.eq_list_lengthsAt p1.isList p2.isList (by simp;lia) (by lia) (fin_bl I q rfl)
 | @lst n a b xs ys es ha hb hl he=>
   cases rx;cases ry;obtain⟨its,r1,p1,_⟩:=I.list ha;obtain⟨its2,r2,p2,_⟩:=I.list hb;have l1:=r1.length;have l2:=r2.length;refine SeqAt.eq_listAt (e:=es) p1.isList p2.isList (by simp;lia) (by lia) (λj h1 h2=>?_) (fin_bl I q (by rw[Vc,l1]));obtain⟨x,hx,rx⟩:=gb r1 h1;obtain⟨y,hy,ry⟩:=gb r2 h2;exact lG I (he j x y hx hy) X.A.in1 (by show X.A.units+1+n<RM;lia) rx ry
 | @tup n a b xs ys es ha hb he=>
   cases rx;cases ry;obtain⟨its,r1,p1,_⟩:=I.tuple ha;obtain⟨its2,r2,p2,_⟩:=I.tuple hb;have l1:=r1.length;have l2:=r2.length;refine SeqAt.eq_tupleAt (e:=es) (show s.heap.IsTuple a its.toArray from p1) (show s.heap.IsTuple b its2.toArray from p2) (by lia) (λj h1 h2=>?_) (fin_bl I q (by rw[Vc,Vc,l1,l2]));obtain⟨x,hx,rx⟩:=gb r1 h1;obtain⟨y,hy,ry⟩:=gb r2 h2;exact lG I (he j x y hx hy) X.A.in1 (by show X.A.units+1+n<RM;lia) rx ry
def Kj(hu:X.A.units+n<RM):iS X (RD .NotEq) (λx y H Q=>∃k,o7 X.K H n x y k/\Q (.bl (!k)) H):=by
 intro QQ s σ H x y v u Q I rx ry h;obtain⟨k,h,q⟩:=h;cases h with
 | @len n a b xs ys ha hb hl=>
   cases rx;cases ry;obtain⟨its,r1,p1,_⟩:=I.list ha;obtain⟨its2,r2,p2,_⟩:=I.list hb;have l1:=r1.length;have l2:=r2.length;exact TL (SeqAt.RcNeAt.lists_lengths p1.isList p2.isList (by simp;lia) (by lia)) (fin_bl I q rfl)
 | @lst n a b xs ys es ha hb hl he=>
   cases rx;cases ry;obtain⟨its,r1,p1,_⟩:=I.list ha;obtain⟨its2,r2,p2,_⟩:=I.list hb;have l1:=r1.length;have l2:=r2.length;refine TL (SeqAt.RcNeAt.lists (e:=es) p1.isList p2.isList (by simp;lia) (by lia) (λj h1 h2=>?_)) (fin_bl I q (by rw[Vc,l1]));obtain⟨x,hx,rx⟩:=gb r1 h1;obtain⟨y,hy,ry⟩:=gb r2 h2;exact lG I (he j x y hx hy) X.A.in1 (by show X.A.units+1+n<RM;lia) rx ry
 | @tup n a b xs ys es ha hb he=>
   cases rx;cases ry;obtain⟨its,r1,p1,_⟩:=I.tuple ha;obtain⟨its2,r2,p2,_⟩:=I.tuple hb;have l1:=r1.length;have l2:=r2.length;refine TL (SeqAt.RcNeAt.tuples (e:=es) (show s.heap.IsTuple a its.toArray from p1) (show s.heap.IsTuple b its2.toArray from p2) (by lia) (λj h1 h2=>?_)) (fin_bl I q (by rw[Vc,Vc,l1,l2]));obtain⟨x,hx,rx⟩:=gb r1 h1;obtain⟨y,hy,ry⟩:=gb r2 h2;exact lG I (he j x y hx hy) X.A.in1 (by show X.A.units+1+n<RM;lia) rx ry
end
def Ak(op:Operator)(x y:V)(H:Hp)(Q:VK):Prop:=match op,x,y with
 | .Add,.int i,.int j=>Q (.int (i+j)) H
 | .Add,.str i,.str j=>i.length+j.length<=v1/\Q (.str (i++j)) H
 | .Add,.ref a,.ref b=>J8 (.ref a) (.ref b) H Q
 | .Sub,.int i,.int j=>Q (.int (i - j)) H
 | .Mult,.int i,.int j=>CT i j/\Q (.int (i*j)) H
 | .FloorDiv,.int i,.int j=>Ly i j/\Q (.int (i / j)) H
 | .Mod,.int i,.int j=>0<j/\Q (.int (i % j)) H
 | .Pow,.int i,.int j=>O9 i j/\Q (.int (i ^ j.toNat)) H
 |_,_,_=>False
section
variable{X:Cx}{a b c:RU}{ta tb tc:TE}{pos:Uk}
def Kr(op:Operator):iS X (SR op) (Ak op):=by
 intro QQ s σ H x y v u Q I rx ry h;unfold Ak at h;split at h
 .exact Ks QQ s σ H _ _ v u Q I rx ry ⟨_,_,rfl,rfl,h⟩
 .exact vT QQ s σ H _ _ v u Q I rx ry ⟨_,_,rfl,rfl,h.1,h.2⟩
 .exact Kq QQ s σ H _ _ v u Q I rx ry h
 .exact Kg QQ s σ H _ _ v u Q I rx ry ⟨_,_,rfl,rfl,h⟩
 .exact Kk QQ s σ H _ _ v u Q I rx ry ⟨_,_,rfl,rfl,h.1,h.2⟩
 .exact DK QQ s σ H _ _ v u Q I rx ry ⟨_,_,rfl,rfl,h.1,h.2⟩
 .exact Kl QQ s σ H _ _ v u Q I rx ry ⟨_,_,rfl,rfl,h.1,h.2⟩
 .exact Ki QQ s σ H _ _ v u Q I rx ry ⟨_,_,rfl,rfl,h.1,h.2⟩
 .exact h.elim
noncomputable def eqB:V->V->Option Bool
 | .non,.non=>some true
 | .int i,.int j=>some (decide (i=j))
 | .bl i,.bl j=>some (decide (i=j))
 | .str i,.str j=>some (decide (i=j))
 | .non,.int _=>some false| .int _,.non=>some false| .non,.bl _=>some false| .bl _,.non=>some false| .non,.str _=>some false| .str _,.non=>some false
 | .int _,.str _=>some false| .str _,.int _=>some false| .bl _,.str _=>some false| .str _,.bl _=>some false
 |_,_=>none
def uA(h:eqB x y=some k):scal x y=true/\decide (x=y)=k:=by
 cases x<;>cases y<;>simp[eqB,scal]at h ⊢ <;>first|exact h|(subst h;rfl)
def gQ(K:Frag)(op:UC)(x y:V)(H:Hp)(Q:VK):Prop:=match op,x,y with
 | .Eq,.ref a,.ref b=>∃k,o7 K H 20 (.ref a) (.ref b) k/\Q (.bl k) H
 | .NotEq,.ref a,.ref b=>∃k,o7 K H 20 (.ref a) (.ref b) k/\Q (.bl (!k)) H
 | .Eq,x,y=>match eqB x y with|some k=>Q (.bl k) H|none=>False
 | .NotEq,x,y=>match eqB x y with|some k=>Q (.bl (!k)) H|none=>False
 | .Lt,.int i,.int j=>Q (.bl (decide (i<j))) H
 | .LtE,.int i,.int j=>Q (.bl (decide (i<=j))) H
 | .Gt,.int i,.int j=>Q (.bl (decide (j<i))) H
 | .GtE,.int i,.int j=>Q (.bl (decide (j<=i))) H
 | .Lt,.str i,.str j=>Q (.bl (decide (i.cps.toList<j.cps.toList))) H
 | .LtE,.str i,.str j=>Q (.bl (!decide (j.cps.toList<i.cps.toList))) H
 | .In,.str i,.str j=>Q (.bl (!(Sa j i 0 j.length 1).isEmpty)) H
 | .NotIn,.str i,.str j=>Q (.bl (!(!(Sa j i 0 j.length 1).isEmpty))) H
 | .In,x,.ref p=>LA K false x (.ref p) H Q
 | .NotIn,x,.ref p=>LA K true x (.ref p) H Q
 | .Is,x,.non=>Q (.bl (decide (x=.non))) H
 | .IsNot,x,.non=>Q (.bl (!decide (x=.non))) H
 |_,_,_=>False
def ln(op:UC)(hu:X.A.units+20<RM):iS X (RD op) (gQ X.K op):=by
 intro QQ s σ H x y v u Q I rx ry h;unfold gQ at h;split at h
 .exact Ko hu QQ s σ H _ _ v u Q I rx ry h
 .exact Kj hu QQ s σ H _ _ v u Q I rx ry h
 .split at h
  .rename_i k e;obtain⟨h1,h2⟩:=uA e;exact N1 QQ s σ H _ _ v u Q I rx ry ⟨h1,by rw[h2];exact h⟩
  .exact h.elim
 .split at h
  .rename_i k e;obtain⟨h1,h2⟩:=uA e;exact NW QQ s σ H _ _ v u Q I rx ry ⟨h1,by rw[h2];exact h⟩
  .exact h.elim
 .exact NX QQ s σ H _ _ v u Q I rx ry ⟨_,_,rfl,rfl,h⟩
 .exact NY QQ s σ H _ _ v u Q I rx ry ⟨_,_,rfl,rfl,h⟩
 .exact NZ QQ s σ H _ _ v u Q I rx ry ⟨_,_,rfl,rfl,h⟩
 .exact N0 QQ s σ H _ _ v u Q I rx ry ⟨_,_,rfl,rfl,h⟩
 .exact zh QQ s σ H _ _ v u Q I rx ry ⟨_,_,rfl,rfl,h⟩
 .exact zi QQ s σ H _ _ v u Q I rx ry ⟨_,_,rfl,rfl,h⟩
 .exact zj QQ s σ H _ _ v u Q I rx ry ⟨_,_,rfl,rfl,h⟩
 .exact qZ QQ s σ H _ _ v u Q I rx ry ⟨_,_,rfl,rfl,h⟩
 .exact zk QQ s σ H _ _ v u Q I rx ry h
 .exact q0 QQ s σ H _ _ v u Q I rx ry h
 .exact Km QQ s σ H _ _ v u Q I rx ry ⟨rfl,h⟩
 .exact DJ QQ s σ H _ _ v u Q I rx ry ⟨rfl,h⟩
 .exact h.elim
def eZ(i:Nat):TE:=λσ H Q=>match σ[i]? with|some (some v)=>Q v H|_=>False
def cv(i:Nat)(hN:X.N[i]? =some x:=by rfl)(hv:Pm X.env.scope x:=by first|exact Or.inl rfl|exact Or.inr (Or.inl rfl)|exact Or.inr (Or.inr rfl))(hd:(x == ("__debug__":Str))=false:=by decide)(hcd:(x == ("__classdict__":Str))=false:=by decide):PE X (.Name x pos) (eZ i):=(Ke hN hv hd hcd).imp λσ H Q h=>by
 unfold eZ at h;split at h
 .rename_i v e;exact⟨v,e,h⟩
 .exact h.elim
def uP(op:Operator)(ta tb:TE):TE:=λσ H Q=>ta σ H λx H1=>tb σ H1 λy H2=>Ak op x y H2 Q
def aw(ha:PE X a ta)(hb:PE X b tb):PE X (.BinOp a op b pos) (uP op ta tb):=Jb (Kr op) ha hb
def fT(K:Frag)(op:UC)(ta tb:TE):TE:=λσ H Q=>ta σ H λx H1=>tb σ H1 λy H2=>gQ K op x y H2 Q
def cV(Q:Bool->Hp->Prop):VK:=λx H=>match x with| .bl k=>Q k H|_=>False
def eX(h:cV Q x H):∃k,x=.bl k/\Q k H:=by
 unfold cV at h;split at h
 .exact⟨_,rfl,h⟩
 .exact h.elim
def Lf(hu:X.A.units+20<RM)(ha:PE X a ta)(hb:PE X b tb)(hm:behindInMarks op b=false:=by first|exact jY _|with_unfolding_all rfl):PE X (.Compare a [op] [b] pos) (fT X.K op ta tb):=xE (ln op hu) ha hb hm
def gh(t:TE):TT:=λσ H Q=>t σ H (cV Q)
def Lc(hu:X.A.units+20<RM)(ha:PE X a ta)(hb:PE X b tb)(hm:behindInMarks op b=false:=by first|exact jY _|with_unfolding_all rfl):PT X (.Compare a [op] [b] pos) (gh (fT X.K op ta tb)):=by
 intro QQ s σ H Q I h;refine S7 (bH (ha QQ s σ H _ I h) λv s1 ⟨x,H1,I1,r1,q1⟩=>bH (hb QQ s1 σ H1 _ I1 q1) λu s2 ⟨y,H2,I2,r2,q2⟩=>
  bH (ln op hu QQ s2 σ H2 x y v u _ I2 r1 r2 q2) λc s3 ⟨z,H3,I3,r3,q3⟩=>?_) hm
 obtain⟨k,e,q3⟩:=eX q3;subst e;cases r3;exact Rv ⟨H3,I3,q3⟩
def sj(K:Frag)(op op':UC)(ta tb tc:TE):TE:=λσ H Q=>ta σ H λx H1=>tb σ H1 λy H2=>gQ K op x y H2 (cV λk H3=>if k=true then tc σ H3 λw' H4=>gQ K op' y w' H4 Q else Q (.bl false) H3)
def Cv(hu:X.A.units+20<RM)(ha:PE X a ta)(hb:PE X b tb)(hc:PE X c tc)(hm:US [op,op'] [b,c]=false:=by with_unfolding_all rfl):PE X (.Compare a [op,op'] [b,c] pos) (sj X.K op op' ta tb tc):=by
 intro QQ s σ H Q I h;refine Compare_chain (bH (ha QQ s σ H _ I h) λv s1 ⟨x,H1,I1,r1,q1⟩=>chain_link (bH (hb QQ s1 σ H1 _ I1 q1) λu s2 ⟨y,H2,I2,r2,q2⟩=>
  bH (ln op hu QQ s2 σ H2 x y v u _ I2 r1 r2 q2) λd s3 ⟨z,H3,I3,r3,q3⟩=>?_)) hm
 obtain⟨k,e,q3⟩:=eX q3;subst e;cases r3;refine Rv ?_;cases k with
 |false=>exact ite_ff ⟨.bl false,H3,I3,rfl,q3⟩
 |true=>exact ite_tt (chain_last (bH (hc QQ s3 σ H3 _ I3 q3) λw' s4 ⟨z',H4,I4,r4,q4⟩=>ln op' hu QQ s4 σ H4 y z' u w' Q I4 r2 r4 q4))
def si(K:Frag)(op op':UC)(ta tb tc:TE):TT:=λσ H Q=>ta σ H λx H1=>tb σ H1 λy H2=>gQ K op x y H2 (cV λk H3=>if k=true then tc σ H3 λw' H4=>gQ K op' y w' H4 (cV Q)else Q false H3)
def Cp(hu:X.A.units+20<RM)(ha:PE X a ta)(hb:PE X b tb)(hc:PE X c tc)(hm:US [op,op'] [b,c]=false:=by with_unfolding_all rfl):PT X (.Compare a [op,op'] [b,c] pos) (si X.K op op' ta tb tc):=by
 intro QQ s σ H Q I h;refine isTrue_chain (bH (ha QQ s σ H _ I h) λv s1 ⟨x,H1,I1,r1,q1⟩=>test_link (bH (hb QQ s1 σ H1 _ I1 q1) λu s2 ⟨y,H2,I2,r2,q2⟩=>
  bH (ln op hu QQ s2 σ H2 x y v u _ I2 r1 r2 q2) λd s3 ⟨z,H3,I3,r3,q3⟩=>?_)) hm
 obtain⟨k,e,q3⟩:=eX q3;subst e;cases r3;refine Rv ?_;cases k with
 |false=>exact ite_ff ⟨H3,I3,q3⟩
 |true=>
  refine ite_tt (test_last (bH (hc QQ s3 σ H3 _ I3 q3) λw' s4 ⟨z',H4,I4,r4,q4⟩=>bH (ln op' hu QQ s4 σ H4 y z' u w' _ I4 r2 r4 q4) λd' s5 ⟨z2,H5,I5,r5,q5⟩=>?_));obtain⟨k2,e2,q5⟩:=eX q5;subst e2;cases r5;exact Rv ⟨H5,I5,q5⟩
def a7(h:PE X e t)(he:∀whole,UU e X.env whole=(do let v<-whole;UH e.pos;Tb [v] (truthy v)):=by intro _;rfl):PT X e (gh t):=by intro QQ s σ H Q I hw;refine isTrue_plain (bH (h QQ s σ H _ I hw) λv s1 ⟨x,H1,I1,r1,q1⟩=>?_) (he _);obtain⟨d,rfl,q⟩:=eX q1;cases r1;exact Rv ⟨H1,I1,q⟩
variable{rest:List RU}
def yu(ta tb:TE):TE:=λσ H Q=>ta σ H (cV λc H1=>if c=true then tb σ H1 Q else Q (.bl false) H1)
def ON(ta tb:TE):TE:=λσ H Q=>ta σ H (cV λc H1=>if c=true then Q (.bl true) H1 else tb σ H1 Q)
def Jy(ta:TE):TE:=λσ H Q=>ta σ H (cV λc H1=>Q (.bl (!c)) H1)
def cH(ha:PE X a ta)(hb:PE X (.BoolOp .And (b::rest) pos) tb):PE X (.BoolOp .And (a::b::rest) pos) (yu ta tb):=by
 intro QQ s σ H Q I h;refine BoolOp_and (bH (ha QQ s σ H _ I h) λv s1 ⟨x,H1,I1,r1,q1⟩=>?_);obtain⟨c,rfl,q1⟩:=eX q1;cases r1;refine Rv ?_;cases c with
 |true=>exact hb QQ s1 σ H1 Q I1 q1
 |false=>exact⟨.bl false,H1,I1,rfl,q1⟩
def OH(ha:PE X a ta)(hb:PE X (.BoolOp .Or (b::rest) pos) tb):PE X (.BoolOp .Or (a::b::rest) pos) (ON ta tb):=by
 intro QQ s σ H Q I h;refine BoolOp_or (bH (ha QQ s σ H _ I h) λv s1 ⟨x,H1,I1,r1,q1⟩=>?_);obtain⟨c,rfl,q1⟩:=eX q1;cases r1;refine Rv ?_;cases c with
 |false=>exact hb QQ s1 σ H1 Q I1 q1
 |true=>exact⟨.bl true,H1,I1,rfl,q1⟩
def wP(ha:PE X a ta):PE X (.UnaryOp .Not a pos) (Jy ta):=by intro QQ s σ H Q I h;refine UnaryOp_ (bH (ha QQ s σ H _ I h) λv s1 ⟨x,H1,I1,r1,q1⟩=>?_);obtain⟨c,rfl,q1⟩:=eX q1;cases r1;exact not_of (Rv ⟨.bl (!c),H1,I1,rfl,q1⟩)
def OO(ta:TE):TE:=λσ H Q=>ta σ H λx H1=>match x with| .int i=>Q (.int (-i)) H1|_=>False
def lH(ha:PE X a ta):PE X (.UnaryOp .USub a pos) (OO ta):=by
 intro QQ s σ H Q I h;refine UnaryOp_ (bH (ha QQ s σ H _ I h) λv s1 ⟨x,H1,I1,r1,q1⟩=>?_);cases x with
 |int i=>exact JK QQ s1 σ H1 _ v Q I1 r1 ⟨i,rfl,q1⟩
 |_=>exact q1.elim
end
def bB:Rp "len"=some (.builtin "len"):=by decide+kernel
def Lk:Rp "min"=some (.builtin "min"):=by decide+kernel
def lJ:Rp "all"=some (.builtin "all"):=by decide+kernel
def Ll:Rp "any"=some (.builtin "any"):=by decide+kernel
def oZ:Rp "isinstance"=some (.builtin "isinstance"):=by decide+kernel
def qb:Rp "sorted"=some (.builtin "sorted"):=by decide+kernel
def su:Rp "int"=some (.type "int"):=by decide+kernel
def sJ:Rp "bool"=some (.type "bool"):=by decide+kernel
def wY:Rp "str"=some (.type "str"):=by decide+kernel
def da:Rp "list"=some (.type "list"):=by decide+kernel
def Cz:Rp "tuple"=some (.type "tuple"):=by decide+kernel
def EB:Rp "dict"=some (.type "dict"):=by decide+kernel
def sk:Rp "set"=some (.type "set"):=by decide+kernel
def sH:Rp "enumerate"=some (.type "enumerate"):=by decide+kernel
def Lj:Rp "zip"=some (.type "zip"):=by decide+kernel
inductive BT|int|bool|str|list|tuple|dict
 deriving DecidableEq
noncomputable def BT.s:BT->String
 | .int=>"int" | .bool=>"bool" | .str=>"str" | .list=>"list" | .tuple=>"tuple" | .dict=>"dict"
noncomputable def eS:BT->BT->Bool
 | .bool,.int=>true
 | .int,.int=>true| .bool,.bool=>true| .str,.str=>true| .list,.list=>true| .tuple,.tuple=>true| .dict,.dict=>true
 |_,_=>false
def kit_bt(K:Frag)(a T:BT):Yh K (.type a.s) (.type T.s)=some (eS a T):=by cases a<;>cases T<;>kernel_rfl
def DY(K:Frag)(T:BT):Yh K (.type "NoneType") (.type T.s)=some false:=by cases T<;>kernel_rfl
def D4(T:BT)(x:V)(H:Hp)(Q:VK):Prop:=match x with
 | .non=>Q (.bl false) H
 | .bl _=>Q (.bl (eS .bool T)) H
 | .int _=>Q (.bl (eS .int T)) H
 | .str _=>Q (.bl (eS .str T)) H
 | .ref a=>match H a with
   |some (.lst _)=>Q (.bl (eS .list T)) H
   |some (.frz _ (.lst _))=>Q (.bl (eS .list T)) H
   |some (.tup _)=>Q (.bl (eS .tuple T)) H
   |some (.dK _)=>Q (.bl (eS .dict T)) H
   |_=>False
 |_=>False
section
variable{X:Cx}{a b c e o:RU}{ta tb tc te to:TE}{p p2 pos:Uk}{es:List RU}{t:TA}
def Oi(T:BT){QQ:Q5}{s:Rb}{σ:St}{H:Hp}{x:V}{u:YB}{Q:VK}(I:aL X QQ σ H s)(rx:aU x u)(h:D4 T x H Q):Ra (Rh X.prog X.w) X.A (call (.builtin "isinstance") [u,.type T.s]) (EP X QQ σ Q) X.xe s:=by
 have fin:∀{k:Bool}{tv:YB},lK X.K H x tv->Yh X.K tv (.type T.s)=some k->Q (.bl k) H->Ra (Rh X.prog X.w) X.A (call (.builtin "isinstance") [u,.type T.s]) (EP X QQ σ Q) X.xe s:=λty e q=>
  zM I rx ty e λtk=>⟨.bl _,H,I.tok tk,rfl,q⟩
 unfold D4 at h;cases x with
 |non=>exact fin .non (DY _ T) h
 |bl y=>exact fin (.bl y) (kit_bt _ .bool T) h
 |int y=>exact fin (.int y) (kit_bt _ .int T) h
 |str y=>exact fin (.str y) (kit_bt _ .str T) h
 |ref d=>
  dsimp only at h;split at h
  .rename_i e;exact fin (.lst e) (kit_bt _ .list T) h
  .rename_i e;exact fin (.frz e) (kit_bt _ .list T) h
  .rename_i e;exact fin (.tup e) (kit_bt _ .tuple T) h
  .rename_i e;exact fin (.dK e) (kit_bt _ .dict T) h
  .exact h.elim
 |_=>exact h.elim
def OP(T:BT)(ta:TE):TE:=λσ H Q=>ta σ H λx H1=>D4 T x H1 Q
def OK(T:BT)(ha:PE X a ta)(hg:Gl X "isinstance")(hm:X.mg "isinstance"=none)(hgT:Gl X n)(hmT:X.mg n=none)(hv:Rp n=some (.type T.s))(hn:n≠"__name__":=by decide)(hdb:(n == ("__debug__":Str))=false:=by decide)(he:Rc [a,.Name n p2] X.env=(false,RH a X.env)::Rc [.Name n p2] X.env:=by rfl)(he2:Rc [.Name n p2] X.env=(false,RH (.Name n p2) X.env)::Rc [] X.env:=by rfl)(hpl:(RE pos (Rc [.Name n p2] X.env)).any (·.1)=false:=by rfl):PE X (.Call (.Name "isinstance" p) [a,.Name n p2] [] pos) (OP T ta):=by
 intro QQ s σ H Q I h;refine Sy (j0 I hg hm oZ ?_ (by decide) (by decide));have hA:PA X [a,.Name n p2] (bf ta (bf (tC (.ty T.s)) cw)):=pa_cons ha (pa_cons (DG hgT hmT hv rfl hn hdb) pan he2) he;refine PyProof.Rows.callWith_builtin1 (bH (hA pos QQ s σ H (λvs H1=>∃x,vs=[x,.ty T.s]/\D4 T x H1 Q) I ?_) λus s1 ⟨vs,H1,I1,r1,x,e,q1⟩=>?_) he hpl
 .have mono:(λ(x:V) H1=>D4 T x H1 Q)=λx H1=>(bf (tC (.ty T.s)) cw) σ H1 λxs H2=>∃y,x::xs=[y,.ty T.s]/\D4 T y H2 Q:=by
   funext x H1;apply propext
   constructor
   .intro q;exact⟨x,rfl,q⟩
   .rintro⟨y,e,q⟩;have:x=y:=by injection e
    subst this;exact q
  show ta σ H _;rw[<-mono];exact h
 .subst e;obtain⟨u,w',rfl,ru,rt⟩:=Aw r1;cases rt;exact Oi T I1 ru q1
def yy.imp(h:yy X r)(i:∀x y H Q,r' x y H Q->r x y H Q):yy X r':=λva sl QQ s σ H x y v u Q I rx ry q hs=>h va sl QQ s σ H x y v u Q I rx ry (i x y H Q q) hs
def Qq(K:Frag)(x y:V)(H:Hp)(Q:VK):Prop:=match x,y with
 | .str z,.int i=>z.length<=v1/\∃c,atI z.cps.toList i=some c/\Q (.str ⟨#[c]⟩) H
 | .ref q,.int i=>∃xs v,(aN K H q xs\/cY K H q xs)/\atI xs i=some v/\Q v H
 |_,_=>False
def Qp:yy X (Qq X.K):=(KP (X:=X)).imp λx y H Q h=>by
 unfold Qq at h;split at h
 .obtain⟨h1,c,h2,q⟩:=h;exact .inr (.inr ⟨_,_,c,rfl,rfl,h1,h2,q⟩)
 .obtain⟨xs,v,h1,h2,q⟩:=h
  rcases h1 with h1|h1
  .exact .inl ⟨_,xs,_,v,rfl,rfl,h1,h2,q⟩
  .exact .inr (.inl ⟨_,xs,_,v,rfl,rfl,h1,h2,q⟩)
 .exact h.elim
def LD(K:Frag)(ta tb:TE):TE:=λσ H Q=>ta σ H λx H1=>tb σ H1 λy H2=>Qq K x y H2 Q
def OJ(ha:PE X a ta)(hb:PE X b tb)(hs:sO b:=by exact λ_ _=>rfl):PE X (.Subscript a b pos) (LD X.K ta tb):=NU Qp ha hb hs
def Jx(t:TE):TO:=λσ H Q=>t σ H λx H1=>match x with| .int i=>Q (some i) H1|_=>False
def eW(h:PE X e te):PO X (some e) (Jx te):=by
 intro QQ s σ H Q I hw;rw[evalPart_some];refine bH (h QQ s σ H _ I hw) λu s1 ⟨x,H1,I1,r1,q1⟩=>?_;cases x with
 |int i=>
  obtain⟨t,rfl⟩:=r1;exact⟨some i,H1,I1,.int i t,q1⟩
 |_=>exact q1.elim
def Aq.imp(h:Aq X r)(i:∀x lo hi H Q,r' x lo hi H Q->r x lo hi H Q):Aq X r':=λQQ s σ H x v vl vu lo hi sl Q I rx hs pl pu q=>h QQ s σ H x v vl vu lo hi sl Q I rx hs pl pu (i x lo hi H Q q)
def Qd(K:Frag)(x:V)(lo hi:Option Int)(H:Hp)(Q:VK):Prop:=match x with
 | .str z=>z.length<=v1/\Q (.str (j1 z lo hi)) H
 | .ref d=>∃xs,aN K H d xs/\∀q,H q=none->Q (.ref q) (upd H q (.lst (oX xs lo hi)))
 |_=>False
def Qc:Aq X (Qd X.K):=((J1 (X:=X)).or Do).imp λx lo hi H Q h=>by
 unfold Qd at h;split at h
 .exact .inl ⟨_,rfl,h.1,h.2⟩
 .obtain⟨xs,h1,h2⟩:=h;exact .inr ⟨_,xs,rfl,h1,h2⟩
 .exact h.elim
def Pk(K:Frag)(te:TE)(tl th:TO):TE:=λσ H Q=>te σ H λx H1=>tl σ H1 λl H2=>th σ H2 λu H3=>Qd K x l u H3 Q
def OG{lo hi:Option RU}(he:PE X e te)(hl:PO X lo tl)(hu:PO X hi th):PE X (.Subscript e (.Slice lo hi none p2) pos) (Pk X.K te tl th):=Bm Qc he hl hu
def cB(r:List V->Hp->VK->Prop)(t:TA):TE:=λσ H Q=>t σ H λvs H1=>r vs H1 Q
def zy(K:Frag)(xs:List V)(H:Hp)(Q:VK):Prop:=match xs with
 | [.str z]=>z.length<=v1/\Q (.int z.length) H
 | [.ref d]=>∃ys,(aN K H d ys\/cY K H d ys)/\Q (.int ys.length) H
 |_=>False
def Af:bq X (.builtin "len") (zy X.K):=((sh (X:=X)).or se).imp λxs H Q h=>by
 unfold zy at h;split at h
 .exact .inr ⟨_,rfl,h.1,h.2⟩
 .obtain⟨ys,h1,h2⟩:=h;exact .inl ⟨_,ys,rfl,h1,h2⟩
 .exact h.elim
def KA(xs:List V)(H:Hp)(Q:VK):Prop:=match xs with
 | [.int i,.int j]=>Q (.int (if j<i then j else i)) H
 |_=>False
def Ad(hc:X.calm=true):bq X (.builtin "min") KA:=(Ae hc).imp λxs H Q h=>by
 unfold KA at h;split at h
 .exact⟨_,_,rfl,h⟩
 .exact h.elim
def KR(xs:List V)(H:Hp)(Q:VK):Prop:=match xs with
 | [.str x]=>∃n,PySem.intText? x=some n/\x.length<=640/\Q (.int n) H
 | [.bl k]=>Q (.int (if k then 1 else 0)) H
 |_=>False
def qa:bq X (.type "int") KR:=((oY (X:=X)).or Ag).imp λxs H Q h=>by
 unfold KR at h;split at h
 .obtain⟨n,h1,h2,q⟩:=h;exact .inl ⟨_,n,rfl,h1,h2,q⟩
 .exact .inr (.inr ⟨_,rfl,h⟩)
 .exact h.elim
def Lq(K:Frag)(xs:List V)(H:Hp)(Q:VK):Prop:=match xs with
 | [.ref d]=>∃ks:List Bool,aN K H d (ks.map V.bl)/\Q (.bl (ks.all id)) H
 |_=>False
def Ai(hc:X.calm=true):bq X (.builtin "all") (Lq X.K):=(Cw hc).imp λxs H Q h=>by
 unfold Lq at h;split at h
 .obtain⟨ks,h1,q⟩:=h;exact⟨_,ks,rfl,h1,q⟩
 .exact h.elim
def Qx{id:String}{x:Str}{r:List V->Hp->VK->Prop}(hc:bq X (.builtin id) r)(hv:Rp x=some (.builtin id))(hm:X.mg x=none)(ha:PA X (e::es) t)(hg:Gl X x:=by rfl)(hn:x≠"__name__":=by decide)(hdb:(x == ("__debug__":Str))=false:=by decide)(he:Rc (e::es) X.env=(false,RH e X.env)::Rc es X.env:=by rfl)(hpl:(RE pos (Rc es X.env)).any (·.1)=false:=by rfl):PE X (.Call (.Name x p) (e::es) [] pos) (cB r t):=Bq hc hg hm hv ha hn hdb he hpl
def OL(hc:bq X (.type T) r)(hv:Rp x=some (.type T))(hm:X.mg x=none)(ha:PA X (e::es) t)(hg:Gl X x:=by rfl)(hn:x≠"__name__":=by decide)(hdb:(x == ("__debug__":Str))=false:=by decide)(he:Rc (e::es) X.env=(false,RH e X.env)::Rc es X.env:=by rfl)(hpl:(RE pos (Rc es X.env)).any (·.1)=false:=by rfl):PE X (.Call (.Name x p) (e::es) [] pos) (cB r t):=zd hc hg hm hv ha hn hdb he hpl
def Pl(r:V->List V->Hp->VK->Prop)(to:TE)(t:TA):TE:=λσ H Q=>to σ H λx H1=>match x with| .str z=>t σ H1 λxs H2=>r (.str z) xs H2 Q|_=>False
def OF{name:Str}{apos cpos:Uk}{id:String}{r:V->List V->Hp->VK->Prop}(slot:Slot "str" name id)(hty:typeOf (.builtin id)=pure (.type "method_descriptor"))(hm:sQ X id r)(ho:PE X o to)(ha:PA X (e::es) t)(hbase:RK o name X.env (RH o X.env)=RH o X.env:=by rfl)(hfew:((RE cpos (Rc (e::es) X.env)).all (λx=> !x.1)&&(SS cpos (Se [] X.env)).all (λx=>x.1.isSome)
   &&decide ((e::es).length+([]:List Sl).length+(if([]:List Sl).isEmpty then 0 else 1)<30))=true:=by rfl) (hline:(apos.endLine == cpos.line)=true:=by rfl) (hs:Rc (e::es) X.env=(false,RH e X.env)::Rc es X.env:=by rfl) (hplain:(RE cpos (Rc es X.env)).any (·.1)=false:=by rfl):PE X (.Call (.Attribute o name apos) (e::es) [] cpos) (Pl r to t):=by
 intro QQ s σ H Q I h;refine RY hbase hfew hline rfl (bH (ho QQ s σ H _ I h) λv s1 ⟨x,H1,I1,r1,q1⟩=>?_);cases x with
 |str z=>
  have ty:Db X.K "str" (.str z) H1:=rfl;obtain⟨h1,h2⟩:=iV I1 r1 ty;refine⟨"str",id,PySem.F.plainAttrs_str,slot,hty,h1,h2,?_⟩;have hA:=ha cpos QQ s1 σ H1 _ I1 q1;rw[hs]at hA ⊢;refine RA (by show(false||(RE cpos (Rc es X.env)).any (·.1))=false;rw[hplain]<;>rfl) (RW ?_)
  exact bH hA λus s2 ⟨vs,H2,I2,r2,q2⟩=>hm QQ s2 σ H2 _ vs v us Q I2 r1 r2 q2
 |_=>exact q1.elim
def Ey(r:V->List V->Hp->VK->Prop)(to:TE):TE:=λσ H Q=>to σ H λx H1=>match x with| .str z=>r (.str z) [] H1 Q|_=>False
def rY{name:Str}{apos cpos:Uk}{id:String}{r:V->List V->Hp->VK->Prop}(slot:Slot "str" name id)(hty:typeOf (.builtin id)=pure (.type "method_descriptor"))(hm:sQ X id r)(ho:PE X o to)(hbase:RK o name X.env (RH o X.env)=RH o X.env:=by rfl)(hline:(apos.endLine == cpos.line)=true:=by rfl):PE X (.Call (.Attribute o name apos) [] [] cpos) (Ey r to):=by
 intro QQ s σ H Q I h;refine T2 hbase hline (bH (ho QQ s σ H _ I h) λv s1 ⟨x,H1,I1,r1,q1⟩=>?_);cases x with
 |str z=>
  have ty:Db X.K "str" (.str z) H1:=rfl;obtain⟨h1,h2⟩:=iV I1 r1 ty;exact⟨"str",id,PySem.F.plainAttrs_str,slot,hty,h1,h2,RA rfl (PySem.evalArgs_none (hm QQ s1 σ H1 _ [] v [] Q I1 r1 .nil q1))⟩
 |_=>exact q1.elim
def nO(K:Frag)(x:V)(vs:List V)(H:Hp)(Q:VK):Prop:=match x,vs with
 | .str sep,[.ref d]=>∃ys:List Str,aN K H d (ys.map V.str)/\(ys.map (·.length)).sum+ys.length*sep.length<=16777216/\Q (.str (UN sep ys)) H
 |_,_=>False
def Bz:sQ X "str.join" (nO X.K):=(DS (X:=X)).imp λx vs H Q h=>by
 unfold nO at h;split at h
 .obtain⟨ys,h1,h2,q⟩:=h;exact⟨_,_,ys,rfl,rfl,h1,h2,q⟩
 .exact h.elim
def NG(x:V)(vs:List V)(H:Hp)(Q:VK):Prop:=match x,vs with
 | .str a,[]=>a.length<=v1/\(∀c∈a.cps.toList,c<128)/\Q (.str ⟨a.cps.map up1⟩) H
 |_,_=>False
def Bx:sQ X "str.upper" NG:=(Bw (X:=X)).imp λx vs H Q h=>by
 unfold NG at h;split at h
 .exact⟨_,rfl,rfl,h.1,h.2.1,h.2.2⟩
 .exact h.elim
def Aj(to te:TE):TE:=λσ H Q=>to σ H λx H1=>match x with
 | .ref l=>(∃xs,H1 l=some (.lst xs))/\te σ H1 λy H2=>∃xs,H2 l=some (.lst xs)/\xs.length<v1/\Q .non (upd H2 l (.lst (xs++[y])))
 |_=>False
def dw{apos cpos:Uk}(ho:PE X o to)(he:PE X e te)(hbase:RK o "append" X.env (RH o X.env)=RH o X.env:=by rfl)(hfew:((RE cpos (Rc [e] X.env)).all (λx=> !x.1)&&(SS cpos (Se [] X.env)).all (λx=>x.1.isSome)
   &&decide ([e].length+([]:List Sl).length+(if([]:List Sl).isEmpty then 0 else 1)<30))=true:=by rfl) (hline:(apos.endLine == cpos.line)=true:=by rfl) (hs:Rc [e] X.env=(false,RH e X.env)::Rc [] X.env:=by rfl) (hplain:(RE cpos (Rc [] X.env)).any (·.1)=false:=by rfl):PE X (.Call (.Attribute o "append" apos) [e] [] cpos) (Aj to te):=by
 intro QQ s σ H Q I h;refine RY hbase hfew hline rfl (bH (ho QQ s σ H _ I h) λv s1 ⟨x,H1,I1,r1,q1⟩=>?_);cases x with
 |ref l=>
  obtain⟨⟨xs0,e0⟩,q1⟩:=q1;have ty:Db X.K "list" (.ref l) H1:=.inl ⟨rfl,xs0,aN.of e0⟩;obtain⟨h1,h2⟩:=iV I1 r1 ty;refine⟨"list","list.append",PySem.F.plainAttrs_list,PySem.F.slot_list_append,PySem.F.type_list_append,h1,h2,?_⟩;have hA:=(pa_cons he pan hs:PA X [e] (bf te cw)) cpos QQ s1 σ H1 (λvs H2=>∃y,vs=[y]/\∃xs,H2 l=some (.lst xs)/\xs.length<v1/\Q .non (upd H2 l (.lst (xs++[y])))) I1 (by
   show te σ H1 λy H2=>∃y',[y]=[y']/\_;have:(λ(y:V)(H2:Hp)=>∃xs,H2 l=some (.lst xs)/\xs.length<v1/\Q .non (upd H2 l (.lst (xs++[y]))))=λy H2=>∃y',[y]=[y']/\∃xs,H2 l=some (.lst xs)/\xs.length<v1/\Q .non (upd H2 l (.lst (xs++[y']))):=by
    funext y H2;apply propext
    constructor
    .intro z;exact⟨y,rfl,z⟩
    .rintro⟨y',e,z⟩;have:y=y':=by injection e
     subst this;exact z
   rw[<-this];exact q1)
  rw[hs]at hA ⊢;refine RA (by show(false||(RE cpos (Rc [] X.env)).any (·.1))=false;rw[hplain]<;>rfl) (RW ?_)
  exact bH hA λus s2 ⟨vs,H2,I2,r2,y,e,xs,q3,q4,q5⟩=>zw QQ s2 σ H2 _ vs v us Q I2 r1 r2 ⟨l,xs,y,rfl,e,q3,q4,q5⟩
 |_=>exact q1.elim
structure cC(P:Rg)(w:Rk)(K:Frag)(mg:Q3)(QR:Rq)(name:Str)(ps:List Str)(k:Nat)(sp:Sp):Prop where
 ex:∃f fd,aX P w K mg QR cI k f fd ps sp/\mg name=some (.ref f)/\X6 K (.ref f)=true/\jS K fd ps []
def gS(sp:Sp)(t:TA):TE:=λσ H Q=>t σ H λvs H1=>sp vs H1 Q E0
def Ex(C:cC X.prog X.w X.K X.mg X.QR name ps k sp)(hr:db j X.A)(hkj:k<=j)(ha:PA X (e::es) t)(hg:Gl X name:=by rfl)(hdb:(name == ("__debug__":Str))=false:=by decide)(he:Rc (e::es) X.env=(false,RH e X.env)::Rc es X.env:=by rfl)(hpl:(RE pos (Rc es X.env)).any (·.1)=false:=by rfl):PE X (.Call (.Name name p) (e::es) [] pos) (gS sp t):=by obtain⟨f,fd,F,hm,hk,hb⟩:=C.ex;refine(DF F (hr.mono hkj) hg hm hk hb .nil xH ha hdb he hpl:PE X _ (AC sp [] E0 t)).imp λσ H Q h=>?_;unfold AC;simp only[Vx];exact h
end
section
def Bn(hg:Gl X x)(h:∃u,X.mg x=some u/\aU v u)(hd:(x == ("__debug__":Str))=false:=by decide):PE X (.Name x pos) (tC v):=by obtain⟨u,hm,r⟩:=h;exact DC hg hm r hd
end
def hu20(hr:db k A):A.units+20<RM:=by have:=hr.units;lia
def ah.upd(h:ah H H')(hd:H' d=none):ah H (upd H' d o):=λb ob e=>by have e':=h b ob e;rw[ak (ay e' hd)];exact e'
section
variable{X:Cx}{a b c e o:RU}{ta tb tc te to:TE}{p p2 pos:Uk}{es:List RU}{t:TA}
def g6(K:Frag)(hu:X.A.units+20<RM)(ha:PE X a ta)(hb:PE X b tb)(hm:behindInMarks op b=false:=by first|exact jY _|with_unfolding_all rfl)(hK:X.K=K:=by rfl):PE X (.Compare a [op] [b] pos) (fT K op ta tb):=by subst hK;exact Lf hu ha hb hm
def aT(K:Frag)(hu:X.A.units+20<RM)(ha:PE X a ta)(hb:PE X b tb)(hm:behindInMarks op b=false:=by first|exact jY _|with_unfolding_all rfl)(hK:X.K=K:=by rfl):PT X (.Compare a [op] [b] pos) (gh (fT K op ta tb)):=by subst hK;exact Lc hu ha hb hm
def wo(K:Frag)(hu:X.A.units+20<RM)(ha:PE X a ta)(hb:PE X b tb)(hc:PE X c tc)(hm:US [op,op'] [b,c]=false:=by with_unfolding_all rfl)(hK:X.K=K:=by rfl):PE X (.Compare a [op,op'] [b,c] pos) (sj K op op' ta tb tc):=by subst hK;exact Cv hu ha hb hc hm
def xQ(K:Frag)(hu:X.A.units+20<RM)(ha:PE X a ta)(hb:PE X b tb)(hc:PE X c tc)(hm:US [op,op'] [b,c]=false:=by with_unfolding_all rfl)(hK:X.K=K:=by rfl):PT X (.Compare a [op,op'] [b,c] pos) (si K op op' ta tb tc):=by subst hK;exact Cp hu ha hb hc hm
def cX(K:Frag)(ha:PE X a ta)(hb:PE X b tb)(hs:sO b:=by exact λ_ _=>rfl)(hK:X.K=K:=by rfl):PE X (.Subscript a b pos) (LD K ta tb):=by subst hK;exact OJ ha hb hs
def DX(K:Frag){lo hi:Option RU}(he:PE X e te)(hl:PO X lo tl)(hu:PO X hi th)(hK:X.K=K:=by rfl):PE X (.Subscript e (.Slice lo hi none p2) pos) (Pk K te tl th):=by subst hK;exact OG he hl hu
def fv(K:Frag)(hK:X.K=K:=by rfl):bq X (.builtin "len") (zy K):=by subst hK;exact Af
def zL(K:Frag)(hc:X.calm=true:=by rfl)(hK:X.K=K:=by rfl):bq X (.builtin "all") (Lq K):=by subst hK;exact Ai hc
def Jh(K:Frag)(hK:X.K=K:=by rfl):sQ X "str.join" (nO K):=by subst hK;exact Bz
def mB(K:Frag)(hl:PE X l tl)(hK:X.K=K:=by rfl):PI X tg l (nT K tl):=by subst hK;exact Dx hl
def Ph(K:Frag){n:Nat}{k:Nat}{t:Lu}(h:LF X es t)(hc:X.calm=true:=by rfl)(hn:(SZ es X.env).length=n:=by rfl)(hst:List.findIdx? (λx=>x.1) (SZ es X.env)=none:=by rfl)(hK:X.K=K:=by rfl):PG X (.Tuple es k pos) (zQ K n t):=by subst hK;exact Kd hc h hn hst
def kg(h:∃u,X.mg x=some u/\aU v u)(hg:Gl X x:=by rfl)(hd:(x == ("__debug__":Str))=false:=by decide):PE X (.Name x pos) (tC v):=Bn hg h hd
def wm(T:BT)(hm:X.mg "isinstance"=none)(hmT:X.mg n=none)(hv:Rp n=some (.type T.s))(ha:PE X a ta)(hg:Gl X "isinstance":=by rfl)(hgT:Gl X n:=by rfl)(hn:n≠"__name__":=by decide)(hdb:(n == ("__debug__":Str))=false:=by decide)(he:Rc [a,.Name n p2] X.env=(false,RH a X.env)::Rc [.Name n p2] X.env:=by rfl)(he2:Rc [.Name n p2] X.env=(false,RH (.Name n p2) X.env)::Rc [] X.env:=by rfl)(hpl:(RE pos (Rc [.Name n p2] X.env)).any (·.1)=false:=by rfl):PE X (.Call (.Name "isinstance" p) [a,.Name n p2] [] pos) (OP T ta):=OK T ha hg hm hgT hmT hv hn hdb he he2 hpl
def LC{tg:RU}{ta:TA}(hm:X.mg "range"=none)(ha:PA X [a] ta)(hg:Gl X "range":=by rfl)(hs:Rc [a] X.env=[(false,RH a X.env)]:=by rfl):PI X tg (.Call (.Name "range" p) [a] [] pos) (xW ta):=zc hg hm ha hs
def cz(dsc:Tn)(XN:List Str)(h:wN dsc XN N src scope=true:=by decide+kernel)(he:X.env.scope=dsc:=by rfl)(hN:X.N=XN:=by rfl):cA X N src scope:=cA.of he hN h
def bj{i:Nat}{x:Str}(N:List Str)(hN:N.Nodup:=by decide+kernel)(hi:X.N[i]? =some x:=by rfl)(hx:JB X.env.scope x:=by first|exact Or.inl rfl|exact Or.inr rfl)(hf:X.fn x=true\/X.env.scope.names.lookup x=some .local:=by first|exact .inl rfl|exact .inr rfl)(hNX:X.N=N:=by rfl):PG X (.Name x pos) (gName i):=
 xC (hNX▸hN) hi hx hf
def eQ(S:cA X N src scope)(hi:PI X tg iter wi)(hg:∀s H ex,PG (cxC X scope N s H ex) tg g)(ht:∀s H ex,uY (cxC X scope N s H ex) ifs tt)(he:∀s H ex,PE (cxC X scope N s H ex) e te)(hc:X.calm=true:=by rfl)(hs:∀x,S4 iter X.env x=pure x:=by intro _;rfl):PE X (.ListComp e [⟨tg,iter,ifs,0⟩] scope pos) (tComp wi g tt te src):=DE hc S hi hg ht he hs
end
def pC{K:Frag}{i j:Int}{H:Hp}{Q:VK}:(gQ K .LtE (.int i) (.int j) H Q)=(Q (.bl (decide (i<=j))) H):=rfl
def y0{K:Frag}{i j:Str}{H:Hp}{Q:VK}:(gQ K .LtE (.str i) (.str j) H Q)=(Q (.bl (!decide (j.cps.toList<i.cps.toList))) H):=rfl
def A6{K:Frag}{i j:Str}{H:Hp}{Q:VK}:(gQ K .In (.str i) (.str j) H Q)=(Q (.bl (!(Sa j i 0 j.length 1).isEmpty)) H):=rfl
def md{K:Frag}{i:Int}{d:YC}{H:Hp}{Q:VK}:(gQ K .NotIn (.int i) (.ref d) H Q)=(LA K true (.int i) (.ref d) H Q):=rfl
def ko{K:Frag}{i:Str}{d:YC}{H:Hp}{Q:VK}:(gQ K .In (.str i) (.ref d) H Q)=(LA K false (.str i) (.ref d) H Q):=rfl
def J7:(Ak .Add (.ref a) (.ref b) H Q)=(J8 (.ref a) (.ref b) H Q):=rfl
def A5{K:Frag}{a:Str}{d:YC}{H:Hp}{Q:VK}:(nO K (.str a) [.ref d] H Q)=(∃ys:List Str,aN K H d (ys.map V.str)/\(ys.map (·.length)).sum+ys.length*a.length<=16777216/\Q (.str (UN a ys)) H):=rfl
def Qe:(NG (.str a) [] H Q)=(a.length<=v1/\(∀c∈a.cps.toList,c<128)/\Q (.str ⟨a.cps.map up1⟩) H):=rfl
def r_b:cV Q (.bl k) H=Q k H:=rfl
noncomputable def gY:RU->Bool
 | .Starred _ _=>false
 |_=>true
def gk(h:gY e=true):Rc (e::es) env=(false,RH e env)::Rc es env:=by
 cases e<;>first|rfl|cases h
theorem iI:∀{es:List RU},es.all gY=true->(RE pos (Rc es env)).any (·.1)=false
 | [],_=>rfl
 |e::es,h=>by
  rw[Vv,Xx]at h;rw[gk h.1];show(false||(RE pos (Rc es env)).any (·.1))=false
  rw[iI h.2];rfl
theorem CJ:∀{es:List RU},es.all gY=true->(RE pos (Rc es env)).all (λx=> !x.1)=true
 | [],_=>rfl
 |e::es,h=>by rw[Vv,Xx]at h;rw[gk h.1];show(!false&&(RE pos (Rc es env)).all (λx=> !x.1))=true;rw[CJ h.2];rfl
section
variable{X:Cx}{a b c e o:RU}{p p2 pos:Uk}{es:List RU}{t:TA}
def az(ha:PE X e te)(hr:PA X es t)(h:gY e=true:=by rfl):PA X (e::es) (bf te t):=pa_cons ha hr (gk h)
def aF(C:cC X.prog X.w X.K X.mg X.QR name ps k sp)(hr:db j X.A)(ha:PA X (e::es) t)(hkj:k<=j:=by decide)(hp:(e::es).all gY=true:=by rfl)(hg:Gl X name:=by rfl)(hdb:(name == ("__debug__":Str))=false:=by decide):PE X (.Call (.Name name p) (e::es) [] pos) (gS sp t):=by have hp':=hp;rw[Vv,Xx]at hp';exact Ex C hr hkj ha hg hdb (gk hp'.1) (iI hp'.2)
def kB{id:String}{x:Str}{r:List V->Hp->VK->Prop}(hc:bq X (.builtin id) r)(hv:Rp x=some (.builtin id))(hm:X.mg x=none)(ha:PA X (e::es) t)(hp:(e::es).all gY=true:=by rfl)(hg:Gl X x:=by rfl)(hn:x≠"__name__":=by decide)(hdb:(x == ("__debug__":Str))=false:=by decide):PE X (.Call (.Name x p) (e::es) [] pos) (cB r t):=by have hp':=hp;rw[Vv,Xx]at hp';exact Qx hc hv hm ha hg hn hdb (gk hp'.1) (iI hp'.2)
def xS(hc:bq X (.type T) r)(hv:Rp x=some (.type T))(hm:X.mg x=none)(ha:PA X (e::es) t)(hp:(e::es).all gY=true:=by rfl)(hg:Gl X x:=by rfl)(hn:x≠"__name__":=by decide)(hdb:(x == ("__debug__":Str))=false:=by decide):PE X (.Call (.Name x p) (e::es) [] pos) (cB r t):=by have hp':=hp;rw[Vv,Xx]at hp';exact OL hc hv hm ha hg hn hdb (gk hp'.1) (iI hp'.2)
def ksm{name:Str}{apos cpos:Uk}{id:String}{r:V->List V->Hp->VK->Prop}(slot:Slot "str" name id)(hty:typeOf (.builtin id)=pure (.type "method_descriptor"))(hm:sQ X id r)(ho:PE X o to)(ha:PA X (e::es) t)(hp:(e::es).all gY=true:=by rfl)(hl:(e::es).length<20:=by decide)(hbase:RK o name X.env (RH o X.env)=RH o X.env:=by rfl)(hline:(apos.endLine == cpos.line)=true:=by rfl):PE X (.Call (.Attribute o name apos) (e::es) [] cpos) (Pl r to t):=by have hp':=hp;rw[Vv,Xx]at hp';refine OF slot hty hm ho ha hbase ?_ hline (gk hp'.1) (iI hp'.2);rw[CJ hp];show(true&&true&&decide ((e::es).length+0+0<30))=true;rw[QT (by lia)];rfl
end
end L2
namespace L2
open PySem
def bD(P:St->Hp->Prop)(h:∀K:St->Hp->Prop,(∀σ' H',P σ' H'->K σ' H')->t {D with nx:=K} σ H)(h2:∀σ' H',P σ' H'->u D σ' H'):bg t u D σ H:=h (u D) h2
def bu(P:V->Hp->Prop)(h:∀Q:VK,(∀v H',P v H'->Q v H')->te σ H Q)(h2:∀v H',P v H'->u D (σ.set i (some v)) H'):bg (tAsg te (gName i)) u D σ H:=h _ h2
def cP(P:Bool->Hp->Prop)(hc:∀Q:Bool->Hp->Prop,(∀b H',P b H'->Q b H')->c σ H Q)(h1:∀H',P true H'->t {D with nx:=u D} σ H')(h2:∀H',P false H'->u D σ H'):bg (l7 c t tj) u D σ H:=by
 refine hc _ λb H' p=>?_;cases b with
 |true=>exact gN (h1 H' p)
 |false=>exact gO (h2 H' p)
noncomputable def jG:List RU->Option (List V)
 | []=>some []
 | .Constant (.int i) _ _::r=>(jG r).map (V.int i:: ·)
 | .Constant (.str x) _ _::r=>(jG r).map (V.str x:: ·)
 | .Constant (.bool b) _ _::r=>(jG r).map (V.bl b:: ·)
 | .Constant .none _ _::r=>(jG r).map (V.non:: ·)
 |_=>none
def cCs(vs:List V):TA:=λ_ H Q=>Q vs H
def jD:∀{es:List RU}{vs:List V},jG es=some vs->PA X es (cCs vs):=by
 intro es
 induction es with
 |nil=>intro vs h;cases h;exact pan
 |cons e r ih=>
  intro vs h;unfold jG at h;split at h
  .rename_i e1;cases e1
  .rename_i e1;cases e1;obtain⟨ws,h1,h2⟩:=XW.mp h;subst h2;exact az ag (ih h1)
  .rename_i e1;cases e1;obtain⟨ws,h1,h2⟩:=XW.mp h;subst h2;exact az bR (ih h1)
  .rename_i e1;cases e1;obtain⟨ws,h1,h2⟩:=XW.mp h;subst h2;exact az eO (ih h1)
  .rename_i e1;cases e1;obtain⟨ws,h1,h2⟩:=XW.mp h;subst h2;exact az cm (ih h1)
  .cases h
def iC(n:Nat)(N:Nat->List V->St->Hp->Prop)(hn:n<=v1)(hlen:∀i ys σ H,N i ys σ H->ys.length<=i)(hgo:∀i ys σ H,N i ys σ H->i<n->J.go i H)(hstop:∀ys σ H,N n ys σ H->J.stop n H)(h0:N 0 [] (fc src σ) H1)(hturn:∀i ys σ' H' x H2,i<n->N i ys σ' H'->J.yld i H' x H2->∀(Kt:V->St->Hp->Prop)(Kf:St->Hp->Prop),(∀v σ3 H5,N (i+1) (ys++[v]) σ3 H5->Kt v σ3 H5)->(∀σ3 H4,N (i+1) ys σ3 H4->Kf σ3 H4)->
   g x σ' H2 λσ3 H3=>tt σ3 H3 λb H4=>if b=true then te σ3 H4 λv H5=>Kt v σ3 H5 else Kf σ3 H4) (hQ:∀ys σ' H' d,N n ys σ' H'->H' d=none->Q (.ref d) (upd H' d (.lst ys))):eV g tt te src σ Q J H1:=by
 refine⟨λi m ys σ' H'=>m=n - i/\i<=n/\N i ys σ' H',⟨n,by simp,WT _,h0⟩,?_⟩;rintro i m ys σ' H' ⟨rfl,hi,hN⟩
 by_cases hlt:i<n
 .refine .inr ⟨hgo i ys σ' H' hN hlt,?_,λx H2 y=>?_⟩
  .have:=hlen i ys σ' H' hN;lia
  .exact hturn i ys σ' H' x H2 hlt hN y _ _ (λv σ3 H5 h=>⟨n - (i+1),by lia,rfl,hlt,h⟩) (λσ3 H4 h=>⟨n - (i+1),by lia,rfl,hlt,h⟩)
 .have e:i=n:=by lia
  subst e;exact .inl ⟨hstop ys σ' H' hN,λd hd=>hQ ys σ' H' d hN hd⟩
def kM(n:Int)(hta:∀Q:List V->Hp->Prop,Q [.int n] H->ta σ H Q)(h0: -(2 ^ 62)<=n)(h1:n<2 ^ 62)(Pv:Nat->St->Hp->Prop)(hp0:Pv 0 σ H)(hs:∀i σ H,i<n.toNat->Pv i σ H->g (.int (0+i)) σ H λσ2 H2=>tb {D with nx:=Pv (i+1),ct:=Pv (i+1),bk:=D.nx} σ2 H2)(hd:∀σ H,Pv n.toNat σ H->D.nx σ H):tFor (xW ta) g tb D σ H:=
 hta _ ⟨n,rfl,h0,h1,zS Pv hp0 hs hd⟩
def eT(P:V->Hp->Prop)(htl:∀Q:VK,(∀v H',P v H'->Q v H')->tl σ H Q)(h:∀v H',P v H'->∃d xs,v=.ref d/\aN K H' d xs/\∃Pv:Nat->St->Hp->Prop,Pv 0 σ H'/\(∀i σ H,i<=xs.length->Pv i σ H->aN K H d xs)/\
   (∀(i:Nat) x σ H,xs[i]? =some x->Pv i σ H->g x σ H λσ2 H2=>tb {D with nx:=Pv (i+1),ct:=Pv (i+1),bk:=D.nx} σ2 H2)/\(∀σ H,Pv xs.length σ H->D.nx σ H)):tFor (nT K tl) g tb D σ H:=
 htl _ λv H' p=>by obtain⟨d,xs,rfl,hq,Pv,a,b,c,e⟩:=h v H' p;exact⟨d,rfl,⟨xs,hq⟩,B2 Pv a b c e⟩
def uX(xs:Array Nat):Prop:= ∀i j,i<j->j<xs.size->xs.getD i 0<xs.getD j 0
def bF{α:Type}{xs:Array α}{i:Nat}{d:α}(h:i<xs.size):xs.getD i d=xs[i]:=by simp[Array.getD,h]
def Ls{xs:Array Nat}{i d e:Nat}(h:i<xs.size):xs.getD i d=xs.getD i e:=by rw[bF h,bF h]
theorem oq(xs:Array Nat)(j:Nat)(hr:uX xs):∀f lo hi,hi - lo<=f->lo<=hi->hi<=xs.size->(∀k,k<lo->xs.getD k 0<j)->(∀k,hi<=k->k<xs.size->j<=xs.getD k 0)->S6 xs j f lo hi<=xs.size/\(∀k,k<S6 xs j f lo hi->xs.getD k 0<j)/\(∀k,S6 xs j f lo hi<=k->k<xs.size->j<=xs.getD k 0)
 |0,lo,hi,h1,h2,h3,h4,h5=>by
  have:lo=hi:=by lia
  subst this;exact⟨h3,h4,h5⟩
 |f+1,lo,hi,h1,h2,h3,h4,h5=>by
  unfold S6
  by_cases h:lo<hi
  .rw[QW h];have hm:(lo+hi) / 2<xs.size:=by lia
   dsimp only;rw[Ls (e:=0) hm]
   by_cases q:xs.getD ((lo+hi) / 2) 0<j
   .rw[QW q];refine oq xs j hr f _ hi (by lia) (by lia) h3 (λk hk=>?_) h5
    by_cases e:k=(lo+hi) / 2
    .rw[e];exact q
    .exact W3 (hr k _ (by lia) hm) q
   .rw[QV q];refine oq xs j hr f lo _ (by lia) (by lia) (by lia) h4 (λk hk hks=>?_)
    by_cases e:k=(lo+hi) / 2
    .rw[e];lia
    .have:=hr ((lo+hi) / 2) k (by lia) hks;lia
  .rw[QV h];have:lo=hi:=by lia
   subst this;exact⟨h3,h4,h5⟩
def fz(xs:Array Nat)(j:Nat)(hr:uX xs):Rl xs j<=xs.size/\(∀k,k<Rl xs j->xs.getD k 0<j)/\(∀k,Rl xs j<=k->k<xs.size->j<=xs.getD k 0):=
 oq xs j hr _ 0 xs.size (by lia) (WT _) (WR _) (λk hk=>by lia) (λk h1 h2=>by lia)
def wZ(hr:uX xs)(h:i<xs.size):Rl xs (xs.getD i 0+1)=i+1:=by
 obtain⟨h1,h2,h3⟩:=fz xs (xs.getD i 0+1) hr
 rcases Xe (Rl xs (xs.getD i 0+1)) (i+1)with q|q|q
 .have:=h3 i (by lia) h;lia
 .exact q
 .have:=h2 (i+1) (by lia);have:=hr i (i+1) (by lia) (by lia);lia
def uQ(hr:uX xs):Rl xs 0=0:=by
 obtain⟨h1,h2,h3⟩:=fz xs 0 hr
 rcases Xj (Rl xs 0)with q|q
 .exact q
 .have:=h2 0 q;lia
def EL(xs:Array Nat)(j:Nat):Prop:= ∀k,k<xs.size->¬xs.getD k 0=j
def Eg(hr:uX xs)(h:(xs[Rl xs j]? == some j)=false):EL xs j:=by
 obtain⟨h1,h2,h3⟩:=fz xs j hr;intro k hk e
 rcases Xe k (Rl xs j)with q|q|q
 .have:=h2 k q;lia
 .rw[<-q,XJ hk,<-bF (d:=0) hk,e]at h;simp at h
 .have a1:=hr (Rl xs j) k q hk;have a2:=h3 (Rl xs j) (WR _) (by lia);lia
def g9(xs:Array α)(p:Nat)(x:α):(Rx xs p x).size=xs.size+1:=by have h:=(S5 xs p x).length_eq;simpa using h
def qU:uX xs<->xs.toList.Pairwise (· < ·):=by
 rw[Wk]
 constructor
 .intro h i j hi hj hij;have hi':i<xs.size:=by simpa using hi
  have hj':j<xs.size:=by simpa using hj
  have:=h i j hij hj';rw[bF hi',bF hj']at this;simpa using this
 .intro h i j hij hj;have hi:i<xs.size:=by lia
  have:=h i j (by simpa using hi) (by simpa using hj) hij;rw[bF hi,bF hj];simpa using this
def vL(hr:uX xs)(hf:EL xs j):uX (Rx xs (Rl xs j) j):=by
 obtain⟨h1,h2,h3⟩:=fz xs j hr;have g:∀m(hm:m<xs.toList.length),xs.toList[m]=xs.getD m 0:=λm hm=>by
  have hm':m<xs.size:=by simpa using hm
  rw[bF hm'];simp
 rw[qU,TR,WF];have hp:=qU.mp hr;refine⟨hp.sublist (WB _ _),VZ.mpr ⟨λa ha=>?_,hp.sublist (List.drop_sublist _ _)⟩,λa ha b hb=>?_⟩
 .obtain⟨k,hk,rfl⟩:=WG.mp ha;have hk':Rl xs j+k<xs.size:=by simpa[Xi]using hk
  have a1:=h3 (Rl xs j+k) (by lia) hk';have a2:=hf _ hk';rw[g];lia
 .obtain⟨k,hk,rfl⟩:=List.mem_take_iff_getElem.mp ha;have hk1:k<Rl xs j:=by lia
  have a1:=h2 k hk1;rw[g]
  rcases U8.mp hb with rfl|hb
  .exact a1
  .obtain⟨m,hm,rfl⟩:=WG.mp hb;have hm':Rl xs j+m<xs.size:=by simpa[Xi]using hm
   have a2:=h3 (Rl xs j+m) (by lia) hm';rw[g];lia
structure SG(led:Bool)(n:Nat)(t:SetTable):Prop where
 fits:t.fits n=true
 led:t.led=led
 ris:uX t.place
def yL{t:SetTable}{j:Nat}(hr:uX t.place)(h:t.slot j=.empty\/t.slot j=.dummy):EL t.place j:=by
 apply Eg hr;unfold TU at h;dsimp only at h;cases e:(t.place[Rl t.place j]? == some j)with
 |false=>rfl
 |true=>
  rw[e]at h;simp at h
theorem jO{α:Type}(f:Nat->Option (Nat×α))(hf:∀j p,f j=some p->p.1=j):∀(l:List Nat),l.Pairwise (· < ·)->((l.filterMap f).map (·.1)).Pairwise (· < ·)/\∀a∈(l.filterMap f).map (·.1),a∈l
 | [],_=>⟨by simp,by simp⟩
 |j::l,h=>by
  obtain⟨h1,h2⟩:=VZ.mp h;obtain⟨i1,i2⟩:=jO f hf l h2;rw[VT];cases e:f j with
  |none=>exact⟨i1,λa ha=>Vd _ (i2 a ha)⟩
  |some p=>
   have ep:=hf j p e;dsimp only;rw[Vm,ep];refine⟨VZ.mpr ⟨λa ha=>h1 a (i2 a ha),i1⟩,λa ha=>?_⟩
   rcases U8.mp ha with rfl|ha
   .exact Vf
   .exact Vd _ (i2 a ha)
def oa{α:Type}{l:List α}{i:Nat}{x:α}(h:l[i]? =some x):(x::l.eraseIdx i).Perm l:=by
 have hi:i<l.length:=(Vi.mp h).1;have e:l=l.take i++x::l.drop (i+1):=by
  have e1:=(V4 i l).symm;have e2:l.drop i=x::l.drop (i+1):=by rw[V2 hi];rw[U9 hi]at h;rw[Q0 h]
  rw[e2]at e1;exact e1
 rw[List.eraseIdx_eq_take_drop_succ]
 conv=>rhs;rw[e]
 exact List.perm_middle.symm
theorem xz(next:Nat->Nat):∀(f k:Nat)(left:List α)(out:Array α),left.length<=f->(UK next f k left out).toList.Perm (out.toList++left)
 |0,k,left,out,h=>by have:left=[]:=Wi.mp (by lia);subst this;simp[UK]
 |f+1,k,left,out,h=>by
  unfold UK;split
  .rename_i x e;have hi:next k % left.length<left.length:=(Vi.mp e).1;have hl:=Wl hi;refine(xz next f (k+1) _ _ (by lia)).trans ?_;rw[XT,VC];exact List.Perm.append_left _ (oa e)
  .rename_i e;have:left=[]:=by
    cases left with
    |nil=>rfl
    |cons a l=>
     rw[U9 (Xg _ (by simp))]at e;cases e
   subst this;simp
def zb(next:Nat->Nat)(xs:Array α):(S0 next xs).toList.Perm xs.toList:=by have:=xz next xs.size 0 xs.toList #[] (by simp);simpa[S0]using this
noncomputable def xU(M:Nat):Nat->Nat->Nat
 |0,i=>i
 |n+1,i=>xU M n ((i*5+1) % M)
theorem kG(M:Nat):∀a b i,xU M (a+b) i=xU M b (xU M a i)
 |0,b,i=>by rw[W9];rfl
 |a+1,b,i=>by rw[Nat.succ_add];show xU M (a+b) _=xU M b (xU M a _);exact kG M a b _
noncomputable def Pd(M:Nat):Nat->Nat->List Nat
 |0,_=>[]
 |n+1,i=>i::Pd M n ((i*5+1) % M)
theorem qY(M:Nat):∀n i e,e∈Pd M n i->∃t,t<n/\xU M t i=e
 |0,i,e,h=>by cases h
 |n+1,i,e,h=>by
  rcases U8.mp h with rfl|h
  .exact⟨0,Xh _,rfl⟩
  .obtain⟨t,ht,e2⟩:=qY M n _ e h;exact⟨t+1,by lia,e2⟩
def lO(M:Nat):Prop:=(∀e,e<M->e∈Pd M M 0)/\xU M M 0=0
noncomputable def chk(M:Nat):Bool:=(List.range M).all λe=>(Pd M M 0).contains e
def mE(h:chk M=true)(h2:xU M M 0=0):lO M:=⟨λe he=>by
 have:=Vt.mp h e (Vo.mpr he);simpa using this,h2⟩
def Jo:lO 8:=mE (by decide+kernel) (by decide+kernel)
def K0:lO 32:=mE (by decide+kernel) (by decide+kernel)
def Ef:lO 128:=mE (by decide+kernel) (by decide+kernel)
def Ee:lO 512:=mE (by decide+kernel) (by decide+kernel)
def Ed(f:lO M)(hi:i<M)(he:e<M):∃t,t<M/\xU M t i=e:=by
 obtain⟨s,hs,es⟩:=qY M M 0 i (f.1 i hi);obtain⟨t,ht,et⟩:=qY M M 0 e (f.1 e he)
 by_cases h:s<=t
 .refine⟨t - s,by lia,?_⟩;rw[<-es,<-kG,<-et];congr 1;lia
 .refine⟨M - s+t,by lia,?_⟩;rw[<-es,<-kG,<-et];have:s+(M - s+t)=M+t:=by lia
  rw[this,kG,f.2]
noncomputable def lp(mask:Nat)(h:Int):Nat->Nat×Nat
 |0=>(RP h % (mask+1),RP h)
 |n+1=>SetTable.leap mask (lp mask h n).1 (lp mask h n).2
theorem xL(mask:Nat)(h:Int):∀n,(lp mask h n).2=RP h / 32 ^ n
 |0=>by simp[lp]
 |n+1=>by show(lp mask h n).2 / 32=_;rw[xL mask h n,Nat.div_div_eq_div_mul,Nat.pow_succ]
def ED(h:Int):RP h<2 ^ 64:=by unfold RP;lia
def Jd(mask:Nat)(h:Int):∀n,(lp mask h n).1<mask+1
 |0=>Xg _ (Xh _)
 |n+1=>Xg _ (Xh _)
def DV(mask:Nat)(h:Int)(hn:13<=n):(lp mask h n).2=0:=by rw[xL];apply Nat.div_eq_of_lt;refine WV (ED h) ?_;have:(32:Nat) ^ 13<=32 ^ n:=Nat.pow_le_pow_right (by decide) hn;refine WU ?_ this;decide
theorem xK(mask:Nat)(h:Int):∀t,(lp mask h (13+t)).1=xU (mask+1) t (lp mask h 13).1
 |0=>rfl
 |t+1=>by
  have e:xU (mask+1) (t+1) (lp mask h 13).1=(xU (mask+1) t (lp mask h 13).1*5+1) % (mask+1):=by rw[kG];rfl
  rw[e,<-xK mask h t];show((lp mask h (13+t)).1*5+1+(lp mask h (13+t)).2 / 32) % (mask+1)=_;rw[DV mask h (by lia)]
def xM(f:lO (mask+1))(h:Int)(he:e<=mask):∃N,N<=mask+13/\(lp mask h N).1=e:=by obtain⟨t,ht,et⟩:=Ed f (Jd mask h 13) (Nat.lt_succ_of_le he);exact⟨13+t,by lia,by rw[xK,et]⟩
def xa(mask:Nat)(h:Int)(n c:Nat)(p:Us):Prop:=
 p.i=(lp mask h n).1/\p.perturb=(lp mask h n).2/\p.j=(lp mask h n).1+c/\c+p.more=RI mask (lp mask h n).1 - (lp mask h n).1
noncomputable def sl(mask:Nat)(h:Int)(n c:Nat):Nat:=(lp mask h n).1+c
def nj(mask i:Nat):RI mask i - i<=9:=by unfold RI;split<;>lia
def xa.start{t:SetTable}{h:Int}:xa t.mask h 0 0 (t.probeStart h):=⟨rfl,rfl,rfl,by rw[W9];rfl⟩
theorem xa.more{t:SetTable}{h:Int}{n c:Nat}{p:Us}(a:xa t.mask h n c p)(hm:0<p.more):xa t.mask h n (c+1) (t.advance p):=by obtain⟨a1,a2,a3,a4⟩:=a;unfold Ta;rw[QW hm];exact⟨a1,a2,by show p.j+1=_;lia,by show c+1+(p.more - 1)=_;lia⟩
def xa.leap{t:SetTable}{h:Int}{n c:Nat}{p:Us}(a:xa t.mask h n c p)(hm:¬0<p.more):xa t.mask h (n+1) 0 (t.advance p):=by obtain⟨a1,a2,a3,a4⟩:=a;unfold Ta;rw[QV hm,a1,a2];exact⟨rfl,rfl,rfl,by rw[W9];rfl⟩
def iT(n c n' c':Nat):Prop:=n<n'\/(n=n'/\c<c')
def kS(mask:Nat)(h:Int)(n c:Nat):Prop:=c<=RI mask (lp mask h n).1 - (lp mask h n).1
def xa.ok(a:xa mask h n c p):kS mask h n c:=by obtain⟨_,_,_,a4⟩:=a;unfold kS;lia
theorem rQ(hd:t.dummies= #[])(hashAt:Nat->Int)(he:t.slot (sl t.mask h N 0)=.empty):∀f n c p,xa t.mask h n c p->(n<N\/(n=N/\c=0))->10*(N - n)+1<=f+c->∃n' c' p',xa t.mask h n' c' p'/\(n'<N\/(n'=N/\c'=0))/\(iT n c n' c'\/(n=n'/\c=c'))/\(∀a b,kS t.mask h a b->(iT n c a b\/(n=a/\c=b))->iT a b n' c'->∃i,t.slot (sl t.mask h a b)=.live i/\¬hashAt i=h)/\((t.slot (sl t.mask h n' c')=.empty/\R9 t hashAt h f p=some (.empty (sl t.mask h n' c') p.dummy))\/
    (∃i,t.slot (sl t.mask h n' c')=.live i/\hashAt i=h/\R9 t hashAt h f p=some (.candidate (sl t.mask h n' c') i (t.advance p'))/\n'<N/\p'.dummy=p.dummy))
 |0,n,c,p,a,hn,hf=>by have:=nj t.mask (lp t.mask h n).1;have:=a.ok;unfold kS at this;lia
 |f+1,n,c,p,a,hn,hf=>by
  have hj:p.j=sl t.mask h n c:=a.2.2.1;have nodum:∀j,¬t.slot j=.dummy:=λj e=>by
   unfold TU at e;rw[hd]at e;dsimp only at e;split at e
   .cases e
   .rw[QV (by simp[UO])]at e;cases e
  cases q:t.slot p.j with
  |empty=>
   refine⟨n,c,p,a,hn,.inr ⟨rfl,rfl⟩,λx y _ h1 h2=>?_,.inl ⟨by rw[<-hj];exact q,?_⟩⟩
   .exfalso
    rcases h1 with h1|h1<;>rcases h2 with h2|h2<;>(unfold iT at *;lia)
   .unfold R9;rw[q,hj]
  |dummy=>exact QZ q (nodum _)
  |live i=>
   by_cases hh:hashAt i=h
   .refine⟨n,c,p,a,hn,.inr ⟨rfl,rfl⟩,λx y _ h1 h2=>?_,.inr ⟨i,by rw[<-hj];exact q,hh,?_,?_,rfl⟩⟩
    .exfalso
     rcases h1 with h1|h1<;>rcases h2 with h2|h2<;>(unfold iT at *;lia)
    .unfold R9;rw[q];dsimp only;rw[QW (by simp[hh]),hj]
    .rcases hn with hn|⟨rfl,rfl⟩
     .exact hn
     .rw[hj,he]at q;cases q
   .have hlt:n<N:=by
     rcases hn with hn|⟨rfl,rfl⟩
     .exact hn
     .rw[hj,he]at q;cases q
    have hgo:R9 t hashAt h (f+1) p=R9 t hashAt h f (t.advance p):=by
     conv=>lhs;unfold R9
     rw[q];dsimp only;rw[QV (by simp[hh])]
    rw[hgo];have hdm:(t.advance p).dummy=p.dummy:=by unfold Ta;split<;>rfl
    by_cases hm:0<p.more
    .obtain⟨n',c',p',b1,b2,b3,b4,b5⟩:=rQ hd hashAt he f n (c+1) (t.advance p) (a.more hm) (.inl hlt) (by lia);refine⟨n',c',p',b1,b2,.inl (by unfold iT at *;lia),λx y o h1 h2=>?_,by rw[hdm]at b5;exact b5⟩
     by_cases e:x=n/\y=c
     .obtain⟨rfl,rfl⟩:=e;exact⟨i,by rw[<-hj];exact q,hh⟩
     .exact b4 x y o (by unfold iT at *;lia) h2
    .have hc9:=nj t.mask (lp t.mask h n).1;have hck:=a.2.2.2;obtain⟨n',c',p',b1,b2,b3,b4,b5⟩:=rQ hd hashAt he f (n+1) 0 (t.advance p) (a.leap hm) (by lia) (by lia);refine⟨n',c',p',b1,b2,.inl (by unfold iT at *;lia),λx y o h1 h2=>?_,by rw[hdm]at b5;exact b5⟩
     by_cases e:x=n/\y=c
     .obtain⟨rfl,rfl⟩:=e;exact⟨i,by rw[<-hj];exact q,hh⟩
     .refine b4 x y o ?_ h2;unfold kS at o;unfold iT at*
      by_cases e2:x=n
      .subst e2;lia
      .lia
def kY{t:SetTable}(hr:uX t.place){j i:Nat}:t.slot j=.live i<->i<t.place.size/\t.place.getD i 0=j:=by
 obtain⟨b1,b2,b3⟩:=fz t.place j hr;unfold TU;dsimp only
 constructor
 .intro h;split at h
  .rename_i e;cases h;have hlt:Rl t.place j<t.place.size:=by
    rcases Nat.lt_or_ge (Rl t.place j) t.place.size with q|q
    .exact q
    .rw[XQ q]at e;simp at e
   rw[XJ hlt]at e;refine⟨hlt,?_⟩;rw[bF hlt];simpa using e
  .split at h<;>cases h
 .rintro⟨hi,e⟩;have hb:Rl t.place j=i:=by
   rcases Xe (Rl t.place j) i with q|q|q
   .have a1:=b3 (Rl t.place j) (WR _) (by lia);have a2:=hr _ _ q hi;lia
   .exact q
   .have:=b2 i q;lia
  rw[hb,XJ hi,QW];rw[bF hi]at e;simp[e]
def gy{t:SetTable}(hr:uX t.place)(hd:t.dummies= #[]){j:Nat}:t.slot j=.empty<->EL t.place j:=by
 constructor
 .intro h;exact yL hr (.inl h)
 .intro h;cases e:t.slot j with
  |empty=>rfl
  |live i=>
   obtain⟨h1,h2⟩:=(kY hr).mp e;exact QZ h2 (h i h1)
  |dummy=>
   exfalso;unfold TU at e;rw[hd]at e;dsimp only at e;split at e
   .cases e
   .rw[QV (by simp[UO])]at e;cases e
theorem qW:∀(n:Nat)(l:List Nat),l.length<n->∃s,s<n/\¬s∈l
 |0,l,h=>by lia
 |n+1,l,h=>by
  by_cases m:n∈l
  .have hl:=Wm m;have hp:=Wn m;obtain⟨s,h1,h2⟩:=qW n (l.erase n) (by lia);exact⟨s,by lia,λz=>h2 ((Wo (by lia)).mpr z)⟩
  .exact⟨n,by lia,m⟩
def zV{t:SetTable}(hr:uX t.place)(hd:t.dummies= #[])(hf:t.place.size<=t.mask):∃e,e<=t.mask/\t.slot e=.empty:=by obtain⟨e,h1,h2⟩:=qW (t.mask+1) t.place.toList (by simp;lia);refine⟨e,by lia,(gy hr hd).mpr λk hk z=>h2 ?_⟩;rw[<-z,bF hk];simp
def CP(t:SetTable)(h:Int)(j:Nat):Prop:= ∃n c,kS t.mask h n c/\sl t.mask h n c=j/\∀a b,kS t.mask h a b->iT a b n c->¬t.slot (sl t.mask h a b)=.empty
structure u9(es:Array (Int×YB))(t:SetTable):Prop where
 ps:t.place.size=es.size
 ris:uX t.place
 nd:t.dummies= #[]
 full:lO (t.mask+1)
 odd:t.mask % 2=1
 fit:t.place.size<=t.mask
 pl:∀i,i<es.size->CP t (es.getD i (0,.none)).1 (t.place.getD i 0)
def IU(o:kS mask h n c):sl mask h n c<=mask:=by have:=Jd mask h n;unfold kS RI at o;unfold sl;split at o<;>lia
theorem u9.fits(g:u9 es t):t.fits es.size=true:=by unfold UB SetTable.fill;rw[g.nd,g.ps];have:=g.fit;rw[g.ps]at this;simp[this]
theorem u9.fresh:u9 #[] (SetTable.fresh 0 0 led):=⟨rfl,λi j _ hj=>QZ hj (by simp[SetTable.fresh]),rfl,Jo,(by show(7:Nat) % 2=1;decide),WT _,λi h=>QZ h (by simp)⟩
theorem u9.put(g:u9 es t)(o:kS t.mask h n c)(he:t.slot (sl t.mask h n c)=.empty)(hb:∀a b,kS t.mask h a b->iT a b n c->¬t.slot (sl t.mask h a b)=.empty)(hroom:es.size+1<=t.mask):u9 (Rx es (t.put (sl t.mask h n c)).2 (h,x)) (t.put (sl t.mask h n c)).1:=by
 have hf:=(gy g.ris g.nd).mp he;have hr':uX (t.put (sl t.mask h n c)).1.place:=vL g.ris hf;have hd':(t.put (sl t.mask h n c)).1.dummies= #[]:=by show(if UO t.dummies _ then _ else t.dummies)= #[];rw[g.nd];rfl
 have hsz:(t.put (sl t.mask h n c)).1.place.size=es.size+1:=by show(Rx t.place _ _).size=_;rw[g9,g.ps]
 have hes:(Rx es (t.put (sl t.mask h n c)).2 (h,x)).size=es.size+1:=g9 ..;have keep:∀j,¬t.slot j=.empty->¬(t.put (sl t.mask h n c)).1.slot j=.empty:=λj hj z=>hj ((gy g.ris g.nd).mpr λk hk e=>by
  have q:=(gy hr' hd').mp z;have hm:j∈(t.put (sl t.mask h n c)).1.place.toList:=by show j∈(Rx t.place _ _).toList;rw[(S5 t.place _ _).mem_iff,XT];refine VA _ ?_;rw[<-e,bF hk];simp
  obtain⟨k',hk',e'⟩:=VR hm;have hk2:k'<(t.put (sl t.mask h n c)).1.place.size:=by simpa using hk'
  exact q k' hk2 (by rw[bF hk2];simpa using e'))
 refine⟨by rw[hsz,hes],hr',hd',g.full,g.odd,by rw[hsz];exact hroom,λi hi=>?_⟩;rw[hes]at hi;have hp:∀i,i<es.size+1->((Rx es (t.put (sl t.mask h n c)).2 (h,x)).getD i (0,.none)=(h,x)/\(t.put (sl t.mask h n c)).1.place.getD i 0=sl t.mask h n c)\/∃j,j<es.size/\(Rx es (t.put (sl t.mask h n c)).2 (h,x)).getD i (0,.none)=es.getD j (0,.none)/\(t.put (sl t.mask h n c)).1.place.getD i 0=t.place.getD j 0:=λi hi=>by
  have hpb:(t.put (sl t.mask h n c)).2<=es.size:=by show Rl t.place _<=_;rw[<-g.ps];exact(fz t.place _ g.ris).1
  have at1:∀{α:Type}(xs:Array α)(p:Nat)(y d:α)(i:Nat),p<=xs.size->i<xs.size+1->(Rx xs p y).getD i d=if i<p then xs.getD i d else if i=p then y else xs.getD (i - 1) d:=λ{α} xs p y d i hp hi=>by
   have hs:=g9 xs p y;have e1:(Rx xs p y).getD i d=(Rx xs p y).toList[i]'(by simpa[hs]using hi):=by rw[bF (by lia)];simp
   rw[e1];simp only[TR]
   by_cases l1:i<p
   .rw[QW l1,Wp (by simp;lia),bF (by lia)];simp
   .rw[QV l1,Wq (by simp;lia)]
    by_cases l2:i=p
    .subst l2;rw[QW rfl];have hz:i - (xs.toList.take i).length=0:=by simp;lia
     have key:∀(l:List α)(k:Nat)(hk:k<(y::l).length),k=0->(y::l)[k]=y:=λl k hk e=>by subst e;rfl
     exact key _ _ _ hz
    .rw[QV l2];have hl:(xs.toList.take p).length=p:=by simp;lia
     have e2:i - (xs.toList.take p).length=(i - 1 - p)+1:=by lia
     rw[bF (by lia)];simp only[e2,List.getElem_cons_succ,List.getElem_drop,XU];congr 1;lia
  have q1:=at1 es (t.put (sl t.mask h n c)).2 (h,x) (0,.none) i hpb hi;have q2:=at1 t.place (t.put (sl t.mask h n c)).2 (sl t.mask h n c) 0 i (by rw[g.ps];exact hpb) (by rw[g.ps];exact hi);have q2':(t.put (sl t.mask h n c)).1.place.getD i 0=_:=q2;rw[q1,q2']
  by_cases l1:i<(t.put (sl t.mask h n c)).2
  .rw[QW l1,QW l1];exact .inr ⟨i,by lia,rfl,rfl⟩
  .rw[QV l1,QV l1]
   by_cases l2:i=(t.put (sl t.mask h n c)).2
   .rw[QW l2,QW l2];exact .inl ⟨rfl,rfl⟩
   .rw[QV l2,QV l2];exact .inr ⟨i - 1,by lia,rfl,rfl⟩
 rcases hp i hi with⟨e1,e2⟩|⟨j,hj,e1,e2⟩
 .rw[e1,e2];exact⟨n,c,o,rfl,λa b oab lab=>keep _ (hb a b oab lab)⟩
 .rw[e1,e2];obtain⟨n',c',o',e',hb'⟩:=g.pl j hj;exact⟨n',c',o',e',λa b oab lab=>keep _ (hb' a b oab lab)⟩
noncomputable abbrev nn(owner:Array (Option Nat))(j:Nat):Bool:=(owner.getD j (some 0)).isNone
theorem B1(hN:nn owner (sl mask h N 0)=true):∀f n,n<=N->N - n<f->∃n' c',kS mask h n' c'/\RZ mask owner f (lp mask h n).1 (lp mask h n).2=some (sl mask h n' c')/\nn owner (sl mask h n' c')=true/\∀a b,kS mask h a b->n<=a->iT a b n' c'->nn owner (sl mask h a b)=false
 |0,n,h1,h2=>by lia
 |f+1,n,h1,h2=>by
  unfold RZ;cases e:(List.range (RI mask (lp mask h n).1+1 - (lp mask h n).1)).find? (λk=>(owner.getD ((lp mask h n).1+k) (some 0)).isNone)with
  |some k=>
   obtain⟨hp,i,hi,ei,hb⟩:=List.find?_eq_some_iff_getElem.mp e;have hik:i=k:=by simpa using ei
   subst hik;have hir:i<RI mask (lp mask h n).1+1 - (lp mask h n).1:=by simpa using hi
   refine⟨n,i,by unfold kS;lia,rfl,hp,λa b o ha lt=>?_⟩;have:a=n/\b<i:=by unfold iT at lt;lia
   obtain⟨rfl,hbi⟩:=this;have:=hb b hbi;simpa[nn,sl]using this
  |none=>
   have hall:=List.find?_eq_none.mp e;have hlt:n<N:=by
    rcases Nat.lt_or_ge n N with q|q
    .exact q
    .have:n=N:=by lia
     subst this;have hr0:(0:Nat)<RI mask (lp mask h n).1+1 - (lp mask h n).1:=by unfold RI;split<;>lia
     have:=hall 0 (Vo.mpr hr0);exact QZ hN this
   obtain⟨n',c',o,e2,e3,e4⟩:=B1 hN f (n+1) hlt (by lia);refine⟨n',c',o,e2,e3,λa b oab ha lt=>?_⟩
   by_cases q:a=n
   .subst q;have hbr:b<RI mask (lp mask h a).1+1 - (lp mask h a).1:=by
     unfold kS at oab;have:(lp mask h a).1<=RI mask (lp mask h a).1:=by unfold RI;split<;>lia
     lia
    have:=hall b (Vo.mpr hbr);exact Bool.eq_false_iff.mpr this
   .exact e4 a b oab (by lia) lt
structure OI(mask:Nat)(owner:Array (Option Nat))(hs:List Int)(js:List Nat):Prop where
 sz:owner.size=mask+1
 len:js.length=hs.length
 nd:js.Nodup
 le:∀j∈js,j<=mask
 at1:∀i(hi:i<js.length),owner.getD js[i] (some 0)=some i
 at2:∀j,j<=mask->¬j∈js->owner.getD j (some 0)=none
 pl:∀i(hi:i<js.length),∃n c,kS mask (hs.getD i 0) n c/\sl mask (hs.getD i 0) n c=js[i]/\∀a b,kS mask (hs.getD i 0) a b->iT a b n c->nn owner (sl mask (hs.getD i 0) a b)=false
def vB{owner:Array (Option Nat)}{j:Nat}{o:Option Nat}(h:j<owner.size)(k:Nat):(owner.setIfInBounds j o).getD k (some 0)=if k=j then o else owner.getD k (some 0):=by
 by_cases e:k=j
 .subst e;rw[QW rfl,bF (by simpa using h)];exact Array.getElem_setIfInBounds_self ..
 .rw[QV e]
  by_cases hk:k<owner.size
  .rw[bF (by simpa using hk),bF hk];exact Array.getElem_setIfInBounds_ne hk (Ne.symm e)
  .have h1:¬k<(owner.setIfInBounds j o).size:=by simpa using hk
   simp[Array.getD,hk,h1]
def OI.step(f:lO (mask+1))(I:OI mask owner hs js)(h:Int)(hr:hs.length<=mask):∃j,RZ mask owner (Sh mask) (RP h % (mask+1)) (RP h)=some j/\OI mask (owner.setIfInBounds j (some hs.length)) (hs++[h]) (js++[j]):=by
 obtain⟨e,e1,e2⟩:=qW (mask+1) js (by rw[I.len];lia);obtain⟨N,hN,eN⟩:=xM f h (Nat.le_of_lt_succ e1);have hNn:nn owner (sl mask h N 0)=true:=by show(owner.getD ((lp mask h N).1+0) (some 0)).isNone=true;rw[Nat.add_zero,eN,I.at2 e (by lia) e2];rfl
 obtain⟨n,c,o,g1,g2,g3⟩:=B1 hNn (Sh mask) 0 (WT _) (by unfold Sh;lia);have hj:=IU o;refine⟨sl mask h n c,g1,?_⟩;have hlt:sl mask h n c<owner.size:=by rw[I.sz];lia
 have hnj:¬sl mask h n c∈js:=λz=>by obtain⟨i,hi,e⟩:=VR z;have:=I.at1 i hi;rw[e]at this;unfold nn at g2;rw[this]at g2;cases g2
 have up:∀k,nn owner k=false->nn (owner.setIfInBounds (sl mask h n c) (some hs.length)) k=false:=λk hk=>by
  unfold nn;rw[vB hlt]
  by_cases e:k=sl mask h n c
  .rw[QW e];rfl
  .rw[QV e];exact hk
 refine⟨by simpa using I.sz,by simp[I.len],?_,λj hm=>?_,λi hi=>?_,λj hjm hn=>?_,λi hi=>?_⟩
 .rw[V5];refine⟨I.nd,by simp,λa ha b hb e=>hnj ?_⟩;have:b=sl mask h n c:=by simpa using hb
  rw[<-this,<-e];exact ha
 .rcases Vk.mp hm with z|z
  .exact I.le j z
  .rw[Vb.mp z];exact hj
 .rw[vB hlt]
  by_cases l:i<js.length
  .rw[Wp l,QV (λz:js[i]=sl mask h n c=>hnj (z▸Vl l))];exact I.at1 i l
  .have:i=js.length:=by simp at hi;lia
   subst this;rw[Wq (WR _)];simp[I.len]
 .rw[vB hlt,QV (λz=>hn (by rw[z];simp))];exact I.at2 j hjm (λz=>hn (VA _ z))
 .by_cases l:i<js.length
  .have e:(hs++[h]).getD i 0=hs.getD i 0:=by rw[Vh,VH (by rw[<-I.len];exact l),<-Vh]
   rw[Wp l,e];obtain⟨n',c',o',e',hb⟩:=I.pl i l;exact⟨n',c',o',e',λa b oab lab=>up _ (hb a b oab lab)⟩
  .have:i=js.length:=by simp at hi;lia
   subst this;have e:(hs++[h]).getD js.length 0=h:=by rw[I.len];simp
   rw[e];refine⟨n,c,o,?_,λa b oab lab=>up _ (g3 a b oab (WT _) lab)⟩;rw[Wq (WR _)];simp
theorem uo(f:lO (mask+1)):∀hs2 hs1 owner js,OI mask owner hs1 js->hs1.length+hs2.length<=mask+1->∃owner' js',hs2.foldl (λacc h=>do
   let (owner,k)<-acc
   let j<-RZ mask owner (Sh mask) (RP h % (mask+1)) (RP h)
   pure (owner.setIfInBounds j (some k),k+1)) (some (owner,hs1.length))=some (owner',(hs1++hs2).length)/\OI mask owner' (hs1++hs2) js'
 | [],hs1,owner,js,I,_=>⟨owner,js,by simp,by simpa using I⟩
 |h::hs2,hs1,owner,js,I,hl=>by
  simp only[Vp]at hl;obtain⟨j,e,I2⟩:=I.step f h (by lia);obtain⟨owner',js',e3,I3⟩:=uo f hs2 (hs1++[h]) _ _ I2 (by simp;lia);refine⟨owner',js',?_,by simpa using I3⟩;rw[We];have e4:(do
    let (owner,k)<-(some (owner,hs1.length):Option (Array (Option Nat)×Nat))
    let j<-RZ mask owner (Sh mask) (RP h % (mask+1)) (RP h)
    pure (owner.setIfInBounds j (some k),k+1))=some (owner.setIfInBounds j (some hs1.length),(hs1++[h]).length):=by
   simp[e]
  rw[e4,e3];simp
def zH(f:lO (mask+1))(hl:hs.size<=mask+1):∃owner js,SetTable.layClean mask hs=some owner/\OI mask owner hs.toList js:=by
 have I0:OI mask (Array.replicate (mask+1) none) [] []:=⟨by simp,rfl,by simp,by simp,λi hi=>by simp at hi,λj hj _=>by rw[bF (by simp;lia)];simp,λi hi=>by simp at hi⟩;obtain⟨owner,js,e,I⟩:=uo f hs.toList [] _ _ I0 (by simpa using hl);refine⟨owner,js,?_,by simpa using I⟩;unfold SetTable.layClean;rw[<-Array.foldl_toList];have e:hs.toList.foldl (λacc h=>do
   let (owner,k)<-acc
   let j<-RZ mask owner (Sh mask) (RP h % (mask+1)) (RP h)
   pure (owner.setIfInBounds j (some k),k+1)) (some (Array.replicate (mask+1) none,0))=some (owner,([]++hs.toList).length):=e
 rw[e];rfl
noncomputable def liveP(owner:Array (Option Nat))(mask:Nat):List (Nat×Nat):=(List.range (mask+1)).filterMap λj=>(owner.getD j none).map (j,·)
def iy:(j,i)∈liveP owner mask<->j<=mask/\owner.getD j none=some i:=by
 unfold liveP;rw[VX]
 constructor
 .rintro⟨k,hk,e⟩;obtain⟨x,hx,e2⟩:=XW.mp e;cases e2;exact⟨by have:=Vo.mp hk;lia,hx⟩
 .rintro⟨h1,h2⟩;exact⟨j,Vo.mpr (by lia),by rw[h2];rfl⟩
def nw(I:OI mask owner hs js)(hj:j<=mask):owner.getD j none=some i<->∃h:i<js.length,js[i]=j:=by
 have e0:owner.getD j none=owner.getD j (some 0):=by
  have:j<owner.size:=by rw[I.sz];lia
  rw[bF this,bF this]
 rw[e0]
 constructor
 .intro h
  by_cases m:j∈js
  .obtain⟨k,hk,e⟩:=VR m;have:=I.at1 k hk;rw[e,h]at this;cases this;exact⟨hk,e⟩
  .rw[I.at2 j hj m]at h;cases h
 .rintro⟨h,e⟩;rw[<-e];exact I.at1 i h
def uk(owner:Array (Option Nat))(mask:Nat):((liveP owner mask).map (·.1)).Pairwise (· < ·):=
 (jO (λj=>(owner.getD j none).map (j,·)) (λj p hp=>by
  obtain⟨a,_,rfl⟩:=XW.mp hp;rfl) (List.range (mask+1)) List.pairwise_lt_range).1
theorem tV{κ:Type}[DecidableEq κ]:∀{l ns:List κ},l.Nodup->ns.Nodup->(∀k,k∈l<->k∈ns)->ns.Perm l
 | [],ns,_,_,h=>by
   cases ns with
   |nil=>exact List.Perm.refl _
   |cons a l=>exact QZ ((h a).mpr (by simp)) (by simp)
 |a::l,ns,nd,nn,h=>by
  obtain⟨n1,n2⟩:=VB.mp nd;have ha:=(h a).mp (by simp);refine(WH ha).trans (List.Perm.cons _ (tV n2 (nn.erase a) λk=>?_));rw[nn.mem_erase_iff,<-h k,U8]
  constructor
  .intro hk;exact⟨λe=>n1 (e▸hk),.inr hk⟩
  .rintro⟨e,z|z⟩
   .exact QZ z e
   .exact z
def vS(I:OI mask owner hs js):((liveP owner mask).map (·.2)).Perm (List.range hs.length):=by
 refine tV List.nodup_range ?_ (λi=>?_)
 ·
  have hp:=uk owner mask;rw[VE]at hp;rw[V6,VE];refine List.Pairwise.imp_of_mem ?_ hp;intro a b ha hb lt e;obtain⟨a1,a2⟩:=iy.mp (show(a.1,a.2)∈_ from ha);obtain⟨b1,b2⟩:=iy.mp (show(b.1,b.2)∈_ from hb);obtain⟨x1,e1⟩:=(nw I a1).mp a2;obtain⟨x2,e2⟩:=(nw I b1).mp b2;have:a.1=b.1:=by rw[<-e1,<-e2];congr 1
  lia
 .rw[Vo,U7]
  constructor
  .intro hi;have hi':i<js.length:=by rw[I.len];exact hi
   have hle:=I.le _ (Vl hi');exact⟨(js[i],i),iy.mpr ⟨hle,(nw I hle).mpr ⟨hi',rfl⟩⟩,rfl⟩
  .rintro⟨p,hp,rfl⟩;obtain⟨a1,a2⟩:=iy.mp (show(p.1,p.2)∈_ from hp);obtain⟨x1,e1⟩:=(nw I a1).mp a2;rw[I.len]at x1;exact x1
theorem B4{α:Type}{es:Array α}(d:α):∀{l:List Nat},(∀i∈l,i<es.size)->l.filterMap (es[·]?)=l.map λi=>es.getD i d
 | [],_=>rfl
 |i::l,h=>by have hi:=h i (by simp);rw[VT,XJ hi,Vm,B4 d (λj hj=>h j (Vd _ hj)),bF hi]
def yW{es:Array (Int×YB)}{t:SetTable}{wanted:Nat}(f:lO (R0 wanted - 1+1))(ho:(R0 wanted - 1) % 2=1)(hl:es.size<=R0 wanted - 1):∃t' order,t.relaid (es.map (·.1)) wanted=some (t',order)/\(order.filterMap (es[·]?)).size=es.size/\(order.filterMap (es[·]?)).toList.Perm es.toList/\u9 (order.filterMap (es[·]?)) t'/\t'.led=t.led/\t'.mask=R0 wanted - 1:=by
 generalize hm:R0 wanted - 1=mask at f ho hl;obtain⟨owner,js,e,I⟩:=zH f (hs:=es.map (·.1)) (by simp;lia);have hlen:(es.map (·.1)).toList.length=es.size:=by simp
 have hop:=vS I;rw[hlen]at hop;have hin:∀i∈(liveP owner mask).map (·.2),i<es.size:=λi hi=>Vo.mp (hop.mem_iff.mp hi);have hll:(liveP owner mask).length=es.size:=by have:=hop.length_eq;simpa using this
 refine⟨{mask,place:=((liveP owner mask).map (·.1)).toArray,dummies:= #[],finger:=t.finger,led:=t.led,moves:=t.movedTo mask,plain:=t.plain},((liveP owner mask).map (·.2)).toArray,?_,?_⟩
 .unfold SetTable.relaid SetTable.laid;rw[hm,e];rfl
 have hes:((((liveP owner mask).map (·.2)).toArray).filterMap (es[·]?)).toList=((liveP owner mask).map (·.2)).map λi=>es.getD i (0,.none):=by rw[Array.toList_filterMap];exact B4 (0,.none) hin
 have hsz:((((liveP owner mask).map (·.2)).toArray).filterMap (es[·]?)).size=es.size:=by rw[<-XO,hes,U6,U6,hll]
 refine⟨hsz,?_,?_,rfl,rfl⟩
 .rw[hes];refine(hop.map _).trans (List.Perm.of_eq ?_);apply VV;intro i;have e0:es.toList[i]? =es[i]? :=XM;rw[Va,e0]
  by_cases hi:i<es.size
  .rw[VJ hi,XJ hi];show some (es.getD i (0,.none))=some es[i];rw[bF hi]
  .rw[Vw (by simpa using hi),XQ (by lia)];rfl
 .have hris:uX ((liveP owner mask).map (·.1)).toArray:=qU.mpr (by simpa using uk owner mask);refine⟨?_,hris,rfl,f,ho,?_,λi hi=>?_⟩
  .rw[hsz];simp[hll]
  .show((liveP owner mask).map (·.1)).toArray.size<=mask;simp[hll,hl]
  .rw[hsz]at hi;have hil:i<(liveP owner mask).length:=by rw[hll];exact hi
   have e1:((((liveP owner mask).map (·.2)).toArray).filterMap (es[·]?)).getD i (0,.none)=es.getD (liveP owner mask)[i].2 (0,.none):=by
    rw[bF (by rw[hsz];exact hi)];have:((((liveP owner mask).map (·.2)).toArray).filterMap (es[·]?)).toList[i]? =some (es.getD (liveP owner mask)[i].2 (0,.none)):=by rw[hes,Va,Va,U9 hil];rfl
    rw[XM,XJ (by rw[hsz];exact hi)]at this;exact Q0 this
   have e2:((liveP owner mask).map (·.1)).toArray.getD i 0=(liveP owner mask)[i].1:=by rw[bF (by simpa using hil)];simp
   obtain⟨a1,a2⟩:=iy.mp (show((liveP owner mask)[i].1,(liveP owner mask)[i].2)∈_ from Vl hil);obtain⟨x1,ex⟩:=(nw I a1).mp a2;have hxs:(liveP owner mask)[i].2<es.size:=by rw[<-hlen,<-I.len];exact x1
   obtain⟨n,c,o,es',hb⟩:=I.pl _ x1;have eh:(es.map (·.1)).toList.getD (liveP owner mask)[i].2 0=(es.getD (liveP owner mask)[i].2 (0,.none)).1:=by rw[bF hxs,Vh,XM,Array.getElem?_map,XJ hxs];rfl
   rw[eh]at o es' hb;show CP _ _ (((liveP owner mask).map (·.1)).toArray.getD i 0);rw[e1,e2];refine⟨n,c,o,by rw[es',ex],λa b oab lab z=>?_⟩;have q:=hb a b oab lab;have hle:sl mask (es.getD (liveP owner mask)[i].2 (0,.none)).1 a b<=mask:=IU oab;have hfr:=(gy (t:={mask,place:=((liveP owner mask).map (·.1)).toArray,dummies:= #[],finger:=t.finger,led:=t.led,moves:=t.movedTo mask,plain:=t.plain}) hris rfl).mp z;cases eo:owner.getD (sl mask (es.getD (liveP owner mask)[i].2 (0,.none)).1 a b) none with
   |none=>
    have hlt:sl mask (es.getD (liveP owner mask)[i].2 (0,.none)).1 a b<owner.size:=by rw[I.sz];lia
    unfold nn at q;rw[bF hlt]at q eo;rw[eo]at q;cases q
   |some k=>
    have hm2:=iy.mpr ⟨hle,eo⟩;obtain⟨r,hr,er⟩:=VR hm2;have hr2:r<((liveP owner mask).map (·.1)).toArray.size:=by simpa using hr
    refine hfr r hr2 ?_;show((liveP owner mask).map (·.1)).toArray.getD r 0=_;rw[bF hr2];simp[er]
end L2
namespace L2
open PySem PySem.Spec PyProof.Rows
noncomputable def uniq(ns:List Int):List Int:=firstMet (λi=>ns.getD i 0) ns.length
def vO(ns:List Int):(List.range ns.length).map (λi=>ns.getD i 0)=ns:=by
 apply VV;intro i;rw[Va]
 by_cases h:i<ns.length
 .rw[VJ h,U9 h];show some (ns.getD i 0)=_;rw[Vh,U9 h];rfl
 .rw[Vw (by rw[Vu];lia),Vw (by lia)];rfl
theorem jn(val:Nat->Int):∀i,(firstMet val i).length=i<->((List.range i).map val).Nodup
 |0=>by simp[firstMet_zero]
 |i+1=>by
  have ih:=jn val i;have hle:=firstMet_length_le val i;have ha:=firstMet_any val i (val i);rw[firstMet_succ,VL,Vg,V5];unfold step_dedup
  by_cases h:(firstMet val i).any (· == val i)=true
  .rw[QW h]
   constructor
   .intro e;lia
   .intro e;rw[ha,VF]at h;obtain⟨x,hx,e2⟩:=h;have:x=val i:=beq_iff_eq.mp e2;exact QZ this (e.2.2 x hx (val i) (by simp))
  .rw[QV h,Ve,Wf]
   constructor
   .intro e;refine⟨ih.mp (by lia),by simp,λx hx y hy=>?_⟩;have hy':y=val i:=by simpa using hy
    subst hy';intro e3;apply h;rw[ha,VF];exact⟨x,hx,beq_iff_eq.mpr e3⟩
   .intro e;rw[ih.mpr e.1]
def Ay(ns:List Int):(uniq ns).length=ns.length<->ns.Nodup:=by unfold uniq;rw[jn,vO]
section
def J2(K:Frag)(xs:List V)(H:Hp)(Q:VK):Prop:=match xs with
 | [.ref d]=>∃ns:List Int,aN K H d (ns.map V.int)/\ns.length+1<scanBound/\∀q,H q=none->Q (.ref q) (upd H q (.set (λk=>(uniq ns).any (· == k)) (uniq ns).length))
 |_=>False
def Ac(hh:X.A.handled=none):bq X (.type "set") (J2 X.K):=by
 intro QQ s σ H xs us Q I r h;unfold J2 at h;split at h
 .rename_i d;obtain⟨ns,hq,hb,q⟩:=h;obtain⟨u,rfl,rx⟩:=fG r;cases rx;obtain⟨its,r',pl,hz⟩:=I.list hq;have hlen:=r'.length;rw[U6]at hlen;have hi:Uv its.toArray.toList ns:=nR r';have hs:its.toArray.size=ns.length:=by rw[Vc,<-hlen]
  refine call_set_list hh pl.isList hi (by rw[hs];exact hb) λh' tk hS kp=>?_;rw[hs]at hS;have k2:∀b u,s.heap.get? b=some u->h'.get? b=some u:=λb u e=>kp b u (Q9 e) e;exact⟨.ref s.heap.objs.size,_,I.laid (t':=tk) k2 (WR _) (show bC X.prog X.w _ h' _ (.set _ _)from hS),rfl,q _ (I.hok.fresh (WR _))⟩
 .exact h.elim
def Jf(xs:List V)(H:Hp)(Q:VK):Prop:=match xs with
 | [.ref d]=>∃S n,H d=some (.set S n)/\Q (.int n) H
 |_=>False
def wU:bq X (.builtin "len") Jf:=by
 intro QQ s σ H xs us Q I r h;unfold Jf at h;split at h
 .rename_i d;obtain⟨S,n,hd,q⟩:=h;obtain⟨u,rfl,rx⟩:=fG r;cases rx;obtain⟨o,es,ep,t,h1,h2,h3,_,_,h6,h7,h8⟩:=(show bC X.prog X.w H s.heap d (.set S n)from I.hok d _ hd);subst h8;have hb:es.size<4096:=h6;exact PySem.call_len_set h1 h2 h3 h7 (by lia) ⟨.int es.size,H,I.tok _,⟨_,rfl⟩,q⟩
 .exact h.elim
def AY(K:Frag)(xs:List V)(H:Hp)(Q:VK):Prop:=match xs with
 | [.ref d]=>∃ns:List Int,aN K H d (ns.map V.int)/\ns.length<64/\∀(ns':List Int) q,ns'.Perm ns->ns'.Pairwise (·<=·)->H q=none->Q (.ref q) (upd H q (.lst (ns'.map V.int)))
 |_=>False
def wQ:bq X (.builtin "sorted") (AY X.K):=by
 intro QQ s σ H xs us Q I r h;unfold AY at h;split at h
 .rename_i d;obtain⟨ns,hq,hb,q⟩:=h;obtain⟨u,rfl,rx⟩:=fG r;cases rx;obtain⟨its,r',pl,hz⟩:=I.list hq;have hlen:=r'.length;rw[U6]at hlen;refine sorted_ints pl.isList (nR r') (by lia) λout ns' a1 a2 a3=>?_;obtain⟨e,he⟩:=sortedAll_at s.heap its out;have hl:=a2.length_eq;have hz':(ns'.map V.int).length<=v1:=by rw[U6,hl,Rf];lia
  exact⟨.ref (s.heap.objs.size+1),_,I.laid (t':=s.toks) (λ_ _=>sortedAll_old) (WW _) (show bC X.prog X.w _ _ _ (.lst (ns'.map V.int))from⟨hz',out.toList,e,kX a1,by simpa[Sz]using he⟩),rfl,q ns' _ a2 a3 (I.hok.fresh (WW _))⟩
 .exact h.elim
def ul(K:Frag)(xs:List V)(H:Hp)(Q:VK):Prop:=match xs with
 | [.ref d]=>∃ys,(aN K H d ys\/cY K H d ys)/\∀l,H l=none->Q (.ref l) (upd H l (.lst ys))
 |_=>False
def wT:bq X (.type "list") (ul X.K):=(rZ (X:=X)).imp λxs H Q h=>by
 unfold ul at h;split at h
 .obtain⟨ys,h1,q⟩:=h;exact⟨_,ys,rfl,h1,q⟩
 .exact h.elim
def Qk(K:Frag)(hr:db j X.A)(hK:X.K=K:=by rfl):bq X (.type "set") (J2 K):=by subst hK;exact Ac hr.hd
def N9(K:Frag)(hK:X.K=K:=by rfl):bq X (.builtin "sorted") (AY K):=by subst hK;exact wQ
def nI(K:Frag)(hK:X.K=K:=by rfl):bq X (.type "list") (ul K):=by subst hK;exact wT
def D3(h:H a=some (.lst xs))(q:Q (.bl (eS .list T)) H):D4 T (.ref a) H Q:=by simp only[D4,h];exact q
end
def Cc(h:flatV x=true):eqV x x=true:=by cases x<;>simp_all[flatV,eqV]
def zU(zs:List Int):(zs.map V.int).all flatV=true:=Vt.mpr λx hx=>by obtain⟨z,_,rfl⟩:=U7.mp hx;rfl
def Fl(K:Frag)(H:Hp)(p:YC)(f:Str)(v:V):Prop:= ∃C dx fs,H p=some (.ins C dx fs)/\oA K C/\bN K C f/\fs.lookup f=some v
def Qv(K:Frag)(x:V)(f:Str)(H:Hp)(Q:VK):Prop:=match x with
 | .ref a=>∃v,Fl K H a f v/\Q v H
 |_=>False
def Li(K:Frag)(to:TE)(f:Str):TE:=λσ H Q=>to σ H λx H1=>Qv K x f H1 Q
def kW(C:YC)(m:Str)(H:Hp)(a:YC):Prop:= ∃dx fs,H a=some (.ins C dx fs)/\fs.lookup m=none
structure fV(P:Rg)(w:Rk)(K:Frag)(mg:Q3)(QR:Rq)(C:YC)(m:Str)(ps:List Str)(k:Nat)(sp:Sp):Prop where
 ex:∃f fd,aX P w K mg QR cI k f fd ps sp/\O7 K C m f/\jS K fd ps []
 cl:oA K C
structure lY(P:Rg)(w:Rk)(K:Frag)(mg:Q3)(QR:Rq)(name:Str)(C:YC)(ps:List Str)(k:Nat)(sp:Sp):Prop where
 ex:∃f fd,Mk K C f/\aX P w K mg QR cI k f fd ps sp/\mg name=some (.ref C)/\jS K fd ps []
def N5(C:YC)(m:Str)(x:V)(H:Hp)(R:YC->Prop):Prop:=match x with
 | .ref a=>kW C m H a/\R a
 |_=>False
def oo(C:YC)(m:Str)(sp:Sp)(to:TE)(t:TA):TE:=λσ H Q=>to σ H λx H1=>N5 C m x H1 λa=>t σ H1 λvs H2=>sp (.ref a::vs) H2 Q E0
def yt(C:YC)(sp:Sp)(t:TA):TE:=λσ H Q=>t σ H λvs H1=>∀x dx,H1 x=none->H1 dx=none->dx≠x->sp (.ref x::vs) (upd (upd H1 dx (.own x)) x (.ins C dx [])) (λv H2=>v=.non/\Q (.ref x) H2) E0
section
variable{X:Cx}{e o value:RU}{te to tv:TE}{p pos pos' apos:Uk}{es:List RU}{t:TA}{f m:Str}
def bG(K:Frag)(ho:PE X o to)(hb:RK o f X.env (RH o X.env)=RH o X.env:=by rfl)(hK:X.K=K:=by rfl):PE X (.Attribute o f pos) (Li K to f):=by
 subst hK;intro QQ s σ H Q I h;refine EJ hb (bH (ho QQ s σ H _ I h) λu s1 ⟨x,H1,I1,rx,q1⟩=>?_);cases x with
 |ref a=>
  obtain⟨v,⟨C,dx,fs,ea,c,n,l⟩,q⟩:=q1;obtain rfl:u=Rj a:=rx;exact wu I1 ea c n l λu' s2 I2 ru=>⟨v,H1,I2,ru,q⟩
 |_=>exact q1.elim
def gK(K:Frag)(ho:PE X o to)(hv:PE X value tv)(hs:S9 value (some (.Attribute o f pos')) pos.line X.env=pure false:=by rfl)(hK:X.K=K:=by rfl):PS X (.Assign [.Attribute o f pos'] value pos) (ma K to tv f):=by subst hK;exact Kb ho hv hs
def iL{C:YC}{ps:List Str}{k j:Nat}{sp:Sp}{pl:Sem Bool}(M:fV X.prog X.w X.K X.mg X.QR C m ps k sp)(hr:db j X.A)(ho:PE X o to)(ha:PA X (e::es) t)(hkj:k<=j:=by decide)(hp:(e::es).all gY=true:=by rfl)(ht:RH (.Call (.Attribute o m apos) (e::es) [] pos) X.env=(do
   let ov<-RH o X.env
   UH apos.atName
   let (f,first)<-Tb [ov] (UV ov m pl)
   callWith pos f first (RE pos (Rc (e::es) X.env)) (SS pos (Se [] X.env))):=by rfl):PE X (.Call (.Attribute o m apos) (e::es) [] pos) (oo C m sp to t):=by
 obtain⟨f,fd,F,hm,hb⟩:=M.ex;have hp':=hp;rw[Vv,Xx]at hp';intro QQ s σ H Q I h;refine Yv (pl:=pl) (bH (ho QQ s σ H _ I h) λu s1 ⟨x,H1,I1,rx,q⟩=>?_) ht;cases x with
 |ref a=>
  obtain⟨⟨dx,fs,ea,l⟩,q⟩:=q;obtain rfl:u=Rj a:=rx;refine nU I1 ea M.cl hm l ?_;refine Yn (first:=[.ref a]) (h₀:=X.QR) I.ok.mod.kin hm.kp (bH (ha pos QQ s1 σ H1 _ I1 q) λus s2 ⟨vs,H2,I2,r,q2⟩=>⟨I2.kIn,?_⟩) (gk hp'.1) (iI hp'.2);refine vJ (us:=.ref a::us) (vs:=.ref a::vs) (dvs:=[]) (ds:=[]) F (hr.mono hkj) hb .nil xH I2 (.cons rfl r) ?_;rw[Vx];exact q2
 |_=>exact q.elim
def jl{C:YC}{ps:List Str}{k j:Nat}{sp:Sp}{pl:Sem Bool}(M:fV X.prog X.w X.K X.mg X.QR C m ps k sp)(hr:db j X.A)(ho:PE X o to)(hkj:k<=j:=by decide)(ht:RH (.Call (.Attribute o m apos) [] [] pos) X.env=(do
   let ov<-RH o X.env
   UH apos.atName
   let (f,first)<-Tb [ov] (UV ov m pl)
   callWith pos f first (RE pos (Rc [] X.env)) (SS pos (Se [] X.env))):=by rfl):PE X (.Call (.Attribute o m apos) [] [] pos) (oo C m sp to cw):=by
 obtain⟨f,fd,F,hm,hb⟩:=M.ex;intro QQ s σ H Q I h;refine Yv (pl:=pl) (bH (ho QQ s σ H _ I h) λu s1 ⟨x,H1,I1,rx,q⟩=>?_) ht;cases x with
 |ref a=>
  obtain⟨⟨dx,fs,ea,l⟩,q⟩:=q;obtain rfl:u=Rj a:=rx;refine nU I1 ea M.cl hm l ?_;refine PySem.W.callWith_K0 (first:=[.ref a]) I1.kIn hm.kp (vJ (us:=[.ref a]) (vs:=[.ref a]) (dvs:=[]) (ds:=[]) F (hr.mono hkj) hb .nil xH I1 (.cons rfl .nil) ?_);exact q
 |_=>exact q.elim
def BL(M:lY X.prog X.w X.K X.mg X.QR name C ps k sp)(hr:db j X.A)(ha:PA X (e::es) t)(hkj:k+1<=j:=by decide)(hp:(e::es).all gY=true:=by rfl)(hg:Gl X name:=by rfl)(hdb:(name == ("__debug__":Str))=false:=by decide):PE X (.Call (.Name name p) (e::es) [] pos) (yt C sp t):=by obtain⟨f,fd,MK,F,hm,hb⟩:=M.ex;have hp':=hp;rw[Vv,Xx]at hp';refine(DB MK F (hr.mono hkj) hg hm hb .nil xH ha hdb (gk hp'.1) (iI hp'.2):PE X _ (Az C sp [] E0 t)).imp λσ H Q h=>?_;unfold Az;simp only[Vx];exact h
end
def SameBut(k:YC)(H H':Hp):Prop:= ∀b o,H b=some o->b≠k->H' b=some o
def SameBut.refl(H:Hp):SameBut k H H:=λ_ _ h _=>h
def ah.but(h:ah H H'):SameBut k H H':=λb o e _=>h b o e
def SameBut.self(a:SameBut k H H'):SameBut k H (upd H' k o):=λc ob e n=>by rw[ak n];exact a c ob e n
def SameBut.new(a:SameBut k H H')(hd:H d=none):SameBut k H (upd H' d o):=λc ob e n=>by rw[ak (ay e hd)];exact a c ob e n
def ah.put(a:ah H H')(hd:H d=none):ah H (L2.upd H' d o):=λc ob e=>by rw[ak (ay e hd)];exact a c ob e
def iw{H:Hp}{a b:YC}{o o':HO}(ha:H a=some o)(hb:H b=some o')(h:o≠o'):a≠b:=λe=>by subst e;rw[ha]at hb;exact h (Q0 hb)
def Dk{to tv:TE}{f:Str}{K:Frag}{u:TS}{D:o8}{σ:St}{H:Hp}(P:V->Hp->Prop)(h:∀Q:VK,(∀v H',P v H'->Q v H')->tv σ H Q)(p C dx:YC)(hto:∀H'(Q:VK),Q (.ref p) H'->to σ H' Q)(hc:oA K C)(hn:bN K C f)(h2:∀v H',P v H'->∃fs,H' p=some (.ins C dx fs)/\fs.length<1000/\u D σ (upd H' p (.ins C dx (putF f v fs)))):bg (ma K to tv f) u D σ H:=
 h _ λv H' q=>by obtain⟨fs,e,l,r⟩:=h2 v H' q;exact hto _ _ ⟨p,C,dx,fs,rfl,e,hc,hn,l,r⟩
def xj{to tv:TE}{f:Str}{K:Frag}{D:o8}{σ:St}{H:Hp}(P:V->Hp->Prop)(h:∀Q:VK,(∀v H',P v H'->Q v H')->tv σ H Q)(p C dx:YC)(hto:∀H'(Q:VK),Q (.ref p) H'->to σ H' Q)(hc:oA K C)(hn:bN K C f)(h2:∀v H',P v H'->∃fs,H' p=some (.ins C dx fs)/\fs.length<1000/\D.nx σ (upd H' p (.ins C dx (putF f v fs)))):ma K to tv f D σ H:=
 h _ λv H' q=>by obtain⟨fs,e,l,r⟩:=h2 v H' q;exact hto _ _ ⟨p,C,dx,fs,rfl,e,hc,hn,l,r⟩
def AE(P:Hp->Prop)(h:∀Q:VK,(∀v H',P H'->Q v H')->te σ H Q)(h2:∀H',P H'->u D σ H'):bg (iY te) u D σ H:=h _ λ_ H' p=>h2 H' p
def Ev(t:TE)(σ:St)(H:Hp)(v:V):Prop:= ∀Q:VK,Q v H->t σ H Q
def Tv(t:TT)(σ:St)(H:Hp)(b:Bool):Prop:= ∀Q:Bool->Hp->Prop,Q b H->t σ H Q
def Av(t:TA)(σ:St)(H:Hp)(vs:List V):Prop:= ∀Q:List V->Hp->Prop,Q vs H->t σ H Q
section
variable{K:Frag}{σ:St}{H:Hp}{ta tb tc te to:TE}{x y:V}{i j k:Int}{a b:Bool}{z z':Str}
def aq:Ev (tC x) σ H x:=λQ q=>q
def ev_v(h:σ[n]? =some (some x)):Ev (eZ n) σ H x:=λQ q=>by unfold eZ;rw[h];exact q
def cU(ha:Ev ta σ H (.int i))(hb:Ev tb σ H (.int j)):Ev (uP .Add ta tb) σ H (.int (i+j)):=λQ q=>ha _ (hb _ q)
def iG(ha:Ev ta σ H (.int i))(hb:Ev tb σ H (.int j)):Ev (uP .Sub ta tb) σ H (.int (i - j)):=λQ q=>ha _ (hb _ q)
def cx(ha:Ev ta σ H (.int i))(hb:Ev tb σ H (.int j))(h:CT i j):Ev (uP .Mult ta tb) σ H (.int (i*j)):=λQ q=>ha _ (hb _ ⟨h,q⟩)
def bM(ha:Ev ta σ H (.int i))(hb:Ev tb σ H (.int j))(h:Ly i j:=by exact⟨by decide,by decide⟩):Ev (uP .FloorDiv ta tb) σ H (.int (i / j)):=λQ q=>ha _ (hb _ ⟨h,q⟩)
def bh(ha:Ev ta σ H (.int i))(hb:Ev tb σ H (.int j))(h:0<j:=by decide):Ev (uP .Mod ta tb) σ H (.int (i % j)):=λQ q=>ha _ (hb _ ⟨h,q⟩)
def lF(ha:Ev ta σ H (.int i)):Ev (OO ta) σ H (.int (-i)):=λQ q=>ha _ q
def yf(ha:Ev ta σ H (.str z))(hb:Ev tb σ H (.str z'))(h:z.length+z'.length<=v1):Ev (uP .Add ta tb) σ H (.str (z++z')):=λQ q=>ha _ (hb _ ⟨h,q⟩)
def aK(ho:Ev to σ H (.ref p))(h:Fl K H p f x):Ev (Li K to f) σ H x:=λQ q=>ho _ ⟨x,h,q⟩
def aY(ho:Ev to σ H (.ref p))(hi:Ev ta σ H (.int i))(h:aN K H p xs\/cY K H p xs)(e:atI xs i=some x):Ev (LD K to ta) σ H x:=λQ q=>ho _ (hi _ ⟨xs,x,h,e,q⟩)
def jo(ho:Ev to σ H (.str z))(hi:Ev ta σ H (.int i))(h:z.length<=v1)(e:atI z.cps.toList i=some c):Ev (LD K to ta) σ H (.str ⟨#[c]⟩):=λQ q=>ho _ (hi _ ⟨h,c,e,q⟩)
def cq(ho:Ev to σ H (.ref p))(h:aN K H p xs\/cY K H p xs):Ev (cB (zy K) (bf to cw)) σ H (.int xs.length):=λQ q=>ho _ ⟨xs,h,q⟩
def rR(ho:Ev to σ H (.str z))(h:z.length<=v1):Ev (cB (zy K) (bf to cw)) σ H (.int z.length):=λQ q=>ho _ ⟨h,q⟩
def K3(ha:Ev ta σ H (.int i))(hb:Ev tb σ H (.int j)):Ev (cB KA (bf ta (bf tb cw))) σ H (.int (if j<i then j else i)):=λQ q=>ha _ (hb _ q)
def n6(ho:Ev to σ H (.ref p))(h:H p=some (.lst xs)):Ev (OP T to) σ H (.bl (eS .list T)):=λQ q=>ho _ (D3 h q)
def wA(ho:Ev to σ H (.int i)):Ev (OP T to) σ H (.bl (eS .int T)):=λQ q=>ho _ q
def wx(ha:Ev ta σ H (.bl a)):Ev (Jy ta) σ H (.bl (!a)):=λQ q=>ha _ q
def cy(ha:Ev ta σ H (.bl a))(hb:a=true->Ev tb σ H (.bl b)):Ev (yu ta tb) σ H (.bl (a&&b)):=λQ q=>ha _ (by
 cases a with
 |true=>exact hb rfl Q q
 |false=>exact q)
def Oy(ha:Ev ta σ H (.bl a))(hb:a=false->Ev tb σ H (.bl b)):Ev (ON ta tb) σ H (.bl (a||b)):=λQ q=>ha _ (by
 cases a with
 |true=>exact q
 |false=>exact hb rfl Q q)
def lX(ht:Tv t σ H b)(h1:b=true->Ev ta σ H x)(h2:b=false->Ev tb σ H y):Ev (NK t ta tb) σ H (if b=true then x else y):=λQ q=>ht _ (by
 cases b with
 |true=>exact gN (h1 rfl _ q)
 |false=>exact gO (h2 rfl _ q))
def dL(ha:Ev ta σ H (.int i))(hb:Ev tb σ H (.int j)):Ev (fT K .Eq ta tb) σ H (.bl (decide (i=j))):=λQ q=>ha _ (hb _ q)
def nX(ha:Ev ta σ H (.int i))(hb:Ev tb σ H (.int j)):Ev (fT K .NotEq ta tb) σ H (.bl (!decide (i=j))):=λQ q=>ha _ (hb _ q)
def pW(ha:Ev ta σ H (.int i))(hb:Ev tb σ H (.int j)):Ev (fT K .Lt ta tb) σ H (.bl (decide (i<j))):=λQ q=>ha _ (hb _ q)
def yb(ha:Ev ta σ H (.int i))(hb:Ev tb σ H (.int j)):Ev (fT K .Gt ta tb) σ H (.bl (decide (j<i))):=λQ q=>ha _ (hb _ q)
def Jr(ha:Ev ta σ H (.int i))(hb:Ev tb σ H (.int j)):Ev (fT K .GtE ta tb) σ H (.bl (decide (j<=i))):=λQ q=>ha _ (hb _ q)
def hG(ha:Ev ta σ H (.str z))(hb:Ev tb σ H (.str z')):Ev (fT K .Eq ta tb) σ H (.bl (decide (z=z'))):=λQ q=>ha _ (hb _ q)
def wz(ha:Ev ta σ H (.str z))(hb:Ev tb σ H (.str z')):Ev (fT K .NotEq ta tb) σ H (.bl (!decide (z=z'))):=λQ q=>ha _ (hb _ q)
def wC(ha:Ev ta σ H (.ref p))(hb:Ev tb σ H (.ref q))(h:o7 K H 20 (.ref p) (.ref q) a):Ev (fT K .Eq ta tb) σ H (.bl a):=λQ k=>ha _ (hb _ ⟨a,h,k⟩)
def K2(ha:Ev ta σ H (.ref p))(hb:Ev tb σ H (.ref q))(h:o7 K H 20 (.ref p) (.ref q) a):Ev (fT K .NotEq ta tb) σ H (.bl (!a)):=λQ k=>ha _ (hb _ ⟨a,h,k⟩)
def BP(i:Int)(ns:List Int):D5 (.int i) (ns.map V.int)=decide (i∈ns):=by
 unfold D5;rw[V7]
 by_cases h:i∈ns
 .rw[QT h];exact VF.mpr ⟨i,h,by simp[eqV]⟩
 .rw[QU h];apply VN.mpr;intro y hy;have:y≠i:=λe=>h (e▸hy);simp[eqV,this]
def K1{ns:List Int}(ha:Ev ta σ H (.int i))(hb:Ev tb σ H (.ref p))(h:aN K H p (ns.map V.int)\/cY K H p (ns.map V.int)):Ev (fT K .NotIn ta tb) σ H (.bl (!decide (i∈ns))):=λQ q=>ha _ (hb _ (by
 rw[md];refine⟨p,_,rfl,h,rfl,zU ns,?_⟩;rw[BP];exact q))
def nZ(ha:Ev ta σ H (.int i))(hb:Ev tb σ H .non):Ev (fT K .IsNot ta tb) σ H (.bl true):=λQ q=>ha _ (hb _ q)
def nY(ha:Ev ta σ H .non)(hb:Ev tb σ H .non):Ev (fT K .IsNot ta tb) σ H (.bl false):=λQ q=>ha _ (hb _ q)
def Ei(ha:Ev ta σ H .non)(hb:Ev tb σ H .non):Ev (fT K .Is ta tb) σ H (.bl true):=λQ q=>ha _ (hb _ q)
def yd(ha:Ev ta σ H (.int i))(hb:Ev tb σ H (.int j))(hc:i<=j->Ev tc σ H (.int k)):Ev (sj K .LtE .LtE ta tb tc) σ H (.bl (decide (i<=j/\j<=k))):=λQ q=>ha _ (hb _ (by
 rw[pC]
 by_cases h:i<=j
 .rw[QT h];refine hc h _ ?_;have e:decide (i<=j/\j<=k)=decide (j<=k):=by simp[h]
  rw[e]at q;exact q
 .rw[QU h];have e:decide (i<=j/\j<=k)=false:=by simp[h]
  rw[e]at q;exact q))
def aH{sp:Sp}{t:TA}{vs:List V}(ht:Av t σ H vs)(h:∀Q:VK,Q x H->sp vs H Q E0):Ev (gS sp t) σ H x:=λQ q=>ht _ (h Q q)
def av:Av cw σ H []:=λQ q=>q
def aa{t:TA}{vs:List V}(ha:Ev ta σ H x)(ht:Av t σ H vs):Av (bf ta t) σ H (x::vs):=λQ q=>ha _ (ht _ q)
def yv:Av (cCs vs) σ H vs:=λQ q=>q
def aV(h:Ev te σ H (.bl b)):Tv (gh te) σ H b:=λQ q=>h _ q
def bZ(h:Tv t σ H b):Tv (yI t) σ H (!b):=λQ q=>h _ q
def iW(ha:Tv t σ H a)(hb:a=true->Tv u σ H b):Tv (JV t u) σ H (a&&b):=λQ q=>ha _ (by
 cases a with
 |true=>exact gN (hb rfl _ q)
 |false=>exact gO q)
def hV(ha:Tv t σ H a)(hb:a=false->Tv u σ H b):Tv (Lz t u) σ H (a||b):=λQ q=>ha _ (by
 cases a with
 |true=>exact gN q
 |false=>exact gO (hb rfl _ q))
def xf(ha:Ev ta σ H (.int i))(hb:Ev tb σ H (.int j))(hc:i<=j->Ev tc σ H (.int k)):Tv (si K .LtE .Lt ta tb tc) σ H (decide (i<=j/\j<k)):=λQ q=>ha _ (hb _ (by
 rw[pC]
 by_cases h:i<=j
 .rw[QT h];refine hc h _ ?_;have e:decide (i<=j/\j<k)=decide (j<k):=by simp[h]
  rw[e]at q;exact q
 .rw[QU h];have e:decide (i<=j/\j<k)=false:=by simp[h]
  rw[e]at q;exact q))
end
section
def aZ(h:Ev te σ H v)(h2:u D (σ.set i (some v)) H):bg (tAsg te (gName i)) u D σ H:=h _ h2
def fC(h:Ev te σ H v)(h2:D.nx (σ.set i (some v)) H):tAsg te (gName i) D σ H:=h _ h2
def aJ(h:Ev te σ H v)(h2:D.rt v H):cJ te D σ H:=h _ h2
def bz(hc:Tv c σ H b)(h1:b=true->t {D with nx:=u D} σ H)(h2:b=false->u D σ H):bg (l7 c t tj) u D σ H:=hc _ (by
 cases b with
 |true=>exact gN (h1 rfl)
 |false=>exact gO (h2 rfl))
def cQ(hc:Tv c σ H b)(h1:b=true->t D σ H)(h2:b=false->D.nx σ H):l7 c t tj D σ H:=hc _ (by
 cases b with
 |true=>exact gN (h1 rfl)
 |false=>exact gO (h2 rfl))
def JX(hc:Tv c σ H b)(h1:b=true->t {D with nx:=u D} σ H)(h2:b=false->t' {D with nx:=u D} σ H):bg (l7 c t t') u D σ H:=hc _ (by
 cases b with
 |true=>exact gN (h1 rfl)
 |false=>exact gO (h2 rfl))
end
section
variable{K:Frag}{σ rest:St}{H:Hp}{tl te:TE}{tt:TT}{src:List (Option Nat)}{Q:VK}
def fB:Tv iK σ H true:=λQ q=>q
def uI{xs:List V}(hz:xs.length<=v1)(hs:fc src σ=none::rest)(p:V->Bool)(f:V->V)(hgo:∀i,i<xs.length->J.go i H)(hstop:J.stop xs.length H)(hyld:∀i v H',i<xs.length->J.yld i H v H'->H'=H/\xs[i]? =some v)(ht:∀x∈xs,Tv tt (some x::rest) H (p x))(he:∀x∈xs,p x=true->Ev te (some x::rest) H (f x))(q:∀d',H d'=none->Q (.ref d') (upd H d' (.lst ((xs.filter p).map f)))):eV (gName 0) tt te src σ Q J H:=by
 refine⟨λi m ys σ' H'=>m=xs.length - i/\i<=xs.length/\ys=((xs.take i).filter p).map f/\(∃o,σ'=o::rest)/\H'=H,⟨xs.length,by simp,WT _,by simp,⟨none,hs⟩,rfl⟩,?_⟩;rintro i m ys σ' H' ⟨rfl,hi,rfl,⟨o,rfl⟩,rfl⟩
 by_cases hlt:i<xs.length
 .refine .inr ⟨hgo i hlt,?_,λx H2 y=>?_⟩
  .rw[U6];have h1:=VM p (xs.take i);rw[Vs]at h1;lia
  .obtain⟨rfl,hx⟩:=hyld i x H2 hlt y;have tk:(xs.take (i+1)).filter p=(xs.take i).filter p++(if p x then [x]else []):=take_succ_filter p xs i x hx;have hm:x∈xs:=Vn hx;show tt (some x::rest) H2 _;refine ht x hm _ ?_;cases hp:p x with
   |true=>
    refine gN (he x hm hp _ ?_);refine⟨xs.length - (i+1),by lia,rfl,hlt,?_,⟨_,rfl⟩,rfl⟩;rw[tk,hp,QW rfl,Vg];rfl
   |false=>
    refine gO ?_;refine⟨xs.length - (i+1),by lia,rfl,hlt,?_,⟨_,rfl⟩,rfl⟩;rw[tk,hp,QV (by simp),Vx]
 .have e:i=xs.length:=by lia
  subst e;refine .inl ⟨hstop,λd hd=>?_⟩;rw[VG];exact q d hd
def fF(hl:Ev tl σ H (.ref d))(hx:aN K H d xs)(hz:xs.length<=v1)(hs:fc src σ=none::rest)(p:V->Bool)(f:V->V)(ht:∀x∈xs,Tv tt (some x::rest) H (p x))(he:∀x∈xs,p x=true->Ev te (some x::rest) H (f x))(q:∀d',H d'=none->Q (.ref d') (upd H d' (.lst ((xs.filter p).map f)))):tComp (nT K tl) (gName 0) tt te src σ H Q:=
 hl _ ⟨d,rfl,⟨xs,hx⟩,uI hz hs p f (λi hi=>⟨xs,xs[i],hx,U9 hi⟩) ⟨xs,hx,WR _⟩ (λi v H' _ y=>⟨y.1,y.2 xs hx⟩) ht he q⟩
def uH(hl:Av ta σ H [.int n])(h0:0<=n)(hz:n.toNat<=v1)(h1:n<2 ^ 62)(hs:fc src σ=none::rest)(p:V->Bool)(f:V->V)(ht:∀i:Nat,i<n.toNat->Tv tt (some (.int (0+(i:Int)))::rest) H (p (.int (0+(i:Int)))))(he:∀i:Nat,i<n.toNat->p (.int (0+(i:Int)))=true->Ev te (some (.int (0+(i:Int)))::rest) H (f (.int (0+(i:Int)))))(q:∀d',H d'=none->Q (.ref d') (upd H d' (.lst ((((List.range n.toNat).map λ(i:Nat)=>V.int (0+(i:Int))).filter p).map f)))):tComp (xW ta) (gName 0) tt te src σ H Q:=by
 have hin:∀x∈(List.range n.toNat).map λ(i:Nat)=>V.int (0+(i:Int)),∃i:Nat,i<n.toNat/\x=.int (0+(i:Int)):=λx hx=>by obtain⟨i,hi,rfl⟩:=U7.mp hx;exact⟨i,Vo.mp hi,rfl⟩
 have hlen:((List.range n.toNat).map λ(i:Nat)=>V.int (0+(i:Int))).length=n.toNat:=by simp
 refine hl _ ⟨n,rfl,by lia,h1,uI (xs:=(List.range n.toNat).map λ(i:Nat)=>V.int (0+(i:Int))) (by rw[hlen];exact hz) hs p f (λi hi=>by rw[hlen]at hi;exact hi) (by rw[hlen];exact WR _) (λi v H' hi y=>⟨y.1,?_⟩) (λx hx=>?_) (λx hx hp=>?_) q⟩
 .rw[hlen]at hi;rw[Va,VJ hi,y.2];rfl
 .obtain⟨i,hi,rfl⟩:=hin x hx;exact ht i hi
 .obtain⟨i,hi,rfl⟩:=hin x hx;exact he i hi hp
end
section
variable{K:Frag}{te to tv:TE}{u:TS}{D:o8}{σ:St}{H:Hp}{v x y:V}
def kN(ho:Ev to σ H (.ref p))(hi:kW C m H p)(ht:Av t σ H vs)(h:∀Q:VK,Q x H->sp (.ref p::vs) H Q E0):Ev (oo C m sp to t) σ H x:=λQ q=>ho _ ⟨hi,ht _ (h Q q)⟩
def vm(ho:Ev to σ H (.ref l))(he:Ev te σ H y)(hl:H l=some (.lst xs))(hz:xs.length<v1)(h2:u D σ (upd H l (.lst (xs++[y])))):bg (iY (Aj to te)) u D σ H:=ho _ ⟨⟨xs,hl⟩,he _ ⟨xs,hl,hz,h2⟩⟩
def jx(ho:Ev to σ H (.ref l))(he:Ev te σ H y)(hl:H l=some (.lst xs))(hz:xs.length<v1)(h2:D.nx σ (upd H l (.lst (xs++[y])))):iY (Aj to te) D σ H:=ho _ ⟨⟨xs,hl⟩,he _ ⟨xs,hl,hz,h2⟩⟩
def qx(h:Ev tv σ H v)(ho:Ev to σ H (.ref p))(hp:H p=some (.ins C dx fs))(hc:oA K C)(hn:bN K C f)(hl:fs.length<1000)(h2:u D σ (upd H p (.ins C dx (putF f v fs)))):bg (ma K to tv f) u D σ H:=h _ (ho _ ⟨p,C,dx,fs,rfl,hp,hc,hn,hl,h2⟩)
def gX(h2:∀q,H q=none->u D (σ.set i (some (.ref q))) (upd H q (.lst []))):bg (tAsg (qo cw) (gName i)) u D σ H:=⟨WT _,λq hq=>h2 q hq⟩
end
section
variable{K:Frag}{te to ta tb ti:TE}{t:TA}{σ:St}{H:Hp}{Q:VK}{v x y:V}{vs:List V}
def ow(h:Ev te σ H v)(q:Q v H):te σ H Q:=h Q q
def cR(h:Av t σ H vs)(q:sp vs H Q E0):gS sp t σ H Q:=h _ q
def Lh(h:Av t σ H vs)(q:sp vs H (cV R) E0):gh (gS sp t) σ H R:=h _ q
def lI(h:Av t σ H vs)(q:sp vs H (cV λc H1=>R (!c) H1) E0):yI (gh (gS sp t)) σ H R:=h _ q
def Qz(h:Ev to σ H v)(q:r [v] H Q):cB r (bf to cw) σ H Q:=h _ q
def iX(ha:Ev ta σ H x)(hb:Ev tb σ H y)(q:∀p,H p=none->Q (.ref p) (upd H p (.tup [x,y]))):yH (bf ta (bf tb cw)) σ H Q:=ha _ (hb _ ⟨by show 2<=v1;decide,q⟩)
def uj(h:Av t σ H vs)(hz:vs.length<=1000)(hi:∀H',Ev ti σ H' (.int i))(e:atI vs i=some v)(q:∀H',ah H H'->Q v H'):LD K (qo t) ti σ H Q:=h _ ⟨WU hz (by decide),λp hp=>hi _ _ ⟨vs,v,.inl (aN.of af),e,q _ ((ah.refl H).upd hp)⟩⟩
end
section
def uS(ho:Ev to σ H (.ref l))(hl:∃xs,H l=some (.lst xs))(q:te σ H λy H2=>∃xs,H2 l=some (.lst xs)/\xs.length<v1/\D.nx σ (upd H2 l (.lst (xs++[y])))):iY (Aj to te) D σ H:=ho _ ⟨hl,q⟩
end
noncomputable def oI:Option Int->V
 |some n=>.int n
 |none=>.non
structure jK(K:Frag)(C:YC):Prop where
 cl:oA K C
 wide:bN K C "wide"
 high:bN K C "high"
 holes:bN K C "holes"
 firm:bN K C "firm"
noncomputable def jp(wi hi:Int)(ph pf:YC):List (Str×V):=putF "firm" (.ref pf) (putF "holes" (.ref ph) (putF "high" (.int hi) (putF "wide" (.int wi) [])))
def EE(wi hi:Int)(ph pf:YC):(jp wi hi ph pf).lookup ("wide":Str)=some (.int wi):=by unfold jp;rw[ao,QV (by decide+kernel),ao,QV (by decide+kernel),ao,QV (by decide+kernel),ao,QW rfl]
def EF(wi hi:Int)(ph pf:YC):(jp wi hi ph pf).lookup ("high":Str)=some (.int hi):=by unfold jp;rw[ao,QV (by decide+kernel),ao,QV (by decide+kernel),ao,QW rfl]
def CC(wi hi:Int)(ph pf:YC):(jp wi hi ph pf).lookup ("holes":Str)=some (.ref ph):=by unfold jp;rw[ao,QV (by decide+kernel),ao,QW rfl]
def EG(wi hi:Int)(ph pf:YC):(jp wi hi ph pf).lookup ("firm":Str)=some (.ref pf):=by unfold jp;rw[ao,QW rfl]
def OU(wi hi:Int)(ph pf:YC){m:Str}(h1:¬m="wide")(h2:¬m="high")(h3:¬m="holes")(h4:¬m="firm"):(jp wi hi ph pf).lookup m=none:=by unfold jp;rw[ao,QV h4,ao,QV h3,ao,QV h2,ao,QV h1];rfl
noncomputable def firmL(wi hi:Int)(hs:List Int):List Bool:=(List.range (wi*hi).toNat).map λ(s:Nat)=> !decide ((s:Int)∈hs)
structure bQ(K:Frag)(C:YC)(H:Hp)(p:YC)(wi hi:Int)(hs:List Int):Prop where
 ex:∃dx ph pf,H p=some (.ins C dx (jp wi hi ph pf))/\H ph=some (.lst (hs.map V.int))/\H pf=some (.lst ((firmL wi hi hs).map V.bl))
 w1:1<=wi
 w8:wi<=8
 h1:1<=hi
 h8:hi<=8
 good:∀h∈hs,0<=h/\h<wi*hi
 srt:hs.Pairwise (·<=·)
 nd:hs.Nodup
section
variable{K:Frag}{C:YC}{H H':Hp}{p:YC}{wi hi:Int}{hs:List Int}
def bQ.same(B:bQ K C H p wi hi hs)(s:ah H H'):bQ K C H' p wi hi hs:=by obtain⟨⟨dx,ph,pf,a,b,c⟩,w1,w8,h1,h8,g,sr,nd⟩:=B;exact⟨⟨dx,ph,pf,s _ _ a,s _ _ b,s _ _ c⟩,w1,w8,h1,h8,g,sr,nd⟩
theorem bQ.wide(B:bQ K C H p wi hi hs)(D:jK K C):Fl K H p "wide" (.int wi):=by obtain⟨dx,ph,pf,a,_,_⟩:=B.ex;exact⟨C,dx,_,a,D.cl,D.wide,EE _ _ _ _⟩
theorem bQ.high(B:bQ K C H p wi hi hs)(D:jK K C):Fl K H p "high" (.int hi):=by obtain⟨dx,ph,pf,a,_,_⟩:=B.ex;exact⟨C,dx,_,a,D.cl,D.high,EF _ _ _ _⟩
theorem bQ.firm(B:bQ K C H p wi hi hs)(D:jK K C):∃pf,Fl K H p "firm" (.ref pf)/\H pf=some (.lst ((firmL wi hi hs).map V.bl)):=by obtain⟨dx,ph,pf,a,_,c⟩:=B.ex;exact⟨pf,⟨C,dx,_,a,D.cl,D.firm,EG _ _ _ _⟩,c⟩
theorem bQ.holes(B:bQ K C H p wi hi hs)(D:jK K C):∃ph,Fl K H p "holes" (.ref ph)/\H ph=some (.lst (hs.map V.int)):=by obtain⟨dx,ph,pf,a,b,c⟩:=B.ex;exact⟨ph,⟨C,dx,_,a,D.cl,D.holes,CC _ _ _ _⟩,b⟩
def bQ.no(B:bQ K C H p wi hi hs){m:Str}(h1:¬m="wide":=by decide+kernel)(h2:¬m="high":=by decide+kernel)(h3:¬m="holes":=by decide+kernel)(h4:¬m="firm":=by decide+kernel):kW C m H p:=by obtain⟨dx,ph,pf,a,b,c⟩:=B.ex;exact⟨dx,_,a,OU _ _ _ _ h1 h2 h3 h4⟩
def bQ.many(B:bQ K C H p wi hi hs):1<=wi*hi/\wi*hi<=64:=by have a:=B.w1;have b:=B.w8;have c:=B.h1;have d:=B.h8;have e1:1*1<=wi*hi:=Xn a c (by lia) (by lia);have e2:wi*hi<=8*8:=Xn b d (by lia) (by lia);lia
def x9(h0:0<=s)(h1:s<wi*hi):atI ((firmL wi hi hs).map V.bl) s=some (.bl (!decide (s∈hs))):=by
 have e:s=((s.toNat:Nat):Int):=by lia
 have hl:s.toNat<(wi*hi).toNat:=by lia
 have:((firmL wi hi hs).map V.bl)[s.toNat]? =some (.bl (!decide (((s.toNat:Nat):Int)∈hs))):=by unfold firmL;rw[Va,Va,VJ hl];rfl
 have q:=bx this;rw[<-e]at q;exact q
def uy:(firmL wi hi hs).length=(wi*hi).toNat:=by unfold firmL;simp
end
noncomputable def Pf(wi hi:Int)(hs:List Int)(s ax up:Int):Option Int:=
 if 0<=s % wi+ax/\s % wi+ax<wi/\0<=s / wi+up/\s / wi+up<hi then(if(s / wi+up)*wi+(s % wi+ax)∈hs then none else some ((s / wi+up)*wi+(s % wi+ax)))else none
noncomputable def qy(wi s ax up:Int)(k:Nat):Int:=(s / wi+k*up)*wi+(s % wi+k*ax)
def ue(wi hi:Int)(hs:List Int)(s ax up:Int)(k:Nat):Prop:=0<=s % wi+k*ax/\s % wi+k*ax<wi/\0<=s / wi+k*up/\s / wi+k*up<hi/\¬qy wi s ax up k∈hs
instance {wi hi:Int} {hs:List Int} {s ax up:Int} {k:Nat}:Decidable (ue wi hi hs s ax up k):=by unfold ue;infer_instance
def kU(wi hi:Int)(hs:List Int)(s ax up:Int)(n:Nat):Prop:=(∀j<n,ue wi hi hs s ax up (j+1))/\¬ue wi hi hs s ax up (n+1)
noncomputable def fQ(wi s ax up:Int)(n:Nat):List Int:=(List.range n).map λj=>qy wi s ax up (j+1)
def kU.uniq(h:kU wi hi hs s ax up m)(h':kU wi hi hs' s ax up n)(e:∀x,x∈hs<->x∈hs'):m=n:=by
 have c:∀k,ue wi hi hs s ax up k<->ue wi hi hs' s ax up k:=λk=>by unfold ue;rw[e]
 rcases Xe m n with l|l|l
 .exact QZ ((c _).mpr (h'.1 m l)) h.2
 .exact l
 .exact QZ ((c _).mp (h.1 n l)) h'.2
def km:(fQ wi s ax up n).length=n:=by unfold fQ;simp
def yX:fQ wi s ax up (n+1)=fQ wi s ax up n++[qy wi s ax up (n+1)]:=by unfold fQ;rw[VL,Vg];rfl
def Bt(w8:wi<=8)(h8:hi<=8)(w1:1<=wi)(s0:0<=s)(s1:s<wi*hi)(n0:¬(ax=0/\up=0))(h:ue wi hi hs s ax up k):k<8:=by
 obtain⟨a,b,c,d,_⟩:=h;have m0:=Xl s (by lia:wi≠0);have m1:=Xm s (by lia:0<wi);have d0:0<=s / wi:=Int.ediv_nonneg s0 (by lia);have d1:s / wi<hi:=Int.ediv_lt_of_lt_mul (by lia) (by rw[Xo];exact s1);apply Classical.byContradiction;intro hk;have hk:8<=k:=by lia
 have k8:(8:Int)<=(k:Int):=by lia
 rcases Int.lt_trichotomy ax 0 with l|l|l
 .have:(k:Int)*ax<=(k:Int)*(-1):=Xp (by lia) (by lia);lia
 .rcases Int.lt_trichotomy up 0 with l'|l'|l'
  .have:(k:Int)*up<=(k:Int)*(-1):=Xp (by lia) (by lia);lia
  .exact n0 ⟨l,l'⟩
  .have:(k:Int)*1<=(k:Int)*up:=Xp (by lia) (by lia);lia
 .have:(k:Int)*1<=(k:Int)*ax:=Xp (by lia) (by lia);lia
def Dm{wi s ax up:Int}{k:Nat}(w1:1<=wi)(a:0<=s % wi+k*ax)(b:s % wi+k*ax<wi):qy wi s ax up k % wi=s % wi+k*ax/\qy wi s ax up k / wi=s / wi+k*up:=by
 unfold qy;rw[Int.add_comm ((s / wi+k*up)*wi)]
 constructor
 .rw[Int.add_mul_emod_self_right];exact Int.emod_eq_of_lt a b
 .rw[Int.add_mul_ediv_right _ _ (by lia),Int.ediv_eq_zero_of_lt a b];lia
def AF(w1:1<=wi):qy wi s ax up 0=s:=by unfold qy;have e:=Int.mul_ediv_add_emod s wi;rw[Xo]at e;have z:((0:Nat):Int)=0:=rfl;rw[z,Int.zero_mul,Int.zero_mul,Int.add_zero,Int.add_zero];exact e
def xJ{wi hi:Int}{hs:List Int}{s ax up:Int}{k:Nat}(w1:1<=wi)(a:0<=s % wi+k*ax)(b:s % wi+k*ax<wi):Pf wi hi hs (qy wi s ax up k) ax up=if ue wi hi hs s ax up (k+1)then some (qy wi s ax up (k+1))else none:=by
 obtain⟨e1,e2⟩:=Dm (up:=up) w1 a b;unfold Pf;rw[e1,e2];have ze:((k+1:Nat):Int)=(k:Int)+1:=rfl;have f1:s % wi+(k:Int)*ax+ax=s % wi+((k+1:Nat):Int)*ax:=by rw[ze,Int.add_mul,Xq];lia
 have f2:s / wi+(k:Int)*up+up=s / wi+((k+1:Nat):Int)*up:=by rw[ze,Int.add_mul,Xq];lia
 rw[f1,f2];have f3:(s / wi+((k+1:Nat):Int)*up)*wi+(s % wi+((k+1:Nat):Int)*ax)=qy wi s ax up (k+1):=rfl;rw[f3]
 by_cases c:0<=s % wi+((k+1:Nat):Int)*ax/\s % wi+((k+1:Nat):Int)*ax<wi/\0<=s / wi+((k+1:Nat):Int)*up/\s / wi+((k+1:Nat):Int)*up<hi
 .rw[QW c]
  by_cases m:qy wi s ax up (k+1)∈hs
  .rw[QW m,QV (show¬ue wi hi hs s ax up (k+1)from λz=>z.2.2.2.2 m)]
  .rw[QV m,QW (show ue wi hi hs s ax up (k+1)from⟨c.1,c.2.1,c.2.2.1,c.2.2.2,m⟩)]
 .rw[QV c,QV (show¬ue wi hi hs s ax up (k+1)from λz=>c ⟨z.1,z.2.1,z.2.2.1,z.2.2.2.1⟩)]
def IT:Sp:=λvs H Q _=>∃t a b:Int,vs=[.int t,.int a,.int b]/\Q (.bl (decide (a<=t/\t<=b))) H
def IQ:Sp:=λvs H Q _=>∃w s:Int,vs=[.int w,.int s]/\0<w/\Q (.int (s % w)) H
def AO:Sp:=λvs H Q _=>∃w s:Int,vs=[.int w,.int s]/\0<w/\w<100/\Q (.int (s / w)) H
def AL:Sp:=λvs H Q _=>∃w c r:Int,vs=[.int w,.int c,.int r]/\-100<w/\w<100/\Q (.int (r*w+c)) H
def tH:Sp:=λvs H Q _=>∃(d:YC)(m:Int)(hs:List Int),vs=[.ref d,.int m]/\H d=some (.lst (hs.map V.int))/\(∀h∈hs,0<=h/\h<m)/\hs.Nodup/\(hs.length:Int)<m/\m<=64/\∀H',ah H H'->Q (.bl true) H'
def qC(K:Frag)(C:YC):Sp:=λvs H Q _=>∃p d dx wi hi hs,vs=[.ref p,.int wi,.int hi,.ref d]/\H p=some (.ins C dx [])/\H d=some (.lst (hs.map V.int))/\1<=wi/\wi<=8/\1<=hi/\hi<=8/\(∀h∈hs,0<=h/\h<wi*hi)/\hs.Nodup/\(hs.length:Int)<wi*hi/\
 ∀(hs':List Int) H',hs'.Perm hs->bQ K C H' p wi hi hs'->SameBut p H H'->Q .non H'
def xp(K:Frag)(C:YC):Sp:=λvs H Q _=>∃p wi hi hs s ax up,vs=[.ref p,.int s,.int ax,.int up]/\bQ K C H p wi hi hs/\Q (oI (Pf wi hi hs s ax up)) H
def IL(K:Frag)(C:YC):Sp:=λvs H Q _=>∃p wi hi hs s ax up,vs=[.ref p,.int s,.int ax,.int up]/\bQ K C H p wi hi hs/\0<=s/\s<wi*hi/\¬(ax=0/\up=0)/\
 ∀n q H',kU wi hi hs s ax up n->n<=8->H q=none->H' q=some (.lst ((fQ wi s ax up n).map V.int))->ah H H'->Q (.ref q) H'
structure CA(P:Rg)(w:Rk)(K:Frag)(mg:Q3)(QR:Rq):Prop where
 is_among:cC P w K mg QR "is_among" ["thing","least","most"] 2 IT
structure CB(P:Rg)(w:Rk)(K:Frag)(mg:Q3)(QR:Rq):Prop where
 column_of:cC P w K mg QR "column_of" ["wide","square"] 1 IQ
 row_of:cC P w K mg QR "row_of" ["wide","square"] 1 AO
 square_at:cC P w K mg QR "square_at" ["wide","column","row"] 1 AL
structure CB2(P:Rg)(w:Rk)(K:Frag)(mg:Q3)(QR:Rq):Prop extends CA P w K mg QR where
 are_holes:cC P w K mg QR "are_holes" ["thing","many"] 3 tH
structure CB3(P:Rg)(w:Rk)(K:Frag)(mg:Q3)(QR:Rq)(cB:YC):Prop extends CB2 P w K mg QR where
 Board:lY P w K mg QR "Board" cB ["self","wide","high","holes"] 4 (qC K cB)
 Board_moved:fV P w K mg QR cB "moved" ["self","square","across","up"] 2 (xp K cB)
section
variable{X:Cx}{QQ:Q5}{σ:St}{H:Hp}{s:Rb}{h':Rq}
def aL.turned_laid{t':Nat}{e it a:YC}{o:HO}(I:aL X QQ σ H s)(k:∀b ob,b≠e->b≠it->s.heap.get? b=some ob->h'.get? b=some ob)(he:jt X QQ H e)(hi:jt X QQ H it)(hp:s.heap.objs.size<=a)(new:bC X.prog X.w (upd H a o) h' a o):aL X QQ σ (upd H a o) {s with heap:=h',toks:=t'}:=by
 obtain⟨e0,e1,e2,e3,e4,e5⟩:=he;obtain⟨i0,i1,i2,i3,i4,i5⟩:=hi;have hn:H a=none:=I.hok.fresh hp;have ne:∀b u,H b=some u->b≠e:=λb u q z=>by rw[z,e0]at q;cases q
 have nit:∀b u,H b=some u->b≠it:=λb u q z=>by rw[z,i0]at q;cases q
 have kk:∀b ob,b∉[e,it]->s.heap.get? b=some ob->h'.get? b=some ob:=λb ob hc q=>k b ob (λz=>hc (by simp[z])) (λz=>hc (by simp[z])) q;refine I.step (g':=s.gens) (d':=s.drawn) (ch:=[e,it]) (λb hb=>?_) (λb ob _ _ hc q _=>kk b ob hc q) (λb ob _ _ hc q _=>⟨ob.slots,kk b ob hc q⟩)
  (λb ob hc q n=>by rw[ak (WS (WV (Q9 q) hp))];exact n) (λb ob hc q=>⟨ob,kk b ob hc q⟩) (λb xs q=>by rw[ak (ay q hn)];exact q) (λb ob u q=>by rw[ak (ay q hn)];exact q)
  (λb ps q=>⟨#[],by rw[ak (ay q hn),q];simp⟩) (λm hm=>?_) (λb u q=>?_) I.bare
 .rcases U8.mp hb with rfl|hb
  .exact⟨e3,e1,e4,e5⟩
  .rw[Vb.mp hb];exact⟨i3,i1,i4,i5⟩
 .obtain⟨ob,es,ep,ho,r⟩:=hm;exact⟨ob,es,ep,k _ ob (Ne.symm e1) (Ne.symm i1) ho,r⟩
 .by_cases hb:b=a
  .subst hb;rw[af]at q;cases q;exact new
  .rw[ak hb]at q;refine(I.hok b u q).stay (λc v hc z=>k c v ?_ ?_ z) (λc z=>by rw[ak (ay z hn)];exact z) λc xs z=>by rw[ak (ay z hn)];exact z
   .rcases hc with z|z
    .rw[z];exact ne b u q
    .exact ne c _ z
   .rcases hc with z|z
    .rw[z];exact nit b u q
    .exact nit c _ z
def aL.turned2(I:aL X QQ σ H s)(k:∀b ob,b≠e->b≠it->s.heap.get? b=some ob->h'.get? b=some ob)(he:jt X QQ H e)(hi:jt X QQ H it):aL X QQ σ H {s with heap:=h',toks:=t'}:=by
 obtain⟨e0,e1,e2,e3,e4,e5⟩:=he;obtain⟨i0,i1,i2,i3,i4,i5⟩:=hi;have ne:∀b u,H b=some u->b≠e:=λb u q z=>by rw[z,e0]at q;cases q
 have nit:∀b u,H b=some u->b≠it:=λb u q z=>by rw[z,i0]at q;cases q
 have kk:∀b ob,b∉[e,it]->s.heap.get? b=some ob->h'.get? b=some ob:=λb ob hc q=>k b ob (λz=>hc (by simp[z])) (λz=>hc (by simp[z])) q;refine I.step (g':=s.gens) (d':=s.drawn) (ch:=[e,it]) (λb hb=>?_) (λb ob _ _ hc q _=>kk b ob hc q) (λb ob _ _ hc q _=>⟨ob.slots,kk b ob hc q⟩)
  (λ_ _ _ _ n=>n) (λb ob hc q=>⟨ob,kk b ob hc q⟩) (λ_ _ q=>q) (λ_ _ _ q=>q)
  (λb ps q=>⟨#[],by rw[q];simp⟩) (λm hm=>?_) (λb u q=>?_) I.bare
 .rcases U8.mp hb with rfl|hb
  .exact⟨e3,e1,e4,e5⟩
  .rw[Vb.mp hb];exact⟨i3,i1,i4,i5⟩
 .obtain⟨ob,es,ep,ho,r⟩:=hm;exact⟨ob,es,ep,k _ ob (Ne.symm e1) (Ne.symm i1) ho,r⟩
 .refine(I.hok b u q).stay (λc v hc z=>k c v ?_ ?_ z) (λc z=>z) λc xs z=>z
  .rcases hc with z|z
   .rw[z];exact ne b u q
   .exact ne c _ z
  .rcases hc with z|z
   .rw[z];exact nit b u q
   .exact nit c _ z
end
noncomputable def O8(K:Frag)(a:YC):It:=
 ⟨λi H=>∃xs x,aN K H a xs/\xs[i]? =some x,λi H x H'=>∃t v,x=.ref t/\H t=none/\H'=upd H t (.tup [.int (i:Int),v])/\∀xs,aN K H a xs->xs[i]? =some v,λi H=>∃xs,aN K H a xs/\xs.length<=i⟩
def vh{P:Rg}{w:Rk}{K:Frag}{elts:List RU}{k0:Nat}{pos:Uk}(a e it:YC)(hne:e≠it):Am P w K (.Tuple elts k0 pos) (O8 K a) [e,it] e (λi h=>(∃old,IsEnum h e it (i:Int) old)/\h.IsListIter it a i) where
 mem:=by simp
 obj:=λi h st b hb=>by
  obtain⟨⟨old,he⟩,o,ho,c,d⟩:=st
  rcases U8.mp hb with rfl|hb
  .exact⟨_,he,λv z=>by cases z⟩
  .rw[Vb.mp hb];exact⟨o,ho,λv z=>by rw[d]at z;cases z⟩
 keep:=λi h h' st k=>by obtain⟨⟨old,he⟩,hi⟩:=st;exact⟨⟨old,k e (by simp) _ he⟩,hi.at λo x=>k it (by simp) o x⟩
 item:=by
  intro X hP hw hK hc i QQ s σ H E I hf st hg;subst hP hw hK;obtain⟨xs,x,hq,hx⟩:=hg;obtain⟨its,rv,p,hz⟩:=I.list hq;obtain⟨u,hu,ru⟩:=rv.get hx;obtain⟨⟨old,he⟩,hit⟩:=st;have fe:=hf e (by simp);have fi:=hf it (by simp);obtain⟨oL,hoL,hcL,nL,hdL⟩:=p.isList;have hai:a≠it:=λz=>by subst z;obtain⟨o',ho',hc',_⟩:=hit;rw[hoL]at ho';cases ho';rw[hcL]at hc';injection hc' with hz';exact QZ hz' (by decide)
  have hae:a≠e:=λz=>by subst z;have he':s.heap.get? a=_:=he;rw[hoL]at he';cases he';injection hcL with hz';exact QZ hz' (by decide)
  have D:=Draws.list (prog:=X.prog) (w:=X.w) (A:=X.A.in1) (by show X.A.handled=none;exact I.ok.hd hc) it a hai its.toArray;have hlt:i<its.toArray.size:=by have:=(Vi.mp hu).1;simpa using this
  refine TZ D he ⟨hit,p.isList⟩ hlt hne (by simp[hne,hae.symm]) λx' h1 tk hP' ho hs' hT hsz hk=>?_;have ex:x'=u:=by have:its.toArray[i]? =some x':=hP';rw[Wr,hu]at this;exact(Q0 this).symm
  subst ex;refine⟨_,rfl,Tr ho λh2 he2 sb=>?_⟩;have hlt2:e<s.heap.objs.size:=Q9 he;have kk:∀b ob,b≠e->b≠it->s.heap.get? b=some ob->h2.get? b=some ob:=λb ob b1 b2 q=>(sb.2 b b1).trans (hk b ob b1 b2 q);have hT2:h2.get? s.heap.objs.size=some {cls:=.type "tuple",data:=.seq #[.int i tk,x']}:=(sb.2 _ (WX hlt2)).trans hT;have new:bC X.prog X.w (upd H s.heap.objs.size (.tup [.int (i:Int),x])) h2 s.heap.objs.size (.tup [.int (i:Int),x]):=
   ⟨by show 2<=v1;decide,[.int i tk,x'],.cons ⟨tk,rfl⟩ (.cons ru .nil),⟨_,hT2,rfl,_,rfl⟩⟩
  have I2:=I.turned_laid (t':=tk+1) kk fe fi (WR _) new;refine⟨.ref s.heap.objs.size,_,I2,rfl,⟨_,x,rfl,I.hok.fresh (WR _),rfl,λys hy=>by rw[I.list_inj hy hq];exact hx⟩,⟨⟨_,by simpa using he2⟩,hs'.1.at λo z=>(sb.2 it (Ne.symm hne)).trans z⟩,λb hb=>?_⟩
  rcases U8.mp hb with rfl|hb
  .rw[ak (WS hlt2)];exact fe.1
  .rw[Vb.mp hb];obtain⟨o',ho',_⟩:=hit;rw[ak (WS (Q9 ho'))];exact fi.1
 done:=by
   intro X hP hw hK hc i QQ s σ H E I hf st hg;subst hP hw hK;obtain⟨xs,hq,hx⟩:=hg;obtain⟨its,rv,p,hz⟩:=I.list hq;obtain⟨⟨old,he⟩,hit⟩:=st;have fe:=hf e (by simp);have fi:=hf it (by simp);have hl:=rv.length;obtain⟨oL,hoL,hcL,nL,hdL⟩:=p.isList;have hai:a≠it:=λz=>by subst z;obtain⟨o',ho',hc',_⟩:=hit;rw[hoL]at ho';cases ho';rw[hcL]at hc';injection hc' with hz';exact QZ hz' (by decide)
   have hT:s.TypeIs (.ref e) "enumerate":=⟨_,he,rfl⟩;unfold Sm;refine Q6 (SB (RC (name:=SA "__next__") hT Uj
    (RJ Uj hT F.entry_enumerate_next ?_ (F.args_enumerate_next_1 _))))
   show Ra _ _ (field (.ref e) 2 >>= _) _ _ _;refine Q6 (R8 he rfl (x:=.ref it) rfl ?_);refine Q6 (wpAny_nextOf_list_end (by show X.A.handled=none;exact I.ok.hd hc) hit p.isList (by simp;lia) λh' x he' hx'=>?_);obtain⟨o,ho,hcx⟩:=hx';refine Q6 (SK (T:="StopIteration") (b:=true) ⟨o,ho,hcx⟩ Tw ?_);exact Q7 ⟨rfl,I.turned2 (t':=s.toks) (λb ob _ b2 q=>he' b ob b2 q) fe fi⟩
 self:=λA i s Q E st h=>by obtain⟨⟨old,he⟩,_⟩:=st;exact S3 he h
noncomputable def Ao(x:Str):It:=
 ⟨λi _=>i<x.cps.size,λi H v H'=>∃t c,v=.ref t/\H t=none/\x.cps.toList[i]? =some c/\H'=upd H t (.tup [.int (i:Int),.str ⟨#[c]⟩]),λi _=>i=x.cps.size⟩
def iA(hh:A.handled=none)(it:YC)(x:Str)(t:U3):Draws prog w A it [it] x.cps.size (λi v=>∃c u,x.cps[i]? =some c/\v=.str ⟨#[c]⟩ u) (λi h=>h.IsStrIter it (Sv x) x t i):=by
 unfold Sv;split
 .exact Draws.strAscii hh it x t
 .exact Draws.strWide hh it x t
def vg{P:Rg}{w:Rk}{K:Frag}{elts:List RU}{k0:Nat}{pos:Uk}(e it:YC)(x:Str)(t:U3)(hne:e≠it):Am P w K (.Tuple elts k0 pos) (Ao x) [e,it] e (λi h=>(∃old,IsEnum h e it (i:Int) old)/\h.IsStrIter it (Sv x) x t i) where
 mem:=by simp
 obj:=λi h st b hb=>by
  obtain⟨⟨old,he⟩,o,ho,c,d⟩:=st
  rcases U8.mp hb with rfl|hb
  .exact⟨_,he,λv z=>by cases z⟩
  .rw[Vb.mp hb];exact⟨o,ho,λv z=>by rw[d]at z;cases z⟩
 keep:=λi h h' st k=>by obtain⟨⟨old,he⟩,o,ho,r⟩:=st;exact⟨⟨old,k e (by simp) _ he⟩,o,k it (by simp) o ho,r⟩
 item:=by
  intro X hP hw hK hc i QQ s σ H E I hf st hg;subst hP hw hK;obtain⟨⟨old,he⟩,hit⟩:=st;have fe:=hf e (by simp);have fi:=hf it (by simp);have D:=iA (prog:=X.prog) (w:=X.w) (A:=X.A.in1) (by show X.A.handled=none;exact I.ok.hd hc) it x t;refine TZ D he hit hg hne (by simp[hne]) λx' h1 tk hP' ho hs' hT hsz hk=>?_;obtain⟨c,u,hcx,rfl⟩:=hP';refine⟨_,rfl,Tr ho λh2 he2 sb=>?_⟩;have hlt2:e<s.heap.objs.size:=Q9 he;have kk:∀b ob,b≠e->b≠it->s.heap.get? b=some ob->h2.get? b=some ob:=λb ob b1 b2 q=>(sb.2 b b1).trans (hk b ob b1 b2 q);have hT2:h2.get? s.heap.objs.size=some {cls:=.type "tuple",data:=.seq #[.int i tk,.str ⟨#[c]⟩ u]}:=(sb.2 _ (WX hlt2)).trans hT;have new:bC X.prog X.w (upd H s.heap.objs.size (.tup [.int (i:Int),.str ⟨#[c]⟩])) h2 s.heap.objs.size (.tup [.int (i:Int),.str ⟨#[c]⟩]):=
   ⟨by show 2<=v1;decide,[.int i tk,.str ⟨#[c]⟩ u],.cons ⟨tk,rfl⟩ (.cons ⟨u,rfl⟩ .nil),⟨_,hT2,rfl,_,rfl⟩⟩
  have I2:=I.turned_laid (t':=tk+1) kk fe fi (WR _) new;have hs2:h2.IsStrIter it (Sv x) x t (i+1):=by obtain⟨o',ho',r⟩:=hs';exact⟨o',(sb.2 it (Ne.symm hne)).trans ho',r⟩
  refine⟨.ref s.heap.objs.size,_,I2,rfl,⟨_,c,rfl,I.hok.fresh (WR _),by rw[XM];exact hcx,rfl⟩,⟨⟨_,by simpa using he2⟩,hs2⟩,λb hb=>?_⟩
  rcases U8.mp hb with rfl|hb
  .rw[ak (WS hlt2)];exact fe.1
  .rw[Vb.mp hb];obtain⟨o',ho',_⟩:=hit;rw[ak (WS (Q9 ho'))];exact fi.1
 done:=by intro X hP hw hK hc i QQ s σ H E I hf st hg;subst hP hw hK;obtain⟨⟨old,he⟩,hit⟩:=st;have hg:i=x.cps.size:=hg;subst hg;have fe:=hf e (by simp);have fi:=hf it (by simp);have D:=iA (prog:=X.prog) (w:=X.w) (A:=X.A.in1) (by show X.A.handled=none;exact I.ok.hd hc) it x t;exact wpAny_pyNext_enum_endD D he hit λh' hx=>⟨rfl,I.turned2 (t':=s.toks) (λb ob _ b2 q=>hx b ob b2 q) fe fi⟩
 self:=λA i s Q E st h=>by obtain⟨⟨old,he⟩,_⟩:=st;exact S3 he h
section
variable{X:Cx}{p pos pos2:Uk}{a:RU}{elts:List RU}{k0:Nat}{ta:TE}
def xX(K:Frag)(ta:TE):TI:=λσ H R=>ta σ H λx H1=>match x with
 | .ref d=>(∃xs,aN K H1 d xs)/\R (O8 K d) H1
 | .str z=>R (Ao z) H1
 |_=>False
def Dy(hm:X.mg "enumerate"=none)(ha:PE X a ta)(hg:Gl X "enumerate":=by rfl)(hs:Rc [a] X.env=[(false,RH a X.env)]:=by rfl):PI X (.Tuple elts k0 pos2) (.Call (.Name "enumerate" p) [a] [] pos) (xX X.K ta):=by
 intro QQ s σ H R I h;have hA:PA X [a] (bf ta cw):=pa_cons ha pan (by rw[hs];rfl);refine Call_ (j0 I hg hm sH (PyProof.Rows.callWith_type1 (bH (hA pos QQ s σ H (λvs H1=>∃x,vs=[x]/\(match x with| .ref d=>(∃xs,aN X.K H1 d xs)/\R (O8 X.K d) H1| .str z=>R (Ao z) H1|_=>False)) I ?_) λus s1 ⟨vs,H1,I1,r1,x,e1,q1⟩=>?_) (by rw[hs];rfl) rfl) (by decide) (by decide))
 .show ta σ H _;have e:(λ(x:V)(H1:Hp)=>match x with| .ref d=>(∃xs,aN X.K H1 d xs)/\R (O8 X.K d) H1| .str z=>R (Ao z) H1|_=>False)=λx H1=>cw σ H1 λxs H2=>∃y,x::xs=[y]/\(match y with| .ref d=>(∃xs,aN X.K H2 d xs)/\R (O8 X.K d) H2| .str z=>R (Ao z) H2|_=>False):=by
   funext x H1;apply propext
   constructor
   .intro q;exact⟨x,rfl,q⟩
   .rintro⟨y,e,q⟩;have:x=y:=by injection e
    subst this;exact q
  rw[<-e];exact h
 .subst e1;obtain⟨u,rfl,ru⟩:=fG r1;cases x with
  |ref d=>
   obtain⟨⟨xs,hq⟩,q⟩:=q1;cases ru;obtain⟨its,rv,pl,hz⟩:=I1.list hq;refine call_enumerate_list pl.isList λh' he hit hsz hk=>?_;have I2:aL X QQ σ H1 {s1 with heap:=h'}:=I1.kept (t':=s1.toks) hk;refine S3 he ⟨s1.heap.objs.size+1,[s1.heap.objs.size+1,s1.heap.objs.size],_,_,H1,rfl,I2,vh d _ _ (Xf _),⟨⟨_,he⟩,hit⟩,λb hb=>?_,q⟩
   rcases U8.mp hb with rfl|hb
   .exact I1.fpOk (WW _) (I1.hok.fresh (WW _))
   .rw[Vb.mp hb];exact I1.fpOk (WR _) (I1.hok.fresh (WR _))
  |str z=>
   obtain⟨t,rfl⟩:=ru;refine call_enumerate_str λh' he hit hsz hk=>?_;have I2:aL X QQ σ H1 {s1 with heap:=h'}:=I1.kept (t':=s1.toks) hk;refine S3 he ⟨s1.heap.objs.size+1,[s1.heap.objs.size+1,s1.heap.objs.size],_,_,H1,rfl,I2,vg _ _ z t (Xf _),⟨⟨_,he⟩,hit⟩,λb hb=>?_,q1⟩
   rcases U8.mp hb with rfl|hb
   .exact I1.fpOk (WW _) (I1.hok.fresh (WW _))
   .rw[Vb.mp hb];exact I1.fpOk (WR _) (I1.hok.fresh (WR _))
  |_=>exact q1.elim
def Ji(K:Frag)(hm:X.mg "enumerate"=none)(ha:PE X a ta)(hg:Gl X "enumerate":=by rfl)(hs:Rc [a] X.env=[(false,RH a X.env)]:=by rfl)(hK:X.K=K:=by rfl):PI X (.Tuple elts k0 pos2) (.Call (.Name "enumerate" p) [a] [] pos) (xX K ta):=by subst hK;exact Dy hm ha hg hs
end
section
def N7(x:V)(vs:List V)(H:Hp)(Q:VK):Prop:=match x,vs with
 | .str a,[]=>a.length<=v1/\(∀c∈a.cps.toList,c<128)/\Q (.str ⟨a.cps.map U5⟩) H
 |_,_=>False
def Ky:sQ X "str.lower" N7:=by
 unfold sQ;intro QQ s σ H x xs v us Q I rx r h;unfold N7 at h;split at h
 .rename_i a;obtain⟨hz,ha,q⟩:=h;obtain⟨t,rfl⟩:=rx;cases r;have e:placed a (λi _=>Uf a.cps i)=a.cps.map U5:=placed_single a _ U5 λi c hc=>by
   have hc':a.cps[i]? =some c:=by simpa using hc
   have hlt:=ha c (Vn hc);unfold Uf;rw[hc'];have hne:(c == 0x3A3)=false:=by rw[beq_eq_false_iff_ne];lia
   simp only[hne,Bool.false_and,Xz,if_false];exact lowerOf_ascii c hlt
  have hfit:SO (placed a λi _=>Uf a.cps i).size=false:=by rw[e,XR];unfold SO;exact QU (by show¬a.cps.size > v1;have:a.length=a.cps.size:=rfl;lia)
  refine call_gives F.slot_str_lower (Tu _ _ _) F.entry_str_lower (F.args_str_lower_1 _) (gives_str_lower a t hfit) ?_;rw[e];exact⟨by show(a.cps.map U5).size<=v1;rw[XR];exact hz,⟨.str _,H,I.tok _,⟨_,rfl⟩,q⟩⟩
 .exact h.elim
def wp:∀c,c<128->(Unicode.isUpper c&& !(Unicode.isLower c||Unicode.isTitle c))=decide (65<=c/\c<=90):=by decide+kernel
def Pj(x:V)(vs:List V)(H:Hp)(Q:VK):Prop:=match x,vs with
 | .str a,[]=>∃c,a=⟨#[c]⟩/\c<128/\Q (.bl (decide (65<=c/\c<=90))) H
 |_,_=>False
def Kz:sQ X "str.isupper" Pj:=by
 unfold sQ;intro QQ s σ H x xs v us Q I rx r h;unfold Pj at h;split at h
 .rename_i a;obtain⟨c,rfl,hc,q⟩:=h;obtain⟨t,rfl⟩:=rx;cases r;refine call_gives F.slot_str_isupper (Tu _ _ _) F.entry_str_isupper (F.args_str_isupper_1 _) (gives_str_isupper _ t) ?_;refine fin_bl I q ?_;rw[<-wp c hc];simp
 .exact h.elim
def Qf:(N7 (.str a) [] H Q)=(a.length<=v1/\(∀c∈a.cps.toList,c<128)/\Q (.str ⟨a.cps.map U5⟩) H):=rfl
end
noncomputable abbrev one(c:Nat):Str:=⟨#[c]⟩
def lN(c:Nat):Prop:=97<=c/\c<=122
def Sg(c:Nat):Prop:=c=46\/c=35\/(97<=c/\c<=122)\/(65<=c/\c<=90)
def Sg.lt(h:Sg c):c<128:=by unfold Sg at h;lia
noncomputable def lV(c:Nat):V:=if c=46\/c=35 then .non else .str (one (U5 c))
noncomputable def dc(c:Nat):V:=if c=46\/c=35 then .non else .int (if 65<=c/\c<=90 then 0 else 1)
def CK:("abcdefghijklmnopqrstuvwxyz":Str).cps.toList=[97,98,99,100,101,102,103,104,105,106,107,108,109,110,111,112,113,114,115,116,117,118,119,120,121,122]:=by decide+kernel
def CM(h0:0<=i)(h1:i<26):atI ("abcdefghijklmnopqrstuvwxyz":Str).cps.toList i=some (97+i.toNat):=by
 have e:i=((i.toNat:Nat):Int):=by lia
 have hx:∀k<26,("abcdefghijklmnopqrstuvwxyz":Str).cps.toList[k]? =some (97+k):=by rw[CK];decide
 have q:=bx (hx i.toNat (by lia));rw[<-e]at q;exact q
def Dh:(".":Str)=one 46:=by decide+kernel
def AD:("#":Str)=one 35:=by decide+kernel
section
variable{K:Frag}{σ rest:St}{H:Hp}{te ta tb tl:TE}{tt:TT}{R:Bool->Hp->Prop}{Q:VK}{c:Nat}{z:Str}{src:List (Option Nat)}
def Jl(h:Ev te σ H (.str (one c)))(ha:Ev ta σ H (.str (one 46)))(hb:Ev tb σ H (.str (one 35)))(q:∀H',ah H H'->R (decide (c=46\/c=35)) H'):gh (fT K .In te (yH (bf ta (bf tb cw)))) σ H R:=
 h _ (ha _ (hb _ ⟨by show 2<=v1;decide,λt ht=>by
  show gQ K .In (.str (one c)) (.ref t) _ (cV R);rw[ko];refine⟨t,_,rfl,.inr (cY.of af),rfl,rfl,?_⟩;have e:D5 (.str (one c)) [.str (one 46),.str (one 35)]=decide (c=46\/c=35):=by
   unfold D5;have e1:eqV (.str (one 46)) (.str (one c))=decide (c=46):=by
    show((one 46) == (one c))=_
    by_cases h:c=46
    .subst h;simp
    .rw[QU h];exact beq_eq_false_iff_ne.mpr (λe=>h (by have:=Q2 (λx:Str=>x.cps.toList) e;simp[one]at this;lia))
   have e2:eqV (.str (one 35)) (.str (one c))=decide (c=35):=by
    show((one 35) == (one c))=_
    by_cases h:c=35
    .subst h;simp
    .rw[QU h];exact beq_eq_false_iff_ne.mpr (λe=>h (by have:=Q2 (λx:Str=>x.cps.toList) e;simp[one]at this;lia))
   show(eqV (.str (one 46)) (.str (one c))||(eqV (.str (one 35)) (.str (one c))||false))=_
   rw[e1,e2]
   by_cases h1:c=46<;>by_cases h2:c=35<;>simp[h1,h2]
  show cV R (.bl (if false then _ else D5 (.str (one c)) [.str (one 46),.str (one 35)])) _;rw[e];exact q _ ((ah.refl H).upd ht)⟩))
def K4(ha:Ev ta σ H (.str (one c)))(hb:Ev tb σ H (.str z)):Ev (fT K .In ta tb) σ H (.bl (decide (c∈z.cps.toList))):=λQ q=>ha _ (hb _ (by
 show gQ K .In _ _ _ _;rw[A6,StrLaws.found_one];exact q))
def Jq(ha:Ev ta σ H (.str (one c)))(hc:lN c):Ev (Ey NG ta) σ H (.str (one (c - 32))):=λQ q=>ha _ (by
 show NG (.str (one c)) [] H Q;rw[Qe];refine⟨by show 1<=v1;decide,λd hd=>?_,?_⟩
 .have e:d=c:=by simpa[one]using hd
  have:=hc.2;lia
 have e:(⟨(one c).cps.map up1⟩:Str)=one (c - 32):=by
  show(⟨#[c].map up1⟩:Str)=_;have:up1 c=c - 32:=by unfold up1;exact QW hc
  simp[one,this]
 rw[e];exact q)
def Oz(ha:Ev ta σ H (.str (one c)))(hc:c<128):Ev (Ey N7 ta) σ H (.str (one (U5 c))):=λQ q=>ha _ (by
 show N7 (.str (one c)) [] H Q;rw[Qf];refine⟨by show 1<=v1;decide,λd hd=>?_,?_⟩
 .have e:d=c:=by simpa[one]using hd
  lia
 have e:(⟨(one c).cps.map U5⟩:Str)=one (U5 c):=by show(⟨#[c].map U5⟩:Str)=_;simp[one]
 rw[e];exact q)
def OA(ha:Ev ta σ H (.str (one c)))(hc:c<128):Ev (Ey Pj ta) σ H (.bl (decide (65<=c/\c<=90))):=λQ q=>ha _ (by
 show Pj (.str (one c)) [] H Q;exact⟨c,rfl,hc,q⟩)
def B6{lo hi:Option Int}(ha:Ev ta σ H (.str z))(hl:∀Q:Option Int->Hp->Prop,Q lo H->tl' σ H Q)(hh:∀Q:Option Int->Hp->Prop,Q hi H->th σ H Q)(hz:z.length<=v1):Ev (Pk K ta tl' th) σ H (.str (j1 z lo hi)):=λQ q=>ha _ (hl _ (hh _ ⟨hz,q⟩))
def pD:∀Q:Option Int->Hp->Prop,Q none H->xi σ H Q:=λQ q=>q
def jP(h:Ev te σ H (.int i)):∀Q:Option Int->Hp->Prop,Q (some i) H->Jx te σ H Q:=λQ q=>h _ q
def Dq:gQ K .Eq (dc c) (.int sd) H Q=Q (.bl (decide (dc c=.int sd))) H:=by
 unfold dc
 by_cases h:c=46\/c=35
 .rw[QW h];show Q (.bl false) H=Q (.bl (decide (V.non=V.int sd))) H;rw[QU (by intro z;cases z)]
 .rw[QV h];show Q (.bl (decide (_=sd))) H=Q (.bl (decide (V.int _=V.int sd))) H;have:∀i:Int,decide (i=sd)=decide (V.int i=V.int sd):=λi=>by
   by_cases e:i=sd
   .rw[QT e,QT (Q2 V.int e)]
   .rw[QU e,QU (λz=>e (by injection z))]
  rw[this]
noncomputable def Ep(l:List Nat)(p:Nat->Nat->Bool)(f:Nat->Nat->V)(n:Nat):List V:=((List.range n).filter λi=>p i (l.getD i 0)).map λi=>f i (l.getD i 0)
def uC:Ep l p f (n+1)=Ep l p f n++(if p n (l.getD n 0)=true then [f n (l.getD n 0)]else []):=by
 unfold Ep;rw[VL,WI,Vg];congr 1
 by_cases h:p n (l.getD n 0)=true
 .rw[QW h];have e:(List.filter (λi=>p i (l.getD i 0)) [n])=[n]:=by rw[V8];exact QW h
  rw[e];rfl
 .rw[QV h];have e:(List.filter (λi=>p i (l.getD i 0)) [n])=[]:=by rw[V8];exact QV h
  rw[e];rfl
def Eo:(Ep l p f n).length<=n:=by unfold Ep;rw[U6];exact WU (VM _ _) (by rw[Vu];exact WR _)
def Cq(hl:Ev tl σ H (.str z))(hz:z.length<=1000)(hs:fc src σ=none::none::rest)(p:Nat->Nat->Bool)(f:Nat->Nat->V)(ht:∀i c H',z.cps.toList[i]? =some c->ah H H'->∀R:Bool->Hp->Prop,(∀H'',ah H' H''->R (p i c) H'')->tt (some (.int (i:Int))::some (.str (one c))::rest) H' R)(he:∀i c H',z.cps.toList[i]? =some c->p i c=true->ah H H'->Ev te (some (.int (i:Int))::some (.str (one c))::rest) H' (f i c))(q:∀H' d,ah H H'->H' d=none->Q (.ref d) (upd H' d (.lst (Ep z.cps.toList p f z.length)))):tComp (xX K tl) (zQ K 2 (kL (gName 0) (kL (gName 1) B0))) tt te src σ H Q:=by
 refine hl _ ?_;show eV _ tt te src σ Q (Ao z) H;refine iC z.length (λi ys σ' H'=>ah H H'/\(∃o0 o1,σ'=o0::o1::rest)/\ys=Ep z.cps.toList p f i) (WU hz (by decide)) (λi ys σ H h=>by rw[h.2.2];exact Eo) (λi ys σ H h hi=>hi) (λys σ H h=>rfl) ⟨ah.refl H,⟨_,_,hs⟩,rfl⟩ ?_ ?_
 .rintro i ys _ H1 x H2 hi ⟨s1,⟨o0,o1,rfl⟩,rfl⟩ ⟨t,c,rfl,ht0,hc,rfl⟩ Kt Kf kt kf;have s2:ah H (upd H1 t (.tup [.int (i:Int),.str ⟨#[c]⟩])):=s1.upd ht0;refine⟨t,_,rfl,cY.of af,rfl,_,_,rfl,_,_,rfl,rfl,?_⟩;have eg:z.cps.toList.getD i 0=c:=by rw[Vh,hc];rfl
  show tt (some (.int (i:Int))::some (.str (one c))::rest) _ _;refine ht i c _ hc s2 _ (λH3 s3=>?_);cases hp:p i c with
  |true=>
   refine gN (he i c _ hc hp (s2.trans s3) _ (kt _ _ _ ⟨s2.trans s3,⟨_,_,rfl⟩,?_⟩));rw[uC,eg,hp,QW rfl]
  |false=>
   refine gO (kf _ _ ⟨s2.trans s3,⟨_,_,rfl⟩,?_⟩);rw[uC,eg,hp,QV (by simp),Vx]
 .rintro ys σ' H' d ⟨s1,_,rfl⟩ hd;exact q H' d s1 hd
end
def pR(cs:List Nat):UN ("":Str) (cs.map one)=⟨cs.toArray⟩:=by
 have key:∀(r:List Nat)(acc:Array Nat),(r.map one).foldl (λacc p=>acc++("":Str).cps++p.cps) acc=acc++r.toArray:=by
  intro r
  induction r with
  |nil=>intro acc;simp
  |cons a r ih=>
   intro acc;rw[Vm,We,ih];have e:("":Str).cps= #[]:=by decide+kernel
   rw[e];apply XS.mp;simp[one]
 unfold UN Builtin.Str.glued;cases cs with
 |nil=>rfl
 |cons a r=>
  show(⟨((r.map one).foldl (λacc p=>acc++("":Str).cps++p.cps) (one a).cps)⟩:Str)=_;rw[key];apply qv;simp[one]
noncomputable def emptyT(wi hi:Int)(hs:List Int):Str:=⟨((List.range (wi*hi).toNat).map λ(s:Nat)=>if(s:Int)∈hs then 35 else 46).toArray⟩
def og:(emptyT wi hi hs).length=(wi*hi).toNat:=by unfold emptyT Str.length;simp
noncomputable def fZ(row:Str)(s:Int)(sg:Str):Str:=j1 row none (some s)++sg++j1 row (some (s+1)) none
noncomputable def sqsOf(row:Str)(sd:Int):List Int:=((List.range row.length).filter λi=>decide (dc (row.cps.toList.getD i 0)=.int sd)).map λ(i:Nat)=>(i:Int)
def lm(h0:0<=s)(h1:s<row.length):(fZ row s (one c)).cps.toList=row.cps.toList.take s.toNat++[c]++row.cps.toList.drop (s.toNat+1):=by
 unfold fZ;have e:s=((s.toNat:Nat):Int):=by lia
 have e1:s+1=((s.toNat+1:Nat):Int):=by lia
 rw[qw,qw,jF,jF];have hl:s.toNat<row.length:=by lia
 have f1:HT.sIx row.length row.length (some s)=s.toNat:=by rw[e,HT.sIx_nat];lia
 have f2:HT.sIx row.length 0 (some (s+1))=s.toNat+1:=by rw[e1,HT.sIx_nat];lia
 have f3:HT.sIx row.length 0 none=0:=rfl;have f4:HT.sIx row.length row.length none=row.length:=rfl;rw[f1,f2,f3,f4,Wj,Nat.sub_zero];congr 1;rw[V3];rw[V1,dO];exact WR _
def iu(h0:0<=s)(h1:s<row.length):(fZ row s (one c)).length=row.length:=by rw[dO,lm h0 h1,Ve,Ve,Vs,V1,<-dO];show min s.toNat row.length+1+(row.length - (s.toNat+1))=row.length;lia
def mQ:Sp:=λvs H Q _=>∃c sd,vs=[.str (one c),.int sd]/\lN c/\Q (.str (one (if sd=0 then c - 32 else c))) H
def vt:Sp:=λvs H Q _=>∃c:Nat,vs=[.str (one c)]/\c<128/\∀H',ah H H'->Q (lV c) H'
def mR:Sp:=λvs H Q _=>∃c:Nat,vs=[.str (one c)]/\c<128/\∀H',ah H H'->Q (dc c) H'
def IN(K:Frag)(C:YC):Sp:=λvs H Q _=>∃p wi hi hs s,vs=[.ref p,.int s]/\bQ K C H p wi hi hs/\Q (.bl (decide (0<=s/\s<wi*hi/\¬s∈hs))) H
def xw(K:Frag)(C:YC):Sp:=λvs H Q _=>∃p wi hi hs,vs=[.ref p]/\bQ K C H p wi hi hs/\∀H',ah H H'->Q (.str (emptyT wi hi hs)) H'
def IM:Sp:=λvs H Q _=>∃row s c,vs=[.str row,.int s,.str (one c)]/\0<=s/\row.length<=100/\Q (.str (fZ row s (one c))) H
def pr:Sp:=λvs H Q _=>∃row sd,vs=[.str row,.int sd]/\row.length<=100/\(∀c∈row.cps.toList,c<128)/\∀q H',H q=none->H' q=some (.lst ((sqsOf row sd).map V.int))->ah H H'->Q (.ref q) H'
section
variable{K:Frag}{σ:St}{H:Hp}{tb:TE}{t:TA}{op:UC}{R:Bool->Hp->Prop}{vs:List V}{sp:Sp}
def wD:Ev (tC (.str ".")) σ H (.str (one 46)):=by rw[<-Dh];exact aq
def rS:Ev (tC (.str "#")) σ H (.str (one 35)):=by rw[<-AD];exact aq
def Cb(h:Av t σ H vs)(q:sp vs H (λx H1=>tb σ H1 λy H2=>gQ K op x y H2 (cV R)) E0):gh (fT K op (gS sp t) tb) σ H R:=h _ q
end
def NO(ho:Ev to σ H (.str z))(q:te σ H λx H2=>r (.str z) [x] H2 Q):Pl r to (bf te cw) σ H Q:=ho _ q
structure CP1(P:Rg)(w:Rk)(K:Frag)(mg:Q3)(QR:Rq):Prop where
 side_of:cC P w K mg QR "side_of" ["sign"] 1 mR
structure CP2(P:Rg)(w:Rk)(K:Frag)(mg:Q3)(QR:Rq)(cB:YC):Prop where
 Board_has:fV P w K mg QR cB "has" ["self","square"] 3 (IN K cB)
section
variable{K:Frag}{σ rest:St}{H:Hp}{te to ta tb tl:TE}{Q:VK}{R:Bool->Hp->Prop}
def JM(ha:Ev ta σ H x)(hb:Ev tb σ H y)(hc:Ev tc σ H z)(q:∀p,H p=none->Q (.ref p) (upd H p (.tup [x,y,z]))):yH (bf ta (bf tb (bf tc cw))) σ H Q:=ha _ (hb _ (hc _ ⟨by show 3<=v1;decide,q⟩))
def NI(h:Tv tt σ H false)(q:u σ H R):Lz tt u σ H R:=h _ (gO q)
def pA{xs:List V}{lo hi:Option Int}(ha:Ev ta σ H (.ref d))(hl:∀Q:Option Int->Hp->Prop,Q lo H->tl' σ H Q)(hh:∀Q:Option Int->Hp->Prop,Q hi H->th σ H Q)(hx:aN K H d xs)(q:∀p,H p=none->Q (.ref p) (upd H p (.lst (oX xs lo hi)))):Pk K ta tl' th σ H Q:=ha _ (hl _ (hh _ ⟨xs,hx,q⟩))
def NT{ns:List Int}{i:Int}(h0:0<=i)(h1:i<ns.length):∃n:Int,atI (ns.map V.int) i=some (.int n)/\n∈ns:=by
 have hlt:i.toNat<ns.length:=by lia
 have e:(ns.map V.int)[i.toNat]? =some (.int ns[i.toNat]):=by rw[Va,U9 hlt];rfl
 have q:=bx e;have ei:((i.toNat:Nat):Int)=i:=by lia
 rw[ei]at q;exact⟨_,q,Vl hlt⟩
def Ja{xs:List V}{i:Int}(h0:0<=i)(h1:i<xs.length):∃v,atI xs i=some v/\v∈xs:=by
 have hlt:i.toNat<xs.length:=by lia
 have q:=bx (U9 hlt);have ei:((i.toNat:Nat):Int)=i:=by lia
 rw[ei]at q;exact⟨_,q,Vl hlt⟩
def Ot{i j:Nat}{d:YC}{a b:V}{R:St->Hp->Prop}(h:H d=some (.tup [a,b]))(q:R ((σ.set i (some a)).set j (some b)) H):zQ K 2 (kL (gName i) (kL (gName j) B0)) (.ref d) σ H R:=⟨d,_,rfl,cY.of h,rfl,_,_,rfl,_,_,rfl,rfl,q⟩
def Ln(h:Av t σ H vs)(q:sp vs H (λx H1=>g x σ H1 D.nx) E0):tAsg (gS sp t) g D σ H:=h _ q
end
noncomputable def wO(ns:List Int)(k:Int):Int:=ns.getD k.toNat 0
noncomputable def strV(c:Nat):V:=.str (one c)
def j8(K:Frag):Sp:=λvs H Q _=>∃a ns k,vs=[.ref a,.int k]/\aN K H a (ns.map V.int)/\0<=k/\Q (.int (wO ns k)) H
section
variable{κ:Type}[DecidableEq κ]
noncomputable def wK(l:List κ)(x:κ):List κ:=if x∈l then l else l++[x]
noncomputable def bV(val:Nat->κ):Nat->List κ
 |0=>[]
 |i+1=>wK (bV val i) (val i)
theorem kC(val:Nat->κ):∀i,(bV val i).length<=i
 |0=>WR 0
 |i+1=>by
  have ih:=kC val i;show(wK (bV val i) (val i)).length<=i+1;unfold wK
  by_cases h:val i∈bV val i
  .rw[QW h];lia
  .rw[QV h,Ve];show _+1<=_;lia
theorem nH(val:Nat->κ)(x:κ):∀i,x∈bV val i<->x∈(List.range i).map val
 |0=>by simp[bV]
 |i+1=>by
  have ih:=nH val x i;show x∈wK (bV val i) (val i)<->_;rw[VL,Vg,Vk,<-ih];unfold wK
  by_cases h:val i∈bV val i
  .rw[QW h]
   constructor
   .exact λz=>.inl z
   .rintro(z|z)
    .exact z
    .have:x=val i:=by simpa using z
     rw[this];exact h
  .rw[QV h,Vk];simp
theorem nG(val:Nat->κ):∀i,(bV val i).length=i<->((List.range i).map val).Nodup
 |0=>by simp[bV]
 |i+1=>by
  have ih:=nG val i;have hle:=kC val i;have hm:=nH val (val i) i;show(wK (bV val i) (val i)).length=i+1<->_;rw[VL,Vg,V5];unfold wK
  by_cases h:val i∈bV val i
  .rw[QW h]
   constructor
   .intro z;lia
   .intro z;exact QZ rfl (z.2.2 (val i) (hm.mp h) (val i) (by simp))
  .rw[QV h,Ve]
   constructor
   .intro z;have z:(bV val i).length+1=i+1:=z;refine⟨ih.mp (by lia),by simp,λa ha b hb e=>h (hm.mpr ?_)⟩;have:b=val i:=by simpa using hb
    rw[<-this,<-e];exact ha
   .intro z;rw[ih.mpr z.1];rfl
end
section
variable{prog:Rg}{w:Rk}{A:Sd}{R:Result->Rb->Prop}{I:YC}{fp wr:List YC}{G:Array T4->Array T4->Prop}{n:Nat}{Pt:Nat->YB->Prop}{St:Nat->Rb->Prop}{κ:Type}[DecidableEq κ]{knd:KeyKind prog w κ}
def A0(W:WalksS prog w A.in1 I fp wr G n Pt St)(D:YC)(hD:D∉fp)(val:Nat->κ)(hv:∀i v,Pt i v->knd.is (val i) v=true/\v.scannable=true)(hb:n+1<scanBound):∀k i s,n - i=k->i<=n->St i s->s.heap.SetOf knd D (λx=>decide (x∈bV val i)) (bV val i).length->(∀s2,Moved (D::wr) G s s2->s2.heap.SetOf knd D (λx=>decide (x∈bV val n)) (bV val n).length->R (.ok (.ret .none)) s2)->SV (Rh prog w) A (.builtin "set.update.loop" ⟨[.ref D,.ref I],[]⟩) R s:=by
 have nW:D∉wr:=λz=>hD (W.sub _ z);have up:∀b∈wr,b∈D::wr:=λb z=>Vd _ z;have mv:∀{s s2:Rb}{S:κ->Bool}{m:Nat},Moved wr G s s2->s.heap.SetOf knd D S m->s2.heap.SetOf knd D S m:=λ{s s2 S m} hm ⟨o,es,ep,t,ho,r⟩=>⟨o,es,ep,t,hm.heap D _ nW ho,r⟩;intro k
 induction k with
 |zero=>
  intro i s e1 e2 st hS hR;have e3:i=n:=by lia
  subst e3;refine RO Su ?_;rw[RF RV _];show Ra _ A.in1 (Sm (.ref I) >>= _) _ _ s;refine Q6 (W.done s _ _ st λs2 hm=>?_);show Ra _ A.in1 (ret Sf) _ _ s2;exact Q7 (hR s2 (hm.mono up) (mv hm hS))
 |succ k ih=>
  intro i s e1 e2 st hS hR;have e3:i<n:=by lia
  refine RO Su ?_;rw[RF RV _];show Ra _ A.in1 (Sm (.ref I) >>= _) _ _ s;refine Q6 (W.item i s _ _ e3 st λv s2 hp st2 hm=>?_);obtain⟨kv,sv⟩:=hv i v hp;have hS2:=mv hm hS;show Ra _ A.in1 (Tb [v] (setAdd D v) >>= _) _ _ s2;refine Q6 (Rs ?_);unfold setAdd;refine Rs (Q6 (knd.pyHash (k:=val i) kv ?_));have room:(bV val i).length+1<scanBound:=by have:=kC val i;lia
  refine wpAny_setAddHashed_of (knd:=knd) (s:={s2 with toks:=s2.toks+1}) kv sv hS2 room λh2 sb hS3=>?_;have hS4:h2.SetOf knd D (λx=>decide (x∈bV val (i+1))) (bV val (i+1)).length:=by
   refine SetOf_congr hS3 (λx=>?_) ?_
   .show(decide (x∈bV val i)||decide (x=val i))=decide (x∈wK (bV val i) (val i))
    unfold wK
    by_cases m:val i∈bV val i
    .rw[QW m]
     by_cases e:x=val i
     .subst e;rw[QT m];simp
     .rw[QU e,XE]
    .rw[QV m,Xy];simp
   .show(if decide (val i∈bV val i)=true then _ else _)=(wK (bV val i) (val i)).length;unfold wK
    by_cases m:val i∈bV val i
    .rw[QW (QT m),QW m]
    .rw[QV (by rw[QU m];decide),QV m,Ve];rfl
  refine Q7 ⟨SC RV _,ih (i+1) _ (by lia) e3 (W.frame _ s2 _ _ st2 (WW _) λb hb o e=>?_) hS4 λs3 hm3 hS5=>?_⟩
  .exact(sb.2 b (λz:b=D=>hD (z▸hb))).trans e
  .refine hR s3 (Moved.trans W.gtrans ((hm.mono up).then_heap (WW _) λb o hb e=>?_) hm3) hS5;exact(sb.2 b (λz:b=D=>hb (by rw[z];exact Vf))).trans e
end
section
variable{prog:Rg}{w:Rk}{A:Sd}{E:Q4}{s:Rb}{κ:Type}[DecidableEq κ]{knd:KeyKind prog w κ}
noncomputable abbrev cE(led:Bool):Obj:={cls:=.type "set",dict:=none,data:=.set #[] 0 (.fresh 0 0 led)}
def AZ{l:YC}{its:Array YB}{Q:Q4}(val:Nat->κ)(hh:A.handled=none)(hl:s.heap.IsList l its)(hv:∀i v,its[i]? =some v->knd.is (val i) v=true/\v.scannable=true)(hb:its.size+1<scanBound)(k:∀h2 tk,h2.SetOf knd s.heap.objs.size (λx=>decide (x∈bV val its.size)) (bV val its.size).length->(∀b o,b<s.heap.objs.size->s.heap.get? b=some o->h2.get? b=some o)->Q (.ref s.heap.objs.size) {s with heap:=h2,toks:=tk}):Ra (Rh prog w) A (call (.type "set") [.ref l]) Q E s:=by
 obtain⟨c0,tl0,hmro⟩:=F.called_set.mro;have hmade:=F.called_set.made;have hsub:=F.called_set.sub;have n1:=F.called_set.notType;have n2:=F.called_set.canCreate;have n3:=F.typeCall_set_1 (.ref l);refine T8 (Ue ?_);show Ra _ _ (callAny (.type "set") _) _ _ _;refine Q7 ⟨Code.quiet_builtin _ (by decide+kernel),RO F.entry_type_call ?_⟩;rw[Around.under_plain (Ui "set" [.ref l] []) rfl]
 repeat (any_goals (first|assumption|wp_step))
 refine Sb (code_set_new_1 (.ref l) (E:=E) (Q₁:=λo s1=>∃led:Bool,o=.ref s.heap.objs.size/\s1={s with heap:=s.heap.push (cE led)}) λled=>⟨led,rfl,rfl⟩) λr s1 hr=>?_;cases r with
 |error e=>exact hr
 |ok fl=>
  cases fl with
  |ret ob=>
   obtain⟨led,rfl,rfl⟩:=hr;have g0:(s.heap.push (cE led)).get? s.heap.objs.size=some (cE led):=Re _ rfl;have ty:Tc {s with heap:=s.heap.push (cE led)} (.ref s.heap.objs.size) "set":=⟨_,g0,rfl⟩;have m1:=F.called_set.init.lookup;have m2:=F.called_set.init.bind (.ref s.heap.objs.size)
   repeat (any_goals (first|assumption|wp_step))
   refine Sb (Td (R:=wants (λr s2=>r=.none/\∃h2 tk,s2={s with heap:=h2,toks:=tk}/\h2.SetOf knd s.heap.objs.size (λx=>decide (x∈bV val its.size)) (bV val its.size).length/\
     (∀b o,b<s.heap.objs.size->s.heap.get? b=some o->h2.get? b=some o)) E) F.called_set.init.plain F.entry_set_init (check_set_init_1 ty ?_)) λr2 s2 hr2=>?_
   .obtain⟨⟨oc,od,oda,osl⟩,ho,hc,nl,hd⟩:=hl;simp only at hc hd;subst hc;subst hd;have hol:(s.heap.push (cE led)).get? l=some {cls:=.type "list",dict:=od,data:=.seq its nl,slots:=osl}:=Q8 _ ho;have b1:=F.sub_list_set;have b2:=F.sub_list_frozenset;have b3:(Tz "list" == Tz "dict")=false:=by decide
    have hl1:(s.heap.push (cE led)).IsList l its:=⟨_,hol,rfl,nl,rfl⟩;unfold Sr.«set.__init__» noKeywords Tl;generalize hPI:pyIter=PI
    wp_walk
    subst hPI;refine Sk hl1 (Q6 (Ul ?_));have hlt:l<s.heap.objs.size:=Q9 ho;have h3:A.in1.in1.in1.handled=none:=by simp[hh]
    have sz:(s.heap.push (cE led)).objs.size=s.heap.objs.size+1:=Rz ..;have ne1:l≠(s.heap.push (cE led)).objs.size:=by rw[sz];exact WS (Xd hlt)
    have ne2:s.heap.objs.size∉[(s.heap.push (cE led)).objs.size,l]:=by
     rw[sz];intro z
     rcases U8.mp z with z|z
     .exact Xf _ z.symm
     .exact WX hlt (Vb.mp z)
    refine A0 (knd:=knd) ((UF h3 _ l ne1 its).toS) s.heap.objs.size ne2 val hv hb (its.size - 0) 0 _ (by lia) (WT _) ⟨⟨_,Re _ rfl,rfl,rfl⟩,(hl1.push _)⟩ ?_ (λs3 hm hS3=>?_)
    .refine SetOf_congr ((setObjOf_fresh (knd:=knd) led).setOf (Q8 _ g0) (by unfold scanBound;lia)) (λx=>?_) rfl;show false=decide (x∈([]:List κ));simp
    .obtain⟨hh3,gg3,dd3,tk3,os3⟩:=s3;obtain rfl:gg3=s.gens:=hm.gens;obtain rfl:dd3=s.drawn:=hm.drawn;obtain rfl:os3=s.os:=hm.os;show Ra _ _ _ _ _ _;refine Q7 ?_;show Ra _ _ (ret Sf) _ _ _;refine Q7 ⟨rfl,hh3,tk3,rfl,hS3,λb o hb2 e=>?_⟩;refine hm.heap b o ?_ (Q8 _ (Q8 _ e));rw[sz];intro z
     rcases U8.mp z with z|z
     .exact WS hb2 z
     .exact WS (Xd hb2) (Vb.mp z)
   .cases r2 with
    |error e=>exact hr2
    |ok fl2=>
     cases fl2 with
     |ret r3=>
      obtain⟨rfl,h2,tk,rfl,hS2,kp⟩:=hr2
      repeat (any_goals (first|assumption|wp_step))
      exact k _ _ hS2 kp
     |_=>exact hr2.elim
  |_=>exact hr.elim
end
noncomputable def lQ(ss:List Str):List Str:=bV (λi=>ss.getD i Ss) ss.length
def jw(ss:List Str):(lQ ss).length=ss.length<->ss.Nodup:=by
 unfold lQ;rw[nG];have e:(List.range ss.length).map (λi=>ss.getD i Ss)=ss:=by
  apply VV;intro i;rw[Va]
  by_cases h:i<ss.length
  .rw[VJ h,U9 h];show some (ss.getD i Ss)=_;rw[Vh,U9 h];rfl
  .rw[Vw (by rw[Vu];lia),Vw (by lia)];rfl
 rw[e]
section
def xy(K:Frag)(xs:List V)(H:Hp)(Q:VK):Prop:=match xs with
 | [.ref d]=>∃ss:List Str,aN K H d (ss.map V.str)/\ss.length+1<scanBound/\∀q φ,H q=none->(∀h:Rq,φ h->∃o es ep t,h.get? q=some o/\o.ExactSet/\o.data=.set es ep t/\t.fits es.size=true/\es.size=(lQ ss).length)->Q (.ref q) (upd H q (.ext φ))
 |_=>False
def wR(hh:X.A.handled=none):bq X (.type "set") (xy X.K):=by
 intro QQ s σ H xs us Q I r h;unfold xy at h;split at h
 .rename_i d;obtain⟨ss,hq,hb,q⟩:=h;obtain⟨u,rfl,rx⟩:=fG r;cases rx;obtain⟨its,r',pl,hz⟩:=I.list hq;have hlen:=r'.length;rw[U6]at hlen;have hs:its.toArray.size=ss.length:=by rw[Vc,<-hlen]
  refine AZ (knd:=PySem.strKind X.prog X.w) (λi=>ss.getD i Ss) hh pl.isList (λi v hv=>?_) (by rw[hs];exact hb) λh2 tk hS kp=>?_
  .rw[Wr]at hv;have hi:i<its.length:=(Vi.mp hv).1;have hx:(ss.map V.str)[i]? =some (.str (ss.getD i Ss)):=by rw[Va,Vh,U9 (by lia)];rfl
   obtain⟨u,hu,ru⟩:=r'.get hx;rw[hv]at hu;cases hu;obtain⟨t,rfl⟩:=ru;exact⟨by simp[PySem.strKind,UA],rfl⟩
  .rw[hs]at hS;have k2:∀b u,s.heap.get? b=some u->h2.get? b=some u:=λb u e=>kp b u (Q9 e) e;obtain⟨o,es,ep,t,h1,h2',h3,_,_,h6,h7,h8⟩:=hS;refine⟨.ref s.heap.objs.size,upd H s.heap.objs.size (.ext λh=>h.get? s.heap.objs.size=some o),I.laid (t':=tk) k2 (WR _) ?_,rfl,q _ _ (I.hok.fresh (WR _)) λh e=>⟨o,es,ep,t,e,h2',h3,h7,h8⟩⟩;exact⟨h1,⟨o,h1⟩,λh1 h2 e k=>k o e⟩
 .exact h.elim
def BH(xs:List V)(H:Hp)(Q:VK):Prop:=match xs with
 | [.ref d]=>∃φ n,H d=some (.ext φ)/\n<=1000/\(∀h:Rq,φ h->∃o es ep t,h.get? d=some o/\o.ExactSet/\o.data=.set es ep t/\t.fits es.size=true/\es.size=n)/\Q (.int n) H
 |_=>False
def on:bq X (.builtin "len") BH:=by
 intro QQ s σ H xs us Q I r h;unfold BH at h;split at h
 .rename_i d;obtain⟨φ,n,hd,hn,hφ,q⟩:=h;obtain⟨u,rfl,rx⟩:=fG r;cases rx;obtain⟨p,_,_⟩:=(show bC X.prog X.w H s.heap d (.ext φ)from I.hok d _ hd);obtain⟨o,es,ep,t,h1,h2,h3,h4,h5⟩:=hφ _ p;subst h5;exact PySem.call_len_set h1 h2 h3 h4 (by lia) ⟨.int es.size,H,I.tok _,⟨_,rfl⟩,q⟩
 .exact h.elim
def Jg(K:Frag)(hr:db j X.A)(hK:X.K=K:=by rfl):bq X (.type "set") (xy K):=by subst hK;exact wR hr.hd
end
def um{K:Frag}{σ:St}{H:Hp}{Q:VK}{te:TE}{d:YC}{ss:List Str}(h:Ev te σ H (.ref d))(hd:aN K H d (ss.map V.str))(hl:ss.length<=1000)(q:∀H',ah H H'->Q (.int (lQ ss).length) H'):cB BH (bf (cB (xy K) (bf te cw)) cw) σ H Q:=
 h _ ⟨ss,hd,by show ss.length+1<4096;lia,λp φ hp hφ=>⟨φ,_,af,WU (kC _ _) hl,hφ,q _ ((ah.refl H).upd hp)⟩⟩
section
variable{X:Cx}
def yY(ks:List Bool):(List.range ks.length).any (λi=>ks.getD i false)=ks.any id:=by
 rw[Xy,VF,VF]
 constructor
 .rintro⟨i,hi,e⟩;have hi:=Vo.mp hi;rw[Vh,U9 hi]at e;exact⟨_,Vl hi,e⟩
 .rintro⟨b,hb,e⟩;obtain⟨i,hi,e2⟩:=WE.mp hb;refine⟨i,Vo.mpr hi,?_⟩;rw[Vh,U9 hi,e2];exact e
def Lo(K:Frag)(xs:List V)(H:Hp)(Q:VK):Prop:=match xs with
 | [.ref d]=>∃ks:List Bool,aN K H d (ks.map V.bl)/\Q (.bl (ks.any id)) H
 |_=>False
def Ah(hc:X.calm=true):bq X (.builtin "any") (Lo X.K):=by
 intro QQ s σ H xs us Q I r h;unfold Lo at h;split at h
 .rename_i p;obtain⟨ks,hp,q⟩:=h;obtain⟨u,rfl,ru⟩:=fG r;cases ru;obtain⟨its,rv,pl,hl⟩:=I.list hp;have hlen:=rv.length;rw[U6]at hlen;refine call_any_walk (Sk pl.isList ?_);have hne:p≠s.heap.objs.size:=by obtain⟨o,ho,_⟩:=pl.isList;exact WS (Q9 ho)
  have W:=UF (prog:=X.prog) (w:=X.w) (A:=X.A.in1) (show X.A.in1.handled=none from I.ok.hd hc) s.heap.objs.size p hne its.toArray;have hpush:∀o b ob,s.heap.get? b=some ob->(s.heap.push o).get? b=some ob:=λo b ob e=>Q8 _ e;refine⟨_,_,_,_,_,_,λi=>ks.getD i false,rfl,W,⟨⟨_,Re _ rfl,rfl,rfl⟩,pl.isList.at λo e=>hpush _ _ o e⟩,sZ rv,λh' tk k=>?_⟩;have e:(List.range its.toArray.size).any (λi=>ks.getD i false)=ks.any id:=by rw[<-yY,Vc,<-hlen]
  rw[e];refine⟨.bl _,H,I.kept (t':=tk) (h':=h') λb ob e=>k b ob ?_ (hpush _ b ob e),rfl,q⟩;intro hb;have:b=s.heap.objs.size:=by simpa using hb
  subst this;exact QZ (Q9 e) (WY _)
 .exact h.elim
def Qo(K:Frag)(hc:X.calm=true:=by rfl)(hK:X.K=K:=by rfl):bq X (.builtin "any") (Lo K):=by subst hK;exact Ah hc
end
def Thg(H:Hp):V->Prop
 | .non=>True
 | .bl _=>True
 | .int _=>True
 | .str z=>z.length<=1000
 | .ref a=>(∃xs,H a=some (.lst xs))\/(∃xs,H a=some (.tup xs))\/(∃kvs,H a=some (.dK kvs))
 |_=>False
noncomputable def nP(T:BT)(H:Hp):V->Bool
 | .bl _=>eS .bool T
 | .int _=>eS .int T
 | .str _=>eS .str T
 | .ref a=>match H a with
   |some (.lst _)=>eS .list T
   |some (.tup _)=>eS .tuple T
   |some (.dK _)=>eS .dict T
   |_=>false
 |_=>false
noncomputable def tupOf(H:Hp):V->Option (List V)
 | .ref a=>match H a with
   |some (.tup xs)=>some xs
   |_=>none
 |_=>none
noncomputable def lstOf(H:Hp):V->Option (List V)
 | .ref a=>match H a with
   |some (.lst xs)=>some xs
   |_=>none
 |_=>none
def fU(H:Hp):Nat->V->Prop
 |0,v=>Thg H v
 |n+1,v=>Thg H v/\∀xs,(tupOf H v=some xs\/lstOf H v=some xs)->∀x∈xs,fU H n x
def fU.thg(h:fU H n v):Thg H v:=by
 cases n with
 |zero=>exact h
 |succ n=>exact h.1
noncomputable def As:V->Bool
 | .int _=>true
 |_=>false
noncomputable def amongB(v:V)(a b:Int):Bool:=match v with
 | .int i=>decide (a<=i/\i<=b)
 |_=>false
noncomputable def wordB(v:V)(ws:List Str):Bool:=match v with
 | .str z=>decide (z∈ws)
 |_=>false
section
variable{K:Frag}{σ:St}{H H':Hp}{te ta tb:TE}{ws:List Str}
def Thg.same(h:Thg H v)(s:ah H H'):Thg H' v:=by
 cases v with
 |ref a=>
  rcases h with⟨xs,e⟩|⟨xs,e⟩|⟨xs,e⟩
  .exact .inl ⟨xs,s _ _ e⟩
  .exact .inr (.inl ⟨xs,s _ _ e⟩)
  .exact .inr (.inr ⟨xs,s _ _ e⟩)
 |_=>exact h
def gw(h:Thg H v)(s:ah H H'):tupOf H' v=tupOf H v:=by
 cases v with
 |ref a=>
  rcases h with⟨xs,e⟩|⟨xs,e⟩|⟨xs,e⟩<;>simp only[tupOf,e,s _ _ e]
 |_=>rfl
def iF(h:Thg H v)(s:ah H H'):lstOf H' v=lstOf H v:=by
 cases v with
 |ref a=>
  rcases h with⟨xs,e⟩|⟨xs,e⟩|⟨xs,e⟩<;>simp only[lstOf,e,s _ _ e]
 |_=>rfl
theorem fU.same:∀{v:V},fU H n v->ah H H'->fU H' n v:=by
 induction n with
 |zero=>intro v h s;exact Thg.same h s
 |succ n ih=>
  intro v h s;refine⟨h.1.same s,λxs hx x hm=>ih (h.2 xs ?_ x hm) s⟩;rw[gw h.1 s,iF h.1 s]at hx;exact hx
def gv(h:tupOf H v=some xs):∃a,v=.ref a/\H a=some (.tup xs):=by
 cases v with
 |ref a=>
  simp only[tupOf]at h;split at h
  .rename_i e;cases h;exact⟨a,rfl,e⟩
  .cases h
 |_=>cases h
def gJ(h:lstOf H v=some xs):∃a,v=.ref a/\H a=some (.lst xs):=by
 cases v with
 |ref a=>
  simp only[lstOf]at h;split at h
  .rename_i e;cases h;exact⟨a,rfl,e⟩
  .cases h
 |_=>cases h
def n9(h:Ev te σ H v)(t:Thg H v):Ev (OP T te) σ H (.bl (nP T H v)):=λQ q=>h _ (by
 cases v with
 |ref a=>
  rcases t with⟨xs,e⟩|⟨xs,e⟩|⟨xs,e⟩<;>(simp only[D4,e];simp only[nP,e]at q;exact q)
 |non=>exact q
 |bl b=>exact q
 |int b=>exact q
 |str b=>exact q
 |_=>exact t.elim)
def Ar(t:Thg H v):(nP .int H v&& !nP .bool H v)=As v:=by
 cases v with
 |ref a=>rcases t with⟨xs,e⟩|⟨xs,e⟩|⟨xs,e⟩<;>(simp only[nP,e];rfl)
 |non=>rfl
 |bl b=>rfl
 |int b=>rfl
 |str b=>rfl
 |_=>exact t.elim
def vj(t:Thg H v):nP .str H v=(match v with| .str _=>true|_=>false):=by
 cases v with
 |ref a=>rcases t with⟨xs,e⟩|⟨xs,e⟩|⟨xs,e⟩<;>(simp only[nP,e];rfl)
 |non=>rfl
 |bl b=>rfl
 |int b=>rfl
 |str b=>rfl
 |_=>exact t.elim
def JL(t:Thg H v):nP .tuple H v=(tupOf H v).isSome:=by
 cases v with
 |ref a=>rcases t with⟨xs,e⟩|⟨xs,e⟩|⟨xs,e⟩<;>(simp only[nP,tupOf,e];rfl)
 |non=>rfl
 |bl b=>rfl
 |int b=>rfl
 |str b=>rfl
 |_=>exact t.elim
def KC(t:Thg H v):nP .list H v=(lstOf H v).isSome:=by
 cases v with
 |ref a=>rcases t with⟨xs,e⟩|⟨xs,e⟩|⟨xs,e⟩<;>(simp only[nP,lstOf,e];rfl)
 |non=>rfl
 |bl b=>rfl
 |int b=>rfl
 |str b=>rfl
 |_=>exact t.elim
def BO(z:Str)(ws:List Str):D5 (.str z) (ws.map V.str)=decide (z∈ws):=by
 unfold D5;rw[V7]
 by_cases h:z∈ws
 .rw[QT h];exact VF.mpr ⟨z,h,by simp[eqV]⟩
 .rw[QU h];apply VN.mpr;intro y hy;have:y≠z:=λe=>h (e▸hy);simp[eqV,this]
def zT(ss:List Str):(ss.map V.str).all flatV=true:=Vt.mpr λx hx=>by obtain⟨z,_,rfl⟩:=U7.mp hx;rfl
def wB(ha:Ev ta σ H (.str z))(hb:Ev tb σ H (.ref p))(h:aN K H p (ws.map V.str)\/cY K H p (ws.map V.str)):Ev (fT K .In ta tb) σ H (.bl (decide (z∈ws))):=λQ q=>ha _ (hb _ (by
 show gQ K .In (.str z) (.ref p) H Q;rw[ko];refine⟨p,_,rfl,h,rfl,zT ws,?_⟩;rw[BO];exact q))
end
noncomputable def sortsL:List Str:=["leap","slide","jump"]
noncomputable def aimsL:List Str:=["go","hit","any"]
noncomputable def gW:List Str:=["without","home"]
noncomputable def jT:List Str:=["lost","even","won"]
noncomputable def tupB(H:Hp)(v:V)(n:Int):Bool:=match tupOf H v with
 |some xs=>decide ((xs.length:Int)=n)
 |none=>false
noncomputable def lA(H:Hp)(v:V)(a b:Int):Bool:=match lstOf H v with
 |some xs=>decide (a<=(xs.length:Int)/\(xs.length:Int)<=b)
 |none=>false
noncomputable def limS(so:Str):Int:=if so="leap"then 3 else 1
noncomputable def lR(so:Str)(x y:V):Bool:=amongB x (-limS so) (limS so)&&amongB y (-limS so) (limS so)&& !(decide (x=.int 0)&&decide (y=.int 0))
noncomputable def jN(xs:List V)(ws:List Str):Bool:=match xs with
 | [k,.str so,.str ai,x,y]=>wordB k ws&&decide (so∈sortsL)&&decide (ai∈aimsL)&& !(decide (so="jump")&& !decide (ai="hit"))&&lR so x y
 |_=>false
noncomputable def eI(H:Hp)(v:V)(ws:List Str):Bool:=match tupOf H v with
 |some xs=>jN xs ws
 |none=>false
noncomputable def tY(xs:List V)(A B:List Str):Bool:=match xs with
 | [a,b]=>wordB a A&&wordB b B
 |_=>false
noncomputable def eP(H:Hp)(v:V)(A B:List Str):Bool:=match tupOf H v with
 |some xs=>tY xs A B
 |none=>false
noncomputable def pairsB(H:Hp)(v:V)(A B:List Str):Bool:=match lstOf H v with
 |some vs=>decide (vs.length<=6)&&vs.all (λx=>eP H x A B)
 |none=>false
noncomputable def cF(H:Hp)(v:V):Str:=match tupOf H v with
 |some (.str a::_)=>a
 |_=>Ss
noncomputable def ia(H:Hp)(v:V):Str:=match tupOf H v with
 |some (_:: .str b::_)=>b
 |_=>Ss
noncomputable def gr(H:Hp)(v:V)(ws:List Str):Bool:=pairsB H v ws ws&&match lstOf H v with
 |some vs=> !(vs.any λx=>decide (ia H x∈vs.map (cF H)))&&decide ((vs.map (cF H)).Nodup)
 |none=>false
def mP:Sp:=λvs H Q _=>∃v,vs=[v]/\Thg H v/\Q (.bl (As v)) H
def i8:Sp:=λvs H Q _=>∃v a b,vs=[v,.int a,.int b]/\Thg H v/\Q (.bl (amongB v a b)) H
def iO(K:Frag)(H:Hp)(d:YC)(ws:List Str):Prop:=aN K H d (ws.map V.str)\/cY K H d (ws.map V.str)
def jz(K:Frag):Sp:=λvs H Q _=>∃v d ws,vs=[v,.ref d]/\Thg H v/\iO K H d ws/\Q (.bl (wordB v ws)) H
def i7:Sp:=λvs H Q _=>∃v n,vs=[v,.int n]/\Thg H v/\Q (.bl (tupB H v n)) H
def qA:Sp:=λvs H Q _=>∃v a b,vs=[v,.int a,.int b]/\Thg H v/\Q (.bl (lA H v a b)) H
def xm:Sp:=λvs H Q _=>∃so x y,vs=[.str so,x,y]/\Thg H x/\Thg H y/\Q (.bl (lR so x y)) H
def xn(K:Frag):Sp:=λvs H Q _=>∃v d ws,vs=[v,.ref d]/\fU H 1 v/\iO K H d ws/\Q (.bl (eI H v ws)) H
def xo(K:Frag):Sp:=λvs H Q _=>∃v d e A B,vs=[v,.ref d,.ref e]/\fU H 1 v/\iO K H d A/\iO K H e B/\Q (.bl (eP H v A B)) H
def tF(K:Frag):Sp:=λvs H Q _=>∃v d e A B,vs=[v,.ref d,.ref e]/\fU H 2 v/\iO K H d A/\iO K H e B/\∀H',ah H H'->Q (.bl (pairsB H v A B)) H'
def tw(K:Frag):Sp:=λvs H Q _=>∃v d ws,vs=[v,.ref d]/\fU H 2 v/\iO K H d ws/\∀H',ah H H'->Q (.bl (gr H v ws)) H'
def xv(K:Frag):Sp:=λvs H Q _=>∃v d ws,vs=[v,.ref d]/\fU H 2 v/\iO K H d ws/\∀H',ah H H'->Q (.bl (pairsB H v gW ws)) H'
def w6(ha:Ev ta σ H (.bl a))(h1:a=true->tb σ H Q)(h2:a=false->Q (.bl false) H):yu ta tb σ H Q:=ha _ (by
 cases a with
 |true=>exact h1 rfl
 |false=>exact h2 rfl)
def Cs{K:Frag}{σ:St}{H:Hp}{Q:VK}{ta tb:TE}{op:UC}(h:ta σ H λx H1=>tb σ H1 λy H2=>gQ K op x y H2 Q):fT K op ta tb σ H Q:=h
def zg(h:pairsB H v A B=true):∃xs,lstOf H v=some xs/\xs.length<=6/\∀x∈xs,∃c f1 f2,x=.ref c/\H c=some (.tup [.str f1,.str f2]):=by
 unfold pairsB at h;cases e1:lstOf H v with
 |none=>rw[e1]at h;cases h
 |some xs=>
  rw[e1]at h;have h:(decide (xs.length<=6)&&xs.all (λx=>eP H x A B))=true:=h;rw[Xx]at h;refine⟨xs,rfl,QX h.1,λx hx=>?_⟩;have hp:=Vt.mp h.2 x hx;unfold eP at hp;cases e2:tupOf H x with
  |none=>rw[e2]at hp;cases hp
  |some ys=>
   rw[e2]at hp;obtain⟨c,rfl,hc⟩:=gv e2;have hp:tY ys A B=true:=hp
   match ys,hp,hc with
   | [a,b],hp,hc=>
     have hp:(wordB a A&&wordB b B)=true:=hp;rw[Xx]at hp;cases a with
     |str f1=>
      cases b with
      |str f2=>exact⟨c,f1,f2,rfl,hc⟩
      |_=>cases hp.2
     |_=>cases hp.1
   | [],hp,_=>cases hp
   | [_],hp,_=>cases hp
   |_::_::_::_,hp,_=>cases hp
structure RG0(P:Rg)(w:Rk)(K:Frag)(mg:Q3)(QR:Rq):Prop where
 is_whole:cC P w K mg QR "is_whole" ["thing"] 1 mP
structure RG1(P:Rg)(w:Rk)(K:Frag)(mg:Q3)(QR:Rq):Prop where
 is_among:cC P w K mg QR "is_among" ["thing","least","most"] 2 i8
structure RG2(P:Rg)(w:Rk)(K:Frag)(mg:Q3)(QR:Rq):Prop where
 is_word:cC P w K mg QR "is_word" ["thing","words"] 1 (jz K)
 is_tuple_of:cC P w K mg QR "is_tuple_of" ["thing","many"] 1 i7
structure RG3(P:Rg)(w:Rk)(K:Frag)(mg:Q3)(QR:Rq):Prop extends RG2 P w K mg QR where
 is_step:cC P w K mg QR "is_step" ["sort","across","up"] 3 xm
structure RG4(P:Rg)(w:Rk)(K:Frag)(mg:Q3)(QR:Rq):Prop where
 is_list_of:cC P w K mg QR "is_list_of" ["thing","least","most"] 1 qA
 is_pair:cC P w K mg QR "is_pair" ["thing","firsts","seconds"] 2 (xo K)
structure RG5(P:Rg)(w:Rk)(K:Frag)(mg:Q3)(QR:Rq):Prop where
 are_pairs:cC P w K mg QR "are_pairs" ["thing","firsts","seconds"] 3 (tF K)
noncomputable def letB:V->Bool
 | .str z=>match z.cps.toList with
   | [c]=>decide (97<=c/\c<=122)
   |_=>false
 |_=>false
noncomputable def iZ:V->Str
 | .str z=>z
 |_=>Ss
noncomputable def nJ(H:Hp)(v:V):Bool:=match lstOf H v with
 |some xs=>decide (1<=xs.length/\xs.length<=6)&&xs.all letB&&decide ((xs.map iZ).Nodup)
 |none=>false
noncomputable def fY(H:Hp)(v:V)(ws:List Str):Bool:=match lstOf H v with
 |some xs=>decide (xs.length<=24)&&xs.all (λx=>eI H x ws)
 |none=>false
def NN:("a":Str).cps.toList=[97]:=by decide+kernel
def NL:("z":Str).cps.toList=[122]:=by decide+kernel
def KB{c d:Nat}:([c]<[d])<->c<d:=by
 constructor
 .intro h;cases h with
  |rel h=>exact h
  |cons h=>cases h
 .intro h;exact List.Lex.rel h
def Ej{K:Frag}{σ:St}{H:Hp}{ta tb tc:TE}{x y z:Str}(ha:Ev ta σ H (.str x))(hb:Ev tb σ H (.str y))(hc:Ev tc σ H (.str z)):Ev (sj K .LtE .LtE ta tb tc) σ H (.bl (!decide (y.cps.toList<x.cps.toList)&& !decide (z.cps.toList<y.cps.toList))):=λQ q=>ha _ (hb _ (by
 show gQ K .LtE (.str x) (.str y) H _;rw[y0,r_b];cases h: !decide (y.cps.toList<x.cps.toList)with
 |true=>
  rw[h]at q;exact hc _ q
 |false=>
  rw[h]at q;exact q))
def pz:Sp:=λvs H Q _=>∃v,vs=[v]/\Thg H v/\Q (.bl (letB v)) H
def tG:Sp:=λvs H Q _=>∃v,vs=[v]/\fU H 1 v/\∀H',ah H H'->Q (.bl (nJ H v)) H'
def tE(K:Frag):Sp:=λvs H Q _=>∃v d ws,vs=[v,.ref d]/\fU H 2 v/\iO K H d ws/\∀H',ah H H'->Q (.bl (fY H v ws)) H'
def BG(h:letB v=true):∃c,v=.str (one c)/\lN c:=by
 cases v with
 |str z=>
  match e:z.cps.toList with
  | [c]=>
    simp only[letB,e]at h;exact⟨c,by rw[qv (x:=z) (y:=one c) (by rw[e])],QX (p:=97<=c/\c<=122) h⟩
  | []=>simp only[letB,e]at h;cases h
  |_::_::_=>simp only[letB,e]at h;cases h
 |_=>cases h
structure uZ(K:Frag)(C:YC):Prop where
 cl:oA K C
 board:bN K C "board"
 kinds:bN K C "kinds"
 rules:bN K C "rules"
 turns:bN K C "turns"
 ends:bN K C "ends"
 stuck:bN K C "stuck"
noncomputable def gf1(b:YC):List (Str×V):=putF "board" (.ref b) []
noncomputable def gf2(b k:YC):List (Str×V):=putF "kinds" (.ref k) (gf1 b)
noncomputable def gf3(b k r:YC):List (Str×V):=putF "rules" (.ref r) (gf2 b k)
noncomputable def gf4(b k r t:YC):List (Str×V):=putF "turns" (.ref t) (gf3 b k r)
noncomputable def CV(b k r t e:YC):List (Str×V):=putF "ends" (.ref e) (gf4 b k r t)
noncomputable def gP(b k r t e:YC)(st:Str):List (Str×V):=putF "stuck" (.str st) (CV b k r t e)
section
variable{b k r t e:YC}{st:Str}
def BY:(gP b k r t e st).lookup ("board":Str)=some (.ref b):=by unfold gP CV gf4 gf3 gf2 gf1;rw[ao,QV (by decide+kernel),ao,QV (by decide+kernel),ao,QV (by decide+kernel),ao,QV (by decide+kernel),ao,QV (by decide+kernel),ao,QW rfl]
def BX:(gP b k r t e st).lookup ("kinds":Str)=some (.ref k):=by unfold gP CV gf4 gf3 gf2;rw[ao,QV (by decide+kernel),ao,QV (by decide+kernel),ao,QV (by decide+kernel),ao,QV (by decide+kernel),ao,QW rfl]
def BW:(gP b k r t e st).lookup ("rules":Str)=some (.ref r):=by unfold gP CV gf4 gf3;rw[ao,QV (by decide+kernel),ao,QV (by decide+kernel),ao,QV (by decide+kernel),ao,QW rfl]
def BU:(gP b k r t e st).lookup ("turns":Str)=some (.ref t):=by unfold gP CV gf4;rw[ao,QV (by decide+kernel),ao,QV (by decide+kernel),ao,QW rfl]
def Ea:(gP b k r t e st).lookup ("ends":Str)=some (.ref e):=by unfold gP CV;rw[ao,QV (by decide+kernel),ao,QW rfl]
def BV:(gP b k r t e st).lookup ("stuck":Str)=some (.str st):=by unfold gP;rw[ao,QW rfl]
def Ou{m:Str}(h1:¬m="board")(h2:¬m="kinds")(h3:¬m="rules")(h4:¬m="turns")(h5:¬m="ends")(h6:¬m="stuck"):(gP b k r t e st).lookup m=none:=by unfold gP CV gf4 gf3 gf2 gf1;rw[ao,QV h6,ao,QV h5,ao,QV h4,ao,QV h3,ao,QV h2,ao,QV h1];rfl
def KY:(gf1 b).length<=1/\(gf2 b k).length<=2/\(gf3 b k r).length<=3/\(gf4 b k r t).length<=4/\(CV b k r t e).length<=5:=by have a1:(gf1 b).length<=1:=bw "board" (.ref b) [];have a2:(gf2 b k).length<=(gf1 b).length+1:=bw "kinds" (.ref k) (gf1 b);have a3:(gf3 b k r).length<=(gf2 b k).length+1:=bw "rules" (.ref r) (gf2 b k);have a4:(gf4 b k r t).length<=(gf3 b k r).length+1:=bw "turns" (.ref t) (gf3 b k r);have a5:(CV b k r t e).length<=(gf4 b k r t).length+1:=bw "ends" (.ref e) (gf4 b k r t);lia
end
structure fA(C:YC)(H:Hp)(p b:YC)(ks rs ts es:List V)(st:Str):Prop where
 ex:∃dx kq rq tq eq,H p=some (.ins C dx (gP b kq rq tq eq st))/\H kq=some (.lst ks)/\H rq=some (.lst rs)/\H tq=some (.lst ts)/\H eq=some (.lst es)
section
variable{K:Frag}{C:YC}{H H':Hp}{p b:YC}{ks rs ts es:List V}{st:Str}
def fA.same(G:fA C H p b ks rs ts es st)(s:ah H H'):fA C H' p b ks rs ts es st:=by obtain⟨dx,kq,rq,tq,eq,a,c,d,e,f⟩:=G.ex;exact⟨dx,kq,rq,tq,eq,s _ _ a,s _ _ c,s _ _ d,s _ _ e,s _ _ f⟩
theorem fA.board(G:fA C H p b ks rs ts es st)(D:uZ K C):Fl K H p "board" (.ref b):=by obtain⟨dx,kq,rq,tq,eq,a,_⟩:=G.ex;exact⟨C,dx,_,a,D.cl,D.board,BY⟩
theorem fA.kinds(G:fA C H p b ks rs ts es st)(D:uZ K C):∃q,Fl K H p "kinds" (.ref q)/\H q=some (.lst ks):=by obtain⟨dx,kq,rq,tq,eq,a,c,d,e,f⟩:=G.ex;exact⟨kq,⟨C,dx,_,a,D.cl,D.kinds,BX⟩,c⟩
theorem fA.rules(G:fA C H p b ks rs ts es st)(D:uZ K C):∃q,Fl K H p "rules" (.ref q)/\H q=some (.lst rs):=by obtain⟨dx,kq,rq,tq,eq,a,c,d,e,f⟩:=G.ex;exact⟨rq,⟨C,dx,_,a,D.cl,D.rules,BW⟩,d⟩
theorem fA.turns(G:fA C H p b ks rs ts es st)(D:uZ K C):∃q,Fl K H p "turns" (.ref q)/\H q=some (.lst ts):=by obtain⟨dx,kq,rq,tq,eq,a,c,d,e,f⟩:=G.ex;exact⟨tq,⟨C,dx,_,a,D.cl,D.turns,BU⟩,e⟩
theorem fA.ends(G:fA C H p b ks rs ts es st)(D:uZ K C):∃q,Fl K H p "ends" (.ref q)/\H q=some (.lst es):=by obtain⟨dx,kq,rq,tq,eq,a,c,d,e,f⟩:=G.ex;exact⟨eq,⟨C,dx,_,a,D.cl,D.ends,Ea⟩,f⟩
theorem fA.stuck(G:fA C H p b ks rs ts es st)(D:uZ K C):Fl K H p "stuck" (.str st):=by obtain⟨dx,kq,rq,tq,eq,a,_⟩:=G.ex;exact⟨C,dx,_,a,D.cl,D.stuck,BV⟩
def fA.no(G:fA C H p b ks rs ts es st){m:Str}(h1:¬m="board":=by decide+kernel)(h2:¬m="kinds":=by decide+kernel)(h3:¬m="rules":=by decide+kernel)(h4:¬m="turns":=by decide+kernel)(h5:¬m="ends":=by decide+kernel)(h6:¬m="stuck":=by decide+kernel):kW C m H p:=by obtain⟨dx,kq,rq,tq,eq,a,_⟩:=G.ex;exact⟨dx,_,a,Ou h1 h2 h3 h4 h5 h6⟩
end
section
def vR(t:Thg H v)(s:ah H H'):eP H' v A B=eP H v A B:=by unfold eP;rw[gw t s]
def vK(t:Thg H v)(s:ah H H'):eI H' v ws=eI H v ws:=by unfold eI;rw[gw t s]
def zR(t:Thg H v)(s:ah H H'):cF H' v=cF H v:=by unfold cF;rw[gw t s]
def yJ(t:Thg H v)(s:ah H H'):ia H' v=ia H v:=by unfold ia;rw[gw t s]
def uT{xs:List V}(h:∀x∈xs,f x=g x):xs.all f=xs.all g:=by
 induction xs with
 |nil=>rfl
 |cons a r ih=>rw[Vv,Vv,h a (by simp),ih λx hx=>h x (by simp[hx])]
def CG{xs:List V}(h:∀x∈xs,f x=g x):xs.any f=xs.any g:=by
 induction xs with
 |nil=>rfl
 |cons a r ih=>rw[VO,VO,h a (by simp),ih λx hx=>h x (by simp[hx])]
def lT(t:fU H 2 v)(s:ah H H'):pairsB H' v A B=pairsB H v A B:=by
 unfold pairsB;rw[iF t.1 s];cases e:lstOf H v with
 |none=>rfl
 |some xs=>
  show(_&&xs.all _)=(_&&xs.all _);rw[uT (g:=λx=>eP H x A B) λx hx=>vR (t.2 xs (.inr e) x hx).thg s]
def tU(t:fU H 2 v)(s:ah H H'):fY H' v ws=fY H v ws:=by
 unfold fY;rw[iF t.1 s];cases e:lstOf H v with
 |none=>rfl
 |some xs=>
  show(_&&xs.all _)=(_&&xs.all _);rw[uT (g:=λx=>eI H x ws) λx hx=>vK (t.2 xs (.inr e) x hx).thg s]
def sW(t:fU H 2 v)(s:ah H H'):gr H' v ws=gr H v ws:=by
 unfold gr;rw[lT t s,iF t.1 s];cases e:lstOf H v with
 |none=>rfl
 |some xs=>
  have tx:∀x∈xs,Thg H x:=λx hx=>(t.2 xs (.inr e) x hx).thg;have em:xs.map (cF H')=xs.map (cF H):=VD λx hx=>zR (tx x hx) s;show(_&&((!xs.any λx=>decide (ia H' x∈xs.map (cF H')))&&decide ((xs.map (cF H')).Nodup)))=(_&&((!xs.any λx=>decide (ia H x∈xs.map (cF H)))&&decide ((xs.map (cF H)).Nodup)));rw[em,CG (g:=λx=>decide (ia H x∈xs.map (cF H))) λx hx=>by rw[yJ (tx x hx) s]]
end
def xu(K:Frag)(C:YC):Sp:=λvs H Q _=>∃p b kd rd td ed dx ws rs ts es st,vs=[.ref p,.ref b,.ref kd,.ref rd,.ref td,.ref ed,.str st]/\H p=some (.ins C dx [])/\H kd=some (.lst (ws.map V.str))/\H rd=some (.lst rs)/\H td=some (.lst ts)/\H ed=some (.lst es)/\
 fU H 1 (.ref kd)/\fU H 2 (.ref rd)/\fU H 2 (.ref td)/\fU H 2 (.ref ed)/\nJ H (.ref kd)=true/\fY H (.ref rd) ws=true/\gr H (.ref td) ws=true/\pairsB H (.ref ed) gW ws=true/\st∈jT/\st.length<=1000/\
 ∀H',fA C H' p b (ws.map V.str) rs ts es st->SameBut p H H'->Q .non H'
structure QG(P:Rg)(w:Rk)(K:Frag)(mg:Q3)(QR:Rq):Prop where
 is_list_of:cC P w K mg QR "is_list_of" ["thing","least","most"] 1 qA
 is_letter:cC P w K mg QR "is_letter" ["thing"] 1 pz
 is_rule:cC P w K mg QR "is_rule" ["thing","kinds"] 4 (xn K)
structure GG2(P:Rg)(w:Rk)(K:Frag)(mg:Q3)(QR:Rq):Prop where
 are_kinds:cC P w K mg QR "are_kinds" ["thing"] 2 tG
 are_rules:cC P w K mg QR "are_rules" ["thing","kinds"] 5 (tE K)
 is_turns:cC P w K mg QR "is_turns" ["thing","kinds"] 4 (tw K)
 is_ends:cC P w K mg QR "is_ends" ["thing","kinds"] 4 (xv K)
 is_word:cC P w K mg QR "is_word" ["thing","words"] 1 (jz K)
def mr{K:Frag}{σ:St}{H:Hp}{to te:TE}{u:TS}{D:o8}{f:Str}{p C dx d:YC}{fs:List (Str×V)}{xs:List V}(he:Ev te σ H (.ref d))(hd:H d=some (.lst xs))(ho:∀H',Ev to σ H' (.ref p))(hp:H p=some (.ins C dx fs))(hc:oA K C)(hn:bN K C f)(hl:fs.length<1000)(h2:∀q,H q=none->u D σ (upd (upd H q (.lst xs)) p (.ins C dx (putF f (.ref q) fs)))):bg (ma K to (cB (ul K) (bf te cw)) f) u D σ H:=
 he _ ⟨xs,.inl (aN.of hd),λq hq=>ho _ _ ⟨p,C,dx,fs,rfl,by rw[ak (ay hp hq)];exact hp,hc,hn,hl,h2 q hq⟩⟩
end L2
namespace L2
open PySem
def di{N P:List Str}{sc:Tn}(a:sc.kind=.function:=by rfl)(b:sc.isCoroutine=false:=by rfl)(c:sc.isGenerator=false:=by rfl)(d:N.Nodup:=by decide+kernel)(e:N.take P.length=P:=by rfl)(f:∀x∈P,sc.names.lookup x=some .local\/sc.names.lookup x=some .cell:=by decide+kernel)(g:∀y∈sc.names,y.2≠.free:=by decide+kernel):aC N P sc:=⟨a,b,c,d,e,f,g⟩
end L2
namespace L2
open PySem PySem.Spec PyProof.Rows
def An(H:Hp):V->Prop
 | .non=>True
 | .bl _=>True
 | .int _=>True
 | .str z=>z.length<=1000
 | .ref a=>(∃xs,H a=some (.lst xs))\/(∃xs,H a=some (.tup xs))
 |_=>False
def lL(H:Hp):Nat->V->Prop
 |0,v=>An H v
 |n+1,v=>An H v/\∀xs,(tupOf H v=some xs\/lstOf H v=some xs)->∀x∈xs,lL H n x
def An.thg(h:An H v):Thg H v:=by
 cases v with
 |ref a=>
  rcases h with h|h
  .exact .inl h
  .exact .inr (.inl h)
 |_=>exact h
theorem lL.n:∀{n:Nat}{v:V},lL H n v->fU H n v
 |0,v,h=>An.thg h
 |n+1,v,h=>⟨h.1.thg,λxs hx x hm=>(h.2 xs hx x hm).n⟩
def lL.flat{n:Nat}(h:An H v)(f:flatV v=true):lL H n v:=by
 cases n with
 |zero=>exact h
 |succ n=>
  refine⟨h,λxs hx=>?_⟩;cases v with
  |ref a=>cases f
  |_=>rcases hx with z|z<;>cases z
theorem lL.lst{n:Nat}{xs:List V}(h:H a=some (.lst xs))(hx:∀x∈xs,lL H n x):lL H (n+1) (.ref a):=⟨.inl ⟨xs,h⟩,λys hy=>by
 rcases hy with z|z
 .simp only[tupOf,h]at z;cases z
 .simp only[lstOf,h]at z;cases z;exact hx⟩
theorem lL.tup{n:Nat}{xs:List V}(h:H a=some (.tup xs))(hx:∀x∈xs,lL H n x):lL H (n+1) (.ref a):=⟨.inr ⟨xs,h⟩,λys hy=>by
 rcases hy with z|z
 .simp only[tupOf,h]at z;cases z;exact hx
 .simp only[lstOf,h]at z;cases z⟩
section
def Df(ho:iS X (RD op) r)(ha:PE X a ta)(hb:PE X b tb)(hm:behindInMarks op b=false):PT X (.Compare a [op] [b] pos) (gh λσ H Q=>ta σ H λx H1=>tb σ H1 λy H2=>r x y H2 Q):=by intro QQ s σ H Q I h;refine S7 (bH (ha QQ s σ H _ I h) λv s1 ⟨x,H1,I1,r1,q1⟩=>bH (hb QQ s1 σ H1 _ I1 q1) λu s2 ⟨y,H2,I2,r2,q2⟩=>bH (ho QQ s2 σ H2 x y v u _ I2 r1 r2 q2) λc s3 ⟨z,H3,I3,r3,q3⟩=>?_) hm;obtain⟨k,rfl,q4⟩:=eX q3;cases r3;exact Rv ⟨H3,I3,q4⟩
end
noncomputable def Jj:V->Bool
 | .ref _=>true
 |_=>false
def Cg{K:Frag}{H:Hp}{n:Nat}{x:V}(h:(flatV x||Jj x)=true):jv K H n x x true:=by
 cases hf:flatV x with
 |true=>
  have:=jv.flat (K:=K) (H:=H) (n:=n) hf hf;rw[Cc hf]at this;exact this
 |false=>
  cases x with
  |ref a=>exact .same
  |_=>first|(cases hf;done)|(rw[hf]at h;cases h)
def Cf{K:Frag}{H:Hp}{n:Nat}{a b:YC}{xs:List V}(ha:aN K H a xs)(hb:aN K H b xs)(hf:∀x∈xs,(flatV x||Jj x)=true):o7 K H (n+1) (.ref a) (.ref b) true:=by
 have h:=o7.lst (es:=λ_=>true) (n:=n) ha hb rfl (λi x y hx hy=>by
  rw[hx]at hy;cases hy;exact Cg (hf x (Vn hx)))
 rw[show((List.range xs.length).all λ_=>true)=true from Vt.mpr λ_ _=>rfl]at h;exact h
section
def Ql(ha:PE X a ta)(hb:PE X b tb):PE X (.BinOp a .Mult b pos) (Pb NP ta tb):=Jb Kh ha hb
def Cy(to te:TE):TE:=λσ H Q=>to σ H λx H1=>match x with
 | .ref l=>(∃xs,H1 l=some (.lst xs))/\te σ H1 λy H2=>vP (.ref l) [y] H2 Q
 |_=>False
def Ct{apos cpos:Uk}(ho:PE X o to)(he:PE X e te)(hbase:RK o "pop" X.env (RH o X.env)=RH o X.env:=by rfl)(hfew:((RE cpos (Rc [e] X.env)).all (λx=> !x.1)&&(SS cpos (Se [] X.env)).all (λx=>x.1.isSome)
   &&decide ([e].length+([]:List Sl).length+(if([]:List Sl).isEmpty then 0 else 1)<30))=true:=by rfl) (hline:(apos.endLine == cpos.line)=true:=by rfl) (hs:Rc [e] X.env=(false,RH e X.env)::Rc [] X.env:=by rfl) (hplain:(RE cpos (Rc [] X.env)).any (·.1)=false:=by rfl):PE X (.Call (.Attribute o "pop" apos) [e] [] cpos) (Cy to te):=by
 intro QQ s σ H Q I h;refine RY hbase hfew hline rfl (bH (ho QQ s σ H _ I h) λv s1 ⟨x,H1,I1,r1,q1⟩=>?_);cases x with
 |ref l=>
  obtain⟨⟨xs0,e0⟩,q1⟩:=q1;have ty:Db X.K "list" (.ref l) H1:=.inl ⟨rfl,xs0,aN.of e0⟩;obtain⟨h1,h2⟩:=iV I1 r1 ty;refine⟨"list","list.pop",PySem.F.plainAttrs_list,PySem.F.slot_list_pop,PySem.F.type_list_pop,h1,h2,?_⟩;have hA:=(pa_cons he pan hs:PA X [e] (bf te cw)) cpos QQ s1 σ H1 (λvs H2=>vP (.ref l) vs H2 Q) I1 q1;rw[hs]at hA ⊢;refine RA (by show(false||(RE cpos (Rc [] X.env)).any (·.1))=false;rw[hplain]<;>rfl) (RW ?_)
  exact bH hA λus s2 ⟨vs,H2,I2,r2,q2⟩=>By QQ s2 σ H2 _ vs v us Q I2 r1 r2 q2
 |_=>exact q1.elim
end
section
def IZ{l:YC}{i:Int}{P:V->Hp->Prop}(h:∀Q:VK,(∀v H',P v H'->Q v H')->te σ H Q)(h2:∀v H',P v H'->Ev to σ H' (.ref l)/\Ev ti σ H' (.int i)/\∃xs,H' l=some (.lst xs)/\0<=i/\i<xs.length/\D.nx σ (upd H' l (.lst (xs.set i.toNat v)))):tAsg te (gSub to ti A7) D σ H:=
 h _ λv H' p=>by obtain⟨ho,hi,xs,hl,h0,h1,q⟩:=h2 v H' p;refine ho _ (hi _ ⟨l,xs,i,i.toNat,rfl,rfl,hl,?_,q⟩);unfold ixN;rw[QW h0,QW h1]
end
structure OX(z TI TO i1 i2:YC):Prop where
 a:TI≠z
 b:TO≠z
 c:i1≠z
 d:i2≠z
 e:TI≠TO
 f:TO≠i1
 g:TO≠i2
 h:i1≠i2
 i:TI≠i1
 j:TI≠i2
section
variable{prog:Rg}{w:Rk}{A:Sd}{E:Q4}{s:Rb}{z TI TO i1 i2:YC}{n1 n2 i:Nat}{P1 P2:Nat->YB->Prop}{S1 S2:Nat->Rq->Prop}{a b:YB}
def C3{Q:Q4}(D1:Draws prog w A i1 [i1] n1 P1 S1)(D2:Draws prog w A i2 [i2] n2 P2 S2)(ap:OX z TI TO i1 i2)(hz:TJ s.heap z TI TO .none)(hTI:SE s.heap TI (.ref i1) (.ref i2))(hTO:SE s.heap TO a b)(h1:S1 i s.heap)(h2:S2 i s.heap)(l1:i<n1)(l2:i<n2)(hQ:∀x y h' tk,P1 i x->P2 i y->TJ h' z TI TO (Ti s.heap.objs.size)->SE h' TO x y->S1 (i+1) h'->S2 (i+1) h'->SE h' s.heap.objs.size x y->(∀c o,c≠z->c≠TO->c≠i1->c≠i2->s.heap.get? c=some o->h'.get? c=some o)->Q (.ref s.heap.objs.size) {s with heap:=h',toks:=tk}):Ra (Rh prog w) A (Sr.«zip.__next__» ⟨[.ref z],[]⟩) (λfin s'=>∃v,fin=.done (.ret v)/\Q v s') E s:=by
 have f1:∀{k:Nat}{c:YC}{g g':Rq},S1 k g->RQ c g g'->i1≠c->S1 k g':=λst sb ne=>D1.frame _ _ _ st λq hq o ho=>by rw[Vb.mp hq]at ho ⊢;exact sb.extBut _ _ ne ho
 have f2:∀{k:Nat}{c:YC}{g g':Rq},S2 k g->RQ c g g'->i2≠c->S2 k g':=λst sb ne=>D2.frame _ _ _ st λq hq o ho=>by rw[Vb.mp hq]at ho ⊢;exact sb.extBut _ _ ne ho
 refine Q6 (m:=field (.ref z) 2) (R8 hz rfl (x:=.bool false) rfl (Q6 (m:=field (.ref z) 3) (R8 hz rfl (x:=.ref TI) rfl (Q6 (RN hTI rfl ?_)))));refine Q6 (m:=RS (.ref z)) ?_;unfold RS;refine Q6 (R8 hz rfl (x:=.none) rfl (Q7 ?_));rw[QW rfl];refine Q6 (T6 ?_);refine Q6 (R8 hz rfl (x:=.ref TO) rfl (Q6 (Sx hz (by simp) λg1 zz1 b1=>Q6 ?_)));have z1:TJ g1 z TI TO .ellipsis:=zz1;simp only[List.zipIdx_cons,List.zipIdx_nil,Wh,List.forIn_nil];refine Q6 (Q6 (Ux (Q6 (m:=SN (.ref i1)) (D1.item i _ _ _ l1 (f1 h1 b1 ap.c) λx g2 k2 p1 t2 b2=>Q7 ?_))));have o2:SE g2 TO a b:=b2.extBut _ _ ap.f (b1.extBut _ _ ap.b hTO);refine Q6 (RN o2 rfl (Q6 (wpAny_updateSeq_pair o2 λg3 oo3 b3=>Q6 (wpAny_letGo (Q7 ?_)))));have o3:SE g3 TO x b:=oo3;refine Q6 (Q6 (Ux (Q6 (m:=SN (.ref i2)) (D2.item i _ _ _ l2 (f2 (f2 (f2 h2 b1 ap.d) b2 ap.h.symm) b3 ap.g.symm) λy g4 k4 p2 t4 b4=>Q7 ?_))));have o4:SE g4 TO x b:=b4.extBut _ _ ap.g o3;refine Q6 (RN o4 rfl (Q6 (wpAny_updateSeq_pair o4 λg5 oo5 b5=>Q6 (wpAny_letGo (Q7 (Q7 ?_))))));have o5:SE g5 TO x y:=oo5;have n5:g5.objs.size=s.heap.objs.size:=by rw[b5.1,b4.1,b3.1,b2.1,b1.1]
 have z5:TJ g5 z TI TO .ellipsis:=b5.extBut _ _ ap.b.symm (b4.extBut _ _ ap.d.symm (b3.extBut _ _ ap.b.symm (b2.extBut _ _ ap.c.symm z1)));have u1:S1 (i+1) g5:=f1 (f1 (f1 t2 b3 ap.f.symm) b4 ap.h) b5 ap.f.symm;have u2:S2 (i+1) g5:=f2 t4 b5 ap.g.symm;have zl:z<g5.objs.size:=Q9 z5;refine Q6 (RN o5 rfl (Q6 (wpAny_newTuple (Q6 (m:=SQ (.ref z) (.ref g5.objs.size)) ?_))));unfold SQ;have z6:TJ (g5.push {cls:=.type "tuple",data:=.seq #[x,y]}) z TI TO .ellipsis:=Q8 _ z5;refine Q6 (Sx z6 (by simp) λg7 zz7 b7=>Sx (show TJ g7 z TI TO (Ti g5.objs.size)from zz7) (by simp) λg8 zz8 b8=>Q7 ⟨_,rfl,?_⟩);have z8:TJ g8 z TI TO (Ti g5.objs.size):=zz8;have up:∀c o,c≠z->g5.get? c=some o->g8.get? c=some o:=λc o c1 e=>b8.extBut _ _ c1 (b7.extBut _ _ c1 (Q8 _ e));have t8:SE g8 g5.objs.size x y:=b8.extBut _ _ (WX zl) (b7.extBut _ _ (WX zl) (Re _ rfl));show Q (.ref g5.objs.size) _;rw[n5]at z8 t8 ⊢;exact hQ x y g8 k4 p1 p2 z8 (up _ _ ap.b o5) (D1.frame _ _ _ u1 λq hq o ho=>by rw[Vb.mp hq]at ho ⊢;exact up _ _ ap.c ho) (D2.frame _ _ _ u2 λq hq o ho=>by rw[Vb.mp hq]at ho ⊢;exact up _ _ ap.d ho) t8 λc o c1 c2 c3 c4 e=>up c o c1 (b5.extBut _ _ c2 (b4.extBut _ _ c4 (b3.extBut _ _ c2 (b2.extBut _ _ c3 (b1.extBut _ _ c1 e)))))
def JD(D1:Draws prog w A i1 [i1] n1 P1 S1)(ap:OX z TI TO i1 i2)(hz:TJ s.heap z TI TO .none)(hTI:SE s.heap TI (.ref i1) (.ref i2))(h1:S1 n1 s.heap)(hE:∀h' e,(∀c o,c≠z->c≠i1->s.heap.get? c=some o->h'.get? c=some o)->(∃o,h'.get? e=some o/\o.cls=.type "StopIteration")->E (.ref e) {s with heap:=h'}):Ra (Rh prog w) A (Sr.«zip.__next__» ⟨[.ref z],[]⟩) Q E s:=by
 have f1:∀{k:Nat}{c:YC}{g g':Rq},S1 k g->RQ c g g'->i1≠c->S1 k g':=λst sb ne=>D1.frame _ _ _ st λq hq o ho=>by rw[Vb.mp hq]at ho ⊢;exact sb.extBut _ _ ne ho
 refine Q6 (m:=field (.ref z) 2) (R8 hz rfl (x:=.bool false) rfl (Q6 (m:=field (.ref z) 3) (R8 hz rfl (x:=.ref TI) rfl (Q6 (RN hTI rfl ?_)))));refine Q6 (m:=RS (.ref z)) ?_;unfold RS;refine Q6 (R8 hz rfl (x:=.none) rfl (Q7 ?_));rw[QW rfl];refine Q6 (T6 ?_);refine Q6 (R8 hz rfl (x:=.ref TO) rfl (Q6 (Sx hz (by simp) λg1 zz1 b1=>Q6 ?_)));have z1:TJ g1 z TI TO .ellipsis:=zz1;simp only[List.zipIdx_cons,List.zipIdx_nil,Wh,List.forIn_nil];refine Q6 (Q6 (Ux (Q6 (m:=SN (.ref i1)) (D1.done _ _ _ (f1 h1 b1 ap.c) λg2 e b2 he=>?_))));obtain⟨oe,hoe,hce⟩:=he;have z2:TJ g2 z TI TO .ellipsis:=b2 _ _ ap.c.symm z1;have ne:e≠z:=λq=>by rw[q]at hoe;have z2':g2.get? z=_:=z2;rw[z2']at hoe;cases hoe;simp at hce
 exact Sx z2 (by simp) λg3 _ b3=>hE g3 e (λc o c1 c3 q=>b3.extBut _ _ c1 (b2 _ _ c3 (b1.extBut _ _ c1 q))) ⟨oe,b3.extBut _ _ ne hoe,hce⟩
def C0(D1:Draws prog w A.in1 i1 [i1] n1 P1 S1)(D2:Draws prog w A.in1 i2 [i2] n2 P2 S2)(ap:OX z TI TO i1 i2)(hz:TJ s.heap z TI TO .none)(hTI:SE s.heap TI (.ref i1) (.ref i2))(hTO:SE s.heap TO a b)(h1:S1 i s.heap)(h2:S2 i s.heap)(l1:i<n1)(l2:i<n2)(hQ:∀x y h' tk,P1 i x->P2 i y->TJ h' z TI TO (Ti s.heap.objs.size)->SE h' TO x y->S1 (i+1) h'->S2 (i+1) h'->SE h' s.heap.objs.size x y->(∀c o,c≠z->c≠TO->c≠i1->c≠i2->s.heap.get? c=some o->h'.get? c=some o)->Q (some (.ref s.heap.objs.size)) {s with heap:=h',toks:=tk}):Ra (Rh prog w) A (Sm (.ref z)) Q E s:=by have hT:s.TypeIs (.ref z) "zip":=⟨_,hz,rfl⟩;unfold Sm;exact Q6 (SB (RC (name:=SA "__next__") hT Tk (RJ Tk hT F.entry_zip_next (C3 D1 D2 ap hz hTI hTO h1 h2 l1 l2 λx y h' tk q1 q2 q3 q4 q5 q6 q7 q8=>Q7 (hQ x y h' tk q1 q2 q3 q4 q5 q6 q7 q8)) (F.args_zip_next_1 _))))
def CZ(D1:Draws prog w A.in1 i1 [i1] n1 P1 S1)(ap:OX z TI TO i1 i2)(hz:TJ s.heap z TI TO .none)(hTI:SE s.heap TI (.ref i1) (.ref i2))(h1:S1 n1 s.heap)(hQ:∀h',(∀c o,c≠z->c≠i1->s.heap.get? c=some o->h'.get? c=some o)->Q none {s with heap:=h'}):Ra (Rh prog w) A (Sm (.ref z)) Q E s:=by have hT:s.TypeIs (.ref z) "zip":=⟨_,hz,rfl⟩;unfold Sm;refine Q6 (SB (RC (name:=SA "__next__") hT Tk (RJ Tk hT F.entry_zip_next (JD D1 ap hz hTI h1 λh' e hk he=>?_) (F.args_zip_next_1 _))));obtain⟨o,ho,hc⟩:=he;exact Q6 (SK (T:="StopIteration") (b:=true) ⟨o,ho,hc⟩ Tw (Q7 (hQ _ hk)))
end
noncomputable def sI(x:Str)(t:U3):Obj:={cls:=.type (Sv x),data:=.fields #[.str x t,.int 0 0]}
noncomputable def C4(h:Rq)(x:Str)(t:U3)(y:Str)(u:U3):Rq:=(h.push (sI x t)).push (sI y u)
noncomputable def ND(h:Rq)(x:Str)(t:U3)(y:Str)(u:U3):Rq:=((C4 h x t y u).push {cls:=.type "tuple",data:=.seq #[.ref h.objs.size,.ref (h.push (sI x t)).objs.size]}).push {cls:=.type "tuple",data:=.seq #[.none,.none]}
noncomputable def JE(h:Rq)(x:Str)(t:U3)(y:Str)(u:U3):Rq:=(ND h x t y u).push {cls:=.type "zip",data:=.fields #[.none,.bool false,.bool false,.ref (C4 h x t y u).objs.size,.ref ((C4 h x t y u).push {cls:=.type "tuple",data:=.seq #[.ref h.objs.size,.ref (h.push (sI x t)).objs.size]}).objs.size]}
def wa(x:Str)(t:U3)(y:Str)(u:U3):Meets (Sr.«zip.__new__» ⟨[.type "zip",.str x t,.str y u],[]⟩) (λ_ R s=>R (.ok (.ret (.ref (ND s.heap x t y u).objs.size))) {s with heap:=JE s.heap x t y u}):=
 .of_wp λprog w A R s h=>by
  obtain⟨hp,g,d,tk,os⟩:=s;have hsub:=sub_zip
  wp_walk using wpAny_pyIter_strU
  exact⟨_,rfl,h⟩
section
def Ab(h:∀h',TJ h' (s.heap.objs.size+4) (s.heap.objs.size+2) (s.heap.objs.size+3) .none->SE h' (s.heap.objs.size+2) (.ref s.heap.objs.size) (.ref (s.heap.objs.size+1))->SE h' (s.heap.objs.size+3) .none .none->
   h'.IsStrIter s.heap.objs.size (Sv x) x t 0->h'.IsStrIter (s.heap.objs.size+1) (Sv y) y u 0->(∀c o,s.heap.get? c=some o->h'.get? c=some o)->Q (.ref (s.heap.objs.size+4)) {s with heap:=h'}):Ra (Rh prog w) A (call (.type "zip") [.str x t,.str y u]) Q E s:=by
 refine callType_new F.called_zip (by decide) (F.typeCall_zip_2 _ _) (F.newCall_zip_2 _ _) (λobj=>F.args_object_init_3 obj _ _) F.entry_zip_new (wa x t y u) ?_;have y1:(s.heap.push (sI x t)).objs.size=s.heap.objs.size+1:=Rz ..;have y2:(C4 s.heap x t y u).objs.size=s.heap.objs.size+2:=by unfold C4;rw[Rz,y1]
 have y3:((C4 s.heap x t y u).push {cls:=.type "tuple",data:=.seq #[.ref s.heap.objs.size,.ref (s.heap.push (sI x t)).objs.size]}).objs.size=s.heap.objs.size+3:=by rw[Rz,y2]
 have y4:(ND s.heap x t y u).objs.size=s.heap.objs.size+4:=by unfold ND;rw[Rz,y3]
 have g5:(JE s.heap x t y u).get? (ND s.heap x t y u).objs.size=some _:=Re _ rfl;have up:∀c o,(C4 s.heap x t y u).get? c=some o->(JE s.heap x t y u).get? c=some o:=λc o e=>Q8 _ (Q8 _ (Q8 _ e));have g3:(JE s.heap x t y u).get? (C4 s.heap x t y u).objs.size=some _:=Q8 _ (Q8 _ (Re _ rfl));have g4:(JE s.heap x t y u).get? ((C4 s.heap x t y u).push {cls:=.type "tuple",data:=.seq #[.ref s.heap.objs.size,.ref (s.heap.push (sI x t)).objs.size]}).objs.size=some _:=Q8 _ (Re _ rfl);have g1:(JE s.heap x t y u).get? s.heap.objs.size=some (sI x t):=up _ _ (Q8 _ (Re _ rfl));have g2:(JE s.heap x t y u).get? (s.heap.push (sI x t)).objs.size=some (sI y u):=up _ _ (Re _ rfl);show _/\_;rw[y2,y3,y4]at g5;rw[y1,y2]at g3;rw[y3]at g4;rw[y1]at g2;rw[y4];exact⟨⟨_,g5,rfl⟩,h _ g5 g3 g4 ⟨_,g1,rfl,rfl⟩ ⟨_,g2,rfl,rfl⟩ λc o e=>up _ _ (Q8 _ (Q8 _ e))⟩
end
section
variable{X:Cx}{QQ:Q5}{σ:St}{H:Hp}{s:Rb}{h':Rq}
def aL.turnedN{t':Nat}{fp:List YC}(I:aL X QQ σ H s)(k:∀b ob,b∉fp->s.heap.get? b=some ob->h'.get? b=some ob)(hf:∀b∈fp,jt X QQ H b):aL X QQ σ H {s with heap:=h',toks:=t'}:=by
 have nf:∀b u,H b=some u->b∉fp:=λb u q z=>by rw[(hf b z).1]at q;cases q
 have nl:X.env.locals∉fp:=λz=>(hf _ z).2.1 rfl;refine I.step (g':=s.gens) (d':=s.drawn) (ch:=fp) (λb hb=>⟨(hf b hb).2.2.2.1,(hf b hb).2.1,(hf b hb).2.2.2.2.1,(hf b hb).2.2.2.2.2⟩) (λb ob _ _ hc q _=>k b ob hc q) (λb ob _ _ hc q _=>⟨ob.slots,k b ob hc q⟩)
  (λ_ _ _ _ n=>n) (λb ob hc q=>⟨ob,k b ob hc q⟩) (λ_ _ q=>q) (λ_ _ _ q=>q) (λb ps q=>⟨#[],by rw[q];simp⟩) (λm hm=>?_) (λb u q=>?_) I.bare
 .obtain⟨ob,es,ep,ho,r⟩:=hm;exact⟨ob,es,ep,k _ ob nl ho,r⟩
 .refine(I.hok b u q).stay (λc v hc z=>k c v ?_ z) (λc z=>z) λc xs z=>z
  rcases hc with z|z
  .rw[z];exact nf b u q
  .exact nf c _ z
def aL.turned_laidN{t':Nat}{fp:List YC}{a:YC}{o:HO}(I:aL X QQ σ H s)(k:∀b ob,b∉fp->s.heap.get? b=some ob->h'.get? b=some ob)(hf:∀b∈fp,jt X QQ H b)(hp:s.heap.objs.size<=a)(new:bC X.prog X.w (upd H a o) h' a o):aL X QQ σ (upd H a o) {s with heap:=h',toks:=t'}:=by
 have hn:H a=none:=I.hok.fresh hp;have nf:∀b u,H b=some u->b∉fp:=λb u q z=>by rw[(hf b z).1]at q;cases q
 have nl:X.env.locals∉fp:=λz=>(hf _ z).2.1 rfl;refine I.step (g':=s.gens) (d':=s.drawn) (ch:=fp) (λb hb=>⟨(hf b hb).2.2.2.1,(hf b hb).2.1,(hf b hb).2.2.2.2.1,(hf b hb).2.2.2.2.2⟩) (λb ob _ _ hc q _=>k b ob hc q) (λb ob _ _ hc q _=>⟨ob.slots,k b ob hc q⟩)
  (λb ob hc q n=>by rw[ak (WS (WV (Q9 q) hp))];exact n) (λb ob hc q=>⟨ob,k b ob hc q⟩) (λb xs q=>by rw[ak (ay q hn)];exact q) (λb ob u q=>by rw[ak (ay q hn)];exact q)
  (λb ps q=>⟨#[],by rw[ak (ay q hn),q];simp⟩) (λm hm=>?_) (λb u q=>?_) I.bare
 .obtain⟨ob,es,ep,ho,r⟩:=hm;exact⟨ob,es,ep,k _ ob nl ho,r⟩
 .by_cases hb:b=a
  .subst hb;rw[af]at q;cases q;exact new
  .rw[ak hb]at q;refine(I.hok b u q).stay (λc v hc z=>k c v ?_ z) (λc z=>by rw[ak (ay z hn)];exact z) λc xs z=>by rw[ak (ay z hn)];exact z
   rcases hc with z|z
   .rw[z];exact nf b u q
   .exact nf c _ z
end
noncomputable def Lx(x y:Str):It:=
 ⟨λi _=>i<x.cps.size,λi H v H'=>∃t c e,v=.ref t/\H t=none/\x.cps.toList[i]? =some c/\y.cps.toList[i]? =some e/\H'=upd H t (.tup [.str ⟨#[c]⟩,.str ⟨#[e]⟩]),λi _=>i=x.cps.size⟩
def ZSt(z TI TO i1 i2:YC)(x:Str)(t:U3)(y:Str)(u:U3)(i:Nat)(h:Rq):Prop:=TJ h z TI TO .none/\SE h TI (.ref i1) (.ref i2)/\(∃a b,SE h TO a b)/\h.IsStrIter i1 (Sv x) x t i/\h.IsStrIter i2 (Sv y) y u i
def yF{P:Rg}{w:Rk}{K:Frag}{elts:List RU}{k0:Nat}{pos:Uk}(z TI TO i1 i2:YC)(x:Str)(t:U3)(y:Str)(u:U3)(ap:OX z TI TO i1 i2)(hl:x.cps.size=y.cps.size):Am P w K (.Tuple elts k0 pos) (Lx x y) [z,TI,TO,i1,i2] z (ZSt z TI TO i1 i2 x t y u) where
 mem:=by simp
 obj:=λi h st b hb=>by
  obtain⟨hz,hTI,⟨a,a',hTO⟩,⟨o1,q1,c1,d1⟩,o2,q2,c2,d2⟩:=st;simp only[U8,Vq,or_false]at hb
  rcases hb with rfl|rfl|rfl|rfl|rfl
  .exact⟨_,hz,λv e=>by cases e⟩
  .exact⟨_,hTI,λv e=>by cases e⟩
  .exact⟨_,hTO,λv e=>by cases e⟩
  .exact⟨o1,q1,λv e=>by rw[d1]at e;cases e⟩
  .exact⟨o2,q2,λv e=>by rw[d2]at e;cases e⟩
 keep:=λi h h' st k=>by obtain⟨hz,hTI,⟨a,a',hTO⟩,⟨o1,q1,r1⟩,o2,q2,r2⟩:=st;exact⟨k z (by simp) _ hz,k TI (by simp) _ hTI,⟨a,a',k TO (by simp) _ hTO⟩,⟨o1,k i1 (by simp) _ q1,r1⟩,o2,k i2 (by simp) _ q2,r2⟩
 item:=by
  intro X hP hw hK hc i QQ s σ H E I hf st hg;subst hP hw hK;obtain⟨hz,hTI,⟨a,a',hTO⟩,h1,h2⟩:=st;have hh:X.A.in1.handled=none:=by show X.A.handled=none;exact I.ok.hd hc
  have D1:=iA (prog:=X.prog) (w:=X.w) hh i1 x t;have D2:=iA (prog:=X.prog) (w:=X.w) hh i2 y u;have hg:i<x.cps.size:=hg;refine C0 D1 D2 ap hz hTI hTO h1 h2 hg (by lia) λv1 v2 g1 tk p1 p2 z1 o1 s1 s2 t1 k1=>?_;obtain⟨c,u1,hc1,rfl⟩:=p1;obtain⟨e,u2,hc2,rfl⟩:=p2;refine⟨_,rfl,wpAny_letOwnedTupleGo_zip z1 λg2 z2 sb=>?_⟩;have lz:z<s.heap.objs.size:=Q9 hz;have kk:∀b ob,b∉[z,TI,TO,i1,i2]->s.heap.get? b=some ob->g2.get? b=some ob:=λb ob hb q=>by simp only[U8,Vq,or_false,not_or]at hb;exact(sb.2 b hb.1).trans (k1 b ob hb.1 hb.2.2.1 hb.2.2.2.1 hb.2.2.2.2 q)
  have t2:g2.get? s.heap.objs.size=some {cls:=.type "tuple",data:=.seq #[.str ⟨#[c]⟩ u1,.str ⟨#[e]⟩ u2]}:=(sb.2 _ (WX lz)).trans t1;have new:bC X.prog X.w (upd H s.heap.objs.size (.tup [.str ⟨#[c]⟩,.str ⟨#[e]⟩])) g2 s.heap.objs.size (.tup [.str ⟨#[c]⟩,.str ⟨#[e]⟩]):=
   ⟨by show 2<=v1;decide,[.str ⟨#[c]⟩ u1,.str ⟨#[e]⟩ u2],.cons ⟨u1,rfl⟩ (.cons ⟨u2,rfl⟩ .nil),⟨_,t2,rfl,_,rfl⟩⟩
  have I2:=I.turned_laidN (t':=tk) kk hf (WR _) new;obtain⟨q1,w1,r1⟩:=s1;obtain⟨q2,w2,r2⟩:=s2;have kTI:g1.get? TI=_:=k1 _ _ ap.a ap.e ap.i ap.j hTI;refine⟨.ref s.heap.objs.size,_,I2,rfl,⟨_,c,e,rfl,I.hok.fresh (WR _),by rw[XM];exact hc1,by rw[XM];exact hc2,rfl⟩,⟨z2,(sb.2 _ ap.a).trans kTI,⟨_,_,(sb.2 _ ap.b).trans o1⟩,⟨q1,(sb.2 _ ap.c).trans w1,r1⟩,q2,(sb.2 _ ap.d).trans w2,r2⟩,λb hb=>?_⟩;have hlt:b<s.heap.objs.size:=by
   simp only[U8,Vq,or_false]at hb
   rcases hb with rfl|rfl|rfl|rfl|rfl
   .exact lz
   .exact Q9 hTI
   .exact Q9 hTO
   .obtain⟨o,ho,_⟩:=h1;exact Q9 ho
   .obtain⟨o,ho,_⟩:=h2;exact Q9 ho
  rw[ak (WS hlt)];exact(hf b hb).1
 done:=by
   intro X hP hw hK hc i QQ s σ H E I hf st hg;subst hP hw hK;obtain⟨hz,hTI,⟨a,a',hTO⟩,h1,h2⟩:=st;have hg:i=x.cps.size:=hg;subst hg;have D1:=iA (prog:=X.prog) (w:=X.w) (A:=X.A.in1) (by show X.A.handled=none;exact I.ok.hd hc) i1 x t;exact CZ D1 ap hz hTI h1 λh' hx=>⟨rfl,I.turnedN (t':=s.toks) (λb ob hb q=>by
    simp only[U8,Vq,or_false,not_or]at hb;exact hx b ob hb.1 hb.2.2.2.1 q) hf⟩
 self:=λA i s Q E st h=>wpAny_pyIter_zip st.1 h
section
variable{X:Cx}{p pos pos2:Uk}{a b:RU}{elts:List RU}{k0:Nat}
def Dt(R:It->Hp->Prop)(vs:List V)(H:Hp):Prop:=match vs with
 | [.str x,.str y]=>x.cps.size=y.cps.size/\R (Lx x y) H
 |_=>False
def Om(t:TA):TI:=λσ H R=>t σ H λvs H1=>Dt R vs H1
def Qj(hm:X.mg "zip"=none)(hA:PA X [a,b] t)(hg:Gl X "zip":=by rfl)(hs:Rc [a,b] X.env=(false,RH a X.env)::Rc [b] X.env:=by rfl)(hp:(RE pos (Rc [b] X.env)).any (·.1)=false:=by rfl):PI X (.Tuple elts k0 pos2) (.Call (.Name "zip" p) [a,b] [] pos) (Om t):=by
 intro QQ s σ H R I h;refine Call_ (j0 I hg hm Lj (PyProof.Rows.callWith_type1 (bH (hA pos QQ s σ H (λvs H1=>Dt R vs H1) I h) λus s1 ⟨vs,H1,I1,r1,q1⟩=>?_) hs hp) (by decide) (by decide))
 replace q1:Dt R vs H1:=q1
 unfold Dt at q1;split at q1
 .rename_i x y;obtain⟨u1,u2,rfl,⟨t1,rfl⟩,t2,rfl⟩:=Aw r1;refine Ab λh' q2 q3 q4 q5 q6 hk=>?_;have I2:aL X QQ σ H1 {s1 with heap:=h'}:=I1.kept (t':=s1.toks) hk;refine wpAny_pyIter_zip q2 ⟨s1.heap.objs.size+4,[s1.heap.objs.size+4,s1.heap.objs.size+2,s1.heap.objs.size+3,s1.heap.objs.size,s1.heap.objs.size+1],_,_,H1,rfl,I2,yF _ _ _ _ _ x t1 y t2 ?_ q1.1,⟨q2,q3,⟨_,_,q4⟩,q5,q6⟩,λb hb=>?_,q1.2⟩
  .have f:∀i j:Nat,i≠j->s1.heap.objs.size+i≠s1.heap.objs.size+j:=λi j h=>by lia
   exact⟨f 2 4 (by decide),f 3 4 (by decide),f 0 4 (by decide),f 1 4 (by decide),f 2 3 (by decide),f 3 0 (by decide),f 3 1 (by decide),f 0 1 (by decide),f 2 0 (by decide),f 2 1 (by decide)⟩
  .have hb2:s1.heap.objs.size<=b:=by
    simp only[U8,Vq,or_false]at hb
    rcases hb with rfl|rfl|rfl|rfl|rfl
    .exact Xa _ _
    .exact Xa _ _
    .exact Xa _ _
    .exact WR _
    .exact Xa _ _
   exact I1.fpOk hb2 (I1.hok.fresh hb2)
 .exact q1.elim
end
section
variable{K:Frag}{σ rest:St}{H:Hp}{t:TA}{te:TE}{src:List (Option Nat)}{Q:VK}{x y:Str}
def zY(hl:Av t σ H [.str x,.str y])(hlen:x.cps.size=y.cps.size)(hz:x.length<=1000)(hs:fc src σ=none::none::rest)(f:Nat->Nat->V)(he:∀(i c e:Nat)(H':Hp),x.cps.toList[i]? =some c->y.cps.toList[i]? =some e->ah H H'->Ev te (some (.str (one c))::some (.str (one e))::rest) H' (f c e))(q:∀H' d,ah H H'->H' d=none->Q (.ref d) (upd H' d (.lst (List.zipWith f x.cps.toList y.cps.toList)))):tComp (Om t) (zQ K 2 (kL (gName 0) (kL (gName 1) B0))) iK te src σ H Q:=by
 have hx:x.cps.toList.length=x.length:=XO;have hy:y.cps.toList.length=x.length:=by rw[XO];exact hlen.symm
 refine hl _ ⟨hlen,?_⟩;show eV _ iK te src σ Q (Lx x y) H;refine iC x.length (λi ys σ' H'=>ah H H'/\(∃o0 o1,σ'=o0::o1::rest)/\ys=List.zipWith f (x.cps.toList.take i) (y.cps.toList.take i)) (WU hz (by decide)) (λi ys σ H h=>?_) (λi ys σ H h hi=>hi) (λys σ H h=>rfl) ⟨ah.refl H,⟨_,_,hs⟩,by simp⟩ ?_ ?_
 .rw[h.2.2,List.length_zipWith,Vs,Vs];lia
 .rintro i ys _ H1 v H2 hi ⟨s1,⟨o0,o1,rfl⟩,rfl⟩ ⟨tq,c,e,rfl,ht0,hc,hd,rfl⟩ Kt Kf kt kf;have s2:ah H (upd H1 tq (.tup [.str ⟨#[c]⟩,.str ⟨#[e]⟩])):=s1.upd ht0;refine⟨tq,_,rfl,cY.of af,rfl,_,_,rfl,_,_,rfl,rfl,?_⟩;simp only[iK,if_true];refine he i c e _ hc hd s2 _ (kt _ _ _ ⟨s2,⟨_,_,rfl⟩,?_⟩);rw[VS,VS,hc,hd];rw[List.zipWith_append (by rw[Vs,Vs,hx,hy])];rfl
 .rintro ys σ' H' d ⟨s1,_,rfl⟩ hd;rw[V3 (by lia),V3 (by lia)];exact q H' d s1 hd
end
noncomputable def iM(ks:List Nat)(c e:Nat):Bool:=if e=35 then decide (c=35)else decide (c=46\/c∈ks\/c∈ks.map (· - 32))
noncomputable def rowB(wi hi:Int)(hs:List Int)(ks:List Nat)(v:V):Bool:=match v with
 | .str z=>decide (z.length=(emptyT wi hi hs).length)&&(List.zipWith (iM ks) z.cps.toList (emptyT wi hi hs).cps.toList).all id
 |_=>false
noncomputable def nv(wi hi:Int)(hs:List Int)(ks:List Nat)(H:Hp)(v:V):Bool:=match tupOf H v with
 |some [a,b]=>rowB wi hi hs ks a&&amongB b 0 1
 |_=>false
def jX(e:tupOf H v=some [a,b]):nv wi hi hs ks H v=(rowB wi hi hs ks a&&amongB b 0 1):=by unfold nv;rw[e]
def za(h:tupB H v 2=false):nv wi hi hs ks H v=false:=by
 unfold tupB at h;unfold nv;split
 .rename_i e1;rw[e1]at h;cases h
 .rfl
def vo(K:Frag)(cB cG:YC):Sp:=λvs H Q _=>∃g b v wi hi hs ks rs ts es st,vs=[.ref g,v]/\fA cG H g b (ks.map strV) rs ts es st/\bQ K cB H b wi hi hs/\(∀k∈ks,lN k)/\ks.length<=6/\Thg H v/\∀H',ah H H'->Q (.bl (rowB wi hi hs ks v)) H'
def mS(K:Frag)(cB cG:YC):Sp:=λvs H Q _=>∃g b v wi hi hs ks rs ts es st,vs=[.ref g,v]/\fA cG H g b (ks.map strV) rs ts es st/\bQ K cB H b wi hi hs/\(∀k∈ks,lN k)/\ks.length<=6/\fU H 1 v/\∀H',ah H H'->Q (.bl (nv wi hi hs ks H v)) H'
structure CR1(P:Rg)(w:Rk)(K:Frag)(mg:Q3)(QR:Rq)(cB:YC):Prop where
 sign_of:cC P w K mg QR "sign_of" ["kind","side"] 1 mQ
 empty_row:cC P w K mg QR "empty_row" ["board"] 4 (xw K cB)
structure CR2(P:Rg)(w:Rk)(K:Frag)(mg:Q3)(QR:Rq)(cB cG:YC):Prop where
 is_tuple_of:cC P w K mg QR "is_tuple_of" ["thing","many"] 1 i7
 is_among:cC P w K mg QR "is_among" ["thing","least","most"] 2 i8
 is_row:cC P w K mg QR "is_row" ["game","thing"] 5 (vo K cB cG)
section
variable{K:Frag}{te ta tb:TE}{σ:St}{H:Hp}{Q:VK}
def j7(P:St->Hp->Prop)(hu:∀σ' H',P σ' H'->u D σ' H')(h:(∀σ' H',P σ' H'->u D σ' H')->bg (l7 c t1 e) u D σ H):bg (l7 c t1 e) u D σ H:=h hu
def BF(h:Ev te σ H (.ref d))(hd:aN K H d ys\/cY K H d ys)(q:∀l,H l=none->Q (.ref l) (upd H l (.lst ys))):cB (ul K) (bf te cw) σ H Q:=h _ ⟨ys,hd,q⟩
def sL(h:te σ H (λv H'=>D.nx (σ.set i (some v)) H')):tAsg te (gName i) D σ H:=h
def bI(h:Ev te σ H v)(q:ta' σ H (λxs H2=>R (v::xs) H2)):bf te ta' σ H R:=h _ q
def cu(h:te σ H (λx H1=>ta' σ H1 (λxs H2=>R (x::xs) H2))):bf te ta' σ H R:=h
def cN(q:R [] H):cw σ H R:=q
def gV(q:t σ H (λvs H2=>vs.length<=v1/\∀p,H2 p=none->Q (.ref p) (upd H2 p (.lst vs)))):qo t σ H Q:=q
def Jw(h:ta σ H λx H1=>tb σ H1 λy H2=>Ak .Add x y H2 Q):uP .Add ta tb σ H Q:=h
def yr(ha:H a=some (.lst xs))(hb:H b=some (.lst ys))(hz:xs.length+ys.length<=1000)(q:∀p,H p=none->Q (.ref p) (upd H p (.lst (xs++ys)))):Ak .Add (.ref a) (.ref b) H Q:=by rw[J7];exact⟨a,b,xs,ys,rfl,rfl,ha,hb,WU hz (by decide),q⟩
end
def q9:(one a=one b)<->a=b:=by
 constructor
 .intro h;have h:(one a).cps.toList=(one b).cps.toList:=by rw[h]
  have h:[a]=[b]:=h;injection h
 .intro h;rw[h]
def uw:("#":Str)=one 35:=by decide+kernel
def Er:(".":Str)=one 46:=by decide+kernel
def rV{p q:Prop}[Decidable p][Decidable q](h:p<->q):decide p=decide q:=by
 by_cases hp:p
 .rw[QT hp,QT (h.mp hp)]
 .rw[QU hp,QU (λz=>hp (h.mpr z))]
noncomputable def upV:V->V
 | .str z=>.str (one (z.cps.toList.getD 0 0 - 32))
 |v=>v
section
def OM(K:Frag)(ta:TE):TT:=λσ H Q=>ta σ H λx H'=>∃k,CN K x H' k/\Q k H'
def N8(K:Frag)(ha:PE X a ta)(he:∀whole,UU a X.env whole=(do let v<-whole;UH a.pos;Tb [v] (truthy v)):=by exact λ_=>rfl)(hK:X.K=K:=by rfl):PT X a (OM K ta):=by subst hK;exact Bb ha he
end
section
def JP(h:Tv tt σ H b)(q1:b=true->R true H)(q2:b=false->u σ H R):Lz tt u σ H R:=h _ (by
 cases b with
 |true=>exact gN (q1 rfl)
 |false=>exact gO (q2 rfl))
end
section
variable{K:Frag}{te tl:TE}{src:List (Option Nat)}{σ rest:St}{H:Hp}{Q:VK}
def zZ(hl:Ev tl σ H (.ref d))(hx:H d=some (.lst xs))(hz:xs.length<=v1)(hs:fc src σ=none::rest)(f:V->V)(he:∀x∈xs,∀H',ah H H'->∀Q:VK,(∀H2,ah H' H2->Q (f x) H2)->te (some x::rest) H' Q)(q:∀H' d',ah H H'->H' d'=none->Q (.ref d') (upd H' d' (.lst (xs.map f)))):tComp (nT K tl) (gName 0) iK te src σ H Q:=by
 refine hl _ ⟨d,rfl,⟨xs,aN.of hx⟩,?_⟩;refine iC xs.length (λi ys σ' H'=>ah H H'/\(∃v,σ'=v::rest)/\ys=(xs.take i).map f) hz (λi ys σ H h=>by rw[h.2.2,U6,Vs];lia)
  (λi ys σ H' h hi=>⟨xs,xs[i],aN.of (h.1 _ _ hx),U9 hi⟩) (λys σ H' h=>⟨xs,aN.of (h.1 _ _ hx),WR _⟩) ⟨ah.refl H,⟨none,hs⟩,by simp⟩ ?_ ?_
 .rintro i ys _ H1 x H2 hi ⟨s1,⟨v0,rfl⟩,rfl⟩ ⟨rfl,hy⟩ Kt Kf ht hf;have ex:=hy xs (aN.of (s1 _ _ hx));simp only[gName,iK,VW,if_true];refine he x (Vn ex) _ s1 _ λH2 s2=>ht _ _ _ ⟨s1.trans s2,⟨_,rfl⟩,?_⟩;rw[VS,ex,Vg];rfl
 .rintro ys _ H1 dd ⟨s1,_,rfl⟩ hd;rw[VG];exact q H1 dd s1 hd
end
end L2
namespace L2
open PySem
def cj:Slot "set_iterator" "__next__" "set_iterator.__next__":=
 .of (owner:="set_iterator") (n:="__next__") (by rw[Th,SD];kernel_rfl) (by decide+kernel) (by decide+kernel) (by decide+kernel) (by first|exact .inl (by decide+kernel)|exact .inr (by decide+kernel)) (by rw[Ur];kernel_rfl)
def iH:entryFor table "set_iterator.__next__"=some Sr.«set_iterator.__next__» :=entryFor_of_tree (by kernel_rfl)
def iJ(a:YB):argsOk "set_iterator.__next__" ⟨[a],[]⟩:=by unfold argsOk;kernel_rfl
def mY:Slot "set_iterator" "__iter__" "set_iterator.__iter__":=
 .of (owner:="set_iterator") (n:="__iter__") (by rw[Th,SD];kernel_rfl) (by decide+kernel) (by decide+kernel) (by decide+kernel) (by first|exact .inl (by decide+kernel)|exact .inr (by decide+kernel)) (by rw[Ur];kernel_rfl)
def wI:entryFor table "set_iterator.__iter__"=some Sr.«dict_keyiterator.__iter__» :=
 entryFor_alias (id':="dict_keyiterator.__iter__") (by kernel_rfl) rfl (by decide+kernel) (by kernel_rfl)
def w4(a:YB):argsOk "set_iterator.__iter__" ⟨[a],[]⟩:=by unfold argsOk;kernel_rfl
def uB:entryFor table "set.__iter__"=some Sr.«frozenset.__iter__» :=
 entryFor_alias (id':="frozenset.__iter__") (by kernel_rfl) rfl (by decide+kernel) (by kernel_rfl)
def eY(h:Rq)(D:YC)(es:Array (Int×YB))(ep:Nat)(t:SetTable):Prop:= ∃o,h.get? D=some o/\o.ExactSet/\o.data=.set es ep t
def uW(h:Rq)(I D:YC)(first:YB)(i n ep:Nat):Prop:= ∃o,h.get? I=some o/\o.cls=.type "set_iterator"/\o.data=.fields #[first,.int i 0,.ref D,.int n 0,.int ep 0]
section
variable{s:Rb}
def uW.ty(h:uW s.heap I D f i n ep):s.TypeIs (.ref I) "set_iterator":=let ⟨o,h1,h2,_⟩:=h;⟨o,h1,h2⟩
def uW.keep(x:uW h I D f i n ep)(k:∀o,h.get? I=some o->h'.get? I=some o):uW h' I D f i n ep:=let ⟨o,h1,r⟩:=x;⟨o,k o h1,r⟩
def eY.keep(x:eY h D es ep t)(k:∀o,h.get? D=some o->h'.get? D=some o):eY h' D es ep t:=let ⟨o,h1,r⟩:=x;⟨o,k o h1,r⟩
def JJ{m:Sem Unit}{α:Type}{k:Unit->Sem α}{Q:α->Rb->Prop}(hm:∀Q':Unit->Rb->Prop,Q' () s->Ra M A m Q' E s)(h:Ra M A (k ()) Q E s):Ra M A (m >>= k) Q E s:=Q6 (hm _ h)
def i6(hS:eY s.heap D es ep t)(hf:t.fits es.size=true)(h:Q (es,ep,t) s):Ra (Rh prog w) A (setState D) Q E s:=by obtain⟨o,ho,_,hd⟩:=hS;exact wpAny_setState_of ho hd hf h
def kQ(h:Q (w.params.followText "set-order") s):Ra (Rh prog w) A setsByText Q E s:=by unfold setsByText;exact Q6 (S8 (Q7 h))
def pI(hS:eY s.heap D es ep t)(g:SG (!w.params.followText "set-order") es.size t)(hb:w.params.followText "set-order"=false)(hp:t.plain=true\/es.size<=1)(hi:Rl t.place slot=i)(h:Q (match es[i]?,t.place[i]? with|some (_,x),some j=>some (x,j+1)|_,_=>none) s):Ra (Rh prog w) A (Ua D slot given ep) Q E s:=by
 unfold Ua;refine Q6 (i6 hS g.fits ?_);dsimp only;refine Q6 (kQ ?_);rw[hb,QV Xw];split
 .rename_i q;have q:(!t.plain&&decide (es.size > 1))=true:=q
  rcases hp with hp|hp
  .rw[hp]at q;cases q
  .rw[QU (by lia:¬es.size > 1),XF]at q;cases q
 .refine JJ (λQ' q=>?_) ?_
  .show Ra _ _ (if(!t.led&& !es.isEmpty)=true then _ else _) _ _ _;rw[g.led,hb];exact Q7 q
  .rw[hi];exact Q7 h
def pH(hS:eY s.heap D es ep t)(hf:t.fits es.size=true)(hb:w.params.followText "set-order"=true)(h:Q (((S0 (w.params.setOrder D ep) es)[given]?).map λe=>(e.2,slot)) s):Ra (Rh prog w) A (Ua D slot given ep) Q E s:=by unfold Ua;refine Q6 (i6 hS hf ?_);dsimp only;refine Q6 (kQ ?_);rw[hb];show Ra _ _ (if(ep != ep)=true then _ else _) _ _ _;rw[QV (by simp)];refine Q6 ?_;unfold setWalk;refine Q6 (i6 hS hf ?_);dsimp only;refine Q6 (kQ ?_);rw[hb];show Ra _ _ (do let x<-ask;pure _) _ _ _;exact Q6 (S8 (Q7 (Q7 h)))
def v9(hS:eY s.heap D es ep t)(hf:t.fits es.size=true)(he:es[place]? =some e)(h:Q e.2 s):Ra (Rh prog w) A (setNextDrawn D place ep) Q E s:=by unfold setNextDrawn;refine Q6 (i6 hS hf ?_);dsimp only;rw[QV (by simp),he];exact Q7 h
end
noncomputable def slotAt(t:SetTable)(i:Nat):Nat:=if i=0 then 0 else t.place.getD (i - 1) 0+1
def j9(hr:uX t.place)(hi:i<=t.place.size):Rl t.place (slotAt t i)=i:=by
 unfold slotAt
 by_cases h:i=0
 .rw[QW h,h];exact uQ hr
 .rw[QV h,wZ hr (by lia)];lia
section
def rO{I D:YC}{o:Obj}{vs:Array YB}{h:Rq}{i:Nat}{x:YB}(ho:h.get? I=some o)(hc:o.cls=.type "set_iterator")(hd:o.data=.fields vs):∃o',(h.update I (Obj.mapFields (·.setIfInBounds i x))).get? I=some o'/\o'.cls=.type "set_iterator"/\o'.data=.fields (vs.setIfInBounds i x):=
 ⟨_,Si _ ho (Obj.isFreed_of_fields (Obj.data_mapFields hd _)),(Obj.cls_mapFields ..).trans hc,Obj.data_mapFields hd _⟩
end
section
def uv{es:Array (Int×YB)}{ep slot i next:Nat}{x:YB}{Q:Option YB->Rb->Prop}(hi:uW s.heap I D (.int slot 0) i es.size ep)(hS:eY s.heap D es ep t)(hf:t.fits es.size=true)(hn:∀(Q':Option (YB×Nat)->Rb->Prop)(E':Q4),Q' (some (x,next)) s->Ra (Rh prog w) A.in1 (Ua D slot i ep) Q' E' s)(hQ:∀h',uW h' I D (.int next 0) (i+1) es.size ep->RQ I s.heap h'->Q (some x) {s with heap:=h'}):Ra (Rh prog w) A (Sm (.ref I)) Q E s:=by have ty:=hi.ty;obtain⟨o,ho,hc,hd⟩:=hi;unfold Sm;refine Q6 (SB (RC (name:=SA "__next__") ty cj (RJ cj ty iH ?_ (iJ _))));show Ra _ _ (fieldsOf (.ref I) >>= _) _ _ s;refine Q6 (Ts ho hd ?_);show Ra _ _ (SH D >>= _) _ _ s;unfold SH;refine Q6 (Q6 (i6 hS hf (Q7 ?_)));dsimp only;rw[QV (by simp)];show Ra _ _ (Ua D (Int.toNat slot) (Int.toNat i) (Int.toNat ep) >>= _) _ _ s;rw[Xk,Xk,Xk];refine Q6 (hn _ _ ?_);dsimp only;refine Q6 (SF ho hd (by simp) ?_);obtain⟨o2,ho2,hc2,hd2⟩:=rO (D:=D) (i:=0) (x:=Ti next) ho hc hd;refine Q6 (SF ho2 hd2 (by simp) (Q7 ⟨x,rfl,Q7 (hQ _ ?_ ((RR ..).trans (RR ..)))⟩));obtain⟨o3,ho3,hc3,hd3⟩:=rO (D:=D) (i:=1) (x:=Ti ((i:Int)+1)) ho2 hc2 hd2;exact⟨o3,ho3,hc3,by rw[hd3];rfl⟩
def yj{es:Array (Int×YB)}{ep slot i:Nat}{Q:Option YB->Rb->Prop}(hh:A.handled=none)(hi:uW s.heap I D (.int slot 0) i es.size ep)(hS:eY s.heap D es ep t)(hf:t.fits es.size=true)(hn:∀(Q':Option (YB×Nat)->Rb->Prop)(E':Q4),Q' none s->Ra (Rh prog w) A.in1 (Ua D slot i ep) Q' E' s)(hQ:∀h',Heap.ExtBut I s.heap h'->Q none {s with heap:=h'}):Ra (Rh prog w) A (Sm (.ref I)) Q E s:=by
 have ty:=hi.ty;obtain⟨o,ho,hc,hd⟩:=hi;unfold Sm;refine Q6 (SB (RC (name:=SA "__next__") ty cj (RJ cj ty iH ?_ (iJ _))));show Ra _ _ (fieldsOf (.ref I) >>= _) _ _ s;refine Q6 (Ts ho hd ?_);show Ra _ _ (SH D >>= _) _ _ s;unfold SH;refine Q6 (Q6 (i6 hS hf (Q7 ?_)));dsimp only;rw[QV (by simp)];show Ra _ _ (Ua D (Int.toNat slot) (Int.toNat i) (Int.toNat ep) >>= _) _ _ s;rw[Xk,Xk,Xk];refine Q6 (hn _ _ ?_);dsimp only;refine Q6 (SF ho hd (by simp) ?_);refine Q6 ?_;simp only[newExc,newTuple];refine Q6 (RX ?_ (by size_fits));refine Q6 (m:=Tx _ _) (Um (a:=Sf) (by first|rfl|(simp only[Tx];rfl)) ?_)
 refine RX ?_ (by size_fits);simp only[raiseNew];refine Q6 (wpAny_handled ?_);rw[show A.in1.handled=none from hh];refine Q6 (Q7 (wpAny_throw ?_));refine Q6 (SK (T:="StopIteration") (b:=true) ⟨_,Re _ rfl,rfl⟩ Tw ?_);exact Q7 (hQ _ (((RR ..).extBut.push _).push _))
def D0{es:Array (Int×YB)}{ps:Array YB}{ep i c k:Nat}{e:Int×YB}{ot:Obj}{Q:Option YB->Rb->Prop}(hi:uW s.heap I D (.ref T) i es.size ep)(hS:eY s.heap D es ep t)(hf:t.fits es.size=true)(hT:s.heap.get? T=some ot)(hTd:ot.data=.seq ps c)(hp:ps[i]? =some (.int k 0))(he:es[k]? =some e)(hQ:∀h',uW h' I D (.ref T) (i+1) es.size ep->RQ I s.heap h'->Q (some e.2) {s with heap:=h'}):Ra (Rh prog w) A (Sm (.ref I)) Q E s:=by have ty:=hi.ty;obtain⟨o,ho,hc,hd⟩:=hi;unfold Sm;refine Q6 (SB (RC (name:=SA "__next__") ty cj (RJ cj ty iH ?_ (iJ _))));show Ra _ _ (fieldsOf (.ref I) >>= _) _ _ s;refine Q6 (Ts ho hd ?_);show Ra _ _ (SH D >>= _) _ _ s;unfold SH;refine Q6 (Q6 (i6 hS hf (Q7 ?_)));dsimp only;rw[QV (by simp)];show Ra _ _ (seqItems? (.ref T) >>= _) _ _ s;refine Q6 (RN hT hTd ?_);dsimp only;rw[Xk,hp];dsimp only;rw[Xk,Xk];refine Q6 (v9 hS hf he ?_);obtain⟨o3,ho3,hc3,hd3⟩:=rO (D:=D) (i:=1) (x:=Ti ((i:Int)+1)) ho hc hd;exact Q6 (SF ho hd (by simp) (Q7 ⟨_,rfl,Q7 (hQ _ ⟨o3,ho3,hc3,by rw[hd3];rfl⟩ (RR ..))⟩))
def K7(hh:A.handled=none)(hi:uW s.heap I D (.ref T) i es.size ep)(hS:eY s.heap D es ep t)(hf:t.fits es.size=true)(hT:s.heap.get? T=some ot)(hTd:ot.data=.seq ps c)(hp:ps[i]? =none)(hQ:∀h',Heap.ExtBut I s.heap h'->Q none {s with heap:=h'}):Ra (Rh prog w) A (Sm (.ref I)) Q E s:=by
 have ty:=hi.ty;obtain⟨o,ho,hc,hd⟩:=hi;unfold Sm;refine Q6 (SB (RC (name:=SA "__next__") ty cj (RJ cj ty iH ?_ (iJ _))));show Ra _ _ (fieldsOf (.ref I) >>= _) _ _ s;refine Q6 (Ts ho hd ?_);show Ra _ _ (SH D >>= _) _ _ s;unfold SH;refine Q6 (Q6 (i6 hS hf (Q7 ?_)));dsimp only;rw[QV (by simp)];show Ra _ _ (seqItems? (.ref T) >>= _) _ _ s;refine Q6 (RN hT hTd ?_);dsimp only;rw[Xk,hp];dsimp only;refine Q6 (SF ho hd (by simp) ?_);obtain⟨o2,ho2,hc2,hd2⟩:=rO (D:=D) (i:=0) (x:=Ti 0) ho hc hd;refine Q6 (SF ho2 hd2 (by simp) ?_);refine Q6 ?_;simp only[newExc,newTuple];refine Q6 (RX ?_ (by size_fits));refine Q6 (m:=Tx _ _) (Um (a:=Sf) (by first|rfl|(simp only[Tx];rfl)) ?_)
 refine RX ?_ (by size_fits);simp only[raiseNew];refine Q6 (wpAny_handled ?_);rw[show A.in1.handled=none from hh];refine Q6 (Q7 (wpAny_throw ?_));refine Q6 (SK (T:="StopIteration") (b:=true) ⟨_,Re _ rfl,rfl⟩ Tw ?_);exact Q7 (hQ _ ((((RR ..).trans (RR ..)).extBut.push _).push _))
def qF(hi:uW s.heap I D f i n ep)(h:Q (.ref I) s):Ra (Rh prog w) A (pyIter (.ref I)) Q E s:=by refine wpAny_pyIter_slot hi.ty mY (RJ mY hi.ty wI ?_ (w4 _));show Ra _ _ (ret (.ref I)) _ _ s;exact Q7 ⟨_,rfl,"set_iterator",_,hi.ty,cj.lookup,h⟩
end
noncomputable def du(es:Array (Int×YB)):List YB:=es.toList.map (·.2)
structure WS3(prog:Rg)(w:Rk)(s:Rb)(D:YC)(vs:List YB)(h':Rq)(I:YC):Prop where
 ex:∃fp St,(∀A':Sd,A'.handled=none->Walks prog w A' I fp [I] vs.length (λi v=>vs[i]? =some v) St)/\St 0 h'/\(∀b∈fp,b=D\/s.heap.objs.size<=b)/\I∈fp/\(∀b∈fp,b<h'.objs.size)/\s.heap.objs.size<=I
section
def yD(hne:D≠I)(g:SG (!w.params.followText "set-order") es.size t)(hb:w.params.followText "set-order"=false)(hp:t.plain=true\/es.size<=1)(hh:A.handled=none):Walks prog w A I [I,D] [I] (du es).length (λi v=>(du es)[i]? =some v) (λi h=>i<=es.size/\uW h I D (.int (slotAt t i:Nat) 0) i es.size ep/\eY h D es ep t) where
 sub:=λb hb=>by
  have:b=I:=by simpa using hb
  simp[this]
 frame:=λi h h' st k=>⟨st.1,st.2.1.keep λo e=>k I (by simp) o e,st.2.2.keep λo e=>k D (by simp) o e⟩
 item:=λi s Q E hi st hQ=>by
  have hl:(du es).length=es.size:=by simp[du]
  have hi':i<es.size:=by lia
  have hps:t.place.size=es.size:=by have:=g.fits;unfold UB at this;rw[Xx]at this;exact beq_iff_eq.mp this.1
  have hv:(du es)[i]? =some es[i].2:=by unfold du;rw[Va,XM,XJ hi'];rfl
  refine uv (x:=es[i].2) (next:=slotAt t (i+1)) st.2.1 st.2.2 g.fits (λQ' E' q=>pI st.2.2 g hb hp (j9 g.ris (by lia)) ?_) λh' a b=>?_
  .rw[XJ hi',XJ (by lia)];have e:slotAt t (i+1)=t.place[i]+1:=by unfold slotAt;rw[QV (Nat.succ_ne_zero i),Nat.add_sub_cancel,bF (by lia)]
   rw[e]at q;exact q
  .exact hQ _ h' s.toks hv ⟨hi',a,st.2.2.keep λo e=>b.extBut D o hne e⟩ λc o hc e=>b.extBut c o (λz=>hc (by simp[z])) e
 done:=λs Q E st hQ=>by
   have hl:(du es).length=es.size:=by simp[du]
   have hps:t.place.size=es.size:=by have:=g.fits;unfold UB at this;rw[Xx]at this;exact beq_iff_eq.mp this.1
   rw[hl]at st;refine yj hh st.2.1 st.2.2 g.fits (λQ' E' q=>pI st.2.2 g hb hp (j9 g.ris (by lia)) ?_) λh' a=>hQ h' s.toks λc o hc e=>a c o (λz=>hc (by simp[z])) e;rw[XQ (WR _)];exact q
 self:=λ_ _ _ _ st hQ=>qF st.2.1 hQ
def yB(hne:D≠I)(hf:t.fits es.size=true)(hb:w.params.followText "set-order"=true)(hh:A.handled=none):Walks prog w A I [I,D] [I] (du (S0 (w.params.setOrder D ep) es)).length (λi v=>(du (S0 (w.params.setOrder D ep) es))[i]? =some v) (λi h=>uW h I D (.int (0:Nat) 0) i es.size ep/\eY h D es ep t) where
 sub:=λb hb=>by
  have:b=I:=by simpa using hb
  simp[this]
 frame:=λi h h' st k=>⟨st.1.keep λo e=>k I (by simp) o e,st.2.keep λo e=>k D (by simp) o e⟩
 item:=λi s Q E hi st hQ=>by
  have hi':i<(S0 (w.params.setOrder D ep) es).size:=by simpa[du]using hi
  have hv:(du (S0 (w.params.setOrder D ep) es))[i]? =some (S0 (w.params.setOrder D ep) es)[i].2:=by unfold du;rw[Va,XM,XJ hi'];rfl
  refine uv (x:=(S0 (w.params.setOrder D ep) es)[i].2) (next:=0) st.1 st.2 hf (λQ' E' q=>pH st.2 hf hb ?_) λh' a b=>?_
  .rw[XJ hi'];exact q
  .exact hQ _ h' s.toks hv ⟨a,st.2.keep λo e=>b.extBut D o hne e⟩ λc o hc e=>b.extBut c o (λz=>hc (by simp[z])) e
 done:=λs Q E st hQ=>by refine yj hh st.1 st.2 hf (λQ' E' q=>pH st.2 hf hb ?_) λh' a=>hQ h' s.toks λc o hc e=>a c o (λz=>hc (by simp[z])) e;rw[XQ (by simp[du])];exact q
 self:=λ_ _ _ _ st hQ=>qF st.1 hQ
def Da(hne:D≠I)(hT:T≠I)(hf:t.fits es.size=true)(ks:List Nat)(hk:∀k∈ks,k<es.size)(hh:A.handled=none):Walks prog w A I [I,D,T] [I] (ks.map λk=>(es.getD k (0,.none)).2).length (λi v=>(ks.map λk=>(es.getD k (0,.none)).2)[i]? =some v) (λi h=>uW h I D (.ref T) i es.size ep/\eY h D es ep t/\∃ot c,h.get? T=some ot/\ot.data=.seq (ks.map λ(k:Nat)=>SM k 0).toArray c) where
 sub:=λb hb=>by
  have:b=I:=by simpa using hb
  simp[this]
 frame:=λi h h' st k=>⟨st.1.keep λo e=>k I (by simp) o e,st.2.1.keep λo e=>k D (by simp) o e,let ⟨ot,c,h1,h2⟩:=st.2.2;⟨ot,c,k T (by simp) ot h1,h2⟩⟩
 item:=λi s Q E hi st hQ=>by
  have hi':i<ks.length:=by simpa using hi
  obtain⟨s1,s2,ot,c,h1,h2⟩:=st;have hki:ks[i]<es.size:=hk _ (Vl hi');refine D0 (k:=ks[i]) (e:=es[ks[i]]) s1 s2 hf h1 h2 (by simp[hi']) (XJ hki) λh' a b=>?_;refine hQ _ h' s.toks ?_ ⟨a,s2.keep λo e=>b.extBut D o hne e,ot,c,b.extBut T ot hT h1,h2⟩ λc o hc e=>b.extBut c o (λz=>hc (by simp[z])) e;rw[Va,U9 hi'];show some (es.getD ks[i] (0,.none)).2=_;rw[bF hki]
 done:=λs Q E st hQ=>by obtain⟨s1,s2,ot,c,h1,h2⟩:=st;exact K7 hh s1 s2 hf h1 h2 (by simp) λh' a=>hQ h' s.toks λc o hc e=>a c o (λz=>hc (by simp[z])) e
 self:=λ_ _ _ _ st hQ=>qF st.1 hQ
end
section
theorem Cn:∀(n:Nat)(xs:List α)(s:Rb)(Q:List α->Rb->Prop),xs.length=n->(∀l d,l.Perm xs->Q l {s with drawn:=d})->Ra (Rh prog w) A (drawOrder n xs) Q E s
 |0,xs,s,Q,hn,h=>by have:xs=[]:=Wi.mp hn;subst this;exact Q7 (h [] s.drawn (List.Perm.refl _))
 |n+1,[],s,Q,hn,h=>by cases hn
 |n+1,x::xs,s,Q,hn,h=>by
  show Ra _ _ (do let i<-choose .order (x::xs).length;_) _ _ s;refine Q6 ?_;intro Γ p hΓ;unfold choose;rw[Sem.wp_choose];refine⟨Nat.succ_ne_zero _,?_⟩;have hi:(Rh prog w).w.draws Source.order (s.drawn.get Source.order) % (x::xs).length<(x::xs).length:=Xg _ (Xh _);refine(Q7 (M:=Rh prog w) (A:=A) (E:=E) ?_) Γ p hΓ;rw[U9 hi];dsimp only;refine Q6 (Cn n _ _ _ ?_ λl d hp=>?_)
  .rw[Wl hi];lia
  .exact Q7 (h _ d ((List.Perm.cons _ hp).trans (oa (U9 hi))))
end
section
def vN{es:Array (Int×YB)}{l:List Nat}(h:l.Perm (List.range es.size)):(l.map λk=>(es.getD k (0,.none)).2).Perm (du es):=by
 refine(h.map _).trans (List.Perm.of_eq ?_);unfold du;apply VV;intro i;have e0:es.toList[i]? =es[i]? :=XM;rw[Va,Va,e0]
 by_cases hi:i<es.size
 .rw[VJ hi,XJ hi];show some (es.getD i (0,.none)).2=some es[i].2;rw[bF hi]
 .rw[Vw (by simpa using hi),XQ (by lia)];rfl
def BN(hS:eY s.heap D es ep t)(g:SG (!w.params.followText "set-order") es.size t)(hz:es.size<=v1)(hQ:∀(vs:List YB)(h':Rq)(I:YC) d,vs.Perm (du es)->WS3 prog w s D vs h' I->(∀b o,s.heap.get? b=some o->h'.get? b=some o)->Q (.ref I) {s with heap:=h',drawn:=d}):Ra (Rh prog w) A (pyIter (.ref D)) Q E s:=by
 have ty:s.TypeIs (.ref D) "set":=let ⟨o,h1,h2,_⟩:=hS;⟨o,h1,h2.1⟩;have hlt:D<s.heap.objs.size:=let ⟨o,h1,_⟩:=hS;Q9 h1;refine wpAny_pyIter_slot ty F.slot_set_iter (RJ F.slot_set_iter ty uB ?_ (F.args_set_iter_1 _));show Ra _ _ (TY D >>= _) _ _ s;unfold TY SH;refine Q6 (Q6 (Q6 (i6 hS g.fits (Q7 (Q7 ?_)))));dsimp only;refine Q6 ?_;unfold setDrawn;refine Q6 (i6 hS g.fits ?_);dsimp only;refine Q6 (kQ (Q7 ?_));have fin:∀(first:YB)(h1:Rq)(d:Drawn),(∀b o,s.heap.get? b=some o->h1.get? b=some o)->s.heap.objs.size<=h1.objs.size->(∀I h',uW h' I D first 0 es.size ep->eY h' D es ep t->D<I->s.heap.objs.size<=I->h1.objs.size<=I->I<h'.objs.size->(∀b o,h1.get? b=some o->h'.get? b=some o)->∃vs:List YB,vs.Perm (du es)/\WS3 prog w s D vs h' I)->
   Ra (Rh prog w) A.in1 (do let n<-setEpoch D;let x<-newFields "set_iterator" [first,Ti 0,.ref D,Ti es.size,Ti n];ret x) (λr s'=>∃v,r=.done (.ret v)/\∃T' r',s'.TypeIs v T'/\Tt (.type T') "__next__"=pure (some r')/\Q v s') E {s with heap:=h1,drawn:=d}:=λfirst h1 d k hs f=>by
  have hS1:eY h1 D es ep t:=hS.keep λo e=>k D o e;unfold setEpoch;refine Q6 (Q6 (i6 hS1 g.fits (Q7 ?_)));refine Q6 (RX (Q7 ?_) (by size_fits));have k2:∀b o,h1.get? b=some o->(h1.push {cls:=.type "set_iterator",data:=.fields #[first,.int 0 0,.ref D,.int es.size 0,.int ep 0]}).get? b=some o:=λb o e=>Q8 _ e;have hI:uW (h1.push {cls:=.type "set_iterator",data:=.fields #[first,.int 0 0,.ref D,.int es.size 0,.int ep 0]}) h1.objs.size D first 0 es.size ep:=⟨_,Re _ rfl,rfl,rfl⟩;obtain⟨vs,p,W⟩:=f _ _ hI (hS1.keep λo e=>k2 D o e) (WV hlt hs) hs (WR _) (by rw[Rz];exact WZ _) k2;exact⟨_,rfl,"set_iterator",_,⟨_,Re _ rfl,rfl⟩,cj.lookup,hQ vs _ _ d p W λb o e=>k2 b o (k b o e)⟩
 cases hb:w.params.followText "set-order"with
 |true=>
  rw[QV (by simp)];refine Q6 (Q7 (fin _ s.heap s.drawn (λ_ _ e=>e) (WR _) λI h' a b c1 c2 c3 c4 k=>⟨_,(zb (w.params.setOrder D ep) es).map _,⟨[I,D],_,λA' hA=>yB (WS c1) g.fits hb hA,⟨a,b⟩,?_,by simp,?_,c2⟩⟩))
  .intro x hx;simp only[U8,Vq,or_false]at hx
   rcases hx with rfl|rfl
   .exact .inr c2
   .exact .inl rfl
  .intro x hx;simp only[U8,Vq,or_false]at hx
   rcases hx with rfl|rfl
   .exact c4
   .exact W3 c1 c4
 |false=>
  split
  .rename_i hd;have hd:(!t.plain&&decide (es.size > 1))=true:=hd;refine Q6 (Cn es.size (List.range es.size) s _ (by simp) λl d hp=>?_);refine Q6 (RX ?_ ?_)
   .refine fin _ _ d (λb o e=>Q8 _ e) (by rw[Rz];exact WW _) λI h' a b c1 c2 c3 c4 k=>⟨_,vN hp,⟨[I,D,s.heap.objs.size],_,λA' hA=>Da (T:=s.heap.objs.size) (WS c1) (WS (WV (by rw[Rz];exact WZ _) c3)) g.fits l (λx hx=>by simpa using hp.mem_iff.mp hx) hA,⟨a,b,_,_,k _ _ (Re _ rfl),rfl⟩,?_,by simp,?_,c2⟩⟩
    .intro x hx;simp only[U8,Vq,or_false]at hx
     rcases hx with rfl|rfl|rfl
     .exact .inr c2
     .exact .inl rfl
     .exact .inr (WR _)
    .intro x hx;simp only[U8,Vq,or_false]at hx
     rcases hx with rfl|rfl|rfl
     .exact c4
     .exact W3 c1 c4
     .exact Nat.lt_of_le_of_lt c2 c4
   .have:=hp.length_eq;simp only[Vu]at this;simp[sizeOk,this,hz]
  .rename_i hd;have hd:¬(!t.plain&&decide (es.size > 1))=true:=hd;have hp:t.plain=true\/es.size<=1:=by
    cases e:t.plain with
    |true=>exact .inl rfl
    |false=>
     right
     rw[e]at hd;simp at hd;lia
   refine Q6 (Q7 (fin _ s.heap s.drawn (λ_ _ e=>e) (WR _) λI h' a b c1 c2 c3 c4 k=>⟨_,List.Perm.refl _,⟨[I,D],_,λA' hA=>yD (WS c1) g hb hp hA,⟨WT _,a,b⟩,?_,by simp,?_,c2⟩⟩))
   .intro x hx;simp only[U8,Vq,or_false]at hx
    rcases hx with rfl|rfl
    .exact .inr c2
    .exact .inl rfl
   .intro x hx;simp only[U8,Vq,or_false]at hx
    rcases hx with rfl|rfl
    .exact c4
    .exact W3 c1 c4
end
def wl:Tt (.type "set") "__len__"=pure (some (.builtin "set.__len__")):=by rw[Th,SD];kernel_rfl
section
def BQ(ty:s.TypeIs (.ref D) "set")(q:Q false s):Ra (Rh prog w) A (Tp (.ref D)) Q E s:=by
 unfold Tp;refine Q6 (Tf ty wl ?_);generalize hx:("set.__len__":String)=x0
 wp_delta
 rw[show splitId x0=some ("set","__len__")from by subst hx;decide+kernel];subst hx;refine Q6 (SK (T:="set") (b:=true) ty (by rw[Ur];kernel_rfl) ?_);refine Ud (λz=>QZ z (by decide)) (λ_=>Ud (λ_=>?_) (λz=>QZ (by decide+kernel) z));exact Q6 (SJ ty (Q7 q))
noncomputable abbrev lU:Obj:={cls:=.type "list",data:=.seq ([]:List YB).toArray}
def uJ(hh:A.handled=none)(hS:eY s.heap D es ep t)(g:SG (!w.params.followText "set-order") es.size t)(hz:es.size<=v1)(q:∀(vs:List YB)(h':Rq) d tk,vs.Perm (du es)->(∀b o,s.heap.get? b=some o->h'.get? b=some o)->s.heap.objs.size<h'.objs.size->s.toks<=tk->Q vs {s with heap:=h',drawn:=d,toks:=tk}):Ra (Rh prog w) A (collect (.ref D)) Q E s:=by
 have hlt:D<s.heap.objs.size:=let ⟨o,h1,_⟩:=hS;Q9 h1;unfold collect;refine Q6 (Ul (RO F.entry_proto_collect ?_));rw[RF F.plain_proto_collect _];show Ra _ A.in1 (newList [] >>= λl=>again (.builtin "list.__iadd__" ⟨[l,.ref D],[]⟩)) _ _ s;refine Q6 (RX (Q7 ⟨SC F.plain_list_iadd _,RO F.entry_list_iadd ?_⟩));rw[RF F.plain_list_iadd _];have kp:∀b o,s.heap.get? b=some o->(s.heap.push lU).get? b=some o:=λb o e=>Q8 _ e;have hS1:eY (s.heap.push lU) D es ep t:=hS.keep λo e=>kp D o e;have ty1:Tc {s with heap:=s.heap.push lU} (.ref D) "set":=let ⟨o,h1,h2,_⟩:=hS1;⟨o,h1,h2.1⟩;have gL:(s.heap.push lU).get? s.heap.objs.size=some lU:=Re _ rfl;show Ra _ A.in1 (Tq (.ref s.heap.objs.size) (.ref D) (.ref s.heap.objs.size)) _ _ _;unfold Tq;refine Q6 (SJ ty1 ?_);have n1:Sq (.ref s.heap.objs.size) (.ref D)=false:=by simp[Sq,WX hlt]
 rw[QV (by rw[n1];decide)];refine Q6 (BN (s:={s with heap:=s.heap.push lU}) hS1 g hz λvs h' I d hp W k=>?_);obtain⟨fp,St,W,st,f1,f2,f3,f4⟩:=W.ex;have hvl:vs.length<=v1:=by
  have:=hp.length_eq;have e:(du es).length=es.size:=by simp[du]
  lia
 have nS:s.heap.objs.size∉fp:=λz=>by
  rcases f1 _ z with e|e
  .exact WX hlt e
  .have e:(s.heap.push lU).objs.size<=s.heap.objs.size:=e;rw[Rz]at e;exact WY _ e
 have ty2:Tc {s with heap:=h',drawn:=d} (.ref D) "set":=let ⟨o,h1,h2,_⟩:=hS1;⟨o,k _ _ h1,h2.1⟩;refine Q6 (Rs (BQ ty2 ?_));have gL2:=k _ _ gL;refine Ud (λ_=>?_) (λz=>QZ (by decide+kernel) z);refine Q6 (T6 (Q6 ?_));show Ra _ _ (updateSeq s.heap.objs.size (·.push .none) >>= λ_=>updateSeq s.heap.objs.size (·.pop)) _ _ _;refine Q6 (Uc gL2 rfl ?_);have gL3:=Si (R7 (·.push Sf)) gL2 rfl;refine Uc (hz:=by seq_fits) gL3 rfl ?_;have gL4:=Si (R7 (·.pop)) gL3 rfl;have oth:∀b o,b≠s.heap.objs.size->h'.get? b=some o->((h'.update s.heap.objs.size (R7 (·.push Sf))).update s.heap.objs.size (R7 (·.pop))).get? b=some o:=
  λb o hb e=>(Sc _ _ (Ne.symm hb)).trans ((Sc _ _ (Ne.symm hb)).trans e)
 refine Q7 ⟨SC F.plain_extend_loop _,codeAny_extend_loopS (A:=A) (W A.in1 hh).toS hvl _ nS _ vs.length 0 _ _ _ rfl (WT _) ((W A.in1 hh).frame 0 _ _ st λb hb o e=>oth b o (λz=>nS (z▸hb)) e) gL4 (ItemsOf.nil _) λs2 acc c hm gA hacc=>?_⟩;show Ra _ A (load s.heap.objs.size >>= _) _ _ s2;refine Q6 (wpAny_load gA ?_);have ea:acc.toList=vs:=by
  apply VV;intro i;rw[XM]
  by_cases hi:i<acc.size
  .have:=hacc.2 i acc[i] (XJ hi);rw[XJ hi,this]
  .rw[XQ (by lia),Vw (by have:=hacc.1;lia)]
 refine Q7 ?_;rw[ea];obtain⟨h2,g2,d2,t2,o2⟩:=s2;obtain rfl:g2=s.gens:=hm.gens;obtain rfl:d2=d:=hm.drawn;obtain rfl:o2=s.os:=hm.os;refine q vs _ _ _ hp (λb o e=>?_) (Q9 gA) ?_
 .have hb:b≠s.heap.objs.size:=WS (Q9 e);refine hm.heap b o (λz=>?_) (oth b o hb (k b o (kp b o e)))
  rcases U8.mp z with z|z
  .exact hb z
  .have z:b=I:=Vb.mp z;have e2:(s.heap.push lU).objs.size<=I:=f4;rw[Rz]at e2;exact QZ (Q9 e) (by rw[z];exact Nat.not_lt.mpr (Nat.le_of_succ_le e2))
 .exact hm.toks
end
section
variable [DecidableEq κ]
def eY.put(x:eY h D es ep t)(es':Array (Int×YB))(t':SetTable):eY (h.update D (Ub es' t')) D es' (ep+1) t':=by obtain⟨o,ho,hx,hd⟩:=x;have e:=Si (Ub es' t') ho (by rw[putSet_of es' t' hd];rfl);rw[putSet_of es' t' hd]at e;exact⟨_,e,hx,rfl⟩
def A9(x:eY s.heap D es ep t)(hz:es'.size<scanBound)(q:Q () {s with heap:=s.heap.update D (Ub es' t')}):Ra (Rh prog w) A (storeSet D es' t') Q E s:=by obtain⟨o,ho,_,hd⟩:=x;exact wpAny_storeSet_of ho hd q (fits_of_scanBound hz)
end
section
def pG(hk:Ru (intKind prog w) s.heap k a)(h:Q false s):Ra (Rh prog w) A (TF 8 (.ref a)) Q E s:=by
 have hT:=hk.typeIs;obtain⟨o,items,n,ho,_,hd,hi⟩:=hk;unfold TF;refine Q6 (SJ hT ?_);dsimp only;rw[QW (by decide)];refine Q6 (Q7 ?_);simp only[XH,Xz,if_false];refine Q6 (RN ho hd ?_);dsimp only;refine Q6 ?_;rw[<-XV];refine T0 _ (λrest r s'=>r.1=none/\s'=s/\∀v∈rest,carriedByValue v=true) _ ?_ ?_ _ _ ⟨rfl,rfl,hi.byValue⟩
 .rintro v rest r s' ⟨hr,rfl,hall⟩;have hv:=hall v Vf;have e:TF 7 v=pure false:=by
   cases v<;>first|rfl|(simp[carriedByValue]at hv)
  rw[e];refine Q6 (Q7 ?_);simp only[Xz,if_false];exact Q7 ⟨rfl,rfl,λu hu'=>hall u (Vd _ hu')⟩
 .rintro⟨r1,r2⟩ s' ⟨hr,rfl,_⟩;simp only at hr;subst hr;exact Q7 h
def El(prog:Rg)(w:Rk)(m:YC->Prop)(h:Rq)(k:List Int)(e:Int×YB):Prop:= ∃a,m a/\e=(tupleKeyHash (intKind prog w) k,.ref a)/\Ru (intKind prog w) h k a
def J4(hx:Ru (intKind prog w) s.heap k x)(hy:∀y∈ys,∃ki a,y=.ref a/\Ru (intKind prog w) s.heap ki a)(h:Q false s):Ra (Rh prog w) A (searchCouldBeSeen (.ref x) ys) Q E s:=by
 unfold searchCouldBeSeen;refine Q6 ?_;refine T0 _ (λrest r s'=>r.1=none/\s'=s/\∀v∈rest,∃ki a,v=.ref a/\Ru (intKind prog w) s.heap ki a) _ ?_ ?_ _ _ ⟨rfl,rfl,hy⟩
 .rintro v rest r s' ⟨hr,rfl,hall⟩;obtain⟨ki,a,rfl,ha⟩:=hall v Vf;dsimp only;split
  .exact Q7 ⟨rfl,rfl,λu hu'=>hall u (Vd _ hu')⟩
  .refine Q6 (Uh hx ?_);simp only[XH,Xz,if_false];refine Q6 (Uh ha ?_);simp only[XH,Xz,if_false];refine Q6 (pG hx ?_);simp only[Xz,if_false];refine Q6 (pG ha ?_);simp only[Xz,if_false];exact Q7 ⟨rfl,rfl,λu hu'=>hall u (Vd _ hu')⟩
 .rintro⟨r1,r2⟩ s' ⟨hr,rfl,_⟩;simp only at hr;subst hr;exact Q7 h
theorem El.inj(x:El prog w m h k e)(y:El prog w m h k' e):k=k':=by obtain⟨a,_,rfl,h1⟩:=x;obtain⟨b,_,e2,h2⟩:=y;injection e2 with _ e3;injection e3 with e4;subst e4;exact h1.inj h2
theorem i9(eh:h=tupleKeyHash (intKind prog w) k)(hS:eY s.heap D es ep t)(g:u9 es t)(hes:∀i,i<es.size->∃ki,El prog w m s.heap ki (es.getD i (0,.none)))(hx:Ru (intKind prog w) s.heap k x)(hu:A.units<RM)(he:t.slot (sl t.mask h N 0)=.empty)(hN:N<=t.mask+13)(q1:∀i,i<es.size->El prog w m s.heap k (es.getD i (0,.none))->Q (.there none) s)(q2:(∀i,i<es.size->¬El prog w m s.heap k (es.getD i (0,.none)))->∀n c,kS t.mask h n c->t.slot (sl t.mask h n c)=.empty->(∀a b,kS t.mask h a b->iT a b n c->¬t.slot (sl t.mask h a b)=.empty)->Q (.free (sl t.mask h n c) false) s):∀f n c stand,xa t.mask h n c (stand.getD (t.probeStart h))->(stand.getD (t.probeStart h)).dummy=none->(n<N\/(n=N/\c=0))->(∀a b,kS t.mask h a b->iT a b n c->∃i,t.slot (sl t.mask h a b)=.live i/\¬El prog w m s.heap k (es.getD i (0,.none)))->10*(N - n)+1<=f+c->Ra (Rh prog w) A (Uz D (.ref x) h true f stand) Q E s
 |0,n,c,stand,a,hd,hn,hv,hf=>by have:=nj t.mask (lp t.mask h n).1;have:=a.ok;unfold kS at this;lia
 |f+1,n,c,stand,a,hd,hn,hv,hf=>by
  have hgw:t.gaveWay=false:=by unfold SetTable.gaveWay;have:=g.odd;simp;lia
  have c9:c<=9:=by have h1:=nj t.mask (lp t.mask h n).1;have h2:=a.ok;unfold kS at h2;lia
  have live_ix:∀{j i},t.slot j=.live i->i<es.size:=λ{j i} e=>by rw[<-g.ps];exact((kY g.ris).mp e).1
  unfold Uz;refine Q6 (i6 hS g.fits ?_);dsimp only;rw[hgw,QV Xw];have fin:∀(hashAt:Nat->Int),(∀i,hashAt i=(es[i]?.map (·.1)).getD 0)->∃n' c' p',xa t.mask h n' c' p'/\(n'<N\/(n'=N/\c'=0))/\(iT n c n' c'\/(n=n'/\c=c'))/\(∀a b,kS t.mask h a b->(iT n c a b\/(n=a/\c=b))->iT a b n' c'->∃i,t.slot (sl t.mask h a b)=.live i/\¬hashAt i=h)/\
   ((t.slot (sl t.mask h n' c')=.empty/\t.probe hashAt h (stand.getD (t.probeStart h))=some (.empty (sl t.mask h n' c') none))\/
    (∃i,t.slot (sl t.mask h n' c')=.live i/\hashAt i=h/\t.probe hashAt h (stand.getD (t.probeStart h))=some (.candidate (sl t.mask h n' c') i (t.advance p'))/\n'<N/\p'.dummy=none)):=λhashAt _=>by
   obtain⟨n',c',p',b1,b2,b3,b4,b5⟩:=rQ g.nd hashAt he (10*Sh t.mask) n c _ a hn (by unfold Sh;lia);rw[hd]at b5;exact⟨n',c',p',b1,b2,b3,b4,b5⟩
  split
  .rename_i met hm;obtain⟨hashAt,hha,hm⟩:∃fh:Nat->Int,(∀i,fh i=(es[i]?.map (·.1)).getD 0)/\t.probe fh h (stand.getD (t.probeStart h))=some met:=⟨_,λi=>rfl,hm⟩;obtain⟨n',c',p',b1,b2,b3,b4,b5⟩:=fin hashAt hha;have hv':∀a b,kS t.mask h a b->iT a b n' c'->∃i,t.slot (sl t.mask h a b)=.live i/\¬El prog w m s.heap k (es.getD i (0,.none)):=λa b o l=>by
    by_cases l2:iT a b n c
    .exact hv a b o l2
    .obtain⟨i,h1,h2⟩:=b4 a b o (by unfold iT at *;lia) l;refine⟨i,h1,λ⟨y,_,e,_⟩=>h2 ?_⟩;have hi:=live_ix h1;rw[hha i,XJ hi];rw[bF hi]at e;rw[e,eh];rfl
   rcases b5 with⟨e1,e2⟩|⟨i,e1,e2,e3,e4,e5⟩
   .rw[e2]at hm;injection hm with hm;subst hm;dsimp only;refine Q7 (q2 (λi hi hE=>?_) n' c' b1.ok e1 λa b o l z=>?_)
    .obtain⟨n0,c0,o0,e0,hb⟩:=g.pl i hi;have hh:(es.getD i (0,.none)).1=h:=by obtain⟨y,_,e,_⟩:=hE;rw[e,eh]
     rw[hh]at o0 e0 hb;have hsl:t.slot (t.place.getD i 0)=.live i:=(kY g.ris).mpr ⟨by rw[g.ps];exact hi,rfl⟩
     by_cases l1:iT n0 c0 n' c'
     .obtain⟨j,z1,z2⟩:=hv' n0 c0 o0 l1;rw[e0,hsl]at z1;injection z1 with z1;subst z1;exact z2 hE
     .by_cases l2:iT n' c' n0 c0
      .exact hb n' c' b1.ok l2 e1
      .have:n0=n'/\c0=c':=by unfold iT at *;lia
       obtain⟨rfl,rfl⟩:=this;rw[e0,hsl]at e1;cases e1
    .obtain⟨i,z1,_⟩:=hv' a b o l;rw[z1]at z;cases z
   .rw[e3]at hm;injection hm with hm;subst hm;have hi:=live_ix e1;obtain⟨ki,y,my,ey,hy⟩:=hes i hi;have eg:es[i]? =some (tupleKeyHash (intKind prog w) ki,Rj y):=by rw[XJ hi,<-bF hi,ey]
    have hsm:t.sameMemory t.moves t.mask=some true:=by unfold SetTable.sameMemory;rw[QW (by simp)]
    have hmo:∀n2 c2,kS t.mask h n2 c2->iT n' c' n2 c2\/(n'=n2/\c'=c2)\/iT n2 c2 n' c':=λn2 c2 _=>by unfold iT;lia
    have again:¬ki=k->Ra (Rh prog w) A (Uz D (.ref x) h true f (some (t.advance p'))) Q E s:=λne=>by
     have hd':(t.advance p').dummy=none:=by unfold Ta;split<;>exact e5
     have hvn:∀n2 c2,(∀a b,kS t.mask h a b->iT a b n2 c2->iT a b n' c'\/(a=n'/\b=c'))->∀a b,kS t.mask h a b->iT a b n2 c2->∃i,t.slot (sl t.mask h a b)=.live i/\¬El prog w m s.heap k (es.getD i (0,.none)):=λn2 c2 z a b o l=>by
      rcases z a b o l with q|⟨rfl,rfl⟩
      .exact hv' a b o q
      .exact⟨i,e1,λq=>ne (El.inj ⟨y,my,ey,hy⟩ q)⟩
     by_cases hm:0<p'.more
     .refine i9 eh hS g hes hx hu he hN q1 q2 f n' (c'+1) (some (t.advance p')) (b1.more hm) hd' (.inl e4) (hvn _ _ λa b o l=>by unfold iT at *;lia) ?_;unfold iT at b3;lia
     .have hck:=b1.2.2.2;have hc9:=nj t.mask (lp t.mask h n').1;refine i9 eh hS g hes hx hu he hN q1 q2 f (n'+1) 0 (some (t.advance p')) (b1.leap hm) hd' (by lia) (hvn _ _ λa b o l=>?_) ?_
      .unfold kS at o;unfold iT at*
       by_cases e2:a=n'
       .subst e2;lia
       .lia
      .have:=b1.ok;unfold kS at this;unfold iT at b3;lia
    dsimp only;rw[eg];dsimp only;split
    .refine Q6 (J4 hx (λv hv2=>?_) ?_)
     .rw[U7]at hv2;obtain⟨e,he2,rfl⟩:=hv2;rw[Array.toList_filter,Vz]at he2;obtain⟨r,hr,rfl⟩:=VR he2.1;have hr2:r<es.size:=by simpa using hr
      obtain⟨kr,z,_,ez,hz⟩:=hes r hr2;rw[bF hr2]at ez;exact⟨kr,z,by rw[XU,ez],hz⟩
     .rw[QV Xw];refine Q6 (Rs (wpAny_eqBool_tuple hu hy hx (Q6 (i6 hS g.fits ?_))));dsimp only
      by_cases ek:ki=k
      .rw[QT ek,QW (by decide)];subst ek;exact Q7 (q1 i hi ⟨y,my,ey,hy⟩)
      .rw[QU ek,QV (by simp),hsm];dsimp only;rw[QW rfl,e1];dsimp only;rw[eg];dsimp only;refine Q6 ?_;unfold isSame;dsimp only;rw[QW (by simp)];refine Q7 ?_;rw[QW rfl];refine Q6 (Q7 ?_);dsimp only;rw[QV Xw];exact again ek
    .refine Q6 (Rs (wpAny_eqBool_tuple hu hy hx (Q6 (i6 hS g.fits ?_))));dsimp only
     by_cases ek:ki=k
     .rw[QT ek,QW (by decide)];subst ek;exact Q7 (q1 i hi ⟨y,my,ey,hy⟩)
     .rw[QU ek,QV (by simp),hsm];dsimp only;rw[QW rfl,e1];dsimp only;rw[eg];dsimp only;refine Q6 ?_;unfold isSame;dsimp only;rw[QW (by simp)];refine Q7 ?_;rw[QW rfl];refine Q6 (Q7 ?_);dsimp only;rw[QV Xw];exact again ek
  .rename_i hm;exfalso;obtain⟨hashAt,hha,hm⟩:∃fh:Nat->Int,(∀i,fh i=(es[i]?.map (·.1)).getD 0)/\∀met,t.probe fh h (stand.getD (t.probeStart h))=some met->False:=⟨_,λi=>rfl,hm⟩;obtain⟨n',c',p',b1,b2,b3,b4,b5⟩:=fin hashAt hha
   rcases b5 with⟨e1,e2⟩|⟨i,e1,e2,e3,_⟩
   .exact hm _ e2
   .exact hm _ e3
end
section
def BS(hk:Ru (intKind prog w) s.heap k a)(h:∀b,Q b s):Ra (Rh prog w) A (hashByValue 8 (.ref a)) Q E s:=by
 have hT:=hk.typeIs;obtain⟨o,items,n,ho,_,hd,hi⟩:=hk;unfold hashByValue;refine Q6 (Tf hT F.slot_tuple_hash.lookup ?_);dsimp only;refine Q6 (RN ho hd ?_);refine Q6 ?_;show Ra _ _ (forIn items _ _) _ _ s;rw[<-XV];refine T0 _ (λrest r s'=>s'=s/\∀v∈rest,carriedByValue v=true) _ ?_ ?_ _ _ ⟨rfl,hi.byValue⟩
 .rintro v rest r s' ⟨rfl,hall⟩;have hv:=hall v Vf;have e:∃b,hashByValue 7 v=pure b:=by
   cases v<;>first|exact⟨_,rfl⟩|(simp[carriedByValue]at hv)
  obtain⟨b,e⟩:=e;rw[e];refine Q6 (Q7 ?_);split
  .exact Q7 (Q7 (h _))
  .exact Q7 ⟨rfl,λu hu'=>hall u (Vd _ hu')⟩
 .rintro⟨r1,r2⟩ s' ⟨rfl,_⟩;cases r1 with
  |none=>exact Q7 (h _)
  |some b=>exact Q7 (h _)
def TK.same(x:Ru (intKind prog w) h k a)(hS:eY h D es ep t)(b:RQ D h h'):Ru (intKind prog w) h' k a:=by
 obtain⟨o,items,n,ho,hc,hd,hi⟩:=x;obtain⟨o',ho',hx',hd'⟩:=hS;have hne:a≠D:=by rintro rfl;obtain rfl:o=o':=Q0 (ho.symm.trans ho');rw[hd]at hd';exact nomatch hd'
 exact⟨o,items,n,(b.2 a hne).trans ho,hc,hd,hi⟩
theorem El.same(x:El prog w m h k e)(hS:eY h D es ep t)(b:RQ D h h'):El prog w m h' k e:=let ⟨a,h0,h1,h2⟩:=x;⟨a,h0,h1,TK.same h2 hS b⟩
def Rm(mask n:Nat):Prop:=(mask=7\/mask=31\/mask=127\/mask=511)/\n*5<mask*3
structure ST(prog:Rg)(w:Rk)(m:YC->Prop)(h:Rq)(es:Array (Int×YB))(t:SetTable):Prop where
 el:∀e∈es.toList,∃k,El prog w m h k e
 nd:es.toList.Pairwise λe e'=>∀k,El prog w m h k e->¬El prog w m h k e'
 tg:u9 es t
 led:t.led= !w.params.followText "set-order"
 rm:Rm t.mask es.size
def jq(prog:Rg)(w:Rk)(m:YC->Prop)(h:Rq)(D:YC)(S:List Int->Bool)(n:Nat):Prop:= ∃es ep t,eY h D es ep t/\ST prog w m h es t/\(∀k,S k=true<->∃e∈es.toList,El prog w m h k e)/\es.size=n
def Ds(r:Rm mask n):lO (mask+1):=by
 obtain⟨rfl|rfl|rfl|rfl,_⟩:=r
 .exact Jo
 .exact K0
 .exact Ef
 .exact Ee
def u9.off(g:u9 es t)(b:Bool):u9 es {t with plain:=b}:=⟨g.ps,g.ris,g.nd,g.full,g.odd,g.fit,g.pl⟩
def OW(hx:Ru (intKind prog w) s.heap k x)(hxm:m x)(hu:A.units<RM)(hS:jq prog w m s.heap D S n)(hr:n+1<307)(q:∀h',RQ D s.heap h'->jq prog w m h' D (λk'=>S k'||decide (k'=k)) (if S k then n else n+1)->Q (!S k) {s with heap:=h'}):Ra (Rh prog w) A (setAddHashed D (.ref x) (tupleKeyHash (intKind prog w) k)) Q E s:=by
 obtain⟨es,ep,t,o1,st,hm,rfl⟩:=hS;have g:=st.tg;unfold setAddHashed setAddHashedIn;refine Rs (Q6 (i6 o1 g.fits ?_));dsimp only;have hbs:byScan (.ref x) es=false:=rfl;rw[hbs,QV Xw];refine Q6 ?_;unfold setSearch;obtain⟨e0,he0,hee⟩:=zV g.ris g.nd g.fit;obtain⟨N,hN,eN⟩:=xM g.full (tupleKeyHash (intKind prog w) k) he0;have hb:t.mask<=511:=by obtain⟨h1,_⟩:=st.rm;lia
 refine i9 (m:=m) (N:=N) rfl o1 g (λi hi=>?_) hx hu ?_ hN (λi hi hE=>?_) (λhno n' c' ok em before=>?_) 100000 0 0 none xa.start rfl ?_ (λa b _ l=>?_) ?_
 .refine st.el _ ?_;rw[bF hi];simp
 .show t.slot ((lp t.mask _ N).1+0)=_;rw[Nat.add_zero,eN];exact hee
 .dsimp only;have hs:S k=true:=(hm k).mpr ⟨_,by rw[bF hi];simp,hE⟩;refine Q7 ?_;have z:=q s.heap (Heap.SameBut.refl D s.heap) ⟨es,ep,t,o1,st,λk'=>?_,by rw[hs];rfl⟩
  .rw[hs]at z;exact z
  .rw[XG,decide_eq_true_eq,<-hm k'];exact⟨λy=>y.elim id (λe=>e▸hs),.inl⟩
 .dsimp only;have hs:S k=false:=by
   cases y:S k with
   |false=>rfl
   |true=>
    obtain⟨e,a1,a2⟩:=(hm k).mp y;obtain⟨i,hi,rfl⟩:=VR a1;have hi2:i<es.size:=by simpa using hi
    exact QZ (by rw[bF hi2];simpa using a2) (hno i hi2)
  have hroom:es.size+1<=t.mask:=by obtain⟨h1,h2⟩:=st.rm;lia
  have g1:=g.put (x:=.ref x) ok em before hroom;refine Q6 (i6 o1 g.fits ?_);dsimp only;have hled:(t.put (sl t.mask (tupleKeyHash (intKind prog w) k) n' c')).1.led=t.led:=rfl;have hmask:(t.put (sl t.mask (tupleKeyHash (intKind prog w) k) n' c')).1.mask=t.mask:=rfl;have p1:=S5 es (t.put (sl t.mask (tupleKeyHash (intKind prog w) k) n' c')).2 (tupleKeyHash (intKind prog w) k,Rj x);generalize t.put (sl t.mask (tupleKeyHash (intKind prog w) k) n' c')=P at g1 hled hmask p1 ⊢;obtain⟨t1,p⟩:=P;dsimp only at g1 hled hmask p1 ⊢;generalize Rx es p (tupleKeyHash (intKind prog w) k,Rj x)=es1 at g1 p1 ⊢;rw[XT]at p1;have hz1:es1.size=es.size+1:=by have:=p1.length_eq;simpa using this
  have hex:El prog w m s.heap k (tupleKeyHash (intKind prog w) k,Rj x):=⟨x,hxm,rfl,hx⟩;have el1:∀e∈es1.toList,∃k,El prog w m s.heap k e:=λe he=>by
   rcases Vk.mp (p1.mem_iff.mp he)with y|y
   .exact st.el e y
   .rw[Vb]at y;subst y;exact⟨k,hex⟩
  have nd1:es1.toList.Pairwise λe e'=>∀k,El prog w m s.heap k e->¬El prog w m s.heap k e':=by refine(p1.pairwise_iff (λ{e e'} z k h1 h2=>z k h2 h1)).mpr (WF.mpr ⟨st.nd,WJ ..,λe he e' he' k' h1 h2=>?_⟩);rw[Vb]at he';subst he';obtain rfl:=h2.inj hex;have:=(hm k').mpr ⟨e,he,h1⟩;rw[hs]at this;cases this
  have hm1:∀k',(S k'||decide (k'=k))=true<->∃e∈es1.toList,El prog w m s.heap k' e:=λk'=>by
   rw[XG,decide_eq_true_eq,hm k']
   constructor
   .rintro(⟨e,a1,a2⟩|rfl)
    .exact⟨e,p1.mem_iff.mpr (VA _ a1),a2⟩
    .exact⟨_,p1.mem_iff.mpr (Vr _ (Vb.mpr rfl)),hex⟩
   .rintro⟨e,a1,a2⟩
    rcases Vk.mp (p1.mem_iff.mp a1)with y|y
    .exact .inl ⟨e,y,a2⟩
    .rw[Vb]at y;subst y;exact .inr (a2.inj hex)
  have back:∀{h':Rq},RQ D s.heap h'->∀{k' e},e∈es1.toList->El prog w m h' k' e->El prog w m s.heap k' e:=λ{h'} b{k' e} he z=>by obtain⟨k2,y⟩:=el1 e he;obtain rfl:=z.inj (y.same o1 b);exact y
  have out:∀{h':Rq}{es':Array (Int×YB)}{ep':Nat}{t':SetTable},RQ D s.heap h'->eY h' D es' ep' t'->es'.toList.Perm es1.toList->u9 es' t'->t'.led=t.led->Rm t'.mask es'.size->Q true {s with heap:=h'}:=λ{h' es' ep' t'} b o' pp g' l' r'=>by
   have z:=q h' b ⟨es',ep',t',o',⟨λe he=>?_,?_,g',l'.trans st.led,r'⟩,λk'=>?_,?_⟩
   .rw[hs]at z;exact z
   .obtain⟨k2,y⟩:=el1 e (pp.mem_iff.mp he);exact⟨k2,y.same o1 b⟩
   .refine(pp.pairwise_iff (λ{e e'} z k h1 h2=>z k h2 h1)).mpr ?_;refine nd1.imp_of_mem ?_;intro e e' he he' z k' h1 h2;exact z k' (back b he h1) (back b he' h2)
   .rw[hm1 k']
    constructor
    .rintro⟨e,a1,a2⟩;exact⟨e,pp.mem_iff.mpr a1,a2.same o1 b⟩
    .rintro⟨e,a1,a2⟩;have a3:=pp.mem_iff.mp a1;exact⟨e,a3,back b a3 a2⟩
   .rw[hs];have:=pp.length_eq;simp only[XO]at this;rw[this,hz1];rfl
  have hsb:es1.size<scanBound:=by unfold scanBound;lia
  have fin:∀t2,u9 es1 t2->t2.led=t.led->t2.mask=t.mask->Ra (Rh prog w) A (do
    storeSet D es1 t2
    if(!false&&t2.tooFull)=true then do
     setRelay D (TB (es.size+1))
     pure true
    else pure true) Q E s:=λt2 g2 l2 m2=>by
   refine Q6 (A9 o1 hsb ?_);have o2:=o1.put es1 t2;have b2:=RR s.heap D (Ub es1 t2);have hfill:t2.fill=es.size+1:=by unfold SetTable.fill;rw[g2.nd,g2.ps,hz1];rfl
   split
   .rename_i hfull;have hfull:t2.tooFull=true:=by simpa using hfull
    unfold SetTable.tooFull at hfull;rw[hfill,m2]at hfull;have hfull:t.mask*3<=(es.size+1)*5:=by simpa using hfull
    have hsz:(t.mask=7/\es.size+1=5)\/(t.mask=31/\es.size+1=19)\/(t.mask=127/\es.size+1=77):=by obtain⟨h1,h2⟩:=st.rm;lia
    have hw:∃M,R0 (TB (es.size+1))=M+1/\Rm M (es.size+1):=by
     rcases hsz with⟨_,e⟩|⟨_,e⟩|⟨_,e⟩
     .rw[e];exact⟨31,by decide,by unfold Rm;lia⟩
     .rw[e];exact⟨127,by decide,by unfold Rm;lia⟩
     .rw[e];exact⟨511,by decide,by unfold Rm;lia⟩
    obtain⟨M,hM,hRm⟩:=hw;have hM1:R0 (TB (es.size+1)) - 1=M:=by lia
    obtain⟨t3,order,r1,r2,r3,r4,r5,r6⟩:=yW (es:=es1) (t:=t2) (wanted:=TB (es.size+1)) (by rw[hM1];exact Ds hRm) (by rw[hM1];obtain⟨h1,_⟩:=hRm;lia) (by rw[hM1,hz1];obtain⟨h1,h2⟩:=hRm;lia);refine Q6 ?_;unfold setRelay;refine Q6 (i6 o2 g2.fits ?_);dsimp only;rw[QV (by rw[hM];obtain⟨h1,_⟩:=hRm;unfold v1;lia),r1];refine Q6 ?_;show Ra _ _ (if((order.filterMap (es1[·]?)).size != es1.size)=true then _ else pure (order.filterMap (es1[·]?),t3)) _ _ _;rw[QV (by rw[r2];simp)];refine Q7 (A9 o2 (by rw[r2];exact hsb) (Q7 ?_));exact out (b2.trans (RR _ D (Ub _ t3))) (o2.put _ t3) r3 r4 (r5.trans l2) (by rw[r6,hM1,r2,hz1];exact hRm)
   .rename_i hfull;have hfull:t2.tooFull=false:=by simpa using hfull
    unfold SetTable.tooFull at hfull;rw[hfill,m2]at hfull;have hfull:(es.size+1)*5<t.mask*3:=by simpa using hfull
    refine Q7 (out b2 o2 (List.Perm.refl _) g2 l2 ?_);rw[m2,hz1];exact⟨st.rm.1,hfull⟩
  split
  .refine Q6 (BS hx λbv=>?_);cases bv with
   |true=>exact fin t1 g1 hled hmask
   |false=>exact fin _ (g1.off false) hled hmask
  .exact Q6 (Q7 (fin t1 g1 hled hmask))
 .lia
 .unfold iT at l;lia
 .lia
def El.low(x:El prog w m h k e)(kp:∀b o,m b->h.get? b=some o->h'.get? b=some o):El prog w m h' k e:=let ⟨a,h0,h1,o,items,n,ho,r⟩:=x;⟨a,h0,h1,o,items,n,kp a o h0 ho,r⟩
theorem jq.low(x:jq prog w m h D S n)(kd:∀o,h.get? D=some o->h'.get? D=some o)(kp:∀b o,m b->h.get? b=some o->h'.get? b=some o):jq prog w m h' D S n:=by
 obtain⟨es,ep,t,o1,st,hm,e⟩:=x;have back:∀{k' e},e∈es.toList->El prog w m h' k' e->El prog w m h k' e:=λ{k' e} he z=>by obtain⟨k2,y⟩:=st.el e he;obtain rfl:=z.inj (y.low kp);exact y
 refine⟨es,ep,t,o1.keep kd,⟨λe he=>let ⟨k,y⟩:=st.el e he;⟨k,y.low kp⟩,?_,st.tg,st.led,st.rm⟩,λk=>?_,e⟩
 .refine st.nd.imp_of_mem ?_;intro e e' he he' z k' h1 h2;exact z k' (back he h1) (back he' h2)
 .rw[hm k];exact⟨λ⟨e,a1,a2⟩=>⟨e,a1,a2.low kp⟩,λ⟨e,a1,a2⟩=>⟨e,a1,back a1 a2⟩⟩
def jq.congr(x:jq prog w m h D S n)(e1:∀k,S k=S' k)(e2:n=n'):jq prog w m h D S' n':=by obtain rfl:S=S':=funext e1;subst e2;exact x
end
end L2
namespace L2
open PySem PySem.Spec PyProof.Rows
section
variable [DecidableEq κ]
def yO(a:YB)(q:Q1 (.ref s.heap.objs.size) {s with heap:=s.heap.push (cE (!w.params.followText "set-order"))}):SV (Rh prog w) A (.call (.builtin "set.__new__") ⟨[.type "set",a],[]⟩) (wants Q1 E) s:=by
 refine Ue ?_;show Ra _ A.in1 (do checkBuiltinCall "set.__new__" ⟨[.type "set",a],[]⟩;again _) _ _ s;refine Q6 (Um (F.newCall_set_1 a) (Q7 ⟨SC F.plain_set_new _,RO F.entry_set_new ?_⟩));rw[RF F.plain_set_new _];unfold Sr.«set.__new__» Builtin.Frozenset.newClass;have hsub:=sub_set_self;obtain⟨hp,g,d,tk,os⟩:=s;dsimp only
 wp_walk
 refine S8 (Q7 ?_);dsimp only;simp only[newObj];refine Q6 (wpAny_alloc (Q7 (Q7 q)))
end
section
variable{prog:Rg}{w:Rk}{A:Sd}{R:Result->Rb->Prop}{I:YC}{fp wr:List YC}{G:Array T4->Array T4->Prop}{n:Nat}{Pt:Nat->YB->Prop}{St:Nat->Rb->Prop}
def yR(W:WalksS prog w A.in1 I fp wr G n Pt St)(D:YC)(hD:D∉fp)(hDm:¬m D)(hwr:∀b∈wr,¬m b)(hu:A.units+1<RM)(val:Nat->List Int)(hv:∀i v,Pt i v->∃a,v=.ref a/\m a/\Ru (intKind prog w) h0 (val i) a)(hb:n+1<307):∀k i s,n - i=k->i<=n->St i s->(∀b o,m b->h0.get? b=some o->s.heap.get? b=some o)->jq prog w m s.heap D (λx=>decide (x∈bV val i)) (bV val i).length->(∀s2,Moved (D::wr) G s s2->jq prog w m s2.heap D (λx=>decide (x∈bV val n)) (bV val n).length->R (.ok (.ret .none)) s2)->SV (Rh prog w) A (.builtin "set.update.loop" ⟨[.ref D,.ref I],[]⟩) R s:=by
 have nW:D∉wr:=λz=>hD (W.sub _ z);have up:∀b∈wr,b∈D::wr:=λb z=>Vd _ z;have mv:∀{s s2:Rb}{S:List Int->Bool}{r:Nat},Moved wr G s s2->jq prog w m s.heap D S r->jq prog w m s2.heap D S r:=λhm x=>x.low (λo e=>hm.heap D _ nW e) λb o hb e=>hm.heap b _ (λz=>hwr b z hb) e;intro k
 induction k with
 |zero=>
  intro i s e1 e2 st kp hS hR;have e3:i=n:=by lia
  subst e3;refine RO Su ?_;rw[RF RV _];show Ra _ A.in1 (Sm (.ref I) >>= _) _ _ s;refine Q6 (W.done s _ _ st λs2 hm=>?_);show Ra _ A.in1 (ret Sf) _ _ s2;exact Q7 (hR s2 (hm.mono up) (mv hm hS))
 |succ k ih=>
  intro i s e1 e2 st kp hS hR;have e3:i<n:=by lia
  refine RO Su ?_;rw[RF RV _];show Ra _ A.in1 (Sm (.ref I) >>= _) _ _ s;refine Q6 (W.item i s _ _ e3 st λv s2 hp st2 hm=>?_);obtain⟨a,rfl,ha,ka⟩:=hv i v hp;have kp2:∀b o,m b->h0.get? b=some o->s2.heap.get? b=some o:=λb o hb e=>hm.heap b _ (λz=>hwr b z hb) (kp b o hb e);have ka2:Ru (intKind prog w) s2.heap (val i) a:=let ⟨o,items,r,ho,rr⟩:=ka;⟨o,items,r,kp2 a o ha ho,rr⟩;have hS2:=mv hm hS;show Ra _ A.in1 (Tb [.ref a] (setAdd D (.ref a)) >>= _) _ _ s2;refine Q6 (Rs ?_);unfold setAdd;refine Rs (Q6 (wpAny_pyHash_tuple hu ka2 ?_));have room:(bV val i).length+1<307:=by have:=kC val i;lia
  refine OW (m:=m) (s:={s2 with toks:=s2.toks+((val i).length+1)}) ka2 ha hu hS2 room λh2 sb hS3=>?_;have hS4:jq prog w m h2 D (λx=>decide (x∈bV val (i+1))) (bV val (i+1)).length:=by
   refine hS3.congr (λx=>?_) ?_
   .show(decide (x∈bV val i)||decide (x=val i))=decide (x∈wK (bV val i) (val i))
    unfold wK
    by_cases m:val i∈bV val i
    .rw[QW m]
     by_cases e:x=val i
     .subst e;rw[QT m];simp
     .rw[QU e,XE]
    .rw[QV m,Xy];simp
   .show(if decide (val i∈bV val i)=true then _ else _)=(wK (bV val i) (val i)).length;unfold wK
    by_cases m:val i∈bV val i
    .rw[QW (QT m),QW m]
    .rw[QV (by rw[QU m];decide),QV m,Ve];rfl
  refine Q7 ⟨SC RV _,ih (i+1) _ (by lia) e3 (W.frame _ s2 _ _ st2 (Xa _ _) λb hb o e=>?_) (λb o hb e=>?_) hS4 λs3 hm3 hS5=>?_⟩
  .exact(sb.2 b (λz:b=D=>hD (z▸hb))).trans e
  .exact(sb.2 b (λz:b=D=>hDm (z▸hb))).trans (kp2 b o hb e)
  .refine hR s3 (Moved.trans W.gtrans ((hm.mono up).then_heap (Xa _ _) λb o hb e=>?_) hm3) hS5;exact(sb.2 b (λz:b=D=>hb (by rw[z];exact Vf))).trans e
end
section
variable{prog:Rg}{w:Rk}{A:Sd}{E:Q4}{s:Rb}
def yQ(M:YC->Prop)(val:Nat->List Int)(hh:A.handled=none)(hl:s.heap.IsList l its)(hu:A.units+4<RM)(hv:∀i v,its[i]? =some v->∃a,v=.ref a/\M a/\Ru (intKind prog w) s.heap (val i) a)(hM:∀a,M a->a<s.heap.objs.size)(hb:its.size+1<307)(k:∀h2 tk,jq prog w M h2 s.heap.objs.size (λx=>decide (x∈bV val its.size)) (bV val its.size).length->(∀b o,b<s.heap.objs.size->s.heap.get? b=some o->h2.get? b=some o)->Q (.ref s.heap.objs.size) {s with heap:=h2,toks:=tk}):Ra (Rh prog w) A (call (.type "set") [.ref l]) Q E s:=by
 obtain⟨c0,tl0,hmro⟩:=F.called_set.mro;have hmade:=F.called_set.made;have hsub:=F.called_set.sub;have n1:=F.called_set.notType;have n2:=F.called_set.canCreate;have n3:=F.typeCall_set_1 (.ref l);refine T8 (Ue ?_);show Ra _ _ (callAny (.type "set") _) _ _ _;refine Q7 ⟨Code.quiet_builtin _ (by decide+kernel),RO F.entry_type_call ?_⟩;rw[Around.under_plain (Ui "set" [.ref l] []) rfl]
 repeat (any_goals (first|assumption|wp_step))
 refine Sb (yO (.ref l) (E:=E) (Q1:=λo s1=>o=.ref s.heap.objs.size/\s1={s with heap:=s.heap.push (cE (!w.params.followText "set-order"))}) ⟨rfl,rfl⟩) λr s1 hr=>?_;cases r with
 |error e=>exact hr
 |ok fl=>
  cases fl with
  |ret ob=>
   obtain⟨rfl,rfl⟩:=hr;generalize hld:(!w.params.followText "set-order")=led;have g0:(s.heap.push (cE led)).get? s.heap.objs.size=some (cE led):=Re _ rfl;have ty:Tc {s with heap:=s.heap.push (cE led)} (.ref s.heap.objs.size) "set":=⟨_,g0,rfl⟩;have m1:=F.called_set.init.lookup;have m2:=F.called_set.init.bind (.ref s.heap.objs.size)
   repeat (any_goals (first|assumption|wp_step))
   refine Sb (Td (R:=wants (λr s2=>r=.none/\∃h2 tk,s2={s with heap:=h2,toks:=tk}/\jq prog w M h2 s.heap.objs.size (λx=>decide (x∈bV val its.size)) (bV val its.size).length/\
     (∀b o,b<s.heap.objs.size->s.heap.get? b=some o->h2.get? b=some o)) E) F.called_set.init.plain F.entry_set_init (check_set_init_1 ty ?_)) λr2 s2 hr2=>?_
   .obtain⟨⟨oc,od,oda,osl⟩,ho,hc,nl,hd⟩:=hl;simp only at hc hd;subst hc;subst hd;have hol:(s.heap.push (cE led)).get? l=some {cls:=.type "list",dict:=od,data:=.seq its nl,slots:=osl}:=Q8 _ ho;have b1:=F.sub_list_set;have b2:=F.sub_list_frozenset;have b3:(Tz "list" == Tz "dict")=false:=by decide
    have hl1:(s.heap.push (cE led)).IsList l its:=⟨_,hol,rfl,nl,rfl⟩;unfold Sr.«set.__init__» noKeywords Tl;generalize hPI:pyIter=PI
    wp_walk
    subst hPI;refine Sk hl1 (Q6 (Ul ?_));have hlt:l<s.heap.objs.size:=Q9 ho;have h3:A.in1.in1.in1.handled=none:=by simp[hh]
    have sz:(s.heap.push (cE led)).objs.size=s.heap.objs.size+1:=Rz ..;have ne1:l≠(s.heap.push (cE led)).objs.size:=by rw[sz];exact WS (Xd hlt)
    have ne2:s.heap.objs.size∉[(s.heap.push (cE led)).objs.size,l]:=by
     rw[sz];intro z
     rcases U8.mp z with z|z
     .exact Xf _ z.symm
     .exact WX hlt (Vb.mp z)
    refine yR (m:=M) (h0:=s.heap) ((UF h3 _ l ne1 its).toS) s.heap.objs.size ne2 (λz=>WY _ (hM _ z)) (λb hb z=>by rw[Vb.mp hb,sz]at z;exact QZ (hM _ z) (Nat.not_lt.mpr (WW _))) (by show A.units+1+1+1<RM;lia) val (λi v hp=>?_) hb (its.size - 0) 0 _ (by lia) (WT _) ⟨⟨_,Re _ rfl,rfl,rfl⟩,(hl1.push _)⟩ (λb o _ e=>Q8 _ (Q8 _ e)) ?_ (λs3 hm hS3=>?_)
    .exact hv i v hp
    .refine⟨#[],0,.fresh 0 0 led,⟨_,Q8 _ g0,⟨rfl,rfl,rfl⟩,rfl⟩,⟨λe he=>by simp at he,List.Pairwise.nil,u9.fresh,by rw[hld];rfl,⟨.inl rfl,by show 0*5<7*3;decide⟩⟩,λx=>?_,rfl⟩;show decide (x∈([]:List (List Int)))=true<->_;simp
    .obtain⟨hh3,gg3,dd3,tk3,os3⟩:=s3;obtain rfl:gg3=s.gens:=hm.gens;obtain rfl:dd3=s.drawn:=hm.drawn;obtain rfl:os3=s.os:=hm.os;show Ra _ _ _ _ _ _;refine Q7 ?_;show Ra _ _ (ret Sf) _ _ _;refine Q7 ⟨rfl,hh3,tk3,rfl,hS3,λb o hb2 e=>?_⟩;refine hm.heap b o ?_ (Q8 _ (Q8 _ e));rw[sz];intro z
     rcases U8.mp z with z|z
     .exact WS hb2 z
     .exact WS (Xd hb2) (Vb.mp z)
   .cases r2 with
    |error e=>exact hr2
    |ok fl2=>
     cases fl2 with
     |ret r3=>
      obtain⟨rfl,h2,tk,rfl,hS2,kp⟩:=hr2
      repeat (any_goals (first|assumption|wp_step))
      exact k _ _ hS2 kp
     |_=>exact hr2.elim
  |_=>exact hr.elim
end
end L2
namespace L2
open PySem PySem.W PyProof.Rows
structure OZ(n:Nat)(lt:Nat->Nat->Bool):Prop where
 tr:∀a b c,a<n->b<n->c<n->lt a b=true->lt b c=true->lt a c=true
 as:∀a b,a<n->b<n->lt a b=true->lt b a=false
 tt:∀a b,a<n->b<n->a≠b->lt a b=false->lt b a=true
noncomputable abbrev gp(p:Array Nat)(i:Nat):Nat:=p.getD i 0
structure PR(n:Nat)(p:Array Nat):Prop where
 sz:p.size=n
 lo:∀i,i<n->gp p i<n
 nd:∀i j,i<n->j<n->gp p i=gp p j->i=j
def pU(p:Array Nat)(i:Nat):gp p i=(p[i]?).getD 0:=by unfold gp;simp[Array.getD_eq_getD_getElem?]
def PR.of(h:p.toList.Perm (List.range n)):PR n p:=by
 have hs:p.size=n:=by have:=h.length_eq;simpa using this
 have hn:p.toList.Nodup:=h.nodup_iff.mpr List.nodup_range;have at_:∀i(hi:i<n),gp p i=p.toList[i]'(by simpa[hs]using hi):=λi hi=>by
  have:i<p.size:=by lia
  simp[gp,this]
 refine⟨hs,λi hi=>?_,λi j hi hj e=>?_⟩
 .rw[at_ i hi];exact Vo.mp (h.mem_iff.mp (Vl _))
 .rw[at_ i hi,at_ j hj]at e;have hw:=Wk.mp hn
  rcases Xe i j with z|z|z
  .exact QZ e (hw i j _ _ z)
  .exact z
  .exact QZ e.symm (hw j i _ _ z)
def Up(lt:Nat->Nat->Bool)(p:Array Nat)(k:Nat):Prop:= ∀i j,i<j->j<k->lt (gp p i) (gp p j)=true
def Dn(lt:Nat->Nat->Bool)(p:Array Nat)(k:Nat):Prop:= ∀i j,i<j->j<k->lt (gp p j) (gp p i)=true
section
variable{n:Nat}{lt:Nat->Nat->Bool}{s:Rb}{cmp:Nat->Nat->(Bool->Rb->Prop)->Rb->Prop}(O:OZ n lt)(hc:∀i j(C:Bool->Rb->Prop),i<n->j<n->C (lt i j) s->cmp i j C s)
include O hc
theorem CF(P:PR n p):∀(f a:Nat){Q:Nat->Rb->Prop},1<=a->a+f<=n->Up lt p a->(∀m,a<=m->m<=a+f->Up lt p m->(m=a+f\/lt (gp p m) (gp p (m - 1))=true)->Q m s)->(kas_asc p f a).kasWp cmp Q s
 |0,a,Q,_,_,u,q=>q a (WR _) (WR _) u (.inl rfl)
 |f+1,a,Q,h1,h2,u,q=>by
  refine hc _ _ _ (P.lo a (by lia)) (P.lo (a - 1) (by lia)) ?_;cases e:lt (p.getD a 0) (p.getD (a - 1) 0)with
  |true=>exact q a (WR _) (by lia) u (.inr e)
  |false=>
   refine CF P f (a+1) (by lia) (by lia) ?_ λm m1 m2 m3 m4=>q m (by lia) (by lia) m3 (m4.imp (λz=>by lia) id);have e2:lt (gp p (a - 1)) (gp p a)=true:=O.tt _ _ (P.lo a (by lia)) (P.lo (a - 1) (by lia)) (λz=>by have:=P.nd a (a - 1) (by lia) (by lia) z;lia) e;intro i j hij hj
   by_cases ej:j=a
   .subst ej
    by_cases ei:i=j - 1
    .subst ei;exact e2
    .exact O.tr _ _ _ (P.lo i (by lia)) (P.lo (j - 1) (by lia)) (P.lo j (by lia)) (u i (j - 1) (by lia) (by lia)) e2
   .exact u i j hij (by lia)
theorem Co(P:PR n p):∀(f a:Nat){Q:Array Nat×Nat×Nat->Rb->Prop},1<=a->a+f<=n->Dn lt p a->(∀m,a<=m->m<=a+f->Dn lt p m->Q (p,m,0) s)->(kas_desc f p a 0).kasWp cmp Q s
 |0,a,Q,_,_,u,q=>q a (WR _) (WR _) u
 |f+1,a,Q,h1,h2,u,q=>by
  refine hc _ _ _ (P.lo a (by lia)) (P.lo (a - 1) (by lia)) ?_;cases e:lt (p.getD a 0) (p.getD (a - 1) 0)with
  |true=>
   show(kas_desc f p (a+1) 0).kasWp cmp Q s;refine Co P f (a+1) (by lia) (by lia) ?_ λm m1 m2 m3=>q m (by lia) (by lia) m3;intro i j hij hj
   by_cases ej:j=a
   .subst ej
    by_cases ei:i=j - 1
    .subst ei;exact e
    .exact O.tr _ _ _ (P.lo j (by lia)) (P.lo (j - 1) (by lia)) (P.lo i (by lia)) e (u i (j - 1) (by lia) (by lia))
   .exact u i j hij (by lia)
  |false=>
   have e2:lt (p.getD (a - 1) 0) (p.getD a 0)=true:=O.tt _ _ (P.lo a (by lia)) (P.lo (a - 1) (by lia)) (λz=>by have:=P.nd a (a - 1) (by lia) (by lia) z;lia) e;show KasT.kasWp cmp (KasT.ask _ _ _) Q s;refine hc _ _ _ (P.lo (a - 1) (by lia)) (P.lo a (by lia)) ?_;rw[e2];exact q a (WR _) (by lia) u
theorem qV(P:PR n p)(hk:k<n)(u:Up lt p k):∀(f l r:Nat){Q:Nat->Rb->Prop},l<=r->r<=k->r - l<=f->(∀i,i<l->lt (gp p i) (gp p k)=true)->(∀i,r<=i->i<k->lt (gp p k) (gp p i)=true)->(∀m,m<=k->(∀i,i<m->lt (gp p i) (gp p k)=true)->(∀i,m<=i->i<k->lt (gp p k) (gp p i)=true)->Q m s)->(UT p k f l r).kasWp cmp Q s
 |0,l,r,Q,h1,h2,h3,a,b,q=>by
  have:l=r:=by lia
  subst this;exact q l h2 a b
 |f+1,l,r,Q,h1,h2,h3,a,b,q=>by
  unfold UT
  by_cases hlr:l≥r
  .rw[QW hlr];have:l=r:=by lia
   subst this;exact q l h2 a b
  .rw[QV hlr];refine hc _ _ _ (P.lo k hk) (P.lo ((l+r) / 2) (by lia)) ?_;cases e:lt (p.getD k 0) (p.getD ((l+r) / 2) 0)with
   |true=>
    show(UT p k f l ((l+r) / 2)).kasWp cmp Q s;refine qV P hk u f l ((l+r) / 2) (by lia) (by lia) (by lia) a (λi i1 i2=>?_) q
    by_cases ei:i=(l+r) / 2
    .subst ei;exact e
    .exact O.tr _ _ _ (P.lo k hk) (P.lo ((l+r) / 2) (by lia)) (P.lo i (by lia)) e (u _ _ (by lia) i2)
   |false=>
    show(UT p k f ((l+r) / 2+1) r).kasWp cmp Q s;have e2:lt (gp p ((l+r) / 2)) (gp p k)=true:=O.tt _ _ (P.lo k hk) (P.lo ((l+r) / 2) (by lia)) (λz=>by have:=P.nd k ((l+r) / 2) hk (by lia) z;lia) e;refine qV P hk u f ((l+r) / 2+1) r (by lia) h2 (by lia) (λi i1=>?_) b q
    by_cases ei:i=(l+r) / 2
    .subst ei;exact e2
    .exact O.tr _ _ _ (P.lo i (by lia)) (P.lo ((l+r) / 2) (by lia)) (P.lo k hk) (u _ _ (by lia) (by lia)) e2
omit O hc in
def Bl{p q:Array Nat}{n:Nat}(h:p.toList.Perm (List.range n))(e:q.Perm p):q.toList.Perm (List.range n):=(Array.perm_iff_toList_perm.mp e).trans h
theorem JA:∀(f k:Nat)(p:Array Nat){Q:Array Nat->Rb->Prop},p.toList.Perm (List.range n)->1<=k->k+f=n->Up lt p k->(∀p',p'.toList.Perm (List.range n)->Up lt p' n->Q p' s)->(kas_bin f p k).kasWp cmp Q s
 |0,k,p,Q,hp,h1,h2,u,q=>q p hp (by rw[<-h2];exact u)
 |f+1,k,p,Q,hp,h1,h2,u,q=>by
  have P:=PR.of hp;unfold kas_bin;rw[SX];refine qV O hc P (by lia) u k 0 k (WT _) (WR _) (by lia) (λi z=>QZ z (Nat.not_lt_zero _)) (λi z1 z2=>by lia) λm hm a b=>?_;refine JA f (k+1) _ (Bl hp (bubble_perm _ _ _)) (by lia) (by lia) ?_ q;have ge:∀i,gp (bubble p k (k - m)) i=if i=m then gp p k else if m<i/\i<=k then gp p (i - 1)else gp p i:=λi=>by
   rw[pU,getElem?_bubble (by rw[P.sz];lia) (k - m) (by lia) i,show k - (k - m)=m by lia];split
   .rw[pU]
   .split<;>rw[pU]
  intro i j hij hj;rw[ge,ge]
  by_cases e1:i=m
  .rw[QW e1]
   by_cases e2:j=m
   .lia
   .rw[QV e2,QW (by lia)];exact b (j - 1) (by lia) (by lia)
  .rw[QV e1]
   by_cases e2:j=m
   .rw[QW e2,QV (by lia)];exact a i (by lia)
   .rw[QV e2]
    by_cases e3:m<i/\i<=k
    .rw[QW e3,QW (by lia)];exact u (i - 1) (j - 1) (by lia) (by lia)
    .rw[QV e3]
     by_cases e4:m<j/\j<=k
     .rw[QW e4];exact u i (j - 1) (by lia) (by lia)
     .rw[QV e4];exact u i j hij (by lia)
def K9(hp:p.toList.Perm (List.range n))(h2:2<=n)(hd:lt (gp p 1) (gp p 0)=true)(q:∀m p',p'.toList.Perm (List.range n)->1<=m->m<=n->Up lt p' m->Q (m,p') s):(kas_descPart 1 n p).kasWp cmp Q s:=by
 have P:=PR.of hp;unfold kas_descPart;rw[SX];refine Co O hc P (n - (1+1)) (1+1) (by lia) (by lia) (λi j hij hj=>?_) λm m1 m2 m3=>?_
 .have e1:i=0:=by lia
  have e2:j=1:=by lia
  subst e1;subst e2;exact hd
 .show(kas_tail3 m n p).kasWp cmp Q s;unfold kas_tail3;rw[SX];have hp2:(kas_rev p 0 m).toList.Perm (List.range n):=Bl hp (mirror_perm _ _ _ _);have ge:∀i,gp (kas_rev p 0 m) i=if i<m then gp p (m - 1 - i)else gp p i:=λi=>by
   unfold kas_rev;rw[pU,getElem?_mirror_all (by rw[P.sz];lia)]
   by_cases e:i<m
   .rw[QW ⟨WT _,e⟩,QW e,pU,W9]
   .rw[QV (λz=>e z.2),QV e,pU]
  refine CF O hc (PR.of hp2) (n - m) m (by lia) (by lia) (λi j hij hj=>?_) λr r1 r2 r3 _=>q r _ hp2 (by lia) (by lia) r3;rw[ge,ge,QW (by lia),QW hj];exact m3 _ _ (by lia) (by lia)
def JZ(h2:2<=n)(q:∀p,p.toList.Perm (List.range n)->Up lt p n->Q p s):(kas_sort n).kasWp cmp Q s:=by
 have hp:(List.toArray (List.range n)).toList.Perm (List.range n):=List.Perm.refl _;have P:=PR.of hp;unfold kas_sort kas_count;rw[SX,SX];have fin:∀m p',p'.toList.Perm (List.range n)->1<=m->m<=n->Up lt p' m->KasT.kasWp cmp (if m<n then kas_bin (n - max m 1) p' (max m 1)else KasT.ret p') Q s:=λm p' hp' m1 m2 u=>by
  by_cases e:m<n
  .rw[QW e,show max m 1=m by lia];exact JA O hc (n - m) m p' hp' m1 (by lia) u q
  .rw[QV e];have:m=n:=by lia
   subst this;exact q p' hp' u
 refine CF O hc P (n - 1) 1 (WR _) (by lia) (λi j hij hj=>by lia) λm m1 m2 m3 m4=>?_
 by_cases e:m=n
 .rw[QW (by simp[e])];exact fin m _ hp m1 (by lia) m3
 .rw[QV (by simp[e])]
  by_cases e1:m > 1
  .rw[QW e1];refine hc _ _ _ (P.lo 0 (by lia)) (P.lo (m - 1) (by lia)) ?_;have:lt ((List.toArray (List.range n)).getD 0 0) ((List.toArray (List.range n)).getD (m - 1) 0)=true:=m3 0 (m - 1) (by lia) (by lia);rw[this];exact fin m _ hp m1 (by lia) m3
  .rw[QV e1];have:m=1:=by lia
   subst this;refine K9 O hc hp h2 (by rcases m4 with z|z;exact QZ z (by lia);exact z) λm p' a b c d=>fin m p' a b c d
end
end L2
namespace L2
open PySem PySem.W PySem.Calls PyProof.Rows
noncomputable def fS:List Int->List Int->Bool
 | [],[]=>false
 | [],_::_=>true
 |_::_,[]=>false
 |a::x,b::y=>if a=b then fS x y else decide (a<b)
theorem kD:∀x,fS x x=false
 | []=>rfl
 |a::x=>by unfold fS;rw[QW rfl];exact kD x
theorem xO:∀x y,x≠y->fS x y=false->fS y x=true
 | [],[],h,_=>QZ rfl h
 | [],_::_,_,e=>by cases e
 |_::_,[],_,_=>rfl
 |a::x,b::y,h,e=>by
  unfold fS at e ⊢
  by_cases ab:a=b
  .subst ab;rw[QW rfl]at e ⊢;exact xO x y (λz=>h (by rw[z])) e
  .rw[QV ab]at e;rw[QV (Ne.symm ab)];have:=QY e;exact QT (by lia)
theorem rM:∀x y,fS x y=true->fS y x=false
 | [],[],e=>by cases e
 | [],_::_,_=>rfl
 |_::_,[],e=>by cases e
 |a::x,b::y,e=>by
  unfold fS at e ⊢
  by_cases ab:a=b
  .subst ab;rw[QW rfl]at e ⊢;exact rM x y e
  .rw[QV ab]at e;rw[QV (Ne.symm ab)];have:=QX e;exact QU (by lia)
theorem xP:∀x y z,fS x y=true->fS y z=true->fS x z=true
 | [],[],_,e,_=>by cases e
 | [],_::_,[],_,e=>by cases e
 | [],_::_,_::_,_,_=>rfl
 |_::_,[],_,e,_=>by cases e
 |_::_,_::_,[],_,e=>by cases e
 |a::x,b::y,c::z,e,f=>by
  unfold fS at e f ⊢
  by_cases ab:a=b
  .subst ab;rw[QW rfl]at e
   by_cases ac:a=c
   .subst ac;rw[QW rfl]at f ⊢;exact xP x y z e f
   .rw[QV ac]at f ⊢;exact f
  .rw[QV ab]at e;have e:=QX e
   by_cases bc:b=c
   .subst bc;rw[QV ab];exact QT e
   .rw[QV bc]at f;have f:=QX f;rw[QV (by lia)];exact QT (by lia)
section
theorem Je:∀x y us vs i,ItemsAre (intKind prog w) x us->ItemsAre (intKind prog w) y vs->(x.length<y.length<->fin=true)->Q (fS x y) s->KatLex prog w A true fin Q (us.zip vs) i s
 | [],[],_,_,i,.nil,.nil,hf,q=>by
   refine kat_nil ?_;have:fin=false:=by cases fin with|false=>rfl|true=>exact QZ (hf.mpr rfl) (by simp)
   rw[this];exact q
 | [],_::_,_,_,i,.nil,.cons _ _,hf,q=>by refine kat_nil ?_;rw[hf.mp (by simp)];exact q
 |_::_,[],_,_,i,.cons _ _,.nil,hf,q=>by
  show KatLex prog w A true fin Q [] i s;refine kat_nil ?_;have:fin=false:=by cases fin with|false=>rfl|true=>exact QZ (hf.mpr rfl) (by simp)
  rw[this];exact q
 |a::x,b::y,u::us,v::vs,i,.cons h1 t1,.cons h2 t2,hf,q=>by
  obtain⟨t,rfl⟩:∃t,u=.int a t:=by cases u<;>simp[intKind,TH]at h1;exact⟨_,by rw[h1]⟩
  obtain⟨t',rfl⟩:∃t',v=.int b t':=by cases v<;>simp[intKind,TH]at h2;exact⟨_,by rw[h2]⟩
  show KatLex prog w A true fin Q ((SM a t,SM b t')::us.zip vs) i s;refine kat_cons (wpAny_eqBool_int ?_);unfold fS at q
  by_cases ab:a=b
  .subst ab;rw[QW rfl]at q;rw[show(a == a)=true by simp];exact kat_yes (Je x y us vs (i+1) t1 t2 (by simpa using hf) q)
  .rw[QV ab]at q;rw[show(a == b)=false by simp[ab]];refine kat_no ?_
   by_cases hi:i=0
   .subst hi;exact oneLt_int q
   .have:(true&&i == 0)=false:=by simp[hi]
    rw[this];exact kat_one _ _ (PyProof.Rows.lt_int q)
def N6(hx:Ru (intKind prog w) s.heap kx x)(hy:Ru (intKind prog w) s.heap ky y)(q:Q (fS kx ky) s):Ra (Rh prog w) A (keyLt' (tuples' true) (.ref x) (.ref y)) Q E s:=by obtain⟨ox,xs,n,h1,_,h2,h3⟩:=hx;obtain⟨oy,ys,k,h4,_,h5,h6⟩:=hy;refine kat_lt h1 h2 h4 h5 (Je kx ky _ _ 0 h3 h6 ?_ q);rw[h3.length,h6.length];simp
def wj{B:Rq}{m:Q3}{vs:List YB}{ks:List (List Int)}{n:Nat}(F:Fr B L s.heap m)(ho:s.heap.get? a=some (Sz "list" vs.toArray n))(haL:a≠L)(ha0:B.get? a=none)(hl:ks.length=vs.length)(hv:∀i,i<vs.length->∃x,vs.getD i .none=.ref x/\x≠L/\x≠a/\Ru (intKind prog w) s.heap (ks.getD i []) x/\ks.getD i []≠[])(nd:ks.Nodup)(h2:2<=vs.length)(h64:vs.length<64)(h:∀p h' c,p.toList.Perm (List.range vs.length)->(∀i j,i<j->j<vs.length->fS (ks.getD (gp p i) []) (ks.getD (gp p j) [])=true)->Fr B L h' m->(∀b o,b≠L->b≠a->s.heap.get? b=some o->h'.get? b=some o)->
   h'.get? a=some (Sz "list" (p.toList.map λi=>vs.getD i .none).toArray c)->P (.done (.ret .none)) {s with heap:=h'}):Ra (Rh prog w) A (Sr.«list.sort» ⟨[.ref a],[]⟩) P E s:=by
 have N:News B L s.heap (rest B s.heap L a):=λp hp=>DQ haL ha0 ho p (Vd _ hp);refine kat_list_sort F N ho haL ha0 rest_ne h2 h64 λe1 h' F' N'=>?_;have kp:∀b o,b≠L->b≠a->s.heap.get? b=some o->h'.get? b=some o:=kF F.keep F' λp hp=>N' p (Vd _ hp);have key:∀i,i<vs.length->∃x,vs.getD i .none=.ref x/\Ru (intKind prog w) h' (ks.getD i []) x/\ks.getD i []≠[]:=λi hi=>by obtain⟨x,e1,e2,e3,⟨o,items,r,e4,e5⟩,e6⟩:=hv i hi;exact⟨x,e1,⟨o,items,r,kp x o e2 e3 e4,e5⟩,e6⟩
 have hkk:∀i j,i<vs.length->j<vs.length->ks.getD i []=ks.getD j []->i=j:=λi j hi hj e=>by rw[Vh,Vh,U9 (by lia),U9 (by lia)]at e;exact(List.getElem_inj nd).mp (by simpa using e)
 have O:OZ vs.length λi j=>fS (ks.getD i []) (ks.getD j []):=⟨λx y z _ _ _ h1 h2=>xP _ _ _ h1 h2,λx y _ _ h1=>rM _ _ h1,λx y hx hy ne h1=>xO _ _ (λe=>ne (hkk x y hx hy e)) h1⟩;obtain⟨fs,tp,fl,fi⟩:∃fs,KatTups h' vs fs/\fs.length=vs.length/\∀f∈fs,∃n t,f=SM n t:=by
  have go:∀(us:List YB)(f:Nat->List Int),(∀i,i<us.length->∃x,us.getD i .none=.ref x/\Ru (intKind prog w) h' (f i) x/\f i≠[])->∃fs,KatTups h' us fs/\fs.length=us.length/\∀f∈fs,∃n t,f=SM n t:=by
   intro us
   induction us with
   |nil=>exact λf _=>⟨[],.nil,rfl,λf z=>nomatch z⟩
   |cons u us ih=>
    intro f hf;obtain⟨fs,t1,t2,t3⟩:=ih (λi=>f (i+1)) λi hi=>hf (i+1) (by simpa using hi);obtain⟨x,e1,⟨o,items,r,e4,e5,e6,e7⟩,e8⟩:=hf 0 (by simp);have e1:u=.ref x:=e1;subst e1;generalize f 0=kk at e7 e8;generalize hit:items.toList=its at e7;cases e7 with
    |nil=>exact QZ rfl e8
    | @cons k v ks' vs' h1 h2=>
      obtain⟨t,rfl⟩:∃t,v=.int k t:=by cases v<;>simp[intKind,TH]at h1;exact⟨_,by rw[h1]⟩
      refine⟨.int k t::fs,KatTups.cons e4 e5 e6 ?_ t1,by simp[t2],λf z=>?_⟩
      .rw[<-XM,hit];rfl
      .rcases U8.mp z with rfl|z
       .exact⟨k,t,rfl⟩
       .exact t3 f z
  exact go vs (λi=>ks.getD i []) key
 refine kat_kind (T:=.type "int") tp (by lia) (λf hf=>?_) (by decide) ?_
 .obtain⟨k,t,rfl⟩:=fi f hf;exact Looks.of_pure rfl
 .show(kas_sort vs.length).kasWp (kas_ask prog w A (tuples' true) vs) _ _;refine JZ O (λi j C hi hj hC=>?_) h2 λp hp up=>?_
  .obtain⟨x,e1,kx,_⟩:=key i hi;obtain⟨y,e2,ky,_⟩:=key j hj;unfold kas_ask;rw[e1,e2];exact N6 (s:={s with heap:=h'}) kx ky hC
  .refine KasFin.intro F' N' (UpdF.head rest_ne) λh'' c F'' N''=>?_;exact h p h'' c hp up F'' (kF F.keep F'' λq hq=>N'' q (Vd _ hq)) (N'' _ (.head _)).1
end
end L2
namespace L2
open PySem PySem.Spec PyProof.Rows
def Oe(hu:X.A.units+20<RM)(ho:PE X o td)(hi:PE X i ty)(hs:Lw i:=by exact λ_ _=>rfl):PE X (.Subscript o i pos) (AB td ty):=DD (by lia) ho hi hs
end L2
namespace L2
open PySem PySem.W PySem.Calls PySem.Spec PyProof.Rows
theorem xD{α β:Type}[DecidableEq α](f:α->β):∀{vs:List β}{l:List α},vs.Perm (l.map f)->∃l':List α,l'.Perm l/\vs=l'.map f
 | [],l,h=>by
   have:l=[]:=by have:=h.length_eq;simpa using this.symm
   subst this;exact⟨[],List.Perm.refl _,rfl⟩
 |v::vs,l,h=>by obtain⟨x,hx,rfl⟩:=U7.mp (h.mem_iff.mp Vf);have hp:=WH hx;have h2:vs.Perm ((l.erase x).map f):=(h.trans (hp.map f)).cons_inv;obtain⟨l',p1,rfl⟩:=xD f h2;exact⟨x::l',(List.Perm.cons x p1).trans hp.symm,rfl⟩
def Dz{α:Type}(d:α){l:List α}{p:List Nat}(h:p.Perm (List.range l.length)):(p.map λi=>l.getD i d).Perm l:=by
 refine(h.map _).trans (List.Perm.of_eq ?_);apply VV;intro i;rw[Va]
 by_cases hi:i<l.length
 .rw[VJ hi,U9 hi];simp[Vh,hi]
 .rw[Vw (by simpa using hi),Vw (by lia)];rfl
section
variable{prog:Rg}{w:Rk}{A:Sd}{E:Q4}{s:Rb}
def oW(ho:s.heap.get? a=some (Sz "list" vs.toArray n))(h1:vs.length<2)(h:P (.done (.ret .none)) {s with heap:=sortedHeap s.heap a vs vs.toArray}):Ra (Rh prog w) A (Sr.«list.sort» ⟨[.ref a],[]⟩) P E s:=by
 obtain⟨e1,g1⟩:∃e1,(s.heap.update a (R7 λ_=> #[])).get? a=some (Sz "list" #[] e1):=⟨_,get?_update_seq ho (λ_=> #[])⟩;have lt:a<s.heap.objs.size:=Q9 ho;have g2:(((s.heap.update a (R7 λ_=> #[])).push (Sz "tuple" vs.toArray 0)).push (Sz "list" #[] 0)).get? a=some (Sz "list" #[] e1):=Q8 _ (Q8 _ g1);have few:vs.toArray.size<2:=by rw[Vc];exact h1
 have zz:(vs.toArray.zip vs.toArray).map (·.2)=vs.toArray:=by apply XS.mp;simp;exact List.map_snd_zip (WR _)
 have sm:vs.toArray.size<=v1:=by rw[Rf];lia
 rw[list_sort_plain];refine Q6 (listItems_at ho rfl (Q6 (listUpdate_at ho rfl (Q6 (seqEpoch_at g1 rfl (Q6 (wpAny_newTuple (Q6 (wpAny_newList (Rs ?_))))))))));dsimp only;rw[QW few,QW few];refine Q6 (Q7 ?_);rw[StateT.run_pure];refine Q6 (Q7 ?_);dsimp only;refine Q6 (seqEpoch_at g2 rfl (Q6 (listUpdate_at g2 rfl ?_ (hsz2:=?_))))
 .simp only[bne_self_eq_false,Xz,if_false];refine Q7 ?_;rw[show Array.map (λx=>x.snd) (arrOf (SortSt.mk' general' (vs.toArray.zip vs.toArray) #[] 7 none))=vs.toArray from zz];exact h
 .rw[show Array.map (λx=>x.snd) (arrOf (SortSt.mk' general' (vs.toArray.zip vs.toArray) #[] 7 none))=vs.toArray from zz];lia
structure EK(prog:Rg)(w:Rk)(h:Rq)(L:YC)(ps:List (List Int×YC)):Prop where
 at_:∀p∈ps,p.2≠L/\p.1≠[]/\Ru (intKind prog w) h p.1 p.2
 nd:(ps.map (·.1)).Nodup
def EK.perm(x:EK prog w h L ps)(p:ps'.Perm ps):EK prog w h L ps':=⟨λq hq=>x.at_ q (p.mem_iff.mp hq),(p.map _).nodup_iff.mpr x.nd⟩
def EK.keep(x:EK prog w h L ps)(k:∀b o,b≠L->h.get? b=some o->h'.get? b=some o):EK prog w h' L ps:=⟨λq hq=>let ⟨a,b,o,its,r,e,rr⟩:=x.at_ q hq;⟨a,b,o,its,r,k _ o a e,rr⟩,x.nd⟩
def zu{B:Rq}{m:Q3}{ps:List (List Int×YC)}{Q:Q4}(F:Fr B L s.heap m)(T:EK prog w s.heap L ps)(h64:ps.length<64)(q:∀(ps':List (List Int×YC))(h':Rq)(c:Nat),ps'.Perm ps->ps'.Pairwise (λx y=>fS x.1 y.1=true)->Fr B L h' m->(∀b o,b≠L->s.heap.get? b=some o->h'.get? b=some o)->
   h'.get? s.heap.objs.size=some (Sz "list" (ps'.map λz=>Rj z.2).toArray c)->Q .none {s with heap:=h'}):Ra (Rh prog w) A (Sr.«list.sort» ⟨[.ref s.heap.objs.size],[]⟩) (λr s'=>r=.done (.ret .none)/\Q .none s') E {s with heap:=s.heap.push (Sz "list" (ps.map λz=>Rj z.2).toArray 0)}:=by
 have hL:L<s.heap.objs.size:=F.ns.lt;have gL:(s.heap.push (Sz "list" (ps.map λz=>Rj z.2).toArray 0)).get? s.heap.objs.size=some (Sz "list" (ps.map λz=>Rj z.2).toArray 0):=Re _ rfl;have kp:∀b o,s.heap.get? b=some o->(s.heap.push (Sz "list" (ps.map λz=>Rj z.2).toArray 0)).get? b=some o:=λb o e=>Q8 _ e;have F1:Fr B L (s.heap.push (Sz "list" (ps.map λz=>Rj z.2).toArray 0)) m:=F.kept kp;have hlen:(ps.map λz=>Rj z.2).length=ps.length:=U6 ..
 by_cases h2:2<=ps.length
 .have hat:∀i(hi:i<ps.length),(ps.map λz=>Rj z.2).getD i .none=.ref (ps.getD i ([],0)).2/\(ps.map (·.1)).getD i []=(ps.getD i ([],0)).1/\ps.getD i ([],0)∈ps:=λi hi=>by simp[Vh,U9 hi]
  refine wj (ks:=ps.map (·.1)) F1 gL (WX hL) (Te (WU F.above (Xb hL))) (by simp) (λi hi=>?_) T.nd (by rw[hlen];exact h2) (by rw[hlen];exact h64) λp h' c hp up F' k' ga=>?_
  .rw[hlen]at hi;obtain⟨e1,e2,e3⟩:=hat i hi;obtain⟨a1,a2,o,its,r,e,rr⟩:=T.at_ _ e3;exact⟨_,e1,a1,WS (Q9 e),by rw[e2];exact⟨o,its,r,kp _ _ e,rr⟩,by rw[e2];exact a2⟩
  .rw[hlen]at hp up;have P:=PR.of hp;refine⟨rfl,q (p.toList.map λi=>ps.getD i ([],0)) h' c (Dz _ hp) ?_ F' (λb o n e=>k' b o n (WS (Q9 e)) (kp b o e)) ?_⟩
   .rw[VE,Wk];intro i j hi hj hij;have hi2:i<ps.length:=by rw[<-P.sz];simpa using hi
    have hj2:j<ps.length:=by rw[<-P.sz];simpa using hj
    have z:=up i j hij hj2;have gi:gp p i=p.toList[i]:=by
     have:i<p.size:=by rw[P.sz];exact hi2
     simp[gp,this]
    have gj:gp p j=p.toList[j]:=by
     have:j<p.size:=by rw[P.sz];exact hj2
     simp[gp,this]
    rw[gi,gj]at z;rw[<-(hat _ (by rw[<-gi];exact P.lo i hi2)).2.1,<-(hat _ (by rw[<-gj];exact P.lo j hj2)).2.1];exact z
   .rw[ga,Vj];congr 3;refine VD λi hi=>?_;exact(hat i (Vo.mp (hp.mem_iff.mp hi))).1
 .refine oW gL (by rw[hlen];lia) ?_;obtain⟨e,he⟩:=sortedHeap_at (out:=(ps.map λz=>Rj z.2).toArray) gL;have k2:∀b o,s.heap.get? b=some o->(sortedHeap (s.heap.push (Sz "list" (ps.map λz=>Rj z.2).toArray 0)) s.heap.objs.size (ps.map λz=>Rj z.2) (ps.map λz=>Rj z.2).toArray).get? b=some o:=λb o e=>by rw[sortedHeap_old (WS (Q9 e)) (by rw[Rz];exact Xd (Q9 e))];exact kp b o e
  refine⟨rfl,q ps _ e (List.Perm.refl _) ?_ (F.kept k2) (λb o _ e=>k2 b o e) he⟩
  match ps,h2 with
  | [],_=>exact List.Pairwise.nil
  | [_],_=>exact WJ ..
  |_::_::_,h=>exact QZ (by simp) h
end
section
def uV(prog:Rg)(w:Rk)(h:Rq)(D:YC)(ps:List (List Int×YC)):Prop:= ∃es ep t,eY h D es ep t/\es.toList.Perm (ps.map λp=>(tupleKeyHash (intKind prog w) p.1,Rj p.2))/\SG (!w.params.followText "set-order") es.size t
theorem uV.keep(x:uV prog w h D ps)(k:∀o,h.get? D=some o->h'.get? D=some o):uV prog w h' D ps:=let ⟨es,ep,t,h1,r⟩:=x;⟨es,ep,t,h1.keep k,r⟩
theorem Cj:∀{l:List (Int×YB)},(∀e∈l,∃k,El prog w M h k e)->∃ps:List (List Int×YC),l=ps.map (λp=>(tupleKeyHash (intKind prog w) p.1,Rj p.2))/\∀p∈ps,M p.2/\Ru (intKind prog w) h p.1 p.2
 | [],_=>⟨[],rfl,λ_ z=>nomatch z⟩
 |e::l,hl=>by obtain⟨ps,rfl,h1⟩:=Cj λe' he=>hl e' (Vd _ he);obtain⟨k,a,h2,rfl,h3⟩:=hl e Vf;exact⟨(k,a)::ps,rfl,λp hp=>(U8.mp hp).elim (λz=>z▸⟨h2,h3⟩) (h1 p)⟩
def jq.toP(x:jq prog w M h D S n):∃ps:List (List Int×YC),uV prog w h D ps/\(∀p∈ps,M p.2/\Ru (intKind prog w) h p.1 p.2)/\(ps.map (·.1)).Nodup/\(∀k,S k=true<->k∈ps.map (·.1))/\ps.length=n:=by
 obtain⟨es,ep,t,o1,st,hm,hz⟩:=x;obtain⟨ps,e,h1⟩:=Cj st.el;refine⟨ps,⟨es,ep,t,o1,List.Perm.of_eq e,st.tg.fits,st.led,st.tg.ris⟩,h1,?_,λk=>?_,?_⟩
 .have z:=st.nd;rw[e,VE]at z;rw[V6,VE];refine z.imp_of_mem ?_;intro p p' hp hp' q e2;exact q p.1 ⟨p.2,(h1 p hp).1,rfl,(h1 p hp).2⟩ ⟨p'.2,(h1 p' hp').1,by rw[e2],by rw[e2];exact(h1 p' hp').2⟩
 .rw[hm k,e,U7]
  constructor
  .rintro⟨e',he,z⟩;obtain⟨p,hp,rfl⟩:=U7.mp he;exact⟨p,hp,(El.inj (m:=M) ⟨p.2,(h1 p hp).1,rfl,(h1 p hp).2⟩ z)⟩
  .rintro⟨p,hp,rfl⟩;exact⟨_,U7.mpr ⟨p,hp,rfl⟩,p.2,(h1 p hp).1,rfl,(h1 p hp).2⟩
 .have:=Q2 List.length e;rw[U6,XO]at this;lia
def tK(F:Fr B L s.heap m)(hh:A.handled=none)(hS:uV prog w s.heap D ps)(T:EK prog w s.heap L ps)(h64:ps.length<64)(q:∀(ps':List (List Int×YC))(h':Rq)(p:YC)(e:Nat) d tk,ps'.Perm ps->ps'.Pairwise (λx y=>fS x.1 y.1=true)->Fr B L h' m->(∀b o,b≠L->s.heap.get? b=some o->h'.get? b=some o)->s.heap.objs.size<=p->h'.get? p=some (Sz "list" (ps'.map λz=>Rj z.2).toArray e)->s.toks<=tk->Q (.ref p) {s with heap:=h',drawn:=d,toks:=tk}):Ra (Rh prog w) A (call (.builtin "sorted") [.ref D]) Q E s:=by
 obtain⟨es,ep,t,o1,hp,g⟩:=hS;have hz:es.size=ps.length:=by have:=hp.length_eq;simpa using this
 refine Calls.call_function_entry kind_sorted plain_sorted entry_sorted (args_sorted1 _) ?_;unfold Sr.«sorted»;refine Q6 (m:=checkCount "sorted" 1 1 _) (Q7 ?_);refine Q6 (uJ (by exact hh) o1 g (by rw[Rf];lia) λvs h1 d1 tk1 hv k1 hsz ht1=>?_);obtain⟨ps1,p1,rfl⟩:=xD (λp:List Int×YC=>Rj p.2) (hv.trans (by
  have z:=hp.map (·.2);rw[Vj]at z;exact z))
 refine Q6 (wpAny_newList ?_ (by rw[U6,p1.length_eq,Rf];lia));have gL:(h1.push (Sz "list" (ps1.map λz=>Rj z.2).toArray 0)).get? h1.objs.size=some (Sz "list" (ps1.map λz=>Rj z.2).toArray 0):=Re _ rfl;refine Q6 (Rs (RJ slot_list_sort ⟨_,gL,rfl⟩ entry_list_sort (RT (zu (s:={s with heap:=h1,drawn:=d1,toks:=tk1}) (Q:=λ_ s'=>Ra (Rh prog w) A.in1 (ret (.ref h1.objs.size)) (λr s''=>∃v,r=.done (.ret v)/\Q v s'') E s') (F.kept k1) ((T.perm p1).keep λb o _ e=>k1 b o e) (by rw[p1.length_eq];exact h64) λps' h' c hp' pw F' k' ga=>?_) (λr s' z=>⟨_,z.1,z.2⟩) λ_ _ z=>z) (args_list_sort _)));exact Q7 ⟨_,rfl,q ps' h' _ c _ _ (hp'.trans p1) pw F' (λb o n e=>k' b o n (k1 b o e)) (Xb hsz) ga ht1⟩
end
def bC.hereS(x:bC P w H h a o):∃u,h.get? a=some u:=by
 cases o with
 |lst xs=>obtain⟨_,_,_,_,e⟩:=x;exact⟨_,e⟩
 |tup xs=>obtain⟨_,_,_,o,e,_⟩:=x;exact⟨_,e⟩
 |dK kvs=>obtain⟨_,_,_,_,o,_,_,e,_⟩:=x;exact⟨_,e⟩
 |dT kvs=>obtain⟨_,_,_,_,o,_,_,e,_⟩:=x;exact⟨_,e⟩
 |set S n=>obtain⟨o,_,_,_,e,_⟩:=x;exact⟨_,e⟩
 |ins C dx fs=>obtain⟨_,_,_,e,_⟩:=x;exact⟨_,e⟩
 |own y=>obtain⟨_,e⟩:=x;exact⟨_,e⟩
 |xd fs=>obtain⟨_,⟨_,_,_,e,_⟩,_⟩:=x;exact⟨_,e⟩
 |rng lo hi=>obtain⟨_,_,_,e⟩:=x;exact⟨_,e⟩
 |frz ob u=>obtain⟨e,_⟩:=x;exact⟨_,e⟩
 |tbl ps=>exact⟨_,(show h.get? a=some _ from x)⟩
 |met f y=>exact⟨_,(show h.get? a=some _ from x)⟩
 |ext φ=>obtain⟨_,⟨_,e⟩,_⟩:=x;exact⟨_,e⟩
section
theorem pi:∀(ps:List (List Int×YC)),a9 (ps.map λz=>V.ref z.2) (ps.map λz=>Rj z.2)
 | []=>.nil
 |p::ps=>.cons rfl (pi ps)
theorem uu:∀{k:List Int}{us:List YB},a9 (k.map V.int) us->ItemsAre (intKind P w) k us
 | [],_,.nil=>.nil
 |n::k,_,.cons r t=>by obtain⟨tk,rfl⟩:=r;exact .cons (intKind_is _ _ _ _) (uu t)
def xh(x:bC P w H h a (.tup (k.map V.int))):Ru (intKind P w) h k a:=by obtain⟨_,its,r,o,ho,hc,n,hd⟩:=x;exact⟨o,_,n,ho,hc,hd,uu r⟩
def Ap{QQ:Q5}{σ:St}{H:Hp}{s:Rb}{Q:VK}(I:aL X QQ σ H s){m:Q3}(F:Fr X.QR X.env.locals s.heap m){h':Rq}{p:YC}{e tk:Nat}{d:Drawn}{ps':List (List Int×YC)}(F':Fr X.QR X.env.locals h' m)(kp:∀b o,b≠X.env.locals->s.heap.get? b=some o->h'.get? b=some o)(hle:s.heap.objs.size<=p)(ga:h'.get? p=some (Sz "list" (ps'.map λz=>Rj z.2).toArray e))(hz:ps'.length<64)(q:H p=none->Q (.ref p) (upd H p (.lst (ps'.map λz=>V.ref z.2)))):EP X QQ σ Q (.ref p) {s with heap:=h',drawn:=d,toks:=tk}:=by
 have hD:s.heap.get? p=none:=Te hle;have hHD:H p=none:=by
  cases z:H p with
  |none=>rfl
  |some u=>
   obtain⟨o,e⟩:=(I.hok p u z).hereS;rw[hD]at e;cases e
 refine⟨.ref p,upd H p (.lst (ps'.map λz=>V.ref z.2)),?_,rfl,q hHD⟩;have hlenZ:(ps'.map λz=>V.ref z.2).length<=v1:=by rw[U6,Rf];lia
 have neD:∀b u,H b=some u->b≠p:=λb u e=>ay e hHD;have neLH:∀b u,H b=some u->b≠X.env.locals:=λb u e=>ay e I.free;refine I.step (g':=s.gens) (d':=d) (ch:=[]) (λ_ z=>nomatch z) (λb o n _ _ e _=>kp b o n e) (λb o n _ _ e _=>⟨o.slots,kp b o n e⟩) (λb o _ e n=>?_) (λb o _ e=>?_)
  (λb xs e=>by rw[ak (neD b _ e)];exact e) (λb o u e=>by rw[ak (neD b _ e)];exact e) (λb ps e=>⟨#[],by rw[ak (neD b _ e),e];simp⟩) (λm' hm=>?_) (λb u e=>?_) I.bare
 .rw[ak (λz=>by rw[z,hD]at e;cases e)];exact n
 .by_cases hb:b=X.env.locals
  .obtain⟨o',_,_,e',_⟩:=F'.ns;rw[hb];exact⟨o',e'⟩
  .exact⟨o,kp b o hb e⟩
 .rw[hm.eq_nsMap,<-F.ns.eq_nsMap];exact F'.ns
 .by_cases hb:b=p
  .subst hb;rw[af]at e;cases e;exact⟨hlenZ,_,_,pi ps',by simpa[Sz]using ga⟩
  .rw[ak hb]at e;refine(I.hok b u e).stay (λb' v hb' z=>kp b' v ?_ z) (λb' z=>by rw[ak (neD b' _ z)];exact z) λb' xs z=>by rw[ak (neD b' _ z)];exact z
   rcases hb' with rfl|hb'
   .exact neLH _ _ e
   .exact neLH _ _ hb'
def tN(P:Rg)(w:Rk)(K:Frag)(xs:List V)(H:Hp)(Q:VK):Prop:= ∃(d:YC)(ps:List (List Int×YC)),xs=[.ref d]/\aN K H d (ps.map λz=>V.ref z.2)/\(∀p∈ps,H p.2=some (.tup (p.1.map V.int)))/\ps.length+1<307/\
 ∀(q:YC)(ps':List (List Int×YC)),H q=none->(∀p∈ps',p∈ps)->(ps'.map (·.1)).Nodup->(∀k,k∈ps'.map (·.1)<->k∈ps.map (·.1))->Q (.ref q) (upd H q (.ext λh=>uV P w h q ps'))
def mV(P:Rg)(w:Rk)(xs:List V)(H:Hp)(Q:VK):Prop:= ∃d ps,xs=[.ref d]/\H d=some (.ext λh=>uV P w h d ps)/\(∀p∈ps,p.1≠[]/\H p.2=some (.tup (p.1.map V.int)))/\(ps.map (·.1)).Nodup/\ps.length<64/\
 ∀(ps':List (List Int×YC))(q:YC),ps'.Perm ps->ps'.Pairwise (λx y=>fS x.1 y.1=true)->H q=none->Q (.ref q) (upd H q (.lst (ps'.map λz=>V.ref z.2)))
def JO{QQ:Q5}{σ:St}{H:Hp}{s:Rb}(I:aL X QQ σ H s){ps:List (List Int×YC)}(hp:∀p∈ps,p.1≠[]/\H p.2=some (.tup (p.1.map V.int)))(nd:(ps.map (·.1)).Nodup):EK X.prog X.w s.heap X.env.locals ps:=
 ⟨λp h=>⟨ay (hp p h).2 I.free,(hp p h).1,xh (I.hok _ _ (hp p h).2)⟩,nd⟩
def uN(hh:X.A.handled=none):bq X (.builtin "sorted") (mV X.prog X.w):=by intro QQ s σ H xs us Q I r h;obtain⟨d,ps,rfl,hd,hp,nd,h64,q⟩:=h;obtain⟨u,rfl,rx⟩:=fG r;cases rx;obtain⟨pS,_,_⟩:=(show bC X.prog X.w H s.heap d (.ext _)from I.hok d _ hd);obtain⟨m,F⟩:=I.fr;refine tK F hh pS (JO I hp nd) h64 λps' h' p e dr tk a1 a2 F' kp hle ga _=>?_;exact Ap I F F' kp hle ga (by rw[a1.length_eq];exact h64) (q ps' p a1 a2)
def wS(hh:X.A.handled=none)(hu:X.A.units+4<RM):bq X (.type "set") (tN X.prog X.w X.K):=by
 intro QQ s σ H xs us Q I r h;obtain⟨d,ps,rfl,hq,hp,hb,q⟩:=h;obtain⟨u,rfl,rx⟩:=fG r;cases rx;obtain⟨its,r',pl,hz⟩:=I.list hq;have hlen:=r'.length;rw[U6]at hlen;have hs:its.toArray.size=ps.length:=by rw[Vc,<-hlen]
 have hM:∀p∈ps,Ru (intKind X.prog X.w) s.heap p.1 p.2:=λp h=>xh (I.hok _ _ (hp p h));refine yQ (λa=>∃p∈ps,p.2=a) (λi=>(ps.getD i ([],0)).1) hh pl.isList hu (λi v hv=>?_) (λa ⟨p,hp1,e⟩=>?_) (by rw[hs];exact hb) λh2 tk hS kp=>?_
 .rw[Wr]at hv;have hi:i<its.length:=(Vi.mp hv).1;have hi2:i<ps.length:=by lia
  have hx:(ps.map λz=>V.ref z.2)[i]? =some (.ref ps[i].2):=by rw[Va,U9 hi2];rfl
  obtain⟨u,hu,ru⟩:=r'.get hx;rw[hv]at hu;cases hu;have eg:ps.getD i ([],0)=ps[i]:=by simp[Vh,hi2]
  rw[eg];exact⟨_,ru,⟨_,Vl hi2,rfl⟩,hM _ (Vl hi2)⟩
 .obtain⟨o,_,_,ho,_⟩:=hM p hp1;rw[<-e];exact Q9 ho
 .rw[hs]at hS;have k2:∀b u,s.heap.get? b=some u->h2.get? b=some u:=λb u e=>kp b u (Q9 e) e;obtain⟨ps',s1,s2,s3,s4,_⟩:=hS.toP;have ho:∃o,h2.get? s.heap.objs.size=some o:=let ⟨_,_,_,⟨o,h1,_⟩,_⟩:=s1;⟨o,h1⟩;refine⟨.ref s.heap.objs.size,_,I.laid (t':=tk) k2 (WR _) (show bC X.prog X.w _ h2 _ (.ext λh=>uV X.prog X.w h s.heap.objs.size ps')from⟨s1,ho,λh1 h2 e k=>e.keep k⟩),rfl,q _ ps' (I.hok.fresh (WR _)) (λp h=>?_) s3 λk=>?_⟩
  .obtain⟨⟨p2,h2p,e2⟩,kk⟩:=s2 p h;obtain⟨o,items,n,g1,rr⟩:=hM p2 h2p;have:p2.1=p.1:=IsTupleKey.inj (knd:=intKind X.prog X.w) (h:=h2) (a:=p.2) (e2▸⟨o,items,n,k2 _ _ g1,rr⟩) kk;have:p2=p:=Prod.ext this e2;exact this▸h2p
  .rw[<-s4 k,decide_eq_true_eq,nH,U7,U7]
   constructor
   .rintro⟨i,hi,rfl⟩;have hi2:=Vo.mp hi;exact⟨ps[i],Vl hi2,by simp[Vh,hi2]⟩
   .rintro⟨p,h,rfl⟩;obtain⟨i,hi,rfl⟩:=VR h;exact⟨i,Vo.mpr hi,by simp[Vh,hi]⟩
end
end L2
namespace L2
open PySem PySem.Spec PyProof.Rows
section
variable{X:Cx}
def OR(to te:TE):TE:=λσ H Q=>to σ H λx H1=>match x with
 | .ref l=>(∃xs,H1 l=some (.lst xs))/\te σ H1 λy H2=>∃b xs zs,y=.ref b/\H2 l=some (.lst xs)/\H2 b=some (.lst zs)/\xs.length+zs.length<=v1/\Q .non (upd H2 l (.lst (xs++zs)))
 |_=>False
def Cu{apos cpos:Uk}(ho:PE X o to)(he:PE X e te)(hbase:RK o "extend" X.env (RH o X.env)=RH o X.env:=by rfl)(hfew:((RE cpos (Rc [e] X.env)).all (λx=> !x.1)&&(SS cpos (Se [] X.env)).all (λx=>x.1.isSome)
   &&decide ([e].length+([]:List Sl).length+(if([]:List Sl).isEmpty then 0 else 1)<30))=true:=by rfl) (hline:(apos.endLine == cpos.line)=true:=by rfl) (hs:Rc [e] X.env=(false,RH e X.env)::Rc [] X.env:=by rfl) (hplain:(RE cpos (Rc [] X.env)).any (·.1)=false:=by rfl):PE X (.Call (.Attribute o "extend" apos) [e] [] cpos) (OR to te):=by
 intro QQ s σ H Q I h;refine RY hbase hfew hline rfl (bH (ho QQ s σ H _ I h) λv s1 ⟨x,H1,I1,r1,q1⟩=>?_);cases x with
 |ref l=>
  obtain⟨⟨xs0,e0⟩,q1⟩:=q1;have ty:Db X.K "list" (.ref l) H1:=.inl ⟨rfl,xs0,aN.of e0⟩;obtain⟨h1,h2⟩:=iV I1 r1 ty;refine⟨"list","list.extend",PySem.F.plainAttrs_list,PySem.F.slot_list_extend,PySem.F.type_list_extend,h1,h2,?_⟩;have hA:=(pa_cons he pan hs:PA X [e] (bf te cw)) cpos QQ s1 σ H1 (λvs H2=>mx (.ref l) vs H2 Q) I1 (by
   show te σ H1 λy H2=>mx (.ref l) [y] H2 Q;have:(λ(y:V)(H2:Hp)=>∃b xs zs,y=.ref b/\H2 l=some (.lst xs)/\H2 b=some (.lst zs)/\xs.length+zs.length<=v1/\Q .non (upd H2 l (.lst (xs++zs))))=λy H2=>mx (.ref l) [y] H2 Q:=by
    funext y H2;apply propext
    constructor
    .rintro⟨b,xs,zs,rfl,z⟩;exact⟨l,b,xs,zs,rfl,rfl,z⟩
    .rintro⟨l',b,xs,zs,e1,e2,z⟩;cases e1;have:y=.ref b:=by injection e2
     exact⟨b,xs,zs,this,z⟩
   rw[<-this];exact q1)
  rw[hs]at hA ⊢;refine RA (by show(false||(RE cpos (Rc [] X.env)).any (·.1))=false;rw[hplain]<;>rfl) (RW ?_)
  exact bH hA λus s2 ⟨vs,H2,I2,r2,q3⟩=>zv QQ s2 σ H2 _ vs v us Q I2 r1 r2 q3
 |_=>exact q1.elim
def Oa(P:Rg)(w:Rk)(K:Frag)(hr:db j X.A)(hP:X.prog=P:=by rfl)(hw:X.w=w:=by rfl)(hK:X.K=K:=by rfl):bq X (.type "set") (tN P w K):=by subst hP hw hK;exact wS hr.hd (by have:=hr.units;lia)
def KF(P:Rg)(w:Rk)(hr:db j X.A)(hP:X.prog=P:=by rfl)(hw:X.w=w:=by rfl):bq X (.builtin "sorted") (mV P w):=by subst hP hw;exact uN hr.hd
end
section
variable{P:Rg}{w:Rk}{K:Frag}{σ:St}{H:Hp}{Q:VK}{te to:TE}{u:TS}
def vx(h:te σ H λv H1=>tN P w K [v] H1 λu H2=>mV P w [u] H2 Q):cB (mV P w) (bf (cB (tN P w K) (bf te cw)) cw) σ H Q:=h
noncomputable def pk(x:Int×Int):List Int:=[x.1,x.2]
def Kc(h:pk x=pk y):x=y:=by unfold pk at h;injection h with h1 h2;injection h2 with h2 _;exact Prod.ext h1 h2
def vz{ps:List (List Int×YC)}(hd:aN K H d (ps.map λz=>V.ref z.2))(hp:∀p∈ps,p.1≠[]/\H p.2=some (.tup (p.1.map V.int)))(hl:ps.length+1<307)(h64:∀l:List (List Int),l.Nodup->(∀k,k∈l<->k∈ps.map (·.1))->l.length<64)(q:∀(ps':List (List Int×YC))(q:YC)(H':Hp),(∀p∈ps',p∈ps)->(∀k,k∈ps'.map (·.1)<->k∈ps.map (·.1))->ps'.Pairwise (λx y=>fS x.1 y.1=true)->H q=none->ah H H'->H' q=some (.lst (ps'.map λz=>V.ref z.2))->Q (.ref q) H'):tN P w K [.ref d] H λu H2=>mV P w [u] H2 Q:=by
 refine⟨d,ps,rfl,hd,λp h=>(hp p h).2,hl,λq1 ps1 hq1 sub nd mem=>?_⟩;have z1:ps1.length<64:=by have:=h64 _ nd mem;rwa[U6]at this
 refine⟨q1,ps1,rfl,af,λp h=>⟨(hp p (sub p h)).1,?_⟩,nd,z1,λps2 q2 pm pw hq2=>?_⟩
 .rw[ak (ay (hp p (sub p h)).2 hq1)];exact(hp p (sub p h)).2
 .have n12:q2≠q1:=λz=>by rw[z,af]at hq2;cases hq2
  have hq2':H q2=none:=by rw[ak n12]at hq2;exact hq2
  refine q ps2 q2 _ (λp h=>sub p (pm.mem_iff.mp h)) (λk=>?_) pw hq2' (((ah.refl H).upd hq1).upd hq2) af;rw[<-mem k];exact(pm.map _).mem_iff
end
noncomputable def sdV(row:Str)(s:Int):V:=dc (row.cps.toList.getD s.toNat 0)
noncomputable def gf(row:Str)(sd:Int)(aim:Str):List Int->List (Int×Int)
 | []=>[]
 |g::r=>if sdV row g=.non then(if aim="hit"then gf row sd aim r else(g, -1)::gf row sd aim r)else if¬sdV row g=.int sd/\¬aim="go"then [(g,g)]else []
noncomputable def nN(row:Str)(sd:Int):List Int->List (Int×Int)
 |g::b::_=>if sdV row g=.int (1 - sd)/\sdV row b=.non then [(b,g)]else []
 |_=>[]
theorem kZ(row:Str)(sd:Int)(aim:Str):∀l,(gf row sd aim l).length<=l.length
 | []=>WR _
 |g::r=>by
  have:=kZ row sd aim r;unfold gf;split
  .split<;>simp<;>lia
  .split<;>simp
def pQ(row:Str)(sd:Int):∀l,(nN row sd l).length<=1
 | []=>WT _
 | [_]=>WT _
 |g::b::r=>by
  show(if sdV row g=.int (1 - sd)/\sdV row b=.non then [(b,g)]else []).length<=1;split
  .exact WR _
  .exact WT _
def cS(H H':Hp)(q:YC)(l:List (Int×Int)):Prop:= ∃ps:List (List Int×YC),ps.map (·.1)=l.map pk/\H' q=some (.lst (ps.map λz=>V.ref z.2))/\∀p∈ps,H p.2=none/\H' p.2=some (.tup (p.1.map V.int))
def mW:gf row sd aim (g::r)=if sdV row g=.non then(if aim="hit"then gf row sd aim r else(g, -1)::gf row sd aim r)else if¬sdV row g=.int sd/\¬aim="go"then [(g,g)]else []:=rfl
structure RowS(row:Str):Prop where
 len:row.length<=64
 asc:∀c∈row.cps.toList,c<128
def AN(K:Frag):Sp:=λvs H Q _=>∃(row aim:Str)(sd:Int)(p:YC)(path:List Int),vs=[.str row,.int sd,.str aim,.ref p]/\aN K H p (path.map V.int)/\RowS row/\(∀g∈path,0<=g/\g<row.length)/\path.length<=8/\
 ∀(q:YC)(H':Hp),H q=none->cS H H' q (gf row sd aim path)->ah H H'->Q (.ref q) H'
def AS(K:Frag):Sp:=λvs H Q _=>∃(row:Str)(sd:Int)(p:YC)(path:List Int),vs=[.str row,.int sd,.ref p]/\aN K H p (path.map V.int)/\RowS row/\(∀g∈path,0<=g/\g<row.length)/\(sd=0\/sd=1)/\
 ∀(q:YC)(H':Hp),H q=none->cS H H' q (nN row sd path)->ah H H'->Q (.ref q) H'
structure CRs(P:Rg)(w:Rk)(K:Frag)(mg:Q3)(QR:Rq):Prop where
 side_of:cC P w K mg QR "side_of" ["sign"] 1 mR
def RowS.at{row:Str}(R:RowS row){s:Int}(h0:0<=s)(h1:s<row.length):atI row.cps.toList s=some (row.cps.toList.getD s.toNat 0)/\row.cps.toList.getD s.toNat 0<128:=by
 have hl:s.toNat<row.cps.toList.length:=by have:row.length=row.cps.toList.length:=rfl;lia
 have e:row.cps.toList[s.toNat]? =some (row.cps.toList.getD s.toNat 0):=by rw[Vh,U9 hl];rfl
 have z:=bx e;rw[Xu h0]at z;exact⟨z,R.asc _ (Vn e)⟩
def cS.nil:cS H (upd H q (.lst [])) q []:=⟨[],rfl,af,λ_ z=>nomatch z⟩
def cS.add{l:List (Int×Int)}{x y:Int}{ps:List (List Int×YC)}(h1:ps.map (·.1)=l.map pk)(h2:H1 q=some (.lst (ps.map λz=>V.ref z.2)))(h3:∀p∈ps,H p.2=none/\H1 p.2=some (.tup (p.1.map V.int)))(s:ah H H1)(ht:H1 t=none):cS H (upd (upd H1 t (.tup [.int x,.int y])) q (.lst ((ps.map λz=>V.ref z.2)++[.ref t]))) q (l++[(x,y)]):=by
 have hqt:q≠t:=λz=>by rw[<-z,h2]at ht;cases ht
 refine⟨ps++[([x,y],t)],by rw[Vg,Vg,h1];rfl,by rw[af,Vg];rfl,λp hp=>?_⟩
 rcases Vk.mp hp with z|z
 .obtain⟨a1,a2⟩:=h3 p z;refine⟨a1,?_⟩;rw[ak (λw=>by rw[w]at a2;rw[h2]at a2;cases a2),ak (λw=>by rw[w,ht]at a2;cases a2)];exact a2
 .rw[Vb.mp z];refine⟨?_,by rw[ak (Ne.symm hqt),af];rfl⟩;cases w:H t with
  |none=>rfl
  |some u=>have:=s t u w;rw[ht]at this;cases this
def NH(h:t σ H λc H1=>if c=true then R true H1 else u σ H1 R):Lz t u σ H R:=h
section
variable{K:Frag}{c:Nat}{H:Hp}{Q:VK}
def Dp:gQ K .NotEq (dc c) (.int sd) H Q=Q (.bl (!decide (dc c=.int sd))) H:=by
 unfold dc
 by_cases h:c=46\/c=35
 .rw[QW h];show Q (.bl true) H=Q (.bl (!decide (V.non=V.int sd))) H;rw[QU (by intro z;cases z)];rfl
 .rw[QV h];show Q (.bl (!decide (_=sd))) H=Q (.bl (!decide (V.int _=V.int sd))) H;have:∀i:Int,decide (i=sd)=decide (V.int i=V.int sd):=λi=>by
   by_cases e:i=sd
   .rw[QT e,QT (Q2 V.int e)]
   .rw[QU e,QU (λz=>e (by injection z))]
  rw[this]
def vy:gQ K .IsNot (dc c) .non H Q=Q (.bl (!decide (dc c=.non))) H:=by
 unfold dc
 by_cases h:c=46\/c=35
 .rw[QW h];show Q (.bl false) H=Q (.bl (!decide (V.non=V.non))) H;rw[QT rfl];rfl
 .rw[QV h];show Q (.bl true) H=Q (.bl (!decide (V.int _=V.non))) H;rw[QU (by intro z;cases z)];rfl
end
def tf(hc:Tv t σ H b)(h1:b=true->ta σ H Q)(h2:b=false->tb σ H Q):NK t ta tb σ H Q:=hc _ (by
 cases b with
 |true=>exact gN (h1 rfl)
 |false=>exact gO (h2 rfl))
noncomputable def wW(row:Str)(sd:Int)(so ai:Str)(path:List Int):List (Int×Int):=if so="jump"then nN row sd path else gf row sd ai (if so="leap"then path.take 1 else path)
def EA(row:Str)(sd:Int)(so ai:Str)(h:path.length<=8):(wW row sd so ai path).length<=8:=by
 unfold wW;split
 .have:=pQ row sd path;lia
 .have:=kZ row sd ai (if so="leap"then path.take 1 else path);have:(if so="leap"then path.take 1 else path).length<=8:=by
   split
   .rw[Vs];lia
   .exact h
  lia
structure bb where
 kd:Str
 so:Str
 ai:Str
 ax:Int
 up:Int
noncomputable abbrev bb.vs(r:bb):List V:=[.str r.kd,.str r.so,.str r.ai,.int r.ax,.int r.up]
noncomputable abbrev bb.dy(r:bb)(sd:Int):Int:=if sd=0 then r.up else -r.up
def tI(K:Frag)(cB:YC):Sp:=λvs H Q _=>∃(b r:YC)(row:Str)(sq sd wi hi:Int)(hs:List Int)(u:bb),vs=[.ref b,.str row,.int sq,.ref r]/\bQ K cB H b wi hi hs/\cY K H r u.vs/\RowS row/\(row.length:Int)=wi*hi/\0<=sq/\sq<wi*hi/\
 sdV row sq=.int sd/\(sd=0\/sd=1)/\¬(u.ax=0/\u.up=0)/\∀(n:Nat)(q:YC)(H':Hp),kU wi hi hs sq u.ax (u.dy sd) n->n<=8->H q=none->cS H H' q (wW row sd u.so u.ai (fQ wi sq u.ax (u.dy sd) n))->ah H H'->Q (.ref q) H'
structure CRb(P:Rg)(w:Rk)(K:Frag)(mg:Q3)(QR:Rq)(cB:YC):Prop extends CRs P w K mg QR where
 ray:cC P w K mg QR "ray" ["board","square","across","up"] 3 (IL K cB)
 jumped:cC P w K mg QR "jumped" ["row","side","path"] 2 (AS K)
 slid:cC P w K mg QR "slid" ["row","side","aim","path"] 2 (AN K)
def vM(w1:1<=wi)(R:kU wi hi hs s ax up n):∀g∈fQ wi s ax up n,0<=g/\g<wi*hi/\¬g∈hs:=λg hg=>by
 unfold fQ at hg;obtain⟨j,hj,rfl⟩:=U7.mp hg;obtain⟨a,b,c,d,e⟩:=R.1 j (Vo.mp hj);refine⟨?_,?_,e⟩
 .unfold qy;have:=Xr c (by lia:0<=wi);lia
 .unfold qy;have z:(s / wi+((j+1:Nat):Int)*up)*wi<=(hi - 1)*wi:=Xv (by lia) (by lia);rw[Int.sub_mul,Xq,Xo hi wi]at z;lia
def cS.from(h:cS H1 H' q l)(s:ah H H1):cS H H' q l:=by
 obtain⟨ps,a,b,c⟩:=h;refine⟨ps,a,b,λp hp=>⟨?_,(c p hp).2⟩⟩;cases w:H p.2 with
 |none=>rfl
 |some u=>have:=s _ u w;rw[(c p hp).1]at this;cases this
def IV(h:t σ H λvs H1=>sp vs H1 D.rt E0):cJ (gS sp t) D σ H:=h
def OE(xs:List Int):oX (xs.map V.int) none (some 1)=(xs.take 1).map V.int:=by
 unfold oX;rw[HT.sIx_none];have:HT.sIx (xs.map V.int).length (xs.map V.int).length (some 1)=min 1 (xs.map V.int).length:=HT.sIx_nat _ _ 1;rw[this,Wj,Nat.sub_zero,List.map_take];cases xs with
 |nil=>rfl
 |cons a l=>simp
def ah.tupY{K:Frag}{H H':Hp}{a:YC}{xs:List V}(e:ah H H')(h:cY K H a xs):cY K H' a xs:=by
 rcases h with(h|⟨o,h⟩)|h
 .exact .inl (.inl (e _ _ h))
 .exact .inl (.inr ⟨o,e _ _ h⟩)
 .exact .inr h
def dM(H:Hp)(us:List (bb×YC)):Prop:= ∀z∈us,H z.2=some (.tup z.1.vs)
def dM.same(h:dM H us)(s:ah H H'):dM H' us:=λz hz=>s _ _ (h z hz)
noncomputable abbrev rRefs(us:List (bb×YC)):List V:=us.map λz=>V.ref z.2
noncomputable def ofKind(us:List (bb×YC))(kd:Str):List (bb×YC):=us.filter λz=>decide (z.1.kd=kd)
noncomputable def Pi(us:List (bb×YC))(kd:Str)(v:V):Bool:=us.any λz=>decide (V.ref z.2=v/\z.1.kd=kd)
def BM(h:dM H us)(hz:z∈us):Pi us kd (.ref z.2)=decide (z.1.kd=kd):=by
 unfold Pi
 by_cases e:z.1.kd=kd
 .rw[QT e,VF];exact⟨z,hz,QT ⟨rfl,e⟩⟩
 .rw[QU e,VN];intro y hy w;obtain⟨e1,e2⟩:=QX w;have e1:y.2=z.2:=by injection e1
  have a:=h y hy;rw[e1,h z hz]at a;injection a with a;injection a with a;injection a with a _;injection a with a;exact e (a.trans e2)
def wn(h:dM H us):(rRefs us).filter (Pi us kd)=rRefs (ofKind us kd):=by unfold rRefs ofKind;rw[List.filter_map];congr 1;refine WK λz hz=>?_;exact BM h hz
def px(cG:YC):Sp:=λvs H Q _=>∃g b kd ks ts es st us,vs=[.ref g,.str kd]/\fA cG H g b ks (rRefs us) ts es st/\dM H us/\us.length<=24/\
 ∀q H',H q=none->H' q=some (.lst (rRefs (ofKind us kd)))->ah H H'->Q (.ref q) H'
def jr(wi hi:Int)(hs:List Int)(row:Str)(sq sd:Int)(u:bb)(l:List (Int×Int)):Prop:= ∃n:Nat,kU wi hi hs sq u.ax (u.dy sd) n/\n<=8/\l=wW row sd u.so u.ai (fQ wi sq u.ax (u.dy sd) n)
theorem jr.uniq(h:jr wi hi hs row sq sd u l)(h':jr wi hi hs row sq sd u l'):l=l':=by obtain⟨n,a,_,rfl⟩:=h;obtain⟨m,b,_,rfl⟩:=h';rw[a.uniq b λ_=>Iff.rfl]
def jr.len(h:jr wi hi hs row sq sd u l):l.length<=8:=by obtain⟨n,a,b,rfl⟩:=h;exact EA _ _ _ _ (by rw[km];exact b)
inductive a8(wi hi:Int)(hs:List Int)(row:Str)(sq sd:Int):List (bb×YC)->List (Int×Int)->Prop
 |nil:a8 wi hi hs row sq sd [] []
 |cons {z us l r}:jr wi hi hs row sq sd z.1 l->a8 wi hi hs row sq sd us r->a8 wi hi hs row sq sd (z::us) (l++r)
theorem a8.uniq:∀{us:List (bb×YC)}{l l':List (Int×Int)},a8 wi hi hs row sq sd us l->a8 wi hi hs row sq sd us l'->l=l'
 |_,_,_,.nil,.nil=>rfl
 |_,_,_,.cons a b,.cons c d=>by rw[a.uniq c,a8.uniq b d]
theorem a8.len:∀{us:List (bb×YC)}{l:List (Int×Int)},a8 wi hi hs row sq sd us l->l.length<=8*us.length
 |_,_,.nil=>WT _
 |_,_,.cons a b=>by have:=a.len;have:=a8.len b;rw[Ve,Vp];lia
theorem a8.add(h:jr wi hi hs row sq sd z.1 l):∀{us:List (bb×YC)}{r:List (Int×Int)},a8 wi hi hs row sq sd us r->a8 wi hi hs row sq sd (us++[z]) (r++l)
 |_,_,.nil=>by
  have:=a8.cons h a8.nil
  rwa[Vx]at this
 |_,_,.cons a b=>by rw[VC];exact .cons a (a8.add h b)
def uU(l l':List (Int×Int)):Prop:=(∀x,x∈l'<->x∈l)/\l'.Pairwise λx y=>fS (pk x) (pk y)=true
def uU.uniq:∀{a b:List (Int×Int)},uU l a->uU l b->a=b:=by
 have key:∀(a b:List (Int×Int)),(∀x,x∈a<->x∈b)->a.Pairwise (λx y=>fS (pk x) (pk y)=true)->b.Pairwise (λx y=>fS (pk x) (pk y)=true)->a=b:=by
  intro a
  induction a with
  |nil=>
   intro b h _ _;cases b with
   |nil=>rfl
   |cons y b=>exact QZ ((h y).mpr Vf) (by simp)
  |cons x a ih=>
   intro b h pa pb;cases b with
   |nil=>exact QZ ((h x).mp Vf) (by simp)
   |cons y b=>
    obtain⟨a1,a2⟩:=VZ.mp pa;obtain⟨b1,b2⟩:=VZ.mp pb;have e:x=y:=by
     rcases U8.mp ((h x).mp Vf)with z|z
     .exact z
     .rcases U8.mp ((h y).mpr Vf)with w|w
      .exact w.symm
      .have t1:=b1 x z;have t2:=a1 y w;rw[rM _ _ t1]at t2;cases t2
    subst e;rw[ih b (λz=>?_) a2 b2]
    constructor
    .intro hz
     rcases U8.mp ((h z).mp (Vd _ hz))with w|w
     .rw[w]at hz;have:=a1 x hz;rw[kD]at this;cases this
     .exact w
    .intro hz
     rcases U8.mp ((h z).mpr (Vd _ hz))with w|w
     .rw[w]at hz;have:=b1 x hz;rw[kD]at this;cases this
     .exact w
 intro a b ha hb;exact key a b (λx=>(ha.1 x).trans (hb.1 x).symm) ha.2 hb.2
def qB(K:Frag)(cB cG:YC):Sp:=λvs H Q _=>∃g b row kd sq sd wi hi hs ks ts es st us,vs=[.ref g,.str row,.int sq]/\fA cG H g b ks (rRefs us) ts es st/\bQ K cB H b wi hi hs/\dM H us/\us.length<=12/\(∀z∈us,¬(z.1.ax=0/\z.1.up=0))/\
 RowS row/\(row.length:Int)=wi*hi/\0<=sq/\sq<wi*hi/\sdV row sq=.int sd/\(sd=0\/sd=1)/\lV (row.cps.toList.getD sq.toNat 0)=.str kd/\(∀l,a8 wi hi hs row sq sd (ofKind us kd) l->∀m:List (Int×Int),m.Nodup->(∀x∈m,x∈l)->m.length<64)/\
 ∀l l' q H',a8 wi hi hs row sq sd (ofKind us kd) l->uU l l'->H q=none->cS H H' q l'->ah H H'->Q (.ref q) H'
structure CRg(P:Rg)(w:Rk)(K:Frag)(mg:Q3)(QR:Rq)(cB cG:YC):Prop where
 kind_of:cC P w K mg QR "kind_of" ["sign"] 1 vt
 by_rule:cC P w K mg QR "by_rule" ["board","row","square","rule"] 4 (tI K cB)
 Game_rules_of:fV P w K mg QR cG "rules_of" ["self","kind"] 1 (px cG)
theorem JI{l:List (Int×Int)}:∀{L:List (List Int)},(∀k∈L,k∈l.map pk)->∃m:List (Int×Int),L=m.map pk/\∀x∈m,x∈l
 | [],_=>⟨[],rfl,λ_ z=>nomatch z⟩
 |k::L,h=>by obtain⟨m,rfl,hm⟩:=JI λk' hk'=>h k' (Vd _ hk');obtain⟨x,hx,rfl⟩:=U7.mp (h k Vf);exact⟨x::m,rfl,λy hy=>(U8.mp hy).elim (λz=>z▸hx) (hm y)⟩
def cS.cat{l l2:List (Int×Int)}{ps ps2:List (List Int×YC)}(h1:ps.map (·.1)=l.map pk)(h2:H2 q=some (.lst (ps.map λz=>V.ref z.2)))(h3:∀p∈ps,H p.2=none/\H2 p.2=some (.tup (p.1.map V.int)))(s:ah H H1)(g1:ps2.map (·.1)=l2.map pk)(g3:∀p∈ps2,H1 p.2=none/\H2 p.2=some (.tup (p.1.map V.int))):cS H (upd H2 q (.lst ((ps.map λz=>V.ref z.2)++ps2.map λz=>V.ref z.2))) q (l++l2):=by
 refine⟨ps++ps2,by rw[Vg,Vg,h1,g1],by rw[af,Vg],λp hp=>?_⟩;have ne:∀{p:YC}{xs:List V},H2 p=some (.tup xs)->p≠q:=λa e=>by rw[e,h2]at a;cases a
 rcases Vk.mp hp with z|z
 .obtain⟨a1,a2⟩:=h3 p z;exact⟨a1,by rw[ak (ne a2)];exact a2⟩
 .obtain⟨a1,a2⟩:=g3 p z;exact⟨s.free a1,by rw[ak (ne a2)];exact a2⟩
def Jp(ho:Ev to σ H (.ref l))(hl:H l=some (.lst xs))(q:te σ H λy H2=>∃b xs zs,y=.ref b/\H2 l=some (.lst xs)/\H2 b=some (.lst zs)/\xs.length+zs.length<=v1/\D.nx σ (upd H2 l (.lst (xs++zs)))):iY (OR to te) D σ H:=ho _ ⟨⟨xs,hl⟩,q⟩
def OV(h:t' σ H λvs H1=>sp vs H1 (λx H2=>t σ H2 λxs H3=>R (x::xs) H3) E0):bf (gS sp t') t σ H R:=h
structure kT(H:Hp)(d:YC)(ks:List Nat):Prop where
 at_:H d=some (.lst (ks.map strV))
 ltr:∀k∈ks,lN k
 l1:1<=ks.length
 l6:ks.length<=6
 nd:ks.Nodup
def kT.same(h:kT H d ks)(s:ah H H'):kT H' d ks:=⟨s _ _ h.at_,h.ltr,h.l1,h.l6,h.nd⟩
def Bi{ss:List Str}{i:Int}(h0:0<=i)(h1:i<ss.length):∃s,atI (ss.map V.str) i=some (.str s)/\s∈ss:=by obtain⟨v,e1,e2⟩:=Ja (xs:=ss.map V.str) h0 (by rw[U6];exact h1);obtain⟨s,hs,rfl⟩:=U7.mp e2;exact⟨s,e1,hs⟩
def kT.pick(h:kT H d ks)(i:Int):∃k∈ks,atI (ks.map strV) (i % ((ks.map strV).length:Int))=some (strV k):=by
 have hl:(0:Int)<((ks.map strV).length:Int):=by rw[U6];have:=h.l1;lia
 obtain⟨v,e1,e2⟩:=Ja (xs:=ks.map strV) (Xl i (by lia)) (Xm i hl);obtain⟨k,hk,rfl⟩:=U7.mp e2;exact⟨k,hk,e1⟩
def iB(h:Ev te σ H v)(q:ta σ H (λxs H2=>Q (v::xs) H2)):bf te ta σ H Q:=h _ q
def tupY(q:t σ H (λvs H2=>vs.length<=v1/\∀p,H2 p=none->Q (.ref p) (upd H2 p (.tup vs)))):yH t σ H Q:=q
def Kx(q:Q [] H):cw σ H Q:=q
structure gT(ks:List Nat)(u:bb):Prop where
 kd:∃c∈ks,u.kd=one c
 so:u.so∈sortsL
 ai:u.ai∈aimsL
 jh:u.so="jump"->u.ai="hit"
 ax: -(if u.so="leap"then 3 else 1)<=u.ax/\u.ax<=(if u.so="leap"then 3 else 1)
 up: -(if u.so="leap"then 3 else 1)<=u.up/\u.up<=(if u.so="leap"then 3 else 1)
 n0:¬(u.ax=0/\u.up=0)
def xt:Sp:=λvs H Q _=>∃c d ks,vs=[.int c,.ref d]/\kT H d ks/\∀t u H',gT ks u->H t=none->H' t=some (.tup u.vs)->ah H H'->Q (.ref t) H'
def mn(H:Hp)(zs:List ((Str×Str)×YC)):Prop:= ∀z∈zs,H z.2=some (.tup [.str z.1.1,.str z.1.2])
def mn.same(h:mn H zs)(s:ah H H'):mn H' zs:=λz hz=>s _ _ (h z hz)
noncomputable abbrev cD(zs:List ((Str×Str)×YC)):List V:=zs.map λz=>V.ref z.2
structure lZ(ks:List Nat)(zs:List ((Str×Str)×YC)):Prop where
 len:zs.length<=6
 kd:∀z∈zs,(∃a∈ks,z.1.1=one a)/\∃b∈ks,z.1.2=one b
 nd:(zs.map λz=>z.1.1).Nodup
 ap:∀z∈zs,∀y∈zs,¬z.1.2=y.1.1
def DM(h:one a=one b):a=b:=by unfold one at h;simp only[Str.mk.injEq]at h;have:=Q2 Array.toList h;simpa using this
def pJ(s:ah H H1)(nx:H1 x=none)(nd:H1 dx=none)(sb:SameBut x (upd (upd H1 dx o1) x o2) H'):ah H H':=λb o e=>by have e1:=s b o e;have nbx:=ay e1 nx;have nbd:=ay e1 nd;exact sb b o (by rw[ak nbx,ak nbd];exact e1) nbx
def zI{ks:List Nat}(h:H q=some (.lst (ks.map strV)))(hl:∀k∈ks,lN k)(nd:ks.Nodup)(k1:1<=ks.length)(k6:ks.length<=6):nJ H (.ref q)=true:=by
 have e:lstOf H (.ref q)=some (ks.map strV):=by simp only[lstOf,h]
 unfold nJ;rw[e];dsimp only;rw[U6,QT ⟨k1,k6⟩,XB,Xx];refine⟨Vt.mpr λx hx=>?_,QT ?_⟩
 .obtain⟨k,hk,rfl⟩:=U7.mp hx;exact QT (p:=97<=k/\k<=122) (hl k hk)
 .rw[Vj];exact VE.mpr (nd.imp λhab e=>hab (q9.mp e))
theorem cC.imp{P:Rg}{w:Rk}{K:Frag}{mg:Q3}{QR:Rq}{name:Str}{ps:List Str}{k:Nat}{sp sp':Sp}(C:cC P w K mg QR name ps k sp)(h:∀vs H Q E,sp' vs H Q E->sp vs H Q E):cC P w K mg QR name ps k sp':=by obtain⟨f,fd,F,a,b,c⟩:=C.ex;exact⟨f,fd,F.imp h,a,b,c⟩
def Lp{P:Rg}{w:Rk}{K:Frag}{mg:Q3}{QR:Rq}(C:cC P w K mg QR "is_among" ["thing","least","most"] 2 i8):cC P w K mg QR "is_among" ["thing","least","most"] 2 IT:=cC.imp C λvs H Q E h=>by obtain⟨t,a,b,rfl,q⟩:=h;exact⟨.int t,a,b,rfl,trivial,q⟩
def D8(g:gT ks u):jN u.vs (ks.map one)=true:=by
 obtain⟨c,hc,e⟩:=g.kd;show(wordB (.str u.kd) (ks.map one)&&decide (u.so∈sortsL)&&decide (u.ai∈aimsL)&& !(decide (u.so="jump")&& !decide (u.ai="hit"))&&lR u.so (.int u.ax) (.int u.up))=true;have h1:wordB (.str u.kd) (ks.map one)=true:=QT (U7.mpr ⟨c,hc,e.symm⟩);have h2:(!(decide (u.so="jump")&& !decide (u.ai="hit")))=true:=by
  by_cases z:u.so="jump"
  .rw[g.jh z];simp
  .simp[z]
 have h3:lR u.so (.int u.ax) (.int u.up)=true:=by
  have a:=g.ax;have b:=g.up;have n:=g.n0;unfold lR amongB limS;have e1:decide (-(if u.so="leap"then(3:Int)else 1)<=u.ax/\u.ax<=if u.so="leap"then 3 else 1)=true:=QT a;have e2:decide (-(if u.so="leap"then(3:Int)else 1)<=u.up/\u.up<=if u.so="leap"then 3 else 1)=true:=QT b;dsimp only;rw[e1,e2]
  by_cases z:u.ax=0
  .have z2:¬u.up=0:=λw=>n ⟨z,w⟩;simp[z,z2]
  .simp[z]
 rw[h1,QT g.so,QT g.ai,h2,h3];rfl
def wg(h:H a=some (.lst xs)):lstOf H (.ref a)=some xs:=by simp only[lstOf,h]
def qk(h:H a=some (.tup xs)):tupOf H (.ref a)=some xs:=by simp only[tupOf,h]
def yV(h:H d=some (.lst (rRefs us)))(R:dM H us)(g:∀z∈us,gT ks z.1)(h24:us.length<=24):fY H (.ref d) (ks.map one)=true:=by unfold fY;rw[wg h];show(decide ((rRefs us).length<=24)&&(rRefs us).all λx=>eI H x (ks.map one))=true;rw[U6,QT h24,XB,Vt];intro x hx;obtain⟨z,hz,rfl⟩:=U7.mp hx;unfold eI;rw[qk (R z hz)];exact D8 (g z hz)
def pE(h:H d=some (.lst (cD zs)))(R:mn H zs)(g:∀z∈zs,z.1.1∈A/\z.1.2∈B)(h6:zs.length<=6):pairsB H (.ref d) A B=true:=by unfold pairsB;rw[wg h];show(decide ((cD zs).length<=6)&&(cD zs).all λx=>eP H x A B)=true;rw[U6,QT h6,XB,Vt];intro x hx;obtain⟨z,hz,rfl⟩:=U7.mp hx;unfold eP;rw[qk (R z hz)];show(decide (z.1.1∈A)&&decide (z.1.2∈B))=true;rw[QT (g z hz).1,QT (g z hz).2];rfl
def yE(h:H d=some (.lst (cD zs)))(R:mn H zs)(g:lZ ks zs):gr H (.ref d) (ks.map one)=true:=by
 unfold gr;rw[pE h R (λz hz=>?_) g.len,wg h,XB]
 .have e1:(cD zs).map (cF H)=zs.map λz=>z.1.1:=by rw[Vj];refine VD λz hz=>?_;show cF H (.ref z.2)=_;unfold cF;rw[qk (R z hz)]
  show(!((cD zs).any λx=>decide (ia H x∈(cD zs).map (cF H)))&&decide (((cD zs).map (cF H)).Nodup))=true;rw[e1,QT g.nd,XI,XA,VN];intro x hx w;obtain⟨z,hz,rfl⟩:=U7.mp hx;have w:=QX w;have e2:ia H (.ref z.2)=z.1.2:=by unfold ia;rw[qk (R z hz)]
  rw[e2]at w;obtain⟨y,hy,e⟩:=U7.mp w;exact g.ap z hz y hy e.symm
 .obtain⟨⟨a,ha,e1⟩,b,hb,e2⟩:=g.kd z hz;exact⟨U7.mpr ⟨a,ha,e1.symm⟩,U7.mpr ⟨b,hb,e2.symm⟩⟩
def ji(a:Nat):(one a).length<=1000:=by show 1<=1000;decide
def J0(h:s∈sortsL):s.length<=1000:=(by decide:∀s∈sortsL,s.length<=1000) s h
def Lr(h:s∈aimsL):s.length<=1000:=(by decide:∀s∈aimsL,s.length<=1000) s h
def K8(h:s∈gW):s.length<=1000:=(by decide:∀s∈gW,s.length<=1000) s h
def J6(h:H d=some (.lst (rRefs us)))(R:dM H us)(g:∀z∈us,gT ks z.1):fU H 2 (.ref d):=by
 refine lL.n (lL.lst h λx hx=>?_);obtain⟨z,hz,rfl⟩:=U7.mp hx;refine lL.tup (R z hz) λy hy=>?_;obtain⟨c,_,e⟩:=(g z hz).kd;simp only[bb.vs,U8,Vq,or_false]at hy
 rcases hy with rfl|rfl|rfl|rfl|rfl
 .exact lL.flat (show z.1.kd.length<=1000 by rw[e];exact ji c) rfl
 .exact lL.flat (J0 (g z hz).so) rfl
 .exact lL.flat (Lr (g z hz).ai) rfl
 .exact lL.flat trivial rfl
 .exact lL.flat trivial rfl
def Bd(h:H d=some (.lst (cD zs)))(R:mn H zs)(g:∀z∈zs,z.1.1.length<=1000/\z.1.2.length<=1000):fU H 2 (.ref d):=by
 refine lL.n (lL.lst h λx hx=>?_);obtain⟨z,hz,rfl⟩:=U7.mp hx;refine lL.tup (R z hz) λy hy=>?_;simp only[U8,Vq,or_false]at hy
 rcases hy with rfl|rfl
 .exact lL.flat (g z hz).1 rfl
 .exact lL.flat (g z hz).2 rfl
def KL(h:kT H d ks):fU H 1 (.ref d):=by refine lL.n (lL.lst h.at_ λx hx=>?_);obtain⟨c,_,rfl⟩:=U7.mp hx;exact lL.flat (ji c) rfl
structure fj(K:Frag)(cB cG:YC)(H:Hp)(g b kq:YC)(wi hi:Int)(hs:List Int)(ks:List Nat)(us:List (bb×YC))(ts es:List ((Str×Str)×YC))(st:Str):Prop where
 gm:fA cG H g b (ks.map strV) (rRefs us) (cD ts) (cD es) st
 bd:bQ K cB H b wi hi hs
 ltr:∀k∈ks,lN k
 k1:1<=ks.length
 k6:ks.length<=6
 knd:ks.Nodup
 rl:dM H us
 r12:us.length<=12
 rg:∀z∈us,gT ks z.1
 tt:mn H ts
 tg:lZ ks ts
 et:mn H es
 e6:es.length<=6
 eg:∀z∈es,z.1.1∈gW/\∃b∈ks,z.1.2=one b
 sg:st∈jT
theorem fj.same{K:Frag}{cB cG:YC}{H H':Hp}{g b kq:YC}{wi hi:Int}{hs:List Int}{ks:List Nat}{us:List (bb×YC)}{ts es:List ((Str×Str)×YC)}{st:Str}(x:fj K cB cG H g b kq wi hi hs ks us ts es st)(s:ah H H'):fj K cB cG H' g b kq wi hi hs ks us ts es st:=
 ⟨x.gm.same s,x.bd.same s,x.ltr,x.k1,x.k6,x.knd,x.rl.same s,x.r12,x.rg,x.tt.same s,x.tg,x.et.same s,x.e6,x.eg,x.sg⟩
def BE(h:t σ H λvs H1=>∀x dx,H1 x=none->H1 dx=none->dx≠x->sp (.ref x::vs) (upd (upd H1 dx (.own x)) x (.ins C dx [])) (λv H2=>v=.non/\Q (.ref x) H2) E0):yt C sp t σ H Q:=h
def dM.add(h:dM H us)(s:ah H H')(ht:H' t=some (.tup u.vs)):dM H' (us++[(u,t)]):=λz hz=>by
 rcases Vk.mp hz with w|w
 .exact s _ _ (h z w)
 .rw[Vb.mp w];exact ht
def dM.put(h:dM H us)(hq:H q=some (.lst xs)):dM (upd H q (.lst ys)) us:=λz hz=>by rw[ak (λw=>by have:=h z hz;rw[w,hq]at this;cases this)];exact h z hz
def IW(h:yt C sp t σ H D.rt):cJ (yt C sp t) D σ H:=h
structure CO(row:Str)(hs:List Int):Prop extends RowS row where
 sg:∀c∈row.cps.toList,Sg c
 nh:∀s:Int,0<=s->s<row.length->¬s∈hs->¬row.cps.toList.getD s.toNat 0=35
theorem nF{α:Type}[DecidableEq α]:∀{m C:List α},m.Nodup->(∀x∈m,x∈C)->m.length<=C.length
 | [],_,_,_=>WT _
 |x::m,C,nd,h=>by obtain⟨n1,n2⟩:=VB.mp nd;have hx:=h x Vf;have z:=nF (C:=C.erase x) n2 (λy hy=>(Wo (a:=y) (b:=x) (λe=>n1 (by rw[<-e];exact hy))).mpr (h y (Vd _ hy)));rw[Wm hx]at z;have:0<C.length:=Wn hx;rw[Vp];lia
noncomputable def prG(row:Str)(g:Int):Int×Int:=(g,if sdV row g=.non then -1 else g)
theorem qD(row:Str)(sd:Int)(ai:Str):∀path:List Int,(gf row sd ai path).Sublist (path.map (prG row))
 | []=>List.Sublist.refl _
 |g::r=>by
  rw[mW,Vm];have ih:=qD row sd ai r
  by_cases h:sdV row g=.non
  .rw[QW h]
   by_cases a:ai="hit"
   .rw[QW a];exact ih.cons _
   .rw[QV a];have:prG row g=(g, -1):=by unfold prG;rw[QW h]
    rw[this];exact ih.cons₂ _
  .rw[QV h];have:prG row g=(g,g):=by unfold prG;rw[QV h]
   rw[this];split
   .exact(List.nil_sublist _).cons₂ _
   .exact List.nil_sublist _
def Ck{u:bb}{sd:Int}(n0:¬(u.ax=0/\u.up=0)):¬(u.ax=0/\u.dy sd=0):=λz=>n0 ⟨z.1,by have:=z.2;unfold bb.dy at this;split at this<;>lia⟩
noncomputable def Jt:List (Int×Int):=[(-1, -1),(-1,0),(-1,1),(0, -1),(0,1),(1, -1),(1,0),(1,1)]
def Es(x1: -1<=x)(x2:x<=1)(y1: -1<=y)(y2:y<=1)(n0:¬(x=0/\y=0)):(x,y)∈Jt:=by
 have hx:x= -1\/x=0\/x=1:=by lia
 have hy:y= -1\/y=0\/y=1:=by lia
 rcases hx with rfl|rfl|rfl<;>rcases hy with rfl|rfl|rfl<;>first|decide|exact QZ ⟨rfl,rfl⟩ n0
theorem Ju(w8:wi<=8)(h8:hi<=8)(w1:1<=wi)(s0:0<=sq)(s1:sq<wi*hi):∀{us:List (bb×YC)}{l:List (Int×Int)},a8 wi hi hs row sq sd us l->(∀z∈us,gT ks z.1)->∃(D C:List (Int×Int))(a:Nat),D.Nodup/\(∀e∈D,e∈Jt)/\D.length+a<=us.length/\C.length<=7*D.length+a/\(∀e∈D,∃n,kU wi hi hs sq e.1 e.2 n/\∀g∈fQ wi sq e.1 e.2 n,prG row g∈C)/\∀x∈l,x∈C
 |_,_,.nil,_=>⟨[],[],0,VU,λ_ z=>(nomatch z),WR _,WR _,λ_ z=>(nomatch z),λ_ z=>(nomatch z)⟩
 |_,_,@a8.cons _ _ _ _ _ _ z us l r hl hr,hg=>by
  obtain⟨D,C,a,c1,c2,c3,c4,c5,c6⟩:=Ju w8 h8 w1 s0 s1 hr λy hy=>hg y (Vd _ hy);have g:=hg z Vf;obtain⟨n,ry,n8,rfl⟩:=hl
  by_cases hs':z.1.so="slide"
  .have e:wW row sd z.1.so z.1.ai (fQ wi sq z.1.ax (z.1.dy sd) n)=gf row sd z.1.ai (fQ wi sq z.1.ax (z.1.dy sd) n):=by unfold wW;rw[hs',QV (by decide),QV (by decide)]
   rw[e];have sub:=λx hx=>(qD row sd z.1.ai (fQ wi sq z.1.ax (z.1.dy sd) n)).subset (a:=x) hx
   by_cases hD:(z.1.ax,z.1.dy sd)∈D
   .refine⟨D,C,a,c1,c2,by rw[Vp];lia,c4,c5,λx hx=>?_⟩
    rcases Vk.mp hx with hx|hx
    .obtain⟨m,rm,hm⟩:=c5 _ hD;have:=rm.uniq ry λ_=>Iff.rfl;subst this;obtain⟨gg,g1,rfl⟩:=U7.mp (sub x hx);exact hm gg g1
    .exact c6 x hx
   .have n7:n<=7:=by
     rcases Xj n with h|h
     .lia
     .have:=Bt w8 h8 w1 s0 s1 (Ck g.n0) (ry.1 (n - 1) (by lia));lia
    have ax:=g.ax;have up:=g.up;rw[hs',QV (by decide)]at ax up;have dyb: -1<=z.1.dy sd/\z.1.dy sd<=1:=by unfold bb.dy;split<;>lia
    refine⟨(z.1.ax,z.1.dy sd)::D,(fQ wi sq z.1.ax (z.1.dy sd) n).map (prG row)++C,a,VB.mpr ⟨hD,c1⟩,λe he=>?_,by rw[Vp,Vp];lia,by rw[Ve,U6,km,Vp];lia,λe he=>?_,λx hx=>?_⟩
    .rcases U8.mp he with rfl|he
     .exact Es ax.1 ax.2 dyb.1 dyb.2 (Ck g.n0)
     .exact c2 e he
    .rcases U8.mp he with rfl|he
     .exact⟨n,ry,λgg hgg=>VA _ (U7.mpr ⟨gg,hgg,rfl⟩)⟩
     .obtain⟨m,rm,hm⟩:=c5 e he;exact⟨m,rm,λgg hgg=>Vr _ (hm gg hgg)⟩
    .rcases Vk.mp hx with hx|hx
     .exact VA _ (sub x hx)
     .exact Vr _ (c6 x hx)
  .have l1:(wW row sd z.1.so z.1.ai (fQ wi sq z.1.ax (z.1.dy sd) n)).length<=1:=by
    have so:=g.so;simp only[sortsL,U8,Vq,or_false]at so;unfold wW
    rcases so with e|e|e
    .rw[e,QV (by decide),QW rfl];refine WU (kZ ..) ?_;rw[Vs];lia
    .exact QZ e hs'
    .rw[e,QW rfl];exact pQ ..
   refine⟨D,wW row sd z.1.so z.1.ai (fQ wi sq z.1.ax (z.1.dy sd) n)++C,a+1,c1,c2,by rw[Vp];lia,by rw[Ve];lia,λe he=>?_,λx hx=>?_⟩
   .obtain⟨m,rm,hm⟩:=c5 e he;exact⟨m,rm,λgg hgg=>Vr _ (hm gg hgg)⟩
   .rcases Vk.mp hx with hx|hx
    .exact VA _ hx
    .exact Vr _ (c6 x hx)
def Ox(w8:wi<=8)(h8:hi<=8)(w1:1<=wi)(s0:0<=sq)(s1:sq<wi*hi)(h12:us.length<=12)(hg:∀z∈us,gT ks z.1)(h:a8 wi hi hs row sq sd us l)(m:List (Int×Int))(nd:m.Nodup)(hm:∀x∈m,x∈l):m.length<64:=by obtain⟨D,C,a,c1,c2,c3,c4,_,c6⟩:=Ju w8 h8 w1 s0 s1 h hg;have d8:D.length<=8:=nF c1 c2;have:=nF nd λx hx=>c6 x (hm x hx);lia
def AQ(K:Frag)(cB cG:YC):Sp:=λvs H Q _=>∃g b row kd sq sd wi hi hs ks ts es st us,vs=[.ref g,.str row,.int sq]/\fA cG H g b ks (rRefs us) ts es st/\bQ K cB H b wi hi hs/\dM H us/\us.length<=12/\(∀z∈us,¬(z.1.ax=0/\z.1.up=0))/\
 CO row hs/\(row.length:Int)=wi*hi/\0<=sq/\sq<wi*hi/\sdV row sq=.int sd/\(sd=0\/sd=1)/\lV (row.cps.toList.getD sq.toNat 0)=.str kd/\(∀l,a8 wi hi hs row sq sd (ofKind us kd) l->∀m:List (Int×Int),m.Nodup->(∀x∈m,x∈l)->m.length<64)/\
 ∀l l' q H',a8 wi hi hs row sq sd (ofKind us kd) l->uU l l'->H q=none->cS H H' q l'->ah H H'->Q (.ref q) H'
def yp{K:Frag}{sp:Sp}{t:TA}{vs:List V}{g:TG}{tt:TT}{te:TE}{src:List (Option Nat)}{σ:St}{H:Hp}{Q:VK}(h:Av t σ H vs)(q:sp vs H (λx H2=>∃a,x=.ref a/\(∃xs,aN K H2 a xs)/\eV g tt te src σ Q (JC K a) H2) E0):tComp (nT K (gS sp t)) g tt te src σ H Q:=h _ q
noncomputable abbrev jQ(ps:List (List Int×YC)):List V:=ps.map λz=>V.ref z.2
def Em{K:Frag}{H:Hp}{n:Nat}{a b:YC}(ha:H a=some (.lst []))(hb:H b=some (.lst [])):o7 K H (n+1) (.ref a) (.ref b) true:=by have z:=o7.lst (n:=n) (es:=λ_=>true) (aN.of (K:=K) ha) (aN.of hb) rfl (λi x y hx=>by simp at hx);exact z
def yN(h:dc c=.int v):lV c=.str (one (U5 c))/\(v=0\/v=1):=by
 unfold dc at h;unfold lV;split at h
 .cases h
 .rename_i z;rw[QV z];injection h with h;refine⟨rfl,?_⟩;rw[<-h];split
  .exact .inl rfl
  .exact .inr rfl
def wV(h:Av t σ H vs)(q:sp vs H (cV λc H1=>R (!c) H1) E0):yI (gh (gS sp t)) σ H R:=h _ q
structure iQ(wi hi:Int)(hs:List Int)(ks:List Nat)(z:Str):Prop where
 len:z.length=(wi*hi).toNat
 at_:∀(s c:Nat),z.cps.toList[s]? =some c->iM ks c (if(s:Int)∈hs then 35 else 46)=true
def gR{ks:List Nat}{c:Nat}{hs:List Int}{s:Int}(h:iM ks c (if s∈hs then 35 else 46)=true):(s∈hs/\c=35)\/(¬s∈hs/\(c=46\/c∈ks\/c∈ks.map (· - 32))):=by
 unfold iM at h
 by_cases m:s∈hs
 .rw[QW m,QW rfl]at h;exact .inl ⟨m,QX h⟩
 .rw[QV m,QV (by decide)]at h;exact .inr ⟨m,QX h⟩
def yq{ks:List Nat}{c:Nat}(hl:∀k∈ks,lN k)(h:c=46\/c∈ks\/c∈ks.map (· - 32)):Sg c/\c≠35:=by
 unfold Sg
 rcases h with h|h|h
 .lia
 .have:=hl c h;unfold lN at this;lia
 .obtain⟨k,hk,rfl⟩:=U7.mp h;have:=hl k hk;unfold lN at this;lia
def iQ.g(R:iQ wi hi hs ks z)(hl:∀k∈ks,lN k)(m:wi*hi<=64):CO z hs:=by
 have sg:∀c∈z.cps.toList,Sg c:=λc hc=>by
  obtain⟨s,hs'⟩:=V9 hc
  rcases gR (R.at_ s c hs')with⟨_,h⟩|⟨_,h⟩
  .exact .inr (.inl h)
  .exact(yq hl h).1
 refine⟨⟨by rw[R.len];lia,λc hc=>(sg c hc).lt⟩,sg,λs s0 s1 hn=>?_⟩;have hlt:s.toNat<z.cps.toList.length:=by have:z.length=z.cps.toList.length:=rfl;lia
 have e:z.cps.toList[s.toNat]? =some (z.cps.toList.getD s.toNat 0):=by rw[Vh,U9 hlt];rfl
 have:=R.at_ _ _ e;rw[show((s.toNat:Nat):Int)=s by lia]at this
 rcases gR this with⟨h,_⟩|⟨_,h⟩
 .exact QZ h hn
 .exact(yq hl h).2
def iQ.put{wi hi:Int}{hs:List Int}{ks:List Nat}{z:Str}{s:Int}{c:Nat}(R:iQ wi hi hs ks z)(s0:0<=s)(s1:s<z.length)(hn:¬s∈hs)(hc:c=46\/c∈ks\/c∈ks.map (· - 32)):iQ wi hi hs ks (fZ z s (one c)):=by
 refine⟨by rw[iu s0 s1];exact R.len,λj d hd=>?_⟩;rw[lm s0 s1]at hd;have ll:z.length=z.cps.toList.length:=rfl;have lt:(z.cps.toList.take s.toNat).length=s.toNat:=by rw[Vs];lia
 by_cases h1:j<s.toNat
 .rw[VC,VH (by lia),WA h1]at hd;exact R.at_ j d hd
 .by_cases h2:j=s.toNat
  .subst h2;rw[VC,Wc (by lia),lt,Nat.sub_self]at hd;have:c=d:=by simpa using hd
   subst this;rw[show((s.toNat:Nat):Int)=s by lia,QV hn];unfold iM;rw[QV (by decide)];exact QT hc
  .rw[Wc (by rw[Ve,lt];show s.toNat+1<=j;lia),Ve,lt,List.getElem?_drop]at hd;have e:s.toNat+1+(j - (s.toNat+[c].length))=j:=by show s.toNat+1+(j - (s.toNat+1))=j;lia
   rw[e]at hd;exact R.at_ j d hd
def eJ(h:te σ H D.rt):cJ te D σ H:=h
def sU{K:Frag}{te:TE}{src:List (Option Nat)}{σ rest:St}{H:Hp}{Q:VK}{d:YC}{xs:List V}(hx:H d=some (.lst xs))(hz:xs.length<=v1)(hs:fc src σ=none::rest)(R:Nat->Hp->V->Prop)(hR:∀i H H' v,R i H v->ah H H'->R i H' v)(he:∀(i:Nat) x H',xs[i]? =some x->ah H H'->∀Q:VK,(∀v H2,R i H2 v->ah H' H2->Q v H2)->te (some x::rest) H' Q)(q:∀d' H' ys,ah H H'->H' d'=none->ys.length=xs.length->(∀i y,ys[i]? =some y->R i H' y)->Q (.ref d') (upd H' d' (.lst ys))):eV (gName 0) iK te src σ Q (JC K d) H:=by
 refine iC xs.length (λi ys σ' H'=>ah H H'/\(∃v,σ'=v::rest)/\ys.length=i/\∀j y,ys[j]? =some y->R j H' y) hz (λi ys σ H h=>Xc h.2.2.1)
  (λi ys σ H' h hi=>⟨xs,xs[i],aN.of (h.1 _ _ hx),U9 hi⟩) (λys σ H' h=>⟨xs,aN.of (h.1 _ _ hx),WR _⟩) ⟨ah.refl H,⟨none,hs⟩,rfl,λj y e=>by simp at e⟩ ?_ ?_
 .rintro i ys _ H1 x H2 hi ⟨s1,⟨v0,rfl⟩,hl,hy⟩ ⟨rfl,hyy⟩ Kt Kf ht hf;have ex:=hyy xs (aN.of (s1 _ _ hx));simp only[gName,iK,VW,if_true];refine he i x _ ex s1 _ λv H2 rv s2=>ht _ _ _ ⟨s1.trans s2,⟨_,rfl⟩,by simp[hl],λj y e=>?_⟩
  by_cases q:j<ys.length
  .rw[VH q]at e;exact hR _ _ _ _ (hy j y e) s2
  .by_cases q2:j=ys.length
   .subst q2;simp at e;subst e;rw[hl];exact rv
   .rw[Vw (by simp;lia)]at e;cases e
 .rintro ys _ H1 dd ⟨s1,_,hl,hy⟩ hd;exact q dd H1 ys s1 hd hl hy
theorem xR{α:Type}{H0 H:Hp}(f:α->List Int):∀(l:List α)(ys:List V),ys.length=l.length->(∀(i:Nat)(y:V),ys[i]? =some y->∃x t,l[i]? =some x/\y=.ref t/\H0 t=none/\H t=some (.tup ((f x).map V.int)))->∃ps:List (List Int×YC),ys=jQ ps/\ps.map (·.1)=l.map f/\∀p∈ps,H0 p.2=none/\H p.2=some (.tup (p.1.map V.int))
 | [],[],_,_=>⟨[],rfl,rfl,λ_ z=>nomatch z⟩
 |x::l,y::ys,hl,h=>by
  obtain⟨x',t,e1,rfl,e3,e4⟩:=h 0 y rfl;have e1:x=x':=by simpa using e1
  subst e1;obtain⟨ps,rfl,p2,p3⟩:=xR f l ys (by simpa using hl) λi y hy=>h (i+1) y (by simpa using hy);refine⟨(f x,t)::ps,rfl,by rw[Vm,Vm,p2],λp hp=>?_⟩
  rcases U8.mp hp with rfl|hp
  .exact⟨e3,e4⟩
  .exact p3 p hp
 | [],_::_,hl,_=>by simp at hl
 |_::_,[],hl,_=>by simp at hl
def LH(wi hi:Int)(hs:List Int)(row:Str)(us:List (bb×YC))(sd sq:Int)(l':List (Int×Int)):Prop:= ∃l,a8 wi hi hs row sq sd (ofKind us (one (U5 (row.cps.toList.getD sq.toNat 0)))) l/\uU l l'
theorem LH.uniq(h:LH wi hi hs row us sd sq l)(h':LH wi hi hs row us sd sq l'):l=l':=by obtain⟨m,a,b⟩:=h;obtain⟨m',a',b'⟩:=h';have e:=a.uniq a';subst e;exact b.uniq b'
noncomputable def tk3(s:Int)(x:Int×Int):List Int:=[s,x.1,x.2]
inductive mI(wi hi:Int)(hs:List Int)(row:Str)(us:List (bb×YC))(sd:Int):List Int->List (List Int)->Prop
 |nil:mI wi hi hs row us sd [] []
 |cons {s ss l m}:LH wi hi hs row us sd s l->mI wi hi hs row us sd ss m->mI wi hi hs row us sd (s::ss) (l.map (tk3 s)++m)
theorem mI.uniq:∀{ss:List Int}{m m':List (List Int)},mI wi hi hs row us sd ss m->mI wi hi hs row us sd ss m'->m=m'
 |_,_,_,.nil,.nil=>rfl
 |_,_,_,.cons a b,.cons c d=>by rw[a.uniq c,mI.uniq b d]
theorem mI.add(h:LH wi hi hs row us sd s l):∀{ss:List Int}{m:List (List Int)},mI wi hi hs row us sd ss m->mI wi hi hs row us sd (ss++[s]) (m++l.map (tk3 s))
 |_,_,.nil=>by
  have:=mI.cons h mI.nil
  rwa[Vx]at this
 |_,_,.cons a b=>by rw[VC];exact .cons a (mI.add h b)
def yx(H H':Hp)(q:YC)(m:List (List Int)):Prop:= ∃ps:List (List Int×YC),ps.map (·.1)=m/\H' q=some (.lst (jQ ps))/\∀p∈ps,H p.2=none/\H' p.2=some (.tup (p.1.map V.int))
def De(h1:ps.map (·.1)=m)(hq:∀xs,¬H2 q=some (.tup xs))(h3:∀p∈ps,H p.2=none/\H2 p.2=some (.tup (p.1.map V.int)))(s:ah H H1)(g1:ps2.map (·.1)=m2)(g3:∀p∈ps2,H1 p.2=none/\H2 p.2=some (.tup (p.1.map V.int))):yx H (upd H2 q (.lst (jQ ps++jQ ps2))) q (m++m2):=by
 refine⟨ps++ps2,by rw[Vg,h1,g1],by rw[af,show jQ (ps++ps2)=jQ ps++jQ ps2 from Vg ..],λp hp=>?_⟩;have ne:∀{p:YC}{xs:List V},H2 p=some (.tup xs)->p≠q:=λa e=>hq _ (e▸a)
 rcases Vk.mp hp with z|z
 .obtain⟨a1,a2⟩:=h3 p z;exact⟨a1,by rw[ak (ne a2)];exact a2⟩
 .obtain⟨a1,a2⟩:=g3 p z;exact⟨s.free a1,by rw[ak (ne a2)];exact a2⟩
def jy(h:s∈sqsOf row sd):0<=s/\s<row.length/\sdV row s=.int sd:=by obtain⟨n,hn,rfl⟩:=U7.mp h;obtain⟨a,b⟩:=Vz.mp hn;have:=Vo.mp a;exact⟨by lia,by lia,QX b⟩
def pq:(sqsOf row sd).length<=row.length:=by unfold sqsOf;rw[U6];refine WU (VM _ _) ?_;rw[Vu];exact WR _
def JY(h:uU l l'):l'.Nodup:=by rw[V6];refine h.2.imp λh e=>?_;rw[e,kD]at h;cases h
def D9{K:Frag}{cB cG:YC}{H:Hp}{g b kq:YC}{wi hi:Int}{hs:List Int}{ks:List Nat}{us:List (bb×YC)}{ts es:List ((Str×Str)×YC)}{st row:Str}{sq sd:Int}{Q:VK}(G:fj K cB cG H g b kq wi hi hs ks us ts es st)(R:CO row hs)(rl:(row.length:Int)=wi*hi)(s0:0<=sq)(s1:sq<row.length)(hsd:sdV row sq=.int sd)(q:∀l' q H',LH wi hi hs row us sd sq l'->l'.length<64->H q=none->cS H H' q l'->ah H H'->Q (.ref q) H'):qB K cB cG [.ref g,.str row,.int sq] H Q E0/\AQ K cB cG [.ref g,.str row,.int sq] H Q E0:=by
 have B:=G.bd;obtain⟨ekd,sd2⟩:=yN (c:=row.cps.toList.getD sq.toNat 0) hsd;have few:∀l,a8 wi hi hs row sq sd (ofKind us (one (U5 (row.cps.toList.getD sq.toNat 0)))) l->∀m:List (Int×Int),m.Nodup->(∀x∈m,x∈l)->m.length<64:=λl hl m nd hm=>
  Ox B.w8 B.h8 B.w1 s0 (by lia) (WU (VM _ _) G.r12) (λz hz=>G.rg z (Vz.mp hz).1) hl m nd hm
 have rg0:∀z∈us,¬(z.1.ax=0/\z.1.up=0):=λz hz=>(G.rg z hz).n0;have k:∀(l l':List (Int×Int))(q:YC)(H':Hp),a8 wi hi hs row sq sd (ofKind us (one (U5 (row.cps.toList.getD sq.toNat 0)))) l->uU l l'->H q=none->cS H H' q l'->ah H H'->Q (.ref q) H':=λl l' t H' h1 h2 h3 h4 h5=>
  q l' t H' ⟨l,h1,h2⟩ (few l h1 l' (JY h2) λx hx=>(h2.1 x).mp hx) h3 h4 h5
 exact⟨⟨g,b,row,_,sq,sd,wi,hi,hs,ks.map strV,cD ts,cD es,st,us,rfl,G.gm,G.bd,G.rl,G.r12,rg0,R.toRowS,rl,s0,by lia,hsd,sd2,ekd,few,k⟩,
  ⟨g,b,row,_,sq,sd,wi,hi,hs,ks.map strV,cD ts,cD es,st,us,rfl,G.gm,G.bd,G.rl,G.r12,rg0,R,rl,s0,by lia,hsd,sd2,ekd,few,k⟩⟩
def qz(K:Frag)(cB cG:YC):Sp:=λvs H Q _=>∃g b kq p row sd wi hi hs ks us ts es st,vs=[.ref g,.ref p]/\fj K cB cG H g b kq wi hi hs ks us ts es st/\cY K H p [.str row,.int sd]/\CO row hs/\(row.length:Int)=wi*hi/\
 ∀m q H',mI wi hi hs row us sd (sqsOf row sd) m->m.length<=4096->H q=none->yx H H' q m->ah H H'->Q (.ref q) H'
structure CMv(P:Rg)(w:Rk)(K:Frag)(mg:Q3)(QR:Rq)(cB cG:YC):Prop where
 squares_of:cC P w K mg QR "squares_of" ["row","side"] 2 pr
 goals:cC P w K mg QR "goals" ["game","row","square"] 5 (qB K cB cG)
def C8{K:Frag}{src:List (Option Nat)}{σ:St}{H0 H:Hp}{Q:VK}{d:YC}{l':List (Int×Int)}{ps:List (List Int×YC)}{sq:Int}{te:TE}(s0:ah H0 H)(p1:ps.map (·.1)=l'.map pk)(hx:H d=some (.lst (jQ ps)))(p3:∀p∈ps,H p.2=some (.tup (p.1.map V.int)))(l64:l'.length<64)(hs:fc src σ=[none,some (.int sq)])(ht:∀a x y H' Q,H' a=some (.tup [.int x,.int y])->(∀t,H' t=none->Q (.ref t) (upd H' t (.tup [.int sq,.int x,.int y])))->te [oR a,oJ sq] H' Q)(q:∀d' H' ps2,ah H H'->H' d'=none->ps2.map (·.1)=l'.map (tk3 sq)->(∀p∈ps2,H0 p.2=none/\H' p.2=some (.tup (p.1.map V.int)))->Q (.ref d') (upd H' d' (.lst (jQ ps2)))):eV (gName 0) iK te src σ Q (JC K d) H:=by
 have z:=Q2 List.length p1;rw[U6,U6]at z;refine sU (rest:=[oJ sq]) hx (by rw[U6,Rf];lia) hs (λj H' v=>∃x t,l'[j]? =some x/\v=.ref t/\H0 t=none/\H' t=some (.tup ((tk3 sq x).map V.int))) (λi H H' v h s=>?_) (λi x H' hx' s' Q' q'=>?_) (λd' H' ys s' hd hl hy=>?_)
 .obtain⟨x,t,a,b,c,e⟩:=h;exact⟨x,t,a,b,c,s _ _ e⟩
 .have hi:i<ps.length:=by
   have:=(Vi.mp hx').1
   rwa[U6]at this
  have hi2:i<l'.length:=by lia
  rw[Va,U9 hi]at hx';obtain rfl:V.ref ps[i].2=x:=Q0 hx';have e:ps[i].1=pk l'[i]:=by
   have a:(ps.map (·.1))[i]? =some ps[i].1:=by rw[Va,U9 hi];rfl
   rw[p1,Va,U9 hi2]at a;exact(Q0 a).symm
  have h4:=s' _ _ (p3 _ (Vl hi));rw[e]at h4;refine ht _ l'[i].1 l'[i].2 H' Q' h4 λt ht=>q' _ _ ⟨l'[i],t,U9 hi2,rfl,(s0.trans s').free ht,af⟩ ((ah.refl H').upd ht)
 .obtain⟨ps2,rfl,e1,e2⟩:=xR (tk3 sq) l' ys (by rw[hl,U6];exact z) hy;exact q d' H' ps2 s' hd e1 e2
def CI(h:ta σ H (cV λc H1=>if c=true then tb σ H1 Q else Q (.bl false) H1)):yu ta tb σ H Q:=h
def Lg(h:t σ H λvs H1=>sp vs H1 Q E0):gS sp t σ H Q:=h
def Of{b:Bool}{A B:Prop}(h:b=true)(a:A):if b=true then A else B:=by rw[QW h];exact a
def Og{b:Bool}{A B:Prop}(h:b=false)(a:B):if b=true then A else B:=by rw[QV (by rw[h];decide)];exact a
def CH{tb:TE}{σ:St}{H:Hp}{Q:VK}(h:tb σ H Q):cV (λc H1=>if c=true then tb σ H1 Q else Q (.bl false) H1) (.bl true) H:=by show(if true=true then tb σ H Q else Q (.bl false) H);rw[QW rfl];exact h
noncomputable def Pc(c:Nat)(sd:Int):Nat:=if sd=0 then c - 32 else c
noncomputable def kJ(z:Str)(c:Nat)(sd:Int):Bool:=decide (Pc c sd∈z.cps.toList)
noncomputable def mh(hi sd:Int):Int:=if sd=0 then hi - 1 else 0
noncomputable def ww(row:Str)(wi hi sd:Int):Str:=j1 row (some (mh hi sd*wi)) (some (mh hi sd*wi+wi))
noncomputable def xN(row:Str)(wi hi sd:Int)(en:Str)(c:Nat):Bool:=if en="without"then !kJ row c sd else kJ (ww row wi hi (1 - sd)) c (1 - sd)
noncomputable def C5(row:Str)(wi hi sd:Int)(en:Str)(c:Nat):Bool:=if en="without"then !kJ row c (1 - sd)else kJ (ww row wi hi sd) c sd
noncomputable def wH(row:Str)(wi hi sd:Int)(en:Str)(c:Nat):V:=if xN row wi hi sd en c=true then .str "lost"else if C5 row wi hi sd en c=true then .str "won"else .non
def En(row:Str)(wi hi sd:Int)(en:Str)(c:Nat):wH row wi hi sd en c=.non\/∃s:Str,wH row wi hi sd en c=.str s:=by
 unfold wH;split
 .exact .inr ⟨_,rfl⟩
 .split
  .exact .inr ⟨_,rfl⟩
  .exact .inl rfl
noncomputable def jJ(row:Str)(wi hi sd:Int)(z:(Str×Str)×YC):V:=wH row wi hi sd z.1.1 (z.1.2.cps.toList.getD 0 0)
noncomputable def oz(row:Str)(wi hi sd:Int)(es:List ((Str×Str)×YC)):List V:=es.map (jJ row wi hi sd)
noncomputable def bS:List V->V
 | []=>.non
 |w::ws=>if w=.non then bS ws else w
theorem jm:∀{a b:List V},(∀w∈a,w=.non)->bS (a++b)=bS b
 | [],_,_=>rfl
 |w::a,b,h=>by show(if w=.non then bS (a++b)else w)=_;rw[QW (h w Vf)];exact jm λx hx=>h x (Vd _ hx)
theorem lE:∀{es:List ((Str×Str)×YC)},bS (oz row wi hi sd es)=.non\/∃s:Str,bS (oz row wi hi sd es)=.str s
 | []=>.inl rfl
 |z::es=>by
  show(if jJ row wi hi sd z=.non then bS (oz row wi hi sd es)else jJ row wi hi sd z)=.non\/∃s:Str,(if jJ row wi hi sd z=.non then bS (oz row wi hi sd es)else jJ row wi hi sd z)=.str s
  by_cases h:jJ row wi hi sd z=.non
  .rw[QW h];exact lE
  .rw[QV h];exact En _ _ _ _ _ _
def mq(wi hi:Int)(hs:List Int)(row:Str)(us:List (bb×YC))(es:List ((Str×Str)×YC))(st:Str)(sd:Int)(x:V):Prop:=(¬bS (oz row wi hi sd es)=.non->x=bS (oz row wi hi sd es))/\(bS (oz row wi hi sd es)=.non->∃m,mI wi hi hs row us sd (sqsOf row sd) m/\x=if m=[]then .str st else .non)
theorem mq.uniq{wi hi:Int}{hs:List Int}{row:Str}{us:List (bb×YC)}{es:List ((Str×Str)×YC)}{st:Str}{sd:Int}(h:mq wi hi hs row us es st sd x)(h':mq wi hi hs row us es st sd y):x=y:=by
 by_cases e:bS (oz row wi hi sd es)=.non
 .obtain⟨m,a,rfl⟩:=h.2 e;obtain⟨m',b,rfl⟩:=h'.2 e;rw[a.uniq b]
 .rw[h.1 e,h'.1 e]
def vv:Sp:=λvs H Q _=>∃z c sd,vs=[.str z,.str (one c),.int sd]/\lN c/\Q (.bl (kJ z c sd)) H
def AW(K:Frag)(cB:YC):Sp:=λvs H Q _=>∃p wi hi hs sd,vs=[.ref p,.int sd]/\bQ K cB H p wi hi hs/\Q (.int (mh hi sd)) H
def AT(K:Frag)(cB:YC):Sp:=λvs H Q _=>∃b row c sd wi hi hs,vs=[.ref b,.str row,.str (one c),.int sd]/\bQ K cB H b wi hi hs/\lN c/\row.length<=64/\Q (.bl (kJ (ww row wi hi sd) c sd)) H
def xx(K:Frag)(cB:YC):Sp:=λvs H Q _=>∃b p e row en c sd wi hi hs,vs=[.ref b,.ref p,.ref e]/\bQ K cB H b wi hi hs/\cY K H p [.str row,.int sd]/\cY K H e [.str en,.str (one c)]/\lN c/\row.length<=64/\Q (wH row wi hi sd en c) H
def mU(K:Frag)(cB cG:YC):Sp:=λvs H Q _=>∃g b kq p row sd wi hi hs ks us ts es st,vs=[.ref g,.ref p]/\fj K cB cG H g b kq wi hi hs ks us ts es st/\cY K H p [.str row,.int sd]/\row.length<=64/\Q (bS (oz row wi hi sd es)) H
def mT(K:Frag)(cB cG:YC):Sp:=λvs H Q _=>∃g b kq p row sd wi hi hs ks us ts es st,vs=[.ref g,.ref p]/\fj K cB cG H g b kq wi hi hs ks us ts es st/\cY K H p [.str row,.int sd]/\CO row hs/\(row.length:Int)=wi*hi/\(sd=0\/sd=1)/\
 ∀x H',mq wi hi hs row us es st sd x->ah H H'->Q x H'
structure CE1(P:Rg)(w:Rk)(K:Frag)(mg:Q3)(QR:Rq):Prop where
 sign_of:cC P w K mg QR "sign_of" ["kind","side"] 1 mQ
structure CE2(P:Rg)(w:Rk)(K:Frag)(mg:Q3)(QR:Rq)(cB:YC):Prop where
 has_kind:cC P w K mg QR "has_kind" ["row","kind","side"] 2 vv
 Board_far_row:fV P w K mg QR cB "far_row" ["self","side"] 1 (AW K cB)
structure CE3(P:Rg)(w:Rk)(K:Frag)(mg:Q3)(QR:Rq)(cB:YC):Prop where
 has_kind:cC P w K mg QR "has_kind" ["row","kind","side"] 2 vv
 is_home:cC P w K mg QR "is_home" ["board","row","kind","side"] 3 (AT K cB)
structure CE4(P:Rg)(w:Rk)(K:Frag)(mg:Q3)(QR:Rq)(cB:YC):Prop where
 by_end:cC P w K mg QR "by_end" ["board","place","end"] 4 (xx K cB)
structure CE5(P:Rg)(w:Rk)(K:Frag)(mg:Q3)(QR:Rq)(cB cG:YC):Prop where
 by_ends:cC P w K mg QR "by_ends" ["game","place"] 5 (mU K cB cG)
 moves:cC P w K mg QR "moves" ["game","place"] 6 (qz K cB cG)
section
variable{K:Frag}{σ:St}{H:Hp}{ta tb te:TE}{x:V}
def ya(ha:Ev ta σ H x)(hb:Ev tb σ H .non):Ev (fT K .IsNot ta tb) σ H (.bl (!decide (x=.non))):=λQ q=>ha _ (hb _ (by
 cases x<;>exact q))
def B9(ha:Ev ta σ H x)(hb:Ev tb σ H .non):Ev (fT K .Is ta tb) σ H (.bl (decide (x=.non))):=λQ q=>ha _ (hb _ (by
 cases x<;>exact q))
end
def qm(h:t σ H λc H1=>if c=true then u σ H1 R else R false H1):JV t u σ H R:=h
def JQ(h:t σ H λc H1=>R (!c) H1):yI t σ H R:=h
def II{K:Frag}{ta:TE}{σ:St}{H:Hp}{R:Bool->Hp->Prop}(h:ta σ H λx H1=>∃k,CN K x H1 k/\R k H1):OM K ta σ H R:=h
def jC:plainId "dict.update.loop"=true:=by decide+kernel
def pX:entryFor table "dict.update.loop"=some Sr.«dict.update.loop» :=entryFor_of_fast (by kernel_rfl)
def rL:Tt (.type "list") "keys"=pure none:=by rw[Th,SD];kernel_rfl
section
variable{prog:Rg}{w:Rk}{A:Sd}{E:Q4}{s:Rb}
def DP(hx:s.heap.get? a=some o)(hc:o.cls=.type "list")(hdat:o.data=.seq xs k)(hd:o.dict=none)(hA:A.handled=none)(h:∀h' tk,(∀b ob,s.heap.get? b=some ob->h'.get? b=some ob)->Q none {s with heap:=h',toks:=tk}):Ra (Rh prog w) A (getAttr? (.ref a) "keys") Q E s:=by
 obtain⟨c,dct,dat,sl⟩:=o;simp only at hc hdat hd;subst hc hdat hd;obtain⟨hp,g,d,tk,os⟩:=s;have hT:∀tk',(⟨hp,g,d,tk',os⟩:Rb).TypeIs (.ref a) "list":=λ_=>⟨_,hx,rfl⟩;have f1:=sub_AttributeError;have f3:=PySem.F.slot_list_getattribute.lookup;have f4:=PySem.F.slot_list_getattribute.bind (.ref a);have f5:=am_list_getattr_none;unfold getAttr? getAttrBy? getAttrBy
 repeat (any_goals (first|assumption|exact hT _|((with_reducible show Ra _ _ (call (Value.builtin "list.__getattribute__") _ _) _ _ _);refine SI PySem.F.slot_list_getattribute (hT _) am_entry_list_getattribute (PySem.F.args_list_getattribute_2 _ _) (meets_getattribute_miss_list a xs k sl "keys" _ rL (by decide+kernel) (by decide)) ⟨hx,hA,λh' tk' e hx'=>?_⟩)|wp_step))
 obtain⟨t',u',he⟩:=hx'.there;have hTe:∀tk'',(⟨h',g,d,tk'',os⟩:Rb).TypeIs (.ref e) "AttributeError":=λ_=>⟨_,he,rfl⟩;show Ra _ _ (getattributeRaised _ _ _ _ _ _ _) _ _ _;unfold getattributeRaised
 repeat (any_goals (first|assumption|exact hTe _|wp_step))
 exact h h' tk' hx'.keeps
variable{K:Type}[DecidableEq K]{knd:KeyKind prog w K}
noncomputable def hZ(kvs:List (K×YB)):List (K×YB)->List (K×YB)
 | []=>kvs
 |p::ps=>hZ (UZ kvs p.1 p.2) ps
def vk{kvs:List (K×YB)}{k:K}{v:YB}:(UZ kvs k v).length<=kvs.length+1:=by
 unfold UZ;split
 .rw[U6];lia
 .rw[Ve];exact WR _
def Cr{d it l:YC}{items:Array YB}{R:Result->Rb->Prop}(hA:A.handled=none)(hdi:d≠it)(hdl:d≠l)(hil:it≠l):∀rest i s kvs tk,i+rest.length=items.size->s.heap.IsListIter it l i->s.heap.IsList l items->s.heap.DictOf knd d kvs->(∀j p,rest[j]? =some p->∃t key,items[i+j]? =some (.ref t)/\s.heap.IsTuple t #[key,p.2]/\knd.is p.1 key=true/\t≠d/\t≠it)->kvs.length+rest.length<=v1->(∀s',s'.heap.DictOf knd d (hZ kvs rest)->(∀b o,b≠d->b≠it->s.heap.get? b=some o->s'.heap.get? b=some o)->s'.gens=s.gens->s'.drawn=s.drawn->s'.os=s.os->s.toks<=s'.toks->R (.ok (.ret .none)) s')->SV (Rh prog w) A (.builtin "dict.update.loop" ⟨[.ref d,.ref it,.int i tk,.none],[]⟩) R s:=by
 intro rest
 induction rest with
 |nil=>
  intro i s kvs tk hi hit hl hd hp hz hR;refine RO pX ?_;rw[RF jC _];show Ra _ A.in1 (Sm (.ref it) >>= _) _ _ s;refine Q6 (Ug (show A.in1.handled=none from hA) hit hl (by rw[XQ];simp at hi;lia) λh' ext=>?_);show Ra _ _ (Builtin.Dict.addKeywords d [] >>= _) _ _ _;exact Q6 (Q7 (Q7 (hR _ (hd.extBut ext hdi) (λb o _ hb e=>ext b o hb e) rfl rfl rfl (WR _))))
 |cons p rest ih=>
  intro i s kvs tk hi hit hl hd hp hz hR;obtain⟨t,key,hx,ht,hk,htd,hti⟩:=hp 0 p rfl;refine RO pX ?_;rw[RF jC _];show Ra _ A.in1 (Sm (.ref it) >>= _) _ _ s;refine Q6 (T7 hit hl hx λh1 hit1 sb1=>?_);obtain⟨ot,hot,hct,nt,hdt⟩:=ht;have hot1:h1.get? t=some ot:=(sb1.2 t hti).trans hot;have hT:(⟨h1,s.gens,s.drawn,s.toks,s.os⟩:Rb).TypeIs (.ref t) "tuple":=⟨_,hot1,hct⟩;refine Q6 (Rs (Q6 (wpAny_tryCatch ?_)));unfold Builtin.Dict.pairItems;refine Q6 (SJ hT ?_);show Ra _ _ (if _ then _ else _) _ _ _;rw[QW (by decide)];refine Q6 (RN hot1 hdt (Q7 ?_));show Ra _ _ (Tb [key,p.2] (dictSet d key p.2)) _ _ _;have hd1:h1.DictOf knd d kvs:=hd.extBut (λb o hb e=>(sb1.2 b hb).trans e) hdi;refine Rs (wpAny_dictSet_pairs hk hd1 (λh2 hd2 sb2=>?_) (by simp at hz;lia));refine Q7 ⟨SC jC _,?_⟩;have hb2:∀b o,b≠d->b≠it->s.heap.get? b=some o->h2.get? b=some o:=λb o nd ni e=>(sb2.2 b nd).trans ((sb1.2 b ni).trans e);have sl:=vk (kvs:=kvs) (k:=p.1) (v:=p.2);rw[Vp]at hi hz;refine ih (i+1) ⟨h2,s.gens,s.drawn,s.toks+1,s.os⟩ (UZ kvs p.1 p.2) _ (by lia) ?_ ?_ hd2 (λj q hq=>?_) (by lia) (λs' a1 a2 a3 a4 a5 a6=>?_)
  .obtain⟨oi,e1,e2,e3⟩:=hit1;exact⟨oi,(sb2.2 it (Ne.symm hdi)).trans e1,e2,e3⟩
  .obtain⟨ol,e1,e2⟩:=hl;exact⟨ol,hb2 l ol (Ne.symm hdl) (Ne.symm hil) e1,e2⟩
  .obtain⟨t',key',b1,⟨o',c1,c2⟩,b3,b4,b5⟩:=hp (j+1) q (by simpa using hq);exact⟨t',key',by rw[show i+1+j=i+(j+1) by lia];exact b1,⟨o',hb2 t' o' b4 b5 c1,c2⟩,b3,b4,b5⟩
  .exact hR s' a1 (λb o nd ni e=>a2 b o nd ni (hb2 b o nd ni e)) a3 a4 a5 (WU (WW _) a6)
def mj{l:YC}{o:Obj}{items:Array YB}{n:Nat}{Q:Q4}(hA:A.handled=none)(ho:s.heap.get? l=some o)(hc:o.cls=.type "list")(hdat:o.data=.seq items n)(hdd:o.dict=none)(ps:List (K×YB))(hlen:ps.length=items.size)(hsz:ps.length<=v1)(hp:∀(j:Nat)(p:K×YB),ps[j]? =some p->∃t key,items[j]? =some (Rj t)/\s.heap.IsTuple t #[key,p.2]/\knd.is p.1 key=true)(h:∀s',s'.heap.DictOf knd s.heap.objs.size (hZ [] ps)->(∀b o,s.heap.get? b=some o->s'.heap.get? b=some o)->s'.gens=s.gens->s'.drawn=s.drawn->s'.os=s.os->Q (.ref s.heap.objs.size) s'):Ra (Rh prog w) A (call (.type "dict") [.ref l]) Q E s:=by
 refine callType_codes (Q₁:=λobj s₁=>obj=.ref s.heap.objs.size/\s₁={s with heap:=s.heap.push {cls:=.type "dict",data:=.dict #[]}}) F.kt_called_dict (F.kt_typeCall_dict_1 _) F.entry_dict_init (kt_code_dict_new _ ⟨rfl,rfl⟩) ?_;rintro obj s₁ ⟨rfl,rfl⟩;have hnew:(s.heap.push {cls:=.type "dict",data:=.dict #[]}).DictOf knd s.heap.objs.size []:=Heap.DictOf.new s.heap;have ho':(s.heap.push {cls:=.type "dict",data:=.dict #[]}).get? l=some o:=Q8 _ ho;refine⟨hnew.typeIs,F.args_dict_init_2 _ _,?_⟩;unfold Sr.«dict.__init__»;refine Q6 ?_;unfold Builtin.Dict.selfAndRest;refine Q6 (wpAny_notOrdered_dict hnew.typeIs ?_);show Ra _ _ (pure (s.heap.objs.size,[Rj l])) _ _ _;refine Q7 ?_;show Ra _ _ (T5 "dict.__init__" s.heap.objs.size (.ref l) [] .none) _ _ _;unfold T5;refine Q6 (SJ (show Tc {s with heap:=s.heap.push {cls:=.type "dict",data:=.dict #[]}} (.ref l) "list"from⟨_,ho',hc⟩) ?_);rw[QW (by decide)];refine Q6 (DP ho' hc hdat hdd (show A.in1.in1.handled=none from hA) λh1 tk1 k1=>?_);rw[QW (by rfl)];have hl1:h1.IsList l items:=⟨o,k1 _ _ ho',hc,n,hdat⟩;have hd1:h1.DictOf knd s.heap.objs.size []:=by obtain⟨o',es,ep,e1,r⟩:=hnew;exact⟨o',es,ep,k1 _ _ e1,r⟩
 have ls:l<s.heap.objs.size:=Q9 ho;have dlt:s.heap.objs.size<h1.objs.size:=by obtain⟨o',es,ep,e1,r⟩:=hd1;exact Q9 e1
 refine Q6 (T6 ?_);refine Q6 (Sk hl1 ?_);refine Q7 ⟨SC jC _,?_⟩;refine Cr (A:=A.in1) hA (WS dlt) (WX ls) (WX (W3 ls dlt)) ps 0 _ [] _ (by lia) ⟨_,Re _ rfl,rfl,rfl⟩ (hl1.push _) (hd1.push _) (λj p hj=>?_) (by simpa using hsz) (λs' a1 a2 a3 a4 a5 a6=>?_)
 .obtain⟨t,key,b1,⟨ot,c1,c2⟩,b3⟩:=hp j p hj;have tl:=Q9 c1;exact⟨t,key,by rw[W9];exact b1,⟨ot,Q8 _ (k1 _ _ (Q8 _ c1)),c2⟩,b3,WS tl,WS (W3 tl dlt)⟩
 .refine⟨rfl,h s' a1 (λb o e=>?_) a3 a4 a5⟩;have bl:=Q9 e;exact a2 b o (WS bl) (WS (W3 bl dlt)) (Q8 _ (k1 _ _ (Q8 _ e)))
end
end L2
namespace L2
open PySem PySem.W PySem.Calls PySem.Spec PyProof.Rows
noncomputable def kvsOf(kvs:List (Key×V)):List (Str×Str)->List (Key×V)
 | []=>kvs
 |p::ps=>kvsOf (iN kvs (.inr p.1) (.str p.2)) ps
theorem pL:∀ps kvs,(kvsOf kvs ps).length<=kvs.length+ps.length
 | [],kvs=>WR _
 |p::ps,kvs=>by have a:=pL ps (iN kvs (.inr p.1) (.str p.2));have b:=jk kvs (.inr p.1) (.str p.2);show(kvsOf (iN kvs (.inr p.1) (.str p.2)) ps).length<=_;rw[Vp];lia
def JH(r:a9 [.str a,.str b] us):∃t1 t2,us=[.str a t1,.str b t2]:=by
 cases r with
 |cons r0 r1=>
 cases r1 with
 |cons r2 r3=>
 cases r3;obtain⟨t1,rfl⟩:=(show∃t,_=SL a t from r0);obtain⟨t2,rfl⟩:=(show∃t,_=SL b t from r2);exact⟨t1,t2,rfl⟩
theorem Be{h:Rq}:∀(zs:List ((Str×Str)×YC)),(∀z∈zs,∃t1 t2,h.IsTuple z.2 #[.str z.1.1 t1,.str z.1.2 t2])->∃ps:List (Key×YB),ps.length=zs.length/\(∀(j:Nat)(p:Key×YB),ps[j]? =some p->∃z key,zs[j]? =some z/\h.IsTuple z.2 #[key,p.2]/\aU (kV p.1) key)/\∀(kvs:List (Key×V))(vs:List (Key×YB)),KV kvs vs->KV (kvsOf kvs (zs.map (·.1))) (hZ vs ps)
 | [],_=>⟨[],rfl,λj p e=>by simp at e,λkvs vs r=>r⟩
 |z::zs,hz=>by
  obtain⟨t1,t2,ht⟩:=hz z Vf;obtain⟨ps,p1,p2,p3⟩:=Be zs λy hy=>hz y (Vd _ hy);refine⟨(.inr z.1.1,.str z.1.2 t2)::ps,by simp[p1],λj p e=>?_,λkvs vs r=>p3 _ _ (r.put _ ⟨t2,rfl⟩)⟩;cases j with
  |zero=>
   have e:(Sum.inr z.1.1,SL z.1.2 t2)=p:=by simpa using e
   subst e;exact⟨z,_,rfl,ht,t1,rfl⟩
  |succ j=>
   obtain⟨y,key,a,b⟩:=p2 j p (by simpa using e);exact⟨y,key,by simpa using a,b⟩
section
def wJ(K:Frag)(xs:List V)(H:Hp)(Q:VK):Prop:= ∃d zs,xs=[.ref d]/\aN K H d (cD zs)/\(∀z∈zs,cY K H z.2 [.str z.1.1,.str z.1.2])/\zs.length<=1000/\∀q,H q=none->Q (.ref q) (upd H q (.dK (kvsOf [] (zs.map (·.1)))))
def uO(hA:X.A.handled=none):bq X (.type "dict") (wJ X.K):=by
 intro QQ s σ H xs us Q I rv h;obtain⟨d,zs,rfl,hd,hp,hz,q⟩:=h;cases rv with
 |cons r0 rn=>
 cases rn;cases r0;obtain⟨its,r,⟨o,n,e,hc,hdd,hdat⟩,_⟩:=I.list hd;have rl:=r.length;rw[U6]at rl;obtain⟨ps,p1,p2,p3⟩:=Be (h:=s.heap) zs λz hz'=>by obtain⟨it2,r2,tp,_⟩:=I.tuple (hp z hz');obtain⟨t1,t2,rfl⟩:=JH r2;exact⟨t1,t2,tp⟩
 refine mj (knd:=mixKind X.prog X.w) hA e hc hdat hdd ps (by rw[p1,Vc];exact rl) (by rw[p1,Rf];lia) (λj p hj=>?_) (λs' a1 a2 a3 a4 a5=>?_)
 .obtain⟨z,key,b1,b2,b3⟩:=p2 j p hj;refine⟨z.2,key,?_,b2,nM b3⟩;obtain⟨u,hu,ru⟩:=r.get (show(cD zs)[j]? =some (V.ref z.2) by rw[Va,b1];rfl);cases ru;simpa using hu
 .have kl:=pL (zs.map (·.1)) [];rw[U6]at kl;have hq:H s.heap.objs.size=none:=I.hok.fresh (WR _);obtain⟨h',g',d',t',os'⟩:=s';obtain rfl:g'=s.gens:=a3;obtain rfl:d'=s.drawn:=a4;obtain rfl:os'=s.os:=a5;have k2:∀b o,s.heap.get? b=some o->h'.get? b=some o:=a2;have dd:h'.DictOf (mixKind X.prog X.w) s.heap.objs.size (hZ [] ps):=a1;have kz:(kvsOf [] (zs.map (·.1))).length<=v1:=by rw[Rf];have:([]:List (Key×V)).length=0:=rfl;lia
  exact⟨.ref s.heap.objs.size,upd H s.heap.objs.size (.dK (kvsOf [] (zs.map (·.1)))),I.laid (t':=t') k2 (WR _) (dk_new kz (beq_eq_false_iff_ne.mpr (Ne.symm (WS I.big))) (p3 [] [] .nil) dd),rfl,q _ hq⟩
def KM(K:Frag)(hr:db j X.A)(hK:X.K=K:=by rfl):bq X (.type "dict") (wJ K):=by subst hK;exact uO hr.hd
end
def KZ(x:V)(xs:List V)(H:Hp)(Q:VK):Prop:= ∃a kvs k y,x=.ref a/\xs=[kV k,y]/\H a=some (.dK kvs)/\Q ((valV kvs k).getD y) H
def DT:sQ X "dict.get" KZ:=by
 intro QQ s σ H x xs v us Q I rx rv h;obtain⟨a,kvs,k,y,rfl,rfl,e,q⟩:=h;cases rx;cases rv with
 |cons r1 rn=>
 cases rn with
 |cons r2 rn2=>
 cases rn2;obtain⟨z,hd,vs,rel,dd⟩:=Js I.hok e;refine UM PySem.F.slot_dict_get dd.typeIs PySem.F.entry_dict_get (PySem.F.args_dict_get_3 _ _ _) (meets_dict_get_default (mixKind X.prog X.w) a (nM r1) hd _) ⟨_,dd.mapOf,?_⟩;exact⟨(valV kvs k).getD y,H,I.tok _,(rel.val k).getD r2,q⟩
def Ob{X:Cx}{o e e2:RU}{to:TE}{t:TA}{apos cpos:Uk}(K:Frag)(ho:PE X o to)(ha:PA X [e,e2] t)(hbase:RK o "get" X.env (RH o X.env)=RH o X.env:=by rfl)(hfew:((RE cpos (Rc [e,e2] X.env)).all (λx=> !x.1)&&(SS cpos (Se [] X.env)).all (λx=>x.1.isSome)
   &&decide ([e,e2].length+([]:List Sl).length+(if([]:List Sl).isEmpty then 0 else 1)<30))=true:=by rfl) (hline:(apos.endLine == cpos.line)=true:=by rfl) (hs:Rc [e,e2] X.env=(false,RH e X.env)::Rc [e2] X.env:=by rfl) (hplain:(RE cpos (Rc [e2] X.env)).any (·.1)=false:=by rfl) (hK:X.K=K:=by rfl):PE X (.Call (.Attribute o "get" apos) [e,e2] [] cpos) (Qb K "dict" KZ to t):=by
 subst hK;exact NV PySem.F.plainAttrs_dict PySem.F.slot_dict_get PySem.F.type_dict_get DT ho ha hbase hfew hline hs hplain
end L2
namespace L2
open PySem PySem.Spec PyProof.Rows
noncomputable def sY(ts:List ((Str×Str)×YC))(kd:Str):V:=(valV (kvsOf [] (ts.map (·.1))) (.inr kd)).getD (.str kd)
def La{K:Frag}{te:TE}{ta:TA}{σ:St}{H:Hp}{Q:VK}{d:YC}{zs:List ((Str×Str)×YC)}{kd:Str}(h:Ev te σ H (.ref d))(hd:aN K H d (cD zs))(hp:mn H zs)(hz:zs.length<=1000)(ha:∀H',ah H H'->Av ta σ H' [.str kd,.str kd])(q:∀H',ah H H'->Q (sY zs kd) H'):Qb K "dict" KZ (cB (wJ K) (bf te cw)) ta σ H Q:=
 h _ ⟨d,zs,rfl,hd,λz hz'=>cY.of (hp z hz'),hz,λp hq=>⟨.inr (.inr (.inl ⟨rfl,.inl ⟨_,af⟩⟩)),ha _ ((ah.refl H).upd hq) _ ⟨p,_,.inr kd,.str kd,rfl,rfl,af,q _ ((ah.refl H).upd hq)⟩⟩⟩
def Ax{P:V->Prop}{kvs:List (Key×V)}{k:Key}{v:V}(h:∀kv∈kvs,P kv.2)(e:valV kvs k=some v):P v:=by unfold valV at e;obtain⟨kv,h1,rfl⟩:=XW.mp e;exact h kv (List.mem_of_find?_eq_some h1)
def Ba{P:V->Prop}{kvs:List (Key×V)}{k:Key}{v:V}(h:∀kv∈kvs,P kv.2)(hv:P v):∀kv∈iN kvs k v,P kv.2:=λkv hkv=>by
 unfold iN at hkv;split at hkv
 .obtain⟨y,hy,rfl⟩:=U7.mp hkv;split
  .exact hv
  .exact h y hy
 .rcases Vk.mp hkv with w|w
  .exact h kv w
  .rw[Vb.mp w];exact hv
theorem pM{P:V->Prop}:∀ps kvs,(∀kv∈kvs,P kv.2)->(∀p∈ps,P (.str p.2))->∀kv∈kvsOf kvs ps,P kv.2
 | [],_,h,_=>h
 |p::ps,kvs,h,hp=>pM ps _ (Ba h (hp p Vf)) λq hq=>hp q (Vd _ hq)
def xg(g:lZ ks ts)(hk:k∈ks):∃c∈ks,sY ts (one k)=.str (one c):=by
 unfold sY;cases e:valV (kvsOf [] (ts.map (·.1))) (.inr (one k))with
 |none=>exact⟨k,hk,rfl⟩
 |some v=>
  have z:=Ax (P:=λv=>∃c∈ks,v=.str (one c)) (pM (P:=λv=>∃c∈ks,v=.str (one c)) _ [] (λ_ z=>nomatch z) λp hp=>?_) e
  .obtain⟨c,hc,rfl⟩:=z;exact⟨c,hc,rfl⟩
  .obtain⟨y,hy,rfl⟩:=U7.mp hp;obtain⟨_,c,hc,e2⟩:=g.kd y hy;exact⟨c,hc,by rw[e2]⟩
noncomputable def Qw:V->Nat
 | .str z=>z.cps.toList.getD 0 0
 |_=>0
noncomputable def sM(ts:List ((Str×Str)×YC))(wi hi:Int)(c:Nat)(sd gl:Int):Nat:=if gl / wi=mh hi sd then Pc (Qw (sY ts (one (U5 c)))) sd else c
noncomputable def uR(ts:List ((Str×Str)×YC))(wi hi:Int)(row:Str)(sd s gl t:Int):Str:=fZ (if t= -1 then fZ row s (one 46)else fZ (fZ row s (one 46)) t (one 46)) gl (one (sM ts wi hi (row.cps.toList.getD s.toNat 0) sd gl))
def tD(cG:YC):Sp:=λvs H Q _=>∃g b kd ks rs es ts st,vs=[.ref g,.str kd]/\fA cG H g b ks rs (cD ts) es st/\mn H ts/\ts.length<=6/\∀H',ah H H'->Q (sY ts kd) H'
def IS(K:Frag)(cB cG:YC):Sp:=λvs H Q _=>∃g b kq c sd gl wi hi hs ks us ts es st,vs=[.ref g,.str (one c),.int sd,.int gl]/\fj K cB cG H g b kq wi hi hs ks us ts es st/\(c∈ks\/c∈ks.map (· - 32))/\∀H',ah H H'->Q (.str (one (sM ts wi hi c sd gl))) H'
def tJ(K:Frag)(cB cG:YC):Sp:=λvs H Q _=>∃g b kq p mv row sd s gl t wi hi hs ks us ts es st,vs=[.ref g,.ref p,.ref mv]/\fj K cB cG H g b kq wi hi hs ks us ts es st/\cY K H p [.str row,.int sd]/\cY K H mv [.int s,.int gl,.int t]/\iQ wi hi hs ks row/\0<=s/\s<row.length/\sdV row s=.int sd/\0<=gl/\gl<row.length/\(t= -1\/0<=t/\t<row.length)/\
 ∀(q:YC)(H':Hp),H q=none->H' q=some (.tup [.str (uR ts wi hi row sd s gl t),.int (1 - sd)])->ah H H'->Q (.ref q) H'
structure CD1(P:Rg)(w:Rk)(K:Frag)(mg:Q3)(QR:Rq)(cB cG:YC):Prop where
 kind_of:cC P w K mg QR "kind_of" ["sign"] 1 vt
 sign_of:cC P w K mg QR "sign_of" ["kind","side"] 1 mQ
 row_of:cC P w K mg QR "row_of" ["wide","square"] 1 AO
 Board_far_row:fV P w K mg QR cB "far_row" ["self","side"] 1 (AW K cB)
 Game_turned:fV P w K mg QR cG "turned" ["self","kind"] 1 (tD cG)
structure CD2(P:Rg)(w:Rk)(K:Frag)(mg:Q3)(QR:Rq)(cB cG:YC):Prop where
 arrived:cC P w K mg QR "arrived" ["game","sign","side","goal"] 2 (IS K cB cG)
 put:cC P w K mg QR "put" ["row","square","sign"] 1 IM
def pO{ks:List Nat}(hl:∀k∈ks,lN k){c:Nat}(h:c∈ks\/c∈ks.map (· - 32)):U5 c∈ks/\c<128/\¬(c=46\/c=35):=by
 rcases h with h|h
 .have:=hl c h;unfold lN at this;refine⟨?_,by lia,by lia⟩;have e:U5 c=c:=by unfold U5;split<;>lia
  rw[e];exact h
 .obtain⟨k,hk,rfl⟩:=U7.mp h;have:=hl k hk;unfold lN at this;refine⟨?_,by lia,by lia⟩;have e:U5 (k - 32)=k:=by unfold U5;split<;>lia
  rw[e];exact hk
def DU(ho:Ev to σ H (.ref p))(hi:kW C m H p)(q:t σ H λvs H2=>sp (.ref p::vs) H2 Q E0):oo C m sp to t σ H Q:=ho _ ⟨hi,q⟩
def B7(h:Ev te σ H (.str ".")):Ev te σ H (.str (one 46)):=by
 have e:one 46=".":=by decide+kernel
 rw[e];exact h
def Ez(h:x∈wW row sd so ai path):x.1∈path/\(x.2= -1\/x.2∈path):=by
 have sl:∀p:List Int,(∀y∈p,y∈path)->x∈gf row sd ai p->x.1∈path/\(x.2= -1\/x.2∈path):=λp hp hx=>by
  obtain⟨g,hg,rfl⟩:=U7.mp ((qD row sd ai p).subset hx);refine⟨hp g hg,?_⟩;unfold prG;show(if sdV row g=.non then(-1:Int)else g)= -1\/(if sdV row g=.non then(-1:Int)else g)∈path;split
  .exact .inl rfl
  .exact .inr (hp g hg)
 unfold wW at h;split at h
 .match path,h with
  | [],h=>simp[nN]at h
  | [_],h=>simp[nN]at h
  |a::b::r,h=>
   have h:x∈(if sdV row a=.int (1 - sd)/\sdV row b=.non then [(b,a)]else []):=h;split at h
   .have e:=Vb.mp h;rw[e];exact⟨by simp,.inr (by simp)⟩
   .simp at h
 .refine sl _ (λy hy=>?_) h;split at hy
  .exact WL hy
  .exact hy
structure O4(wi hi:Int)(hs:List Int)(row:Str)(sd s gl t:Int):Prop where
 s0:0<=s
 s1:s<row.length
 sd:sdV row s=.int sd
 g0:0<=gl
 g1:gl<wi*hi
 gn:¬gl∈hs
 tk:t= -1\/(0<=t/\t<wi*hi/\¬t∈hs)
theorem a8.inn(w1:1<=wi):∀{us:List (bb×YC)}{l:List (Int×Int)},a8 wi hi hs row sq sd us l->∀x∈l,(0<=x.1/\x.1<wi*hi/\¬x.1∈hs)/\(x.2= -1\/(0<=x.2/\x.2<wi*hi/\¬x.2∈hs))
 |_,_,.nil,_,h=>nomatch h
 |_,_,.cons a b,x,h=>by
  rcases Vk.mp h with w|w
  .obtain⟨n,ry,_,rfl⟩:=a;obtain⟨h1,h2⟩:=Ez w;refine⟨vM w1 ry _ h1,?_⟩
   rcases h2 with e|e
   .exact .inl e
   .exact .inr (vM w1 ry _ e)
  .exact a8.inn w1 b x w
theorem mI.ok(w1:1<=wi):∀{ss:List Int}{m:List (List Int)},mI wi hi hs row us sd ss m->(∀s∈ss,0<=s/\s<row.length/\sdV row s=.int sd)->∀k∈m,∃s gl t,k=[s,gl,t]/\O4 wi hi hs row sd s gl t
 |_,_,.nil,_,_,z=>nomatch z
 |_,_,@mI.cons _ _ _ _ _ _ s ss l m a b,hss,k,z=>by
  rcases Vk.mp z with w|w
  .obtain⟨x,hx,rfl⟩:=U7.mp w;obtain⟨l0,hl,hs'⟩:=a;obtain⟨i1,i2⟩:=hl.inn w1 x ((hs'.1 x).mp hx);obtain⟨a1,a2,a3⟩:=hss s Vf;exact⟨s,x.1,x.2,rfl,a1,a2,a3,i1.1,i1.2.1,i1.2.2,i2⟩
  .exact mI.ok w1 b (λy hy=>hss y (Vd _ hy)) k w
noncomputable def EI(ts:List ((Str×Str)×YC))(wi hi:Int)(row:Str)(sd:Int)(k:List Int):Str×Int:=(uR ts wi hi row sd (k.getD 0 0) (k.getD 1 0) (k.getD 2 0),1 - sd)
noncomputable abbrev aM(ps:List ((Str×Int)×YC)):List V:=ps.map λz=>V.ref z.2
def O0(H H':Hp)(q:YC)(ls:List (Str×Int)):Prop:= ∃ps:List ((Str×Int)×YC),ps.map (·.1)=ls/\H' q=some (.lst (aM ps))/\∀p∈ps,H p.2=none/\H' p.2=some (.tup [.str p.1.1,.int p.1.2])
theorem Bg{α:Type}{H0 H:Hp}(f:α->Str×Int):∀(l:List α)(ys:List V),ys.length=l.length->(∀(i:Nat)(y:V),ys[i]? =some y->∃x t,l[i]? =some x/\y=.ref t/\H0 t=none/\H t=some (.tup [.str (f x).1,.int (f x).2]))->∃ps:List ((Str×Int)×YC),ys=aM ps/\ps.map (·.1)=l.map f/\∀p∈ps,H0 p.2=none/\H p.2=some (.tup [.str p.1.1,.int p.1.2])
 | [],[],_,_=>⟨[],rfl,rfl,λ_ z=>nomatch z⟩
 |x::l,y::ys,hl,h=>by
  obtain⟨x',t,e1,rfl,e3,e4⟩:=h 0 y rfl;have e1:x=x':=by simpa using e1
  subst e1;obtain⟨ps,rfl,p2,p3⟩:=Bg f l ys (by simpa using hl) λi y hy=>h (i+1) y (by simpa using hy);refine⟨(f x,t)::ps,rfl,by rw[Vm,Vm,p2],λp hp=>?_⟩
  rcases U8.mp hp with rfl|hp
  .exact⟨e3,e4⟩
  .exact p3 p hp
 | [],_::_,hl,_=>by simp at hl
 |_::_,[],hl,_=>by simp at hl
def ju(wi hi:Int)(hs:List Int)(row:Str)(us:List (bb×YC))(ts es:List ((Str×Str)×YC))(sd:Int)(ls:List (Str×Int)):Prop:=(¬bS (oz row wi hi sd es)=.non/\ls=[])\/(bS (oz row wi hi sd es)=.non/\∃m,mI wi hi hs row us sd (sqsOf row sd) m/\m.length<=4096/\ls=m.map (EI ts wi hi row sd))
theorem ju.uniq(h:ju wi hi hs row us ts es sd ls)(h':ju wi hi hs row us ts es sd ls'):ls=ls':=by
 rcases h with⟨a,rfl⟩|⟨a,m,b,_,rfl⟩
 .rcases h' with⟨_,rfl⟩|⟨c,_⟩
  .rfl
  .exact QZ c a
 .rcases h' with⟨c,_⟩|⟨_,m',b',_,rfl⟩
  .exact QZ a c
  .rw[b.uniq b']
def vw(K:Frag)(cB cG:YC):Sp:=λvs H Q _=>∃g b kq p row sd wi hi hs ks us ts es st,vs=[.ref g,.ref p]/\fj K cB cG H g b kq wi hi hs ks us ts es st/\cY K H p [.str row,.int sd]/\iQ wi hi hs ks row/\(sd=0\/sd=1)/\
 ∀(ls:List (Str×Int))(q:YC)(H':Hp),ju wi hi hs row us ts es sd ls->H q=none->O0 H H' q ls->ah H H'->Q (.ref q) H'
structure CD3(P:Rg)(w:Rk)(K:Frag)(mg:Q3)(QR:Rq)(cB cG:YC):Prop where
 by_ends:cC P w K mg QR "by_ends" ["game","place"] 5 (mU K cB cG)
 moves:cC P w K mg QR "moves" ["game","place"] 6 (qz K cB cG)
 behind:cC P w K mg QR "behind" ["game","place","move"] 3 (tJ K cB cG)
def EH(R:iQ wi hi hs ks row)(hl:∀k∈ks,lN k)(tg:lZ ks ts)(rl:(row.length:Int)=wi*hi)(hc:row.cps.toList.getD s.toNat 0∈ks\/row.cps.toList.getD s.toNat 0∈ks.map (· - 32))(sn:¬s∈hs)(h:O4 wi hi hs row sd s gl t):iQ wi hi hs ks (uR ts wi hi row sd s gl t):=by
 have R1:=R.put (c:=46) h.s0 h.s1 sn (.inl rfl);have l1:=iu (c:=46) h.s0 h.s1;have g1:=h.g1;have R2:iQ wi hi hs ks (if t= -1 then fZ row s (one 46)else fZ (fZ row s (one 46)) t (one 46)):=by
  split
  .exact R1
  .rename_i ne
   rcases h.tk with e|⟨t0,t1,tn⟩
   .exact QZ e ne
   .exact R1.put t0 (by rw[l1];lia) tn (.inl rfl)
 have l2:=R2.len;unfold uR;refine R2.put h.g0 (by rw[l2];lia) h.gn ?_;unfold sM;split
 .obtain⟨c',hc',et⟩:=xg tg (pO hl hc).1;rw[et];unfold Pc;split
  .exact .inr (.inr (U7.mpr ⟨c',hc',rfl⟩))
  .exact .inr (.inl hc')
 .exact .inr hc
def jf(h0:0<=s)(h1:s<row.length):(fZ row s (one c)).cps.toList=row.cps.toList.set s.toNat c:=by
 have hl:s.toNat<row.cps.toList.length:=by have:row.length=row.cps.toList.length:=rfl;lia
 rw[lm h0 h1,List.set_eq_take_append_cons_drop,QW hl,VC];rfl
def tL(cs:List Nat)(n c:Nat):(cs.map strV).set n (strV c)=(cs.set n c).map strV:=List.map_set.symm
def Al{ks:List Nat}{ts:List ((Str×Str)×YC)}{wi hi:Int}{hs:List Int}{row:Str}{sd s gl t:Int}(rl:(row.length:Int)=wi*hi)(s0:0<=s)(s1:s<row.length)(g0:0<=gl)(g1:gl<row.length)(ht:t= -1\/0<=t/\t<row.length):(uR ts wi hi row sd s gl t).cps.toList=((if 0<=t then(row.cps.toList.set s.toNat 46).set t.toNat 46 else row.cps.toList.set s.toNat 46).set gl.toNat (sM ts wi hi (row.cps.toList.getD s.toNat 0) sd gl)):=by
 have l1:=iu (c:=46) s0 s1;unfold uR
 rcases ht with rfl|⟨t0,t1⟩
 .rw[QW rfl,QV (by decide),jf g0 (by rw[l1];exact g1),jf s0 s1]
 .rw[QV (by lia),QW t0,jf g0 (by rw[iu t0 (by rw[l1];exact t1),l1];exact g1),jf t0 (by rw[l1];exact t1),jf s0 s1]
def xA(R:iQ wi hi hs ks z):rowB wi hi hs ks (.str z)=true:=by
 unfold rowB;dsimp only;rw[QT (by rw[og];exact R.len),XB,Vt];intro x hx;obtain⟨i,hi'⟩:=V9 hx;rw[List.getElem?_zipWith]at hi';cases e1:z.cps.toList[i]? with
 |none=>rw[e1]at hi';cases hi'
 |some c=>
  cases e2:(emptyT wi hi hs).cps.toList[i]? with
  |none=>rw[e1,e2]at hi';cases hi'
  |some e=>
   rw[e1,e2]at hi';have hx':iM ks c e=x:=Q0 hi';have ee:e=if(i:Int)∈hs then 35 else 46:=by
    unfold emptyT at e2;have e2:((List.range (wi*hi).toNat).map λ(s:Nat)=>if(s:Int)∈hs then 35 else 46)[i]? =some e:=e2;rw[Va]at e2;cases e3:(List.range (wi*hi).toNat)[i]? with
    |none=>rw[e3]at e2;cases e2
    |some j=>
     rw[e3]at e2;have e2:(if(j:Int)∈hs then 35 else 46)=e:=Q0 e2;have:j=i:=by obtain⟨h1,h2⟩:=Vi.mp e3;rw[Ws]at h2;exact h2.symm
     rw[<-e2,this]
   rw[<-hx',ee];exact R.at_ i c e1
def K5{K:Frag}{H:Hp}{n:Nat}{a b:YC}{z:Str}{i:Int}(ha:H a=some (.tup [.str z,.int i]))(hb:H b=some (.tup [.str z,.int i])):jv K H (n+1) (.ref a) (.ref b) true:=by
 by_cases e:a=b
 .subst e;exact .same
 .have h:jv K H (n+1) (.ref a) (.ref b) ((List.range (min 2 2)).all (λj=>if j=0 then eqV (.str z) (.str z)else eqV (.int i) (.int i))&&2 == 2):=.tup (cY.of ha) (cY.of hb) e λj v v' h1 h2=>by
   match j,h1,h2 with
   |0,h1,h2=>cases h1;cases h2;exact .flat rfl rfl
   |1,h1,h2=>cases h1;cases h2;exact .flat rfl rfl
  have e1:eqV (.str z) (.str z)=true:=QT rfl;have e2:eqV (.int i) (.int i)=true:=QT rfl;have ee:((List.range (min 2 2)).all (λj=>if j=0 then eqV (.str z) (.str z)else eqV (.int i) (.int i))&&2 == 2)=true:=by show((if 0=0 then eqV (.str z) (.str z)else eqV (.int i) (.int i))&&((if 1=0 then eqV (.str z) (.str z)else eqV (.int i) (.int i))&&true)&&true)=true;rw[e1,e2];rfl
  rwa[ee]at h
def bE(H:Hp)(ps:List ((Str×Int)×YC)):Prop:= ∀p∈ps,H p.2=some (.tup [.str p.1.1,.int p.1.2])
def bE.same(h:bE H ps)(s:ah H H'):bE H' ps:=λp hp=>s _ _ (h p hp)
def yi{K:Frag}{H:Hp}{n:Nat}{q d:YC}{ps ps':List ((Str×Int)×YC)}(hq:aN K H q (aM ps))(hd:aN K H d (aM ps'))(e:ps.map (·.1)=ps'.map (·.1))(h1:bE H ps)(h2:bE H ps'):o7 K H (n+2) (.ref q) (.ref d) true:=by
 have hl:ps.length=ps'.length:=by have:=Q2 List.length e;rwa[U6,U6]at this
 have z:=o7.lst (n:=n+1) (es:=λ_=>true) hq hd (by rw[U6,U6];exact hl) (λi x y hx hy=>by
  have i1:i<ps.length:=by have:=(Vi.mp hx).1;rwa[U6]at this
  have i2:i<ps'.length:=by lia
  rw[Va,U9 i1]at hx;rw[Va,U9 i2]at hy;cases hx;cases hy;have ek:ps[i].1=ps'[i].1:=by
   have a:(ps.map (·.1))[i]? =some ps[i].1:=by rw[Va,U9 i1];rfl
   have b:(ps'.map (·.1))[i]? =some ps'[i].1:=by rw[Va,U9 i2];rfl
   rw[e,b]at a;exact(Q0 a).symm
  have g1:=h1 _ (Vl i1);rw[ek]at g1;exact K5 g1 (h2 _ (Vl i2)))
 rw[show((List.range (aM ps).length).all λ_=>true)=true from Vt.mpr λ_ _=>rfl]at z;exact z
def ju.rows(w1:1<=wi)(R:iQ wi hi hs ks row)(hl:∀k∈ks,lN k)(tg:lZ ks ts)(rl:(row.length:Int)=wi*hi)(h:ju wi hi hs row us ts es sd ls):∀y∈ls,iQ wi hi hs ks y.1/\y.2=1 - sd:=λy hy=>by
 rcases h with⟨_,rfl⟩|⟨_,m,hm,_,rfl⟩
 .cases hy
 .obtain⟨k,hk,rfl⟩:=U7.mp hy;obtain⟨s,gl,t,rfl,ok⟩:=hm.ok w1 (λs hs=>jy hs) k hk;refine⟨?_,rfl⟩;have hsd:dc (row.cps.toList.getD s.toNat 0)=.int sd:=ok.sd;have hlt:s.toNat<row.cps.toList.length:=by have:row.length=row.cps.toList.length:=rfl;have:=ok.s0;have:=ok.s1;lia
  have e:row.cps.toList[s.toNat]? =some (row.cps.toList.getD s.toNat 0):=by rw[Vh,U9 hlt];rfl
  have ca:=R.at_ _ _ e;rw[show((s.toNat:Nat):Int)=s by have:=ok.s0;lia]at ca
  rcases gR ca with⟨_,h⟩|⟨sn,h|h⟩
  .rw[h]at hsd;cases hsd
  .rw[h]at hsd;cases hsd
  .exact EH R hl tg rl h sn ok
abbrev Pla:=Str×Int
noncomputable def cp(ps:List Pla):List Pla->List Pla
 | []=>ps
 |x::xs=>cp (if x∈ps then ps else ps++[x]) xs
theorem kK:∀xs ps,∃r,cp ps xs=ps++r
 | [],ps=>⟨[],by simp[cp]⟩
 |x::xs,ps=>by
  obtain⟨r,h⟩:=kK xs (if x∈ps then ps else ps++[x]);unfold cp;rw[h];split
  .exact⟨r,rfl⟩
  .exact⟨[x]++r,by rw[VC]⟩
theorem iz:∀xs ps,y∈cp ps xs<->y∈ps\/y∈xs
 | [],ps=>by simp[cp]
 |x::xs,ps=>by
  unfold cp;rw[iz xs];split
  .rename_i h
   constructor
   .rintro(a|a)
    .exact .inl a
    .exact .inr (Vd _ a)
   .rintro(a|a)
    .exact .inl a
    .rcases U8.mp a with rfl|a
     .exact .inl h
     .exact .inr a
  .rw[Vk,Vb,U8,or_assoc]
theorem mC:∀xs ps,ps.Nodup->(cp ps xs).Nodup
 | [],ps,h=>h
 |x::xs,ps,h=>by
  unfold cp;split
  .exact mC xs ps h
  .rename_i hn;refine mC xs _ (V5.mpr ⟨h,by simp,λa ha b hb e=>?_⟩);rw[Vb.mp hb]at e;exact hn (e▸ha)
theorem jE(x:Pla):∀xs ps,cp ps (xs++[x])=if x∈cp ps xs then cp ps xs else cp ps xs++[x]
 | [],ps=>rfl
 |y::xs,ps=>jE x xs _
noncomputable def ba(F:Pla->List Pla)(p0:List Pla):Nat->List Pla
 |0=>cp [] p0
 |n+1=>cp (ba F p0 n) (F ((ba F p0 n).getD n ("",0)))
noncomputable def wrow(F:Pla->List Pla)(p0:List Pla)(j:Nat):List Nat:=(F ((ba F p0 j).getD j ("",0))).map λx=>(ba F p0 (j+1)).idxOf x
noncomputable def wled(F:Pla->List Pla)(p0:List Pla)(n:Nat):List (List Nat):=(List.range n).map (wrow F p0)
def o9(F:Pla->List Pla)(p0:List Pla)(n:Nat):wled F p0 (n+1)=wled F p0 n++[wrow F p0 n]:=by unfold wled;rw[VL,Vg];rfl
def mL(F:Pla->List Pla)(p0:List Pla)(n:Nat):(wled F p0 n).length=n:=by unfold wled;rw[U6,Vu]
theorem j4(F:Pla->List Pla)(p0:List Pla):∀{j:Nat},i<=j->∃r,ba F p0 j=ba F p0 i++r
 |0,h=>⟨[],by have:i=0:=by lia
              subst this;simp⟩
 |j+1,h=>by
  by_cases e:i=j+1
  .subst e;exact⟨[],by simp⟩
  .obtain⟨r,hr⟩:=j4 F p0 (i:=i) (j:=j) (by lia);obtain⟨r2,h2⟩:=kK (F ((ba F p0 j).getD j ("",0))) (ba F p0 j);exact⟨r++r2,by show cp _ _=_;rw[h2,hr,VC]⟩
theorem j5(F:Pla->List Pla)(p0:List Pla):∀n,(ba F p0 n).Nodup
 |0=>mC _ _ VU
 |n+1=>mC _ _ (j5 F p0 n)
def mJ{F:Pla->List Pla}{p0:List Pla}{G:Pla->Prop}(h0:∀x∈p0,G x)(hF:∀x,G x->∀y∈F x,G y){n:Nat}(hn:∀j,j<n->j<(ba F p0 j).length):∀x∈ba F p0 n,G x:=by
 induction n with
 |zero=>
  intro x hx
  rcases(iz _ _).mp hx with h|h
  .cases h
  .exact h0 x h
 |succ n ih=>
  intro x hx;have ih:=ih λj hj=>hn j (by lia)
  rcases(iz _ _).mp hx with h|h
  .exact ih x h
  .have hl:=hn n (WZ n);rw[Vh,U9 hl]at h;exact hF _ (ih _ (Vl hl)) x h
def ve(F:Pla->List Pla)(p0:List Pla)(n:Nat):Prop:=(ba F p0 n).length=n/\∀j,j<n->j<(ba F p0 j).length
def pe(h:ve F p0 n)(h':ve F p0 m):n=m:=by
 rcases Xe n m with a|a|a
 .have:=h'.2 n a;have:=h.1;lia
 .exact a
 .have:=h.2 m a;have:=h'.1;lia
def D6{l r:List Pla}(h:x∈l):(l++r).idxOf x=l.idxOf x:=by rw[List.idxOf_append,QW h]
noncomputable def pcs(l:List Nat):Nat:=(l.filter λc=>c != 35&&c != 46).length
def cf(c:Nat)(l:List Nat):pcs (c::l)=pcs l+(if c=35\/c=46 then 0 else 1):=by
 unfold pcs;rw[V8]
 by_cases h:c=35\/c=46
 .rw[QV (by simp;lia),QW h];rfl
 .rw[QW (by simp;lia),QV h];rfl
theorem qX:∀{l:List Nat}{i a:Nat},pcs (l.set i a)<=pcs l+1
 | [],_,_=>by simp[pcs]
 |c::l,0,a=>by rw[VW,cf,cf];split<;>split<;>lia
 |c::l,i+1,a=>by rw[Wt,cf,cf];have:= @qX l i a;lia
theorem xF:∀{l:List Nat}{i:Nat},pcs (l.set i 46)<=pcs l
 | [],_=>by simp[pcs]
 |c::l,0=>by rw[VW,cf,cf];simp
 |c::l,i+1=>by rw[Wt,cf,cf];have:= @xF l i;lia
theorem xG:∀{l:List Nat}{i:Nat},i<l.length->l.getD i 0≠35->l.getD i 0≠46->pcs (l.set i 46)+1=pcs l
 | [],_,h,_,_=>by simp at h
 |c::l,0,_,h1,h2=>by have h1:c≠35:=h1;have h2:c≠46:=h2;rw[VW,cf,cf];simp[h1,h2]
 |c::l,i+1,h,h1,h2=>by rw[Wt,cf,cf];have:= @xG l i (by simpa using h) (by simpa using h1) (by simpa using h2);lia
structure lM(wi hi:Int)(hs:List Int)(ks:List Nat)(m:Nat)(x:Pla):Prop where
 row:iQ wi hi hs ks x.1
 sd:x.2=0\/x.2=1
 pc:pcs x.1.cps.toList<=m
def ju.good{wi hi:Int}{hs:List Int}{ks:List Nat}{us:List (bb×YC)}{ts es:List ((Str×Str)×YC)}{m:Nat}{x:Pla}{ls:List Pla}(w1:1<=wi)(hm0:0<=wi*hi)(hl:∀k∈ks,lN k)(tg:lZ ks ts)(G:lM wi hi hs ks m x)(h:ju wi hi hs x.1 us ts es x.2 ls):∀y∈ls,lM wi hi hs ks m y:=by
 intro y hy;have rl:(x.1.length:Int)=wi*hi:=by have:=G.row.len;lia
 obtain⟨ry,sy⟩:=ju.rows w1 G.row hl tg rl h y hy;refine⟨ry,by have:=G.sd;lia,?_⟩
 rcases h with⟨_,rfl⟩|⟨_,mv,hm,_,rfl⟩
 .cases hy
 .obtain⟨k,hk,rfl⟩:=U7.mp hy;obtain⟨s,gl,t,rfl,ok⟩:=hm.ok w1 (λs hs=>jy hs) k hk;have hsd:dc (x.1.cps.toList.getD s.toNat 0)=.int x.2:=ok.sd;have hn:x.1.cps.toList.getD s.toNat 0≠35/\x.1.cps.toList.getD s.toNat 0≠46:=by
   unfold dc at hsd;split at hsd
   .cases hsd
   .lia
  have l0:x.1.length=x.1.cps.toList.length:=rfl;have s0:=ok.s0;have s1:=ok.s1;have g1:=ok.g1;have p1:=xG (l:=x.1.cps.toList) (i:=s.toNat) (by lia) hn.1 hn.2;have pc:=G.pc;show pcs (uR ts wi hi x.1 x.2 s gl t).cps.toList<=m;have tk:t= -1\/0<=t/\t<x.1.length:=by
   rcases ok.tk with e|e
   .exact .inl e
   .exact .inr ⟨e.1,by lia⟩
  rw[Al (ks:=ks) (hs:=hs) rl ok.s0 ok.s1 ok.g0 (by lia) tk];refine WU qX ?_;split
  .have:=xF (l:=x.1.cps.toList.set s.toNat 46) (i:=t.toNat);lia
  .lia
theorem qu{α:Type}(n:Nat):∀l:List α,(l.map λ_=>n).sum=l.length*n
 | []=>by simp
 |a::l=>by rw[Vm,Wu,qu n l,Vp,Nat.succ_mul];lia
noncomputable def gG(al:List Nat):List Bool->Nat->List (List Nat)
 | [],_=>[[]]
 |true::cs,m=>(gG al cs m).map (35:: ·)
 |false::cs,0=>(gG al cs 0).map (46:: ·)
 |false::cs,m+1=>(gG al cs (m+1)).map (46:: ·)++al.flatMap λa=>(gG al cs m).map (a:: ·)
noncomputable def kO(a:Nat):Nat->Nat->Nat
 |0,_=>1
 |f+1,0=>kO a f 0
 |f+1,m+1=>kO a f (m+1)+a*kO a f m
theorem ir(al:List Nat):∀cs m,(gG al cs m).length=kO al.length (cs.filter (! ·)).length m
 | [],_=>rfl
 |true::cs,m=>by show((gG al cs m).map (35:: ·)).length=_;rw[U6,ir al cs m];rfl
 |false::cs,0=>by show((gG al cs 0).map (46:: ·)).length=_;rw[U6,ir al cs 0];rfl
 |false::cs,m+1=>by
  show((gG al cs (m+1)).map (46:: ·)++al.flatMap λa=>(gG al cs m).map (a:: ·)).length=kO al.length ((cs.filter (! ·)).length+1) (m+1);rw[Ve,U6,ir al cs (m+1),WM];show _+(al.map λa=>((gG al cs m).map (a:: ·)).length).sum=kO al.length (cs.filter (! ·)).length (m+1)+al.length*kO al.length (cs.filter (! ·)).length m;have e:(al.map λa=>((gG al cs m).map (a:: ·)).length)=al.map λ_=>kO al.length (cs.filter (! ·)).length m:=by apply VD;intro a _;rw[U6,ir al cs m]
  rw[e,qu]
theorem jB(h35:35∉al)(h46:46∉al):∀{cs:List Bool}{m:Nat}{l:List Nat},l.length=cs.length->(∀(i c:Nat)(b:Bool),l[i]? =some c->cs[i]? =some b->if b=true then c=35 else c=46\/c∈al)->pcs l<=m->l∈gG al cs m
 | [],m,[],_,_,_=>by simp[gG]
 | [],m,_::_,h,_,_=>by simp at h
 |b::cs,m,[],h,_,_=>by simp at h
 |b::cs,m,c::l,h,ha,hp=>by
  have h0:=ha 0 c b rfl rfl;have ht:∀(i c:Nat)(b:Bool),l[i]? =some c->cs[i]? =some b->if b=true then c=35 else c=46\/c∈al:=λi c b h1 h2=>ha (i+1) c b (by simpa using h1) (by simpa using h2);have hl:l.length=cs.length:=by simpa using h
  rw[cf]at hp;cases b with
  |true=>
   have h0:c=35:=h0;subst h0;exact U7.mpr ⟨l,jB h35 h46 hl ht (by simpa using hp),rfl⟩
  |false=>
   have h0:c=46\/c∈al:=h0
   by_cases hc:c=46
   .subst hc;have hp:pcs l<=m:=by simpa using hp
    have:=jB h35 h46 hl ht hp;cases m with
    |zero=>exact U7.mpr ⟨l,this,rfl⟩
    |succ m=>exact VA _ (U7.mpr ⟨l,this,rfl⟩)
   .have hm:c∈al:=h0.resolve_left hc;have c35:c≠35:=λe=>h35 (e▸hm);rw[QV (by lia)]at hp;cases m with
    |zero=>lia
    |succ m=>exact Vr _ (List.mem_flatMap.mpr ⟨c,hm,U7.mpr ⟨l,jB h35 h46 hl ht (by lia),rfl⟩⟩)
theorem Jc{α:Type}[DecidableEq α]:∀{l m:List α},l.Nodup->(∀x∈l,x∈m)->l.length<=m.length
 | [],m,_,_=>WT _
 |a::l,m,nd,h=>by have hm:=h a Vf;have nd':=VB.mp nd;have ih:=Jc (l:=l) (m:=m.erase a) nd'.2 λx hx=>(Wo (λe=>nd'.1 (by rw[<-e];exact hx))).mpr (h x (Vd _ hx));have:=Wm hm;have:=Wn hm;rw[Vp];lia
theorem jH(h:a<=b):∀f m,kO a f m<=kO b f m
 |0,_=>WR _
 |f+1,0=>jH h f 0
 |f+1,m+1=>Nat.add_le_add (jH h f (m+1)) (Nat.mul_le_mul h (jH h f m))
def qi{wi hi:Int}{hs:List Int}{ks:List Nat}{m:Nat}{l:List Pla}(hk:ks.length<=2)(hl:∀k∈ks,lN k)(nd:l.Nodup)(h:∀x∈l,lM wi hi hs ks m x)(hb:∀f,f=((List.range (wi*hi).toNat).filter λ(s:Nat)=> !decide ((s:Int)∈hs)).length->kO 4 f m<=1000):l.length<=2000:=by
 have al:∀(k:Nat),k∈ks++ks.map (· - 32)->k≠35/\k≠46:=λk h=>by
  rcases Vk.mp h with z|z
  .have:=hl k z;unfold lN at this;lia
  .obtain⟨k',hz,rfl⟩:=U7.mp z;have:=hl k' hz;unfold lN at this;lia
 let cs:=(List.range (wi*hi).toNat).map λ(s:Nat)=>decide ((s:Int)∈hs)
 let R:=gG (ks++ks.map (· - 32)) cs m
 have hR:R.length<=1000:=by show(gG _ _ _).length<=1000;rw[ir];refine WU (jH (b:=4) (by rw[Ve,U6];lia) _ _) (hb _ ?_);show(((List.range (wi*hi).toNat).map _).filter _).length=_;rw[List.filter_map,U6];rfl
 have hin:∀x∈l,x∈R.flatMap λr=>[((⟨r.toArray⟩:Str),(0:Int)),(⟨r.toArray⟩,1)]:=λx hx=>by
  have G:=h x hx;refine List.mem_flatMap.mpr ⟨x.1.cps.toList,jB (λz=>(al _ z).1 rfl) (λz=>(al _ z).2 rfl) ?_ ?_ G.pc,?_⟩
  .show x.1.length=((List.range (wi*hi).toNat).map _).length;rw[G.row.len,U6,Vu]
  .intro i c b h1 h2;have h2:((List.range (wi*hi).toNat).map λ(s:Nat)=>decide ((s:Int)∈hs))[i]? =some b:=h2;rw[Va]at h2;obtain⟨s,hs',rfl⟩:=XW.mp h2;obtain⟨hlt,e⟩:=Vi.mp hs';rw[Ws]at e;subst e
   rcases gR (G.row.at_ i c h1)with⟨m1,rfl⟩|⟨m1,h3⟩
   .rw[QT m1];rfl
   .rw[QU m1]
    rcases h3 with h3|h3|h3
    .exact .inl h3
    .exact .inr (VA _ h3)
    .exact .inr (Vr _ h3)
  .have e:(⟨x.1.cps.toList.toArray⟩:Str)=x.1:=by cases x with|mk z i=>cases z;simp
   rw[e];obtain⟨z,i⟩:=x
   rcases G.sd with e2|e2
   .have e2:i=0:=e2;subst e2;simp
   .have e2:i=1:=e2;subst e2;simp
 have hlen:=Jc nd hin;rw[WM]at hlen;have e:(R.map λr=>([((⟨r.toArray⟩:Str),(0:Int)),(⟨r.toArray⟩,1)]:List Pla).length)=R.map λ_=>2:=rfl;rw[e,qu]at hlen;lia
def Dd{K:Frag}{H:Hp}{p:YC}{xs:List V}{k:Bool}(h:aN K H p xs)(hk:k= !xs.isEmpty):CN K (.ref p) H k:=.inl ⟨xs,h,hk⟩
def IJ(h:H t=some (.tup [.str z,.int i]))(hz:z.length<=1000):fU H 1 (.ref t):=by
 refine⟨.inr (.inl ⟨_,h⟩),λxs hx x hm=>?_⟩;have e1:tupOf H (.ref t)=some [.str z,.int i]:=by simp only[tupOf,h]
 have e2:lstOf H (.ref t)=none:=by simp only[lstOf,h]
 rw[e1,e2]at hx
 rcases hx with hx|hx
 .cases hx
  rcases U8.mp hm with rfl|hm
  .exact hz
  .rcases U8.mp hm with rfl|hm
   .exact trivial
   .cases hm
 .cases hx
section
variable{K:Frag}{σ:St}{H:Hp}{ta tb te:TE}
def B8{cs:List Nat}(ha:Ev ta σ H (.str ""))(hb:Ev tb σ H (.ref d))(h:H d=some (.lst (cs.map strV)))(hl:cs.length<=1000):Ev (Pl (nO K) ta (bf tb cw)) σ H (.str ⟨cs.toArray⟩):=λQ q=>ha _ (hb _ (by
 show nO K (.str "") [.ref d] H Q;rw[A5];refine⟨cs.map one,aN.of (by rw[Vj];exact h),?_,?_⟩
 .rw[Vj];have es:∀l:List Nat,(l.map ((λx:Str=>x.length)∘one)).sum=l.length:=λl=>by
   induction l with
   |nil=>rfl
   |cons a r ih=>rw[Vm,Wu,ih,Vp];show 1+r.length=_;lia
  have ez:("":Str).length=0:=by decide+kernel
  rw[es,ez];show cs.length+(cs.map one).length*0<=16777216;lia
 .rw[pR];exact q))
end
section
def Oc{o e:RU}{apos cpos:Uk}{td ty:TE}(hu:X.A.units+20<RM)(ho:PE X o td)(he:PE X e ty)(hb:RK o "get" X.env (RH o X.env)=RH o X.env:=by rfl)(hf:((RE cpos (Rc [e] X.env)).all (λx=> !x.1)&&(SS cpos (Se [] X.env)).all (λx=>x.1.isSome)&&decide (([e]:List RU).length+([]:List Sl).length+(if([]:List Sl).isEmpty then 0 else 1)<30))=true:=by rfl)(hl:(apos.endLine == cpos.line)=true:=by rfl)(ht:RE cpos (Rc [e] X.env)=[(false,RH e X.env)]:=by rfl):PE X (.Call (.Attribute o "get" apos) [e] [] cpos) (qr td ty):=Bp (by lia) ho he ⟨hb,hf,hl,ht⟩
end
def Od(hu:X.A.units+20<RM)(ho:PE X o td)(hi:PE X i ty)(hv:PE X value tv)(hs:S9 value (some (.Subscript o i pos')) pos.line X.env=pure false:=by rfl):PS X (.Assign [.Subscript o i pos'] value pos) (A1 td ty tv):=Dw (by lia) ho hi hv hs
noncomputable def gM(p:Pla):List Key:=[.inr p.1,.inl p.2]
def ut(h:gM p=gM q):p=q:=by obtain⟨a,b⟩:=p;obtain⟨c,d⟩:=q;unfold gM at h;simp at h;rw[h.1,h.2]
noncomputable def gZ:Nat->List Pla->List (List Key×V)
 |_,[]=>[]
 |n,p::ps=>(gM p,.int n)::gZ (n+1) ps
theorem uq:∀ps n,(gZ n ps).length=ps.length
 | [],_=>rfl
 |_::ps,n=>by show(gZ (n+1) ps).length+1=_;rw[uq ps];rfl
theorem kE(x:Pla):∀ps n,valV (gZ n ps) (gM x)=if x∈ps then some (.int ((n+ps.idxOf x:Nat):Int))else none
 | [],n=>by simp[gZ,valV]
 |p::ps,n=>by
  unfold valV;show((((gM p,V.int n)::gZ (n+1) ps).find? λkv=>decide (kv.1=gM x)).map (·.2))=_;rw[VQ]
  by_cases h:p=x
  .subst h;simp
  .have hk:¬gM p=gM x:=λe=>h (ut e);have h':¬x=p:=λe=>h e.symm;have ih:=kE x ps (n+1);unfold valV at ih;rw[QU hk];show(((gZ (n+1) ps).find? λkv=>decide (kv.1=gM x)).map (·.2))=_;rw[ih,List.idxOf_cons];have hb:(p == x)=false:=by simpa using h
   rw[hb]
   by_cases hm:x∈ps
   .rw[QW hm,QW (Vd _ hm)];show some (V.int ((n+1+ps.idxOf x:Nat):Int))=some (V.int ((n+(ps.idxOf x+1):Nat):Int));rw[show n+1+ps.idxOf x=n+(ps.idxOf x+1) by lia]
   .rw[QV hm,QV (by simp[h',hm])]
theorem pN(x:Pla):∀ps n,gZ n ps++[(gM x,.int ((n+ps.length:Nat):Int))]=gZ n (ps++[x])
 | [],n=>rfl
 |p::ps,n=>by show(gM p,V.int n)::(gZ (n+1) ps++_)=(gM p,V.int n)::gZ (n+1) (ps++[x]);rw[<-pN x ps (n+1),Vp,show n+(ps.length+1)=n+1+ps.length by lia]
theorem ur:∀{ps:List Pla}{n:Nat},x∉ps->((gZ n ps).any λkv=>decide (kv.1=gM x))=false
 | [],_,_=>rfl
 |p::ps,n,h=>by
  have hk:¬gM p=gM x:=λe=>h (by rw[ut e];exact Vf);show(decide (gM p=gM x)||(gZ (n+1) ps).any _)=false
  rw[QU hk,ur λz=>h (Vd _ z)];rfl
def BJ(h:x∉ps):iN (gZ 0 ps) (gM x) (.int (ps.length:Int))=gZ 0 (ps++[x]):=by unfold iN;rw[ur h,QV (by decide),<-pN x ps 0,W9]
structure u7(K:Frag)(C:YC):Prop where
 cl:oA K C
 game:bN K C "game"
 places:bN K C "places"
 numbers:bN K C "numbers"
 ways:bN K C "ways"
 overs:bN K C "overs"
noncomputable def hU(g lp dn lw lo:YC):List (Str×V):=putF "overs" (.ref lo) (putF "ways" (.ref lw) (putF "numbers" (.ref dn) (putF "places" (.ref lp) (putF "game" (.ref g) []))))
section
variable{g lp dn lw lo:YC}
def C7:(hU g lp dn lw lo).lookup ("game":Str)=some (.ref g):=by unfold hU;rw[ao,QV (by decide+kernel),ao,QV (by decide+kernel),ao,QV (by decide+kernel),ao,QV (by decide+kernel),ao,QW rfl]
def pd:(hU g lp dn lw lo).lookup ("places":Str)=some (.ref lp):=by unfold hU;rw[ao,QV (by decide+kernel),ao,QV (by decide+kernel),ao,QV (by decide+kernel),ao,QW rfl]
def vd:(hU g lp dn lw lo).lookup ("numbers":Str)=some (.ref dn):=by unfold hU;rw[ao,QV (by decide+kernel),ao,QV (by decide+kernel),ao,QW rfl]
def C6:(hU g lp dn lw lo).lookup ("ways":Str)=some (.ref lw):=by unfold hU;rw[ao,QV (by decide+kernel),ao,QW rfl]
def At:(hU g lp dn lw lo).lookup ("overs":Str)=some (.ref lo):=by unfold hU;rw[ao,QW rfl]
def NE{m:Str}(h1:¬m="game")(h2:¬m="places")(h3:¬m="numbers")(h4:¬m="ways")(h5:¬m="overs"):(hU g lp dn lw lo).lookup m=none:=by unfold hU;rw[ao,QV h5,ao,QV h4,ao,QV h3,ao,QV h2,ao,QV h1];rfl
end
structure cr(cW:YC)(H:Hp)(x g dx lp dn lw lo:YC)(zs:List (Pla×YC))(ws os:List V):Prop where
 at_:H x=some (.ins cW dx (hU g lp dn lw lo))
 pl:H lp=some (.lst (aM zs))
 pk:bE H zs
 nb:H dn=some (.dT (gZ 0 (zs.map (·.1))))
 wy:H lw=some (.lst ws)
 ov:H lo=some (.lst os)
 nwp:lw≠lp
 nop:lo≠lp
 nwo:lw≠lo
section
variable{K:Frag}{cW:YC}{H H':Hp}{x g dx lp dn lw lo:YC}{zs:List (Pla×YC)}{ws os:List V}
theorem cr.same(W:cr cW H x g dx lp dn lw lo zs ws os)(s:ah H H'):cr cW H' x g dx lp dn lw lo zs ws os:=⟨s _ _ W.at_,s _ _ W.pl,W.pk.same s,s _ _ W.nb,s _ _ W.wy,s _ _ W.ov,W.nwp,W.nop,W.nwo⟩
def cr.fgame(W:cr cW H x g dx lp dn lw lo zs ws os)(D:u7 K cW):Fl K H x "game" (.ref g):=⟨cW,dx,_,W.at_,D.cl,D.game,C7⟩
def cr.fplaces(W:cr cW H x g dx lp dn lw lo zs ws os)(D:u7 K cW):Fl K H x "places" (.ref lp):=⟨cW,dx,_,W.at_,D.cl,D.places,pd⟩
def cr.fnumbers(W:cr cW H x g dx lp dn lw lo zs ws os)(D:u7 K cW):Fl K H x "numbers" (.ref dn):=⟨cW,dx,_,W.at_,D.cl,D.numbers,vd⟩
def cr.fways(W:cr cW H x g dx lp dn lw lo zs ws os)(D:u7 K cW):Fl K H x "ways" (.ref lw):=⟨cW,dx,_,W.at_,D.cl,D.ways,C6⟩
def cr.fovers(W:cr cW H x g dx lp dn lw lo zs ws os)(D:u7 K cW):Fl K H x "overs" (.ref lo):=⟨cW,dx,_,W.at_,D.cl,D.overs,At⟩
def cr.no(W:cr cW H x g dx lp dn lw lo zs ws os){m:Str}(h1:¬m="game":=by decide+kernel)(h2:¬m="places":=by decide+kernel)(h3:¬m="numbers":=by decide+kernel)(h4:¬m="ways":=by decide+kernel)(h5:¬m="overs":=by decide+kernel):kW cW m H x:=⟨dx,_,W.at_,NE h1 h2 h3 h4 h5⟩
def cr.lenp(W:cr cW H x g dx lp dn lw lo zs ws os)(D:u7 K cW)(hx:Ev tx σ H (.ref x)):Ev (cB (zy K) (bf (Li K tx "places") cw)) σ H (.int (zs.length:Int)):=by have:=cq (K:=K) (aK hx (W.fplaces D)) (.inl (aN.of W.pl));rw[U6]at this;exact this
def cr.add(W:cr cW H x g dx lp dn lw lo zs ws os)(hz:H z.2=some (.tup [.str z.1.1,.int z.1.2])):cr cW (upd (upd H dn (.dT (gZ 0 (zs.map (·.1)++[z.1])))) lp (.lst (aM zs++[.ref z.2]))) x g dx lp dn lw lo (zs++[z]) ws os:=by
 have npd:lp≠dn:=λe=>by have:=W.pl;rw[e,W.nb]at this;cases this
 have nxd:x≠dn:=λe=>by have:=W.at_;rw[e,W.nb]at this;cases this
 have nxp:x≠lp:=λe=>by have:=W.at_;rw[e,W.pl]at this;cases this
 have nwd:lw≠dn:=λe=>by have:=W.wy;rw[e,W.nb]at this;cases this
 have nod:lo≠dn:=λe=>by have:=W.ov;rw[e,W.nb]at this;cases this
 have tup:∀(a:YC)(vs:List V),H a=some (.tup vs)->(upd (upd H dn (.dT (gZ 0 (zs.map (·.1)++[z.1])))) lp (.lst (aM zs++[.ref z.2]))) a=some (.tup vs):=λa vs h=>by rw[ak (λe=>by rw[e,W.pl]at h;cases h),ak (λe=>by rw[e,W.nb]at h;cases h)];exact h
 refine⟨?_,?_,λy hy=>?_,?_,?_,?_,W.nwp,W.nop,W.nwo⟩
 .rw[ak nxp,ak nxd];exact W.at_
 .rw[af];simp[aM]
 .rcases Vk.mp hy with h|h
  .exact tup _ _ (W.pk y h)
  .rw[Vb.mp h];exact tup _ _ hz
 .rw[ak npd.symm,af,Vg];rfl
 .rw[ak W.nwp,ak nwd];exact W.wy
 .rw[ak W.nop,ak nod];exact W.ov
def KD(hu:X.A.units+20<RM)(hi:PE X i ty)(ho:PE X o td)(hm:behindInMarks .NotIn o=false:=by first|exact jY _|with_unfolding_all rfl):PT X (.Compare i [.NotIn] [o] pos) (tB (qq ty td)):=J9 (zf (by lia) hi ho) hm
def Dc(hy:Ev ty σ H (.ref t))(hd:Ev td σ H (.ref dn))(ht:H t=some (.tup [.str p.1,.int p.2]))(hn:H dn=some (.dT (gZ 0 ps))):Tv (tB (qq ty td)) σ H (!decide (p∈ps)):=λQ q=>hy _ (hd _ ⟨dn,_,rfl,lP.t (k:=gM p) hn ht,_,rfl,by
 rw[kE]
 by_cases h:p∈ps
 .rw[QT h]at q;rw[QW h];exact q
 .rw[QU h]at q;rw[QV h];exact q⟩)
def Dj(hv:Ev tv σ H (.int (ps.length:Int)))(hd:Ev td σ H (.ref dn))(hy:Ev ty σ H (.ref t))(ht:H t=some (.tup [.str p.1,.int p.2]))(hn:H dn=some (.dT (gZ 0 ps)))(hp:p∉ps)(hl:ps.length<v1)(q:u D σ (upd H dn (.dT (gZ 0 (ps++[p]))))):bg (A1 td ty tv) u D σ H:=hv _ (hd _ (hy _ ⟨dn,_,rfl,CQ.t (k:=gM p) hn ht (by rw[uq];exact hl),by rw[BJ hp];exact q⟩))
end
def AV(cW:YC):Sp:=λvs H Q _=>∃(x g dx lp dn lw lo d:YC)(zs fs:List (Pla×YC))(ws os:List V)(n:Int),vs=[.ref x,.ref d,.int n]/\cr cW H x g dx lp dn lw lo zs ws os/\H d=some (.lst (aM fs))/\bE H fs/\d≠lp/\((cp (zs.map (·.1)) (fs.map (·.1))).length:Int)<=n/\n<=10000/\
 ∀(zs':List (Pla×YC))(H':Hp),zs'.map (·.1)=cp (zs.map (·.1)) (fs.map (·.1))->cr cW H' x g dx lp dn lw lo zs' ws os->(∀b o,H b=some o->b≠lp->b≠dn->H' b=some o)->Q .non H'
def lC(i:Nat):(cp ps (fs.take i)).length<=(cp ps fs).length:=by
 have:∀(xs ys:List Pla)(ps:List Pla),(cp ps xs).length<=(cp ps (xs++ys)).length:=λxs=>by
  induction xs with
  |nil=>
   intro ys ps;obtain⟨r,h⟩:=kK ys ps;rw[List.nil_append,h,Ve];show ps.length<=_;lia
  |cons x xs ih=>exact λys ps=>ih ys _
 have h:=this (fs.take i) (fs.drop i) ps
 rwa[V4]at h
def uG{K:Frag}{te tl:TE}{src:List (Option Nat)}{σ rest:St}{H:Hp}{Q:VK}{d:YC}{xs:List V}(hl:Ev tl σ H (.ref d))(hx:H d=some (.lst xs))(hz:xs.length<=v1)(hs:fc src σ=none::rest)(R:Nat->Hp->V->Prop)(hR:∀i H H' v,R i H v->ah H H'->R i H' v)(he:∀(i:Nat) x H',xs[i]? =some x->ah H H'->∀Q:VK,(∀v H2,R i H2 v->ah H' H2->Q v H2)->te (some x::rest) H' Q)(q:∀d' H' ys,ah H H'->H' d'=none->ys.length=xs.length->(∀i y,ys[i]? =some y->R i H' y)->Q (.ref d') (upd H' d' (.lst ys))):tComp (nT K tl) (gName 0) iK te src σ H Q:=by
 refine hl _ ⟨d,rfl,⟨xs,aN.of hx⟩,?_⟩;refine iC xs.length (λi ys σ' H'=>ah H H'/\(∃v,σ'=v::rest)/\ys.length=i/\∀j y,ys[j]? =some y->R j H' y) hz (λi ys σ H h=>Xc h.2.2.1)
  (λi ys σ H' h hi=>⟨xs,xs[i],aN.of (h.1 _ _ hx),U9 hi⟩) (λys σ H' h=>⟨xs,aN.of (h.1 _ _ hx),WR _⟩) ⟨ah.refl H,⟨none,hs⟩,rfl,λj y e=>by simp at e⟩ ?_ ?_
 .rintro i ys _ H1 x H2 hi ⟨s1,⟨v0,rfl⟩,hl,hy⟩ ⟨rfl,hyy⟩ Kt Kf ht hf;have ex:=hyy xs (aN.of (s1 _ _ hx));simp only[gName,iK,VW,if_true];refine he i x _ ex s1 _ λv H2 rv s2=>ht _ _ _ ⟨s1.trans s2,⟨_,rfl⟩,by simp[hl],λj y e=>?_⟩
  by_cases q:j<ys.length
  .rw[VH q]at e;exact hR _ _ _ _ (hy j y e) s2
  .by_cases q2:j=ys.length
   .subst q2;simp at e;subst e;rw[hl];exact rv
   .rw[Vw (by simp;lia)]at e;cases e
 .rintro ys _ H1 dd ⟨s1,_,hl,hy⟩ hd;exact q dd H1 ys s1 hd hl hy
def Et(hd:Ev td σ H (.ref a))(hi:QF H a)(hy:Ev ty σ H y)(q:∃o,lP H a y o/\Q (o.getD .non) H):qr td ty σ H Q:=hd _ ⟨a,rfl,hi,hy _ q⟩
def aO{α:Type}(R:Hp->V->α->Prop)(H:Hp)(vs:List V)(l:List α):Prop:=vs.length=l.length/\∀(i:Nat) v x,vs[i]? =some v->l[i]? =some x->R H v x
def aO.nil{α:Type}{R:Hp->V->α->Prop}{H:Hp}:aO R H [] []:=⟨rfl,λi v x h=>by simp at h⟩
def aO.imp{α:Type}{R R':Hp->V->α->Prop}{H H':Hp}{vs:List V}{l:List α}(h:aO R H vs l)(f:∀v x,R H v x->R' H' v x):aO R' H' vs l:=⟨h.1,λi v x a b=>f v x (h.2 i v x a b)⟩
def aO.snoc{α:Type}{R:Hp->V->α->Prop}{H:Hp}{vs:List V}{l:List α}{v:V}{x:α}(h:aO R H vs l)(hx:R H v x):aO R H (vs++[v]) (l++[x]):=by
 refine⟨by rw[Ve,Ve,h.1];rfl,λi v' x' a b=>?_⟩
 by_cases hi:i<vs.length
 .rw[VH hi]at a;rw[VH (by rw[<-h.1];exact hi)]at b;exact h.2 i v' x' a b
 .have e:i=vs.length:=by have:=(Vi.mp a).1;rw[Ve]at this;have:i<vs.length+1:=this;lia
  subst e;rw[WN]at a;rw[h.1,WN]at b;injection a with a;injection b with b;rw[<-a,<-b];exact hx
def vc(H:Hp)(v:V)(l:List Nat):Prop:= ∃a,v=.ref a/\H a=some (.lst (l.map λ(n:Nat)=>V.int n))
def j3(H:Hp)(v:V)(o:Option Str):Prop:=match o with
 |none=>v=.non
 |some z=>∃a,v=.ref a/\H a=some (.tup [.str z,.int 0])
def vc.same(h:vc H v l)(s:ah H H'):vc H' v l:=by obtain⟨a,e,h⟩:=h;exact⟨a,e,s _ _ h⟩
def j3.same(h:j3 H v o)(s:ah H H'):j3 H' v o:=by
 cases o with
 |none=>exact h
 |some z=>
  obtain⟨a,e,h⟩:=h;exact⟨a,e,s _ _ h⟩
noncomputable def mK(wi hi:Int)(hs:List Int)(ks:List Nat)(ps:List Pla)(p:Pla):V:=if(rowB wi hi hs ks (.str p.1)&&amongB (.int p.2) 0 1)=true then(if p∈ps then .int (ps.idxOf p:Nat)else .non)else .non
def vn(K:Frag)(cB cG cW:YC):Sp:=λvs H Q _=>∃x g dx lp dn lw lo t b zs ws os p wi hi hs ks rs ts es st,vs=[.ref x,.ref t]/\cr cW H x g dx lp dn lw lo zs ws os/\fA cG H g b (ks.map strV) rs ts es st/\bQ K cB H b wi hi hs/\(∀k∈ks,lN k)/\ks.length<=6/\H t=some (.tup [.str p.1,.int p.2])/\p.1.length<=1000/\
 ∀H',ah H H'->Q (mK wi hi hs ks (zs.map (·.1)) p) H'
def AH(cW:YC):Sp:=λvs H Q _=>∃x g dx lp dn lw lo zs ws os led,vs=[.ref x]/\cr cW H x g dx lp dn lw lo zs ws os/\aO vc H ws led/\led.length<=10000/\
 ∀q ys H',H q=none->H' q=some (.lst ys)->aO (λH' v l=>∃a,v=.ref a/\H a=none/\H' a=some (.lst (l.map λ(n:Nat)=>V.int n))) H' ys led->ah H H'->Q (.ref q) H'
def AI(cW:YC):Sp:=λvs H Q _=>∃x g dx lp dn lw lo zs ws os,vs=[.ref x]/\cr cW H x g dx lp dn lw lo zs ws os/\
 ∀q,H q=none->Q (.ref q) (upd H q (.lst os))
structure CWn(P:Rg)(w:Rk)(K:Frag)(mg:Q3)(QR:Rq)(cB cG:YC):Prop where
 is_place:cC P w K mg QR "is_place" ["game","thing"] 6 (mS K cB cG)
open Classical in
noncomputable def folF(wi hi:Int)(hs:List Int)(us:List (bb×YC))(ts es:List ((Str×Str)×YC))(x:Pla):List Pla:=if h:∃ls,ju wi hi hs x.1 us ts es x.2 ls then choose h else []
open Classical in
noncomputable def tZ(wi hi:Int)(hs:List Int)(us:List (bb×YC))(es:List ((Str×Str)×YC))(st:Str)(x:Pla):Option Str:=if h:∃z,mq wi hi hs x.1 us es st x.2 (.str z)then some (choose h)else none
section
variable{wi hi:Int}{hs:List Int}{us:List (bb×YC)}{ts es:List ((Str×Str)×YC)}{st:Str}{x:Pla}
def x8{ls:List Pla}(h:ju wi hi hs x.1 us ts es x.2 ls):folF wi hi hs us ts es x=ls:=by have hx:∃ls,ju wi hi hs x.1 us ts es x.2 ls:=⟨ls,h⟩;unfold folF;rw[dif_pos hx];exact(Classical.choose_spec hx).uniq h
def lD(w1:1<=wi)(hm0:0<=wi*hi)(hl:∀k∈ks,lN k)(tg:lZ ks ts)(G:lM wi hi hs ks m x):∀y∈folF wi hi hs us ts es x,lM wi hi hs ks m y:=by
 unfold folF;split
 .rename_i h;exact ju.good w1 hm0 hl tg G (Classical.choose_spec h)
 .exact λy hy=>by cases hy
def xI(h:mq wi hi hs x.1 us es st x.2 (.str z)):tZ wi hi hs us es st x=some z:=by have hx:∃z,mq wi hi hs x.1 us es st x.2 (.str z):=⟨z,h⟩;unfold tZ;rw[dif_pos hx];have:=(Classical.choose_spec hx).uniq h;injection this with this;rw[this]
def DH(h:mq wi hi hs x.1 us es st x.2 .non):tZ wi hi hs us es st x=none:=by unfold tZ;rw[dif_neg];rintro⟨z,hz⟩;cases hz.uniq h
def end_fol{ls:List Pla}{v:V}(h:ju wi hi hs x.1 us ts es x.2 ls)(e:mq wi hi hs x.1 us es st x.2 v):(ls≠[]->v=.non)/\(ls=[]->∃z,v=.str z):=by
 rcases h with⟨a,rfl⟩|⟨a,m,b,_,rfl⟩
 .refine⟨λz=>QZ rfl z,λ_=>?_⟩;rw[e.1 a];exact(lE (row:=x.1) (wi:=wi) (hi:=hi) (sd:=x.2) (es:=es)).resolve_left a
 .obtain⟨m',b',rfl⟩:=e.2 a;have:=b.uniq b';subst this
  constructor
  .intro hn;rw[QV];rintro rfl;exact hn rfl
  .intro hn;have:m=[]:=WO.mp hn;rw[QW this];exact⟨_,rfl⟩
def DI{ls:List Pla}(h:ju wi hi hs x.1 us ts es x.2 ls)(hn:ls≠[]):tZ wi hi hs us es st x=none:=by unfold tZ;rw[dif_neg];rintro⟨z,hz⟩;cases(end_fol h hz).1 hn
end
def vb(H0:Hp)(lp lw lo:YC)(H:Hp)(v:V)(l:List Nat):Prop:= ∃a,v=.ref a/\H0 a=none/\a≠lp/\a≠lw/\a≠lo/\H a=some (.lst (l.map λ(n:Nat)=>V.int n))
def vb.nm{H0:Hp}{lp lw lo:YC}{H:Hp}{v:V}{l:List Nat}(h:vb H0 lp lw lo H v l):vc H v l:=by obtain⟨a,e,_,_,_,_,h⟩:=h;exact⟨a,e,h⟩
noncomputable def ovsF(wi hi:Int)(hs:List Int)(us:List (bb×YC))(ts es:List ((Str×Str)×YC))(st:Str)(p0:List Pla)(n:Nat):List (Option Str):=(List.range n).map λj=>tZ wi hi hs us es st ((ba (folF wi hi hs us ts es) p0 j).getD j ("",0))
def xk(K:Frag)(cB cG cW:YC):Sp:=λvs H Q _=>∃(x g b kq d dx:YC)(H0:Hp)(wi hi:Int)(hs:List Int)(ks:List Nat)(us:List (bb×YC))(ts es:List ((Str×Str)×YC))(st:Str)(fs:List (Pla×YC))(m:Nat),vs=[.ref x,.ref g,.ref d,.int 5000]/\ah H0 H/\H0 x=none/\H x=some (.ins cW dx [])/\fj K cB cG H0 g b kq wi hi hs ks us ts es st/\H0 d=some (.lst (aM fs))/\fs.length<=1000/\bE H0 fs/\(∀z∈fs,lM wi hi hs ks m z.1)/\ks.length<=2/\(∀f,f=((List.range (wi*hi).toNat).filter λ(s:Nat)=> !decide ((s:Int)∈hs)).length->kO 4 f m<=1000)/\
 ∀(n:Nat)(lp dn lw lo:YC)(zs:List (Pla×YC))(ws os:List V)(H':Hp),ve (folF wi hi hs us ts es) (fs.map (·.1)) n->zs.map (·.1)=ba (folF wi hi hs us ts es) (fs.map (·.1)) n->cr cW H' x g dx lp dn lw lo zs ws os->aO (vb H0 lp lw lo) H' ws (wled (folF wi hi hs us ts es) (fs.map (·.1)) n)->aO j3 H' os (ovsF wi hi hs us ts es st (fs.map (·.1)) n)->H0 lp=none->H0 lw=none->H0 lo=none->ah H0 H'->Q .non H'
section
variable{K:Frag}{σ:St}{H:Hp}
def mF(hv:∀Q:VK,(∀q,H q=none->Q (.ref q) (upd H q o))->tv σ H Q)(ho:∀H',Ev (eZ 0) σ H' (.ref x))(hp:H x=some (.ins C dx fs))(hc:oA K C)(hn:bN K C f)(hl:fs.length<1000)(h2:∀q H',H q=none->q≠x->H' x=some (.ins C dx (putF f (.ref q) fs))->H' q=some o->(∀b ob,b≠x->H b=some ob->H' b=some ob)->(∀b,H' b=none->H b=none/\b≠q)->u D σ H'):bg (ma K (eZ 0) tv f) u D σ H:=by
 refine hv _ λq hq=>ho _ _ ⟨x,C,dx,fs,rfl,by rw[ak (ay hp hq)];exact hp,hc,hn,hl,?_⟩;have nq:q≠x:=λe=>by rw[e,hp]at hq;cases hq
 refine h2 q _ hq nq af (by rw[ak nq,af]) (λb ob nb e=>by rw[ak nb,ak (ay e hq)];exact e) (λb e=>?_);have nb:b≠x:=λz=>by rw[z,af]at e;cases e
 rw[ak nb]at e;have nb2:b≠q:=λz=>by rw[z,af]at e;cases e
 rw[ak nb2]at e;exact⟨e,nb2⟩
def JW(WC:u7 K cW)(hx:H x=some (.ins cW dx []))(h0:∀H',Ev (eZ 0) σ H' (.ref x))(h1:∀H',Ev (eZ 1) σ H' (.ref g))(q:∀H5 lp dn lw lo,cr cW H5 x g dx lp dn lw lo [] [] []->H lp=none->H dn=none->H lw=none->H lo=none->SameBut x H H5->u D σ H5):bg (ma K (eZ 0) (eZ 1) "game") (bg (ma K (eZ 0) (qo cw) "places") (bg (ma K (eZ 0) AA "numbers") (bg (ma K (eZ 0) (qo cw) "ways") (bg (ma K (eZ 0) (qo cw) "overs") u)))) D σ H:=by
 have nl:∀(H:Hp)(Q:VK),(∀q,H q=none->Q (.ref q) (upd H q (.lst [])))->qo cw σ H Q:=λH Q k=>⟨WT _,k⟩;refine qx (h1 _) (h0 _) hx WC.cl WC.game (by decide) ?_;have a1:=bw "game" (V.ref g) [];simp only[Wg]at a1;have e1:(upd H x (.ins cW dx (putF "game" (V.ref g) []))) x=some (.ins cW dx (putF "game" (V.ref g) [])):=af;have f1:∀b,(upd H x (.ins cW dx (putF "game" (V.ref g) []))) b=none->H b=none:=λb e=>by
  have nb:b≠x:=λz=>by rw[z,af]at e;cases e
  rwa[ak nb]at e
 have k1:∀b ob,b≠x->H b=some ob->(upd H x (.ins cW dx (putF "game" (V.ref g) []))) b=some ob:=λb ob nb e=>by rw[ak nb];exact e
 generalize upd H x (.ins cW dx (putF "game" (V.ref g) []))=H1 at e1 f1 k1 ⊢;refine mF (nl _) h0 e1 WC.cl WC.places (by lia) λlp H2 n2 x2 e2 l2 k2 f2=>?_;have a2:=bw "places" (V.ref lp) (putF "game" (V.ref g) []);refine mF (λQ k=>k) h0 e2 WC.cl WC.numbers (by lia) λdn H3 n3 x3 e3 l3 k3 f3=>?_;have a3:=bw "numbers" (V.ref dn) (putF "places" (V.ref lp) (putF "game" (V.ref g) []));refine mF (nl _) h0 e3 WC.cl WC.ways (by lia) λlw H4 n4 x4 e4 l4 k4 f4=>?_;have a4:=bw "ways" (V.ref lw) (putF "numbers" (V.ref dn) (putF "places" (V.ref lp) (putF "game" (V.ref g) [])));refine mF (nl _) h0 e4 WC.cl WC.overs (by lia) λlo H5 n5 x5 e5 l5 k5 f5=>?_;have p3:=k3 _ _ x2 l2;have p4:=k4 _ _ x2 p3;have w5:=k5 _ _ x4 l4;refine q H5 lp dn lw lo ⟨e5,k5 _ _ x2 p4,(λz hz=>by cases hz),k5 _ _ x3 (k4 _ _ x3 l3),w5,l5,(λe=>by rw[e,p3]at n4;cases n4),(λe=>by rw[e,p4]at n5;cases n5),(λe=>by rw[<-e,l4]at n5;cases n5)⟩ (f1 _ n2) (f1 _ (f2 _ n3).1) (f1 _ (f2 _ (f3 _ n4).1).1) (f1 _ (f2 _ (f3 _ (f4 _ n5).1).1).1) ?_;exact λb o e nb=>k5 _ _ nb (k4 _ _ nb (k3 _ _ nb (k2 _ _ nb (k1 _ _ nb e))))
end
structure CWi(P:Rg)(w:Rk)(K:Frag)(mg:Q3)(QR:Rq)(cB cG cW:YC):Prop where
 is_place:cC P w K mg QR "is_place" ["game","thing"] 6 (mS K cB cG)
 followers:cC P w K mg QR "followers" ["game","place"] 7 (vw K cB cG)
 ending:cC P w K mg QR "ending" ["game","place"] 7 (mT K cB cG)
 Web_gather:fV P w K mg QR cW "gather" ["self","found","most"] 1 (AV cW)
section
variable{K:Frag}{tl te:TE}{src:List (Option Nat)}{σ rest:St}{H:Hp}{Q:VK}
noncomputable def lW(l:List Bool)(n:Nat):List Int:=((List.range n).filter λi=>l.getD i false).map λ(i:Nat)=>(i:Int)
def nV(h:l[n]? =some b):lW l (n+1)=lW l n++(if b=true then [(n:Int)]else []):=by
 unfold lW;have e:l.getD n false=b:=by rw[Vh,h];rfl
 rw[VL,WI,Vg,V8,e];cases b<;>rfl
def Aa(hl:Ev tl σ H (.ref d))(hx:H d=some (.lst (l.map V.bl)))(hz:l.length<=1000)(hs:fc src σ=none::none::rest)(q:∀H' d,ah H H'->H' d=none->Q (.ref d) (upd H' d (.lst ((lW l l.length).map V.int)))):tComp (xX K tl) (zQ K 2 (kL (gName 0) (kL (gName 1) B0))) (gh (eZ 1)) (eZ 0) src σ H Q:=by
 refine hl _ ⟨⟨_,aN.of hx⟩,?_⟩;have ll:(l.map V.bl).length=l.length:=U6 ..;refine iC l.length (λi ys σ' H'=>ah H H'/\(∃o0 o1,σ'=o0::o1::rest)/\ys=(lW l i).map V.int) (WU hz (by decide)) (λi ys σ H h=>?_)
  (λi ys σ H' h hi=>⟨_,(l.map V.bl)[i]'(by rw[ll];exact hi),aN.of (h.1 _ _ hx),U9 (by rw[ll];exact hi)⟩) (λys σ H' h=>⟨_,aN.of (h.1 _ _ hx),by rw[ll];exact WR _⟩) ⟨ah.refl H,⟨_,_,hs⟩,rfl⟩ ?_ ?_
 .rw[h.2.2,U6];unfold lW;rw[U6];exact WU (VM _ _) (by rw[Vu];exact WR _)
 .rintro i ys _ H1 x H2 hi ⟨s1,⟨o0,o1,rfl⟩,rfl⟩ ⟨t,v,rfl,ht0,rfl,hyy⟩ Kt Kf kt kf;have ex:=hyy _ (aN.of (s1 _ _ hx));rw[Va,U9 hi]at ex;obtain rfl:V.bl l[i]=v:=Q0 ex;have hb:l[i]? =some l[i]:=U9 hi;have s2:ah H (upd H1 t (.tup [.int (i:Int),.bl l[i]])):=s1.upd ht0;refine⟨t,_,rfl,cY.of af,rfl,_,_,rfl,_,_,rfl,rfl,?_⟩;show gh (eZ 1) (some (.int (i:Int))::some (.bl l[i])::rest) _ _;refine(aV (te:=eZ 1) (b:=l[i]) (ev_v rfl)) _ ?_;cases hp:l[i]with
  |true=>
   refine gN ((show Ev (eZ 0) _ _ (.int (i:Int))from ev_v rfl) _ (kt _ _ _ ⟨by rw[<-hp];exact s2,⟨_,_,rfl⟩,?_⟩));rw[nV hb,hp,QW rfl,Vg];rfl
  |false=>
   refine gO (kf _ _ ⟨by rw[<-hp];exact s2,⟨_,_,rfl⟩,?_⟩);rw[nV hb,hp,QV (by decide),Vx]
 .rintro ys σ' H' d ⟨s1,_,rfl⟩ hd;exact q H' d s1 hd
end
def B5:lW (firmL wi hi hs) (firmL wi hi hs).length=((List.range (wi*hi).toNat).filter λ(s:Nat)=> !decide ((s:Int)∈hs)).map λ(i:Nat)=>(i:Int):=by unfold lW firmL;rw[U6,Vu];congr 1;refine WK λi hi=>?_;have:=Vo.mp hi;rw[Vh,Va,VJ this];rfl
noncomputable def freeQ(wi hi:Int)(hs:List Int):List Int:=((List.range (wi*hi).toNat).filter λ(s:Nat)=> !decide ((s:Int)∈hs)).map λ(i:Nat)=>(i:Int)
def IR(K:Frag)(C:YC):Sp:=λvs H Q _=>∃p wi hi hs,vs=[.ref p]/\bQ K C H p wi hi hs/\∀q H',H q=none->H' q=some (.lst ((freeQ wi hi hs).map V.int))->ah H H'->Q (.ref q) H'
section
def tk1{α:Type}{M:Model}{t:Sem α}{Q:α->Rb->Prop}(h1:1<=s.toks)(h:Ra M A t Q E s):Ra M A t (λa s'=>1<=s'.toks/\Q a s') E s:=RT (wpAny_toks_of h1 h) (λ_ _ x=>x) (λ_ _ x=>x.2)
end
def rT{K:Frag}{H:Hp}{n:Nat}{a b:YC}{p q:Pla}(ha:H a=some (.tup [.str p.1,.int p.2]))(hb:H b=some (.tup [.str q.1,.int q.2])):jv K H (n+1) (.ref a) (.ref b) (decide (p=q)):=by
 obtain⟨t,i⟩:=p;obtain⟨t',i'⟩:=q
 by_cases e:a=b
 .subst e;rw[ha]at hb;injection hb with hb;injection hb with hb;simp at hb;rw[hb.1,hb.2,QT rfl];exact .same
 .have h:=jv.tup (n:=n) (es:=λj=>match j with|0=>eqV (.str t) (.str t')|_=>eqV (.int i) (.int i')) (cY.of (K:=K) ha) (cY.of hb) e (λj x y hx hy=>by
   match j,hx,hy with
   |0,hx,hy=>
    simp at hx hy;subst hx;subst hy;exact jv.flat rfl rfl
   |1,hx,hy=>
    simp at hx hy;subst hx;subst hy;exact jv.flat rfl rfl
   |j+2,hx,hy=>simp at hx)
  have e2:((List.range (min [V.str t,V.int i].length [V.str t',V.int i'].length)).all (λj=>match j with|0=>eqV (.str t) (.str t')|_=>eqV (.int i) (.int i'))&&[V.str t,V.int i].length == [V.str t',V.int i'].length)=decide ((t,i)=(t',i')):=by show((List.range 2).all _&&true)=_;rw[XI];show((t == t')&&((i == i')&&true))=_;rw[XI,Xy,Xx,beq_iff_eq,beq_iff_eq,decide_eq_true_iff,Prod.mk.injEq]
  rw[<-e2];exact h
theorem A3:∀{ps:List (Pla×YC)}{its:List YB},a9 (aM ps) its->its=ps.map λz=>Rj z.2
 | [],_,.nil=>rfl
 |p::ps,_,.cons r t=>by cases r;rw[A3 t];rfl
noncomputable def wq(zs:List (Pla×YC))(x:Pla)(v:YB):Bool:=zs.any λp=>(match v with| .ref a=>a == p.2|_=>false)&&decide (p.1=x)
def kH{H:Hp}{zs:List (Pla×YC)}{x:Pla}(hp:bE H zs){p:Pla×YC}(hpp:p∈zs):wq zs x (.ref p.2)=decide (p.1=x):=by
 show(zs.any λp'=>(p.2 == p'.2)&&decide (p'.1=x))=decide (p.1=x)
 by_cases h:p.1=x
 .rw[QT h,VF];exact⟨p,hpp,by rw[beq_self_eq_true,QT h];rfl⟩
 .rw[QU h,VN];intro p' hp' w;rw[Xx]at w;have e1:p.2=p'.2:=by simpa using w.1
  have e2:=QX w.2;have a1:=hp p hpp;rw[e1,hp p' hp']at a1;injection a1 with a1;injection a1 with a1;simp at a1;exact h (by rw[<-e2];exact(Prod.ext a1.1 a1.2).symm)
section
variable{X:Cx}{a b o e:RU}{ta tb to te:TE}{pos:Uk}
def Qr(K:Frag)(op:UC)(x y:V)(H:Hp)(Q:VK):Prop:=match op,x,y with
 | .NotIn,.ref c,.ref d=>∃(k:Pla)(ps:List (Pla×YC)),H c=some (.tup [.str k.1,.int k.2])/\aN K H d (aM ps)/\bE H ps/\Q (.bl (!decide (k∈ps.map (·.1)))) H
 |_,_,_=>False
def Kn(op:UC)(hu:X.A.units+20<RM):iS X (RD op) (Qr X.K op):=by
 intro QQ s σ H x y v u Q I rx ry h;unfold Qr at h;split at h
 .rename_i c d;obtain⟨k,ps,hc,hd,hp,q⟩:=h;cases rx;cases ry;obtain⟨its,r',pl,hz⟩:=I.list hd;have e:=A3 r';subst e;refine SeqAt.notIn_listAt (wq ps k) pl.isList (λy hy=>?_) (fin_bl I q ?_)
  .have hy:y∈ps.map λz=>Rj z.2:=by simpa using hy
   obtain⟨p,hpp,rfl⟩:=U7.mp hy;have z:=lG I (rT (K:=X.K) (n:=0) (hp p hpp) hc) X.A.in1 (by show X.A.units+1+(0+1)<RM;lia) (u:=.ref p.2) (v:=.ref c) rfl rfl;rw[kH hp hpp];exact z
  .congr 1;have:((ps.map λz=>Rj z.2).toArray.any (wq ps k))=decide (k∈ps.map (·.1)):=by
    rw[List.any_toArray,V7]
    by_cases h:k∈ps.map (·.1)
    .rw[QT h,VF];obtain⟨p,hpp,e⟩:=U7.mp h;exact⟨p,hpp,by show wq ps k (.ref p.2)=true;rw[kH hp hpp,QT e]⟩
    .rw[QU h,VN];intro p hpp w;have w:wq ps k (.ref p.2)=true:=w;rw[kH hp hpp]at w;exact h (U7.mpr ⟨p,hpp,QX w⟩)
   rw[this]
 .exact h.elim
def OQ(K:Frag)(op:UC)(ta tb:TE):TE:=λσ H Q=>ta σ H λx H1=>tb σ H1 λy H2=>Qr K op x y H2 Q
def BK(K:Frag)(hu:X.A.units+20<RM)(ha:PE X a ta)(hb:PE X b tb)(hm:behindInMarks op b=false:=by first|exact jY _|with_unfolding_all rfl)(hK:X.K=K:=by rfl):PT X (.Compare a [op] [b] pos) (gh (OQ K op ta tb)):=by subst hK;exact Df (Kn op hu) ha hb hm
def DR(hu:X.A.units+20<RM):O6 X "list.index" (λx vs H Q=>∃(l t:YC)(zs:List (Pla×YC))(k:Pla),x=.ref l/\vs=[.ref t]/\H l=some (.lst (aM zs))/\bE H zs/\H t=some (.tup [.str k.1,.int k.2])/\k∈zs.map (·.1)/\Q (.int ((zs.map (·.1)).idxOf k:Nat)) H):=by
 intro QQ s σ H x vs v us Q I rx rv h;obtain⟨l,t,zs,k,rfl,rfl,hH,hp,ht,hc,q⟩:=h;cases rx;obtain⟨u,rfl,ru⟩:=rv.one;cases ru;obtain⟨z,its,n,r,hl,e⟩:=I.lstM hH;have e0:=A3 r;subst e0;have hj:(zs.map (·.1)).idxOf k<zs.length:=by
  have:=List.idxOf_lt_length_iff.mpr hc
  rwa[U6]at this
 have at_:∀m(hm:m<zs.length),wq zs k (.ref zs[m].2)=decide (zs[m].1=k):=λm hm=>kH hp (Vl hm);refine SI F.slot_list_index ⟨_,e,rfl⟩ F.entry_list_index (F.args_list_index_2 _ _) (SeqAt.list_indexAt l _ n none #[] _ (wq zs k) ((zs.map (·.1)).idxOf k) (by rw[Vc,U6];exact hj) ?_ ?_ ?_) ⟨e,λw hw=>?_,?_⟩
 .have hz:(aM zs).length<=16777216:=by rw[<-Rf];exact z
  rw[U6]at hz;lia
 .rw[WP,Wa,at_ _ hj];have:=List.getElem_idxOf (xs:=zs.map (·.1)) (x:=k) (by rw[U6];exact hj);rw[Wa]at this;exact QT this
 .intro m hm hlt;have hm':m<zs.length:=by simpa using hm
  rw[WP,Wa,at_ m hm'];refine QU λw=>?_;have h1:=List.not_of_lt_findIdx (p:=λy=>y == k) (xs:=zs.map λ(y:Pla×YC)=>y.1) (i:=m) hlt;rw[Wa,w]at h1;simp at h1
 .have hw:w∈zs.map λz=>Rj z.2:=by simpa using hw
  obtain⟨p,hpp,rfl⟩:=U7.mp hw;rw[kH hp hpp];exact lG I (rT (K:=X.K) (n:=0) (hp p hpp) ht) _ (by show X.A.units+1+(0+1)<RM;lia) (u:=.ref p.2) (v:=.ref t) rfl rfl
 .exact⟨.int ((zs.map (·.1)).idxOf k:Nat),H,I.tok _,⟨_,rfl⟩,q⟩
def Jz(to te:TE):TE:=λσ H Q=>to σ H λx H1=>match x with
 | .ref l=>(∃xs,H1 l=some (.lst xs))/\te σ H1 λy H2=>∃(t:YC)(zs:List (Pla×YC))(k:Pla),y=.ref t/\H2 l=some (.lst (aM zs))/\bE H2 zs/\H2 t=some (.tup [.str k.1,.int k.2])/\k∈zs.map (·.1)/\Q (.int ((zs.map (·.1)).idxOf k:Nat)) H2
 |_=>False
def Ew{apos cpos:Uk}(hu:X.A.units+20<RM)(ho:PE X o to)(he:PE X e te)(hbase:RK o "index" X.env (RH o X.env)=RH o X.env:=by rfl)(hfew:((RE cpos (Rc [e] X.env)).all (λx=> !x.1)&&(SS cpos (Se [] X.env)).all (λx=>x.1.isSome)
   &&decide ([e].length+([]:List Sl).length+(if([]:List Sl).isEmpty then 0 else 1)<30))=true:=by rfl) (hline:(apos.endLine == cpos.line)=true:=by rfl) (hs:Rc [e] X.env=(false,RH e X.env)::Rc [] X.env:=by rfl) (hplain:(RE cpos (Rc [] X.env)).any (·.1)=false:=by rfl):PE X (.Call (.Attribute o "index" apos) [e] [] cpos) (Jz to te):=by
 intro QQ s σ H Q I h;refine RY hbase hfew hline rfl (bH (ho QQ s σ H _ I h) λv s1 ⟨x,H1,I1,r1,q1⟩=>?_);cases x with
 |ref l=>
  obtain⟨⟨xs0,e0⟩,q1⟩:=q1;have ty:Db X.K "list" (.ref l) H1:=.inl ⟨rfl,xs0,aN.of e0⟩;obtain⟨h1,h2⟩:=iV I1 r1 ty;refine⟨"list","list.index",PySem.F.plainAttrs_list,PySem.F.slot_list_index,PySem.F.type_list_index,h1,h2,?_⟩;have hA:=(pa_cons he pan hs:PA X [e] (bf te cw)) cpos QQ s1 σ H1 (λvs H2=>∃(l' t:YC)(zs:List (Pla×YC))(k:Pla),V.ref l=.ref l'/\vs=[.ref t]/\H2 l'=some (.lst (aM zs))/\bE H2 zs/\H2 t=some (.tup [.str k.1,.int k.2])/\k∈zs.map (·.1)/\Q (.int ((zs.map (·.1)).idxOf k:Nat)) H2) I1 (by
   have:(λ(y:V)(H2:Hp)=>∃(t:YC)(zs:List (Pla×YC))(k:Pla),y=.ref t/\H2 l=some (.lst (aM zs))/\bE H2 zs/\H2 t=some (.tup [.str k.1,.int k.2])/\k∈zs.map (·.1)/\Q (.int ((zs.map (·.1)).idxOf k:Nat)) H2)=λy H2=>∃(l' t:YC)(zs:List (Pla×YC))(k:Pla),V.ref l=.ref l'/\[y]=[.ref t]/\H2 l'=some (.lst (aM zs))/\bE H2 zs/\H2 t=some (.tup [.str k.1,.int k.2])/\k∈zs.map (·.1)/\Q (.int ((zs.map (·.1)).idxOf k:Nat)) H2:=by
    funext y H2;apply propext
    constructor
    .rintro⟨t,zs,k,rfl,z⟩;exact⟨l,t,zs,k,rfl,rfl,z⟩
    .rintro⟨l',t,zs,k,e1,e2,z⟩;injection e1 with e1;injection e2 with e2;subst e1;exact⟨t,zs,k,e2,z⟩
   rw[this]at q1;exact q1)
  rw[hs]at hA ⊢;refine RA (by show(false||(RE cpos (Rc [] X.env)).any (·.1))=false;rw[hplain]<;>rfl) (RW ?_)
  exact bH hA λus s2 ⟨vs,H2,I2,r2,q2⟩=>DR hu QQ s2 σ H2 _ vs v us Q I2 r1 r2 q2
 |_=>exact q1.elim
end
section
variable{K:Frag}{σ:St}{H:Hp}{ta tb te to:TE}
def Eh{d t:YC}{zs:List (Pla×YC)}{k:Pla}(ho:Ev to σ H (.ref d))(he:Ev te σ H (.ref t))(hd:H d=some (.lst (aM zs)))(hp:bE H zs)(ht:H t=some (.tup [.str k.1,.int k.2]))(hk:k∈zs.map (·.1)):Ev (Jz to te) σ H (.int ((zs.map (·.1)).idxOf k:Nat)):=λQ q=>ho _ ⟨⟨_,hd⟩,he _ ⟨t,zs,k,rfl,hd,hp,ht,hk,q⟩⟩
def qj{d t:YC}{zs:List (Pla×YC)}{k:Pla}(ha:Ev ta σ H (.ref t))(hb:Ev tb σ H (.ref d))(hd:H d=some (.lst (aM zs)))(hp:bE H zs)(ht:H t=some (.tup [.str k.1,.int k.2])):Tv (gh (OQ K .NotIn ta tb)) σ H (!decide (k∈zs.map (·.1))):=λQ q=>ha _ (hb _ ⟨k,zs,ht,aN.of hd,hp,q⟩)
end
section
variable{K:Frag}{H:Hp}{n:Nat}
def Ch(h:flatV x=true):jv K H n x x true:=by
 have:=jv.flat (K:=K) (H:=H) (n:=n) h h;have e:eqV x x=true:=by cases x<;>simp[eqV,flatV]at h ⊢
 rwa[e]at this
def uz(ha:H a=some (.lst xs))(hb:H b=some (.lst ys))(hl:xs.length=ys.length)(he:∀(i:Nat) x y,xs[i]? =some x->ys[i]? =some y->jv K H n x y true):jv K H (n+1) (.ref a) (.ref b) true:=by
 by_cases h:a=b
 .subst h;exact .same
 .have:=jv.lst (es:=λ_=>true) (aN.of ha) (aN.of hb) h hl he;rw[show((List.range xs.length).all λ_=>true)=true from Vt.mpr λ_ _=>rfl]at this;exact this
def Ce(ha:H a=some (.lst xs))(hb:H b=some (.lst ys))(hl:xs.length=ys.length)(he:∀(i:Nat) x y,xs[i]? =some x->ys[i]? =some y->jv K H n x y true):o7 K H (n+1) (.ref a) (.ref b) true:=by have:=o7.lst (es:=λ_=>true) (aN.of ha) (aN.of hb) hl he;rw[show((List.range xs.length).all λ_=>true)=true from Vt.mpr λ_ _=>rfl]at this;exact this
def wG(h:vc H v l)(h':vc H u l):jv K H (n+1) v u true:=by obtain⟨a,rfl,ha⟩:=h;obtain⟨b,rfl,hb⟩:=h';refine uz ha hb rfl λi x y hx hy=>?_;rw[hx]at hy;injection hy with hy;subst hy;rw[Va]at hx;obtain⟨k,_,rfl⟩:=XW.mp hx;exact Ch rfl
def wF(h:j3 H v o)(h':j3 H u o):jv K H (n+1) v u true:=by
 cases o with
 |none=>
  have h:v=.non:=h;have h':u=.non:=h';subst h;subst h';exact Ch rfl
 |some z=>
  obtain⟨a,rfl,ha⟩:=h;obtain⟨b,rfl,hb⟩:=h';have:=rT (K:=K) (n:=n) (p:=(z,0)) (q:=(z,0)) ha hb
  rwa[QT rfl]at this
section
variable{R:Hp->V->α->Prop}{q d:YC}{ys ws:List V}{l:List α}
def aO.both(h1:aO R H ys l)(h2:aO R H ws l)(he:∀v u x,R H v x->R H u x->jv K H n v u true)(i:Nat)(x y:V)(hx:ys[i]? =some x)(hy:ws[i]? =some y):jv K H n x y true:=by
 have hi:=(Vi.mp hx).1;have hl:i<l.length:=by rw[<-h1.1];exact hi
 exact he x y l[i] (h1.2 i x _ hx (U9 hl)) (h2.2 i y _ hy (U9 hl))
def yh(hq:H q=some (.lst ys))(hd:H d=some (.lst ws))(h1:aO R H ys l)(h2:aO R H ws l)(he:∀v u x,R H v x->R H u x->jv K H n v u true):o7 K H (n+1) (.ref q) (.ref d) true:=Ce hq hd (by rw[h1.1,h2.1]) (aO.both h1 h2 he)
def mG(hq:H q=some (.lst ys))(hd:H d=some (.lst ws))(h1:aO R H ys l)(h2:aO R H ws l)(he:∀v u x,R H v x->R H u x->jv K H n v u true):jv K H (n+1) (.ref q) (.ref d) true:=uz hq hd (by rw[h1.1,h2.1]) (aO.both h1 h2 he)
end
end
def B3:(folF wi hi hs us ts es x).length<=4096:=by
 unfold folF;split
 .rename_i h
  rcases Classical.choose_spec h with⟨_,e⟩|⟨_,m,_,l,e⟩
  .rw[e];exact WT _
  .rw[e,U6];exact l
 .exact WT _
def K6{wi hi:Int}{hs:List Int}{row:Str}{us:List (bb×YC)}{es:List ((Str×Str)×YC)}{st:Str}{sd:Int}(h:mq wi hi hs row us es st sd x):x=.non\/∃z,x=.str z:=by
 by_cases e:bS (oz row wi hi sd es)=.non
 .obtain⟨m,_,rfl⟩:=h.2 e;split
  .exact .inr ⟨_,rfl⟩
  .exact .inl rfl
 .rw[h.1 e];exact lE
section
def OT(to:TE):TE:=λσ H Q=>to σ H λx H1=>match x with
 | .ref l=>(∃xs,H1 l=some (.lst xs))/\A8 (.ref l) [] H1 Q
 |_=>False
def uM{apos cpos:Uk}(ho:PE X o to)(hbase:RK o "clear" X.env (RH o X.env)=RH o X.env:=by rfl)(hline:(apos.endLine == cpos.line)=true:=by rfl):PE X (.Call (.Attribute o "clear" apos) [] [] cpos) (OT to):=by
 intro QQ s σ H Q I h;refine T2 hbase hline (bH (ho QQ s σ H _ I h) λv s1 ⟨x,H1,I1,r1,q1⟩=>?_);cases x with
 |ref l=>
  obtain⟨⟨xs0,e0⟩,q1⟩:=q1;have ty:Db X.K "list" (.ref l) H1:=.inl ⟨rfl,xs0,aN.of e0⟩;obtain⟨h1,h2⟩:=iV I1 r1 ty;exact⟨"list","list.clear",PySem.F.plainAttrs_list,PySem.F.slot_list_clear,PySem.F.type_list_clear,h1,h2,RA rfl (PySem.evalArgs_none (BA QQ s1 σ H1 _ [] v [] Q I1 r1 .nil q1))⟩
 |_=>exact q1.elim
end
def Po(K:Frag)(C:YC):Prop:=XZ K (.ref C) "__eq__"=some (some (.builtin "object.__eq__"))
section
variable{prog:Rg}{w:Rk}{A:Sd}{E:Q4}{K:Frag}{x C:YC}{ox:Obj}{od:Option Obj}{h:Rq}{g:Array T4}{d:Drawn}{t:Nat}{os:SW}
def Ek(X:K.In h)(I:PySem.W.InstAt h x ox C od)(hs:Po K C)(hp:Yd K C=true)(hu:A.units<RM)(hq:Q (.bool true) ⟨h,g,d,t,os⟩):Ra (Rh prog w) A (RD .Eq (.ref x) (.ref x)) Q E ⟨h,g,d,t,os⟩:=by
 obtain⟨cd,hc,ho⟩:=Yq hp;have ne:cd.mro.isEmpty=false:=by cases q:cd.mro with|nil=>rw[q]at ho;cases ho|cons _ _=>rfl
 have L0:=I.type (M:=Rh prog w);have L1:PySem.W.Looks (Rh prog w) h (Tt (.ref C) "__eq__") _:=Yr X hs;have sub:PySem.W.Looks (Rh prog w) h (isInstance (.ref x) (.type "object")) true:=L0.andThen (PySem.W.looks_mroIn X (by unfold PySem.W.mroIn;rw[hc,Option.bind_some,QV (by rw[ne];decide),PySem.W.only_has ho]));have S:=F.cmp_object.eq;have one:Ra (Rh prog w) A (tryCompare (.ref x) "__eq__" (.ref x)) (λr s'=>r=some (.bool true)/\Q (.bool true) s') E ⟨h,g,d,t,os⟩:=by
  simp only[tryCompare,callSpecialIfBound?,bindSpecialIfBound?];refine Q6 (Rs (Q6 (Q6 (Q6 (L0.at (L1.at ?_))))));simp only[S.bind];refine Q6 (S8 (wpAny_ite ?_));have fin:Ra (Rh prog w) A (call (.builtin "object.__eq__") ([.ref x]++[.ref x]) >>= λv=>pure (some v)) (λv s'=>Ra (Rh prog w) A (match v with|some .notImplemented|none=>pure none|some v=>pure (some v)) (λr s'=>r=some (.bool true)/\Q (.bool true) s') E s') E ⟨h,g,d,t,os⟩:=
   Q6 (T8 (Td S.plain F.cmpEntry_eq (PySem.W.check_slot F.cmpKind_eq F.cmpSplit_eq sub (F.cmpArgs_eq _ _) (objEq_entry_same (Q7 (Q7 ⟨rfl,hq⟩))))))
  split
  .exact Q6 (Q7 (Q7 fin))
  .exact wpAny_tryCatch (Q6 (Q7 (Q7 fin)))
 show Ra _ _ (richCompare .Eq _ _) _ _ _;simp only[richCompare,cmpInfo_Eq,oneThing_ref];refine Rs (Q6 (wpAny_cRoomFor hu ?_));refine Q6 (L0.at (Q6 (L0.at ?_)));rw[QV (by simp)];refine Q6 (Q7 ?_);simp only[Xz,if_false];refine Q6 (RT one (λr s' hr=>?_) λ_ _ e=>e);obtain⟨rfl,z⟩:=hr;exact Q7 z
end
section
variable{X:Cx}{a b:RU}{ta tb:TE}{pos:Uk}
def OC(K:Frag)(x y:V)(H:Hp)(Q:VK):Prop:= ∃c C dx fs,x=.ref c/\y=.ref c/\H c=some (.ins C dx fs)/\oA K C/\Po K C/\Q (.bl true) H
def Kp(hu:X.A.units+20<RM):iS X (RD .Eq) (OC X.K):=by intro QQ s σ H x y v u Q I rx ry h;obtain⟨c,C,dx,fs,rfl,rfl,e,cl,ec,q⟩:=h;cases rx;cases ry;obtain⟨mA,O,_,_,_,_⟩:=kI I.hok e;obtain⟨od,Z,_⟩:=O.look;obtain⟨hh,g,d,t,os⟩:=s;exact Ek I.kIn Z ec cl.po (by lia) (fin_bl I q rfl)
def OS(K:Frag)(ta tb:TE):TE:=λσ H Q=>ta σ H λx H1=>tb σ H1 λy H2=>OC K x y H2 Q
def Qn(K:Frag)(hu:X.A.units+20<RM)(ha:PE X a ta)(hb:PE X b tb)(hm:behindInMarks .Eq b=false:=by first|exact jY _|with_unfolding_all rfl)(hK:X.K=K:=by rfl):PE X (.Compare a [.Eq] [b] pos) (OS K ta tb):=by subst hK;exact xE (Kp hu) ha hb hm
end
end L2
seal L2.PE L2.PT L2.PA L2.PS L2.w9 L2.PG L2.LF L2.PI L2.PO L2.uY L2.PW L2.bq L2.sQ L2.iS L2.QB L2.yy L2.Aq
namespace K19
open PySem L2
noncomputable def bn(i:Nat):Rt:=PySem.Challenge.pw_playboard_k19_whole_webs.main.body.getD i (.Pass ⟨0,0,0,0⟩)
abbrev gB:Rt:=bn 7
def tO:aC ["thing"] ["thing"] (am gB):=di
abbrev fI:Rt:=bn 8
def qI:aC ["thing"] ["thing"] (am fI):=di
abbrev gE:Rt:=bn 9
def tQ:aC ["thing","least","most"] ["thing","least","most"] (am gE):=di
abbrev ig:Rt:=bn 18
def vF:aC ["thing","words"] ["thing","words"] (am ig):=di
abbrev dj:Rt:=bn 19
def mZ:aC ["thing","many"] ["thing","many"] (am dj):=di
abbrev dR:Rt:=bn 20
def oE:aC ["thing","least","most"] ["thing","least","most"] (am dR):=di
abbrev ii:Rt:=bn 21
def m7:aC ["sort","across","up","longest"] ["sort","across","up"] (am ii):=di
abbrev ij:Rt:=bn 22
def jU:aC ["thing","kinds","sort","aim"] ["thing","kinds"] (am ij):=di
abbrev ik:Rt:=bn 23
def vG:aC ["thing","firsts","seconds"] ["thing","firsts","seconds"] (am ik):=di
abbrev dE:Rt:=bn 24
def qN:aC ["thing","firsts","seconds"] ["thing","firsts","seconds"] (am dE):=di
abbrev dv:Rt:=bn 25
def lS:aC ["thing","kinds","firsts"] ["thing","kinds"] (am dv):=di
abbrev im:Rt:=bn 26
def vH:aC ["thing","kinds"] ["thing","kinds"] (am im):=di
abbrev dF:Rt:=bn 27
def qO:aC ["thing"] ["thing"] (am dF):=di
abbrev dD:Rt:=bn 28
def qM:aC ["thing","kinds"] ["thing","kinds"] (am dD):=di
abbrev ib:Rt:=bn 32
def vC:aC ["kind","side"] ["kind","side"] (am ib):=di
abbrev ie:Rt:=bn 33
def vE:aC ["sign"] ["sign"] (am ie):=di
abbrev ic:Rt:=bn 34
def vD:aC ["sign"] ["sign"] (am ic):=di
abbrev dC:Rt:=bn 35
def qK:aC ["board"] ["board"] (am dC):=di
noncomputable abbrev tT:Rt:=bn 36
def J5:aC ["row","square","sign"] ["row","square","sign"] (am tT):=di
abbrev c7:Rt:=bn 37
def oC:aC ["row","side"] ["row","side"] (am c7):=di
abbrev gC:Rt:=bn 38
def lf:aC ["game","thing","bare","signs"] ["game","thing"] (am gC):=di
abbrev gD:Rt:=bn 39
def tP:aC ["game","thing"] ["game","thing"] (am gD):=di
abbrev tS:Rt:=bn 41
def qH:aC ["board","square","across","up","come_to","here"] ["board","square","across","up"] (am tS):=di
abbrev nc:Rt:=bn 44
def mw:aC ["row","side","aim","path","found","goal","owner"] ["row","side","aim","path"] (am nc):=di
abbrev jb:Rt:=bn 45
def yU:aC ["row","side","path"] ["row","side","path"] (am jb):=di
abbrev io:Rt:=bn 46
def jV:aC ["board","row","square","rule","side","path"] ["board","row","square","rule"] (am io):=di
abbrev kh:Rt:=bn 47
def m9:aC ["game","row","square","found","rule"] ["game","row","square"] (am kh):=di
abbrev fJ:Rt:=bn 49
def qL:aC ["wide","square"] ["wide","square"] (am fJ):=di
abbrev ja:Rt:=bn 50
def yT:aC ["wide","square"] ["wide","square"] (am ja):=di
abbrev fH:Rt:=bn 51
def qG:aC ["wide","column","row"] ["wide","column","row"] (am fH):=di
abbrev jA:Rt:=bn 53
def kb:aC ["game","place","row","found","start"] ["game","place"] (am jA):=di
abbrev iq:Rt:=bn 54
def vI:aC ["game","sign","side","goal"] ["game","sign","side","goal"] (am iq):=di
abbrev je:Rt:=bn 55
def dA:aC ["game","place","move","side","start","goal","taken","sign","row"] ["game","place","move"] (am je):=di
abbrev gF:Rt:=bn 57
def tR:aC ["row","kind","side"] ["row","kind","side"] (am gF):=di
abbrev il:Rt:=bn 58
def m8:aC ["board","row","kind","side","start"] ["board","row","kind","side"] (am il):=di
abbrev jd:Rt:=bn 59
def dz:aC ["board","place","end","row","side","kind","lost","won"] ["board","place","end"] (am jd):=di
abbrev ip:Rt:=bn 60
def jW:aC ["game","place","end","word"] ["game","place"] (am ip):=di
abbrev jc:Rt:=bn 61
def pB:aC ["game","place","word"] ["game","place"] (am jc):=di
abbrev dB:Rt:=bn 62
def qJ:aC ["game","place"] ["game","place"] (am dB):=di
noncomputable abbrev bX:Rt:=c8 (bn 64) 0
def fX:aC ["self","game","starts","most","place","found"] ["self","game","starts","most"] (am bX):=di
noncomputable abbrev ef:Rt:=c8 (bn 64) 1
def jL:aC ["self","found","most","place"] ["self","found","most"] (am ef):=di
noncomputable abbrev dZ:Rt:=c8 (bn 64) 2
def oG:aC ["self","place"] ["self","place"] (am dZ):=di
noncomputable abbrev dJ:Rt:=c8 (bn 64) 3
def qR:aC ["self"] ["self"] (am dJ):=di
noncomputable abbrev fO:Rt:=c8 (bn 64) 4
def qS:aC ["self"] ["self"] (am fO):=di
abbrev dG:Rt:=bn 67
def qP:aC ["thing","many"] ["thing","many"] (am dG):=di
noncomputable abbrev bU:Rt:=c8 (bn 68) 0
def ke:aC ["self","wide","high","holes"] ["self","wide","high","holes"] (am bU):=di
noncomputable abbrev fP:Rt:=c8 (bn 68) 1
def qT:aC ["self","square"] ["self","square"] (am fP):=di
noncomputable abbrev ce:Rt:=c8 (bn 68) 2
def li:aC ["self"] ["self"] (am ce):=di
noncomputable abbrev dt:Rt:=c8 (bn 68) 3
def dQ:aC ["self","square","across","up","column","row","goal"] ["self","square","across","up"] (am dt):=di
noncomputable abbrev cM:Rt:=c8 (bn 68) 4
def lj:aC ["self","side"] ["self","side"] (am cM):=di
noncomputable abbrev cL:Rt:=c8 (bn 70) 0
def lh:aC ["self","board","kinds","rules","turns","ends","stuck"] ["self","board","kinds","rules","turns","ends","stuck"] (am cL):=di
noncomputable abbrev cb:Rt:=c8 (bn 70) 1
def lg:aC ["self","kind"] ["self","kind"] (am cb):=di
noncomputable abbrev dm:Rt:=c8 (bn 70) 2
def na:aC ["self","kind"] ["self","kind"] (am dm):=di
abbrev cT:Rt:=bn 72
def l9:aC ["_law_script","_law_k"] ["_law_script","_law_k"] (am cT):=di
abbrev dU:Rt:=bn 73
def oF:aC ["_law_script","_law_k"] ["_law_script","_law_k"] (am dU):=di
noncomputable abbrev dW:Rt:=bn 74
def fE:aC ["_law_cell","_law_letters","_law_first","_law_found"] ["_law_cell"] (am dW):=di
abbrev fM:Rt:=bn 75
def bJ:aC ["_law_cell","_law_kinds_here","_law_kind","_law_sort","_law_aim","_law_across","_law_up"] ["_law_cell","_law_kinds_here"] (am fM):=di
abbrev dY:Rt:=bn 76
def bT:aC ["_law_cell","_law_wide","_law_high","_law_holes"] ["_law_cell"] (am dY):=di
abbrev fN:Rt:=bn 77
def bo:aC ["_law_script","_law_cell","_law_kinds_here","_law_many","_law_rules","_law_k","_law_rule_here","_law_more","_law_turns","_law_some","_law_ends","_law_stuck"] ["_law_script"] (am fN):=di
abbrev dS:Rt:=bn 78
def bm:aC ["_law_game_here","_law_cell","_law_signs","_law_hole","_law_squares","_law_many","_law_side","_law_k","_law_at","_law_kind"] ["_law_game_here","_law_cell"] (am dS):=di
abbrev dk:Rt:=bn 79
def gz:aC ["_law_script","_law_game_here","_law_cell","_law_starts_here"] ["_law_script","_law_game_here"] (am dk):=di
abbrev dX:Rt:=bn 80
def cO:aC ["_law_game_here","_law_starts_here","_law_places","_law_place_here","_law_led","_law_numbers"] ["_law_game_here","_law_starts_here"] (am dX):=di
abbrev fK:Rt:=bn 81
def kc:aC ["_law_game_here","_law_place_here","_law_word_here"] ["_law_game_here","_law_place_here"] (am fK):=di
abbrev fL:Rt:=bn 82
def qQ:aC ["_law_found","_law_due"] ["_law_found","_law_due"] (am fL):=di
abbrev dI:Rt:=bn 83
def cZ:aC ["_law_web","_law_places","_law_led","_law_words","_law_way","_law_known","_law_nexts","_law_numbers"] ["_law_web","_law_places","_law_led","_law_words","_law_way"] (am dI):=di
abbrev cK:Rt:=bn 84
def fm:aC ["_law_web","_law_places","_law_at","_law_found"] ["_law_web","_law_places"] (am cK):=di
abbrev jM:Rt:=bn 85
def dP:aC ["_law_script","_law_game_here","_law_starts_here","_law_handed","_law_web","_law_places","_law_led","_law_words","_law_is_turned","_law_first","_law_second","_law_turn","_law_strange","_law_due"] ["_law_script"] (am jM):=di
structure Txt(mg:Q3)(aS aA aE aW:YC):Prop where
 isinstance:mg "isinstance"=none
 int:mg "int"=none
 bool:mg "bool"=none
 str:mg "str"=none
 list:mg "list"=none
 tuple:mg "tuple"=none
 len:mg "len"=none
 range:mg "range"=none
 all:mg "all"=none
 any:mg "any"=none
 set:mg "set"=none
 dict:mg "dict"=none
 sorted:mg "sorted"=none
 min:mg "min"=none
 enumerate:mg "enumerate"=none
 zip:mg "zip"=none
 NOTHING:∃u,mg "NOTHING"=some u/\aU (.int (-1)) u
 EMPTY:∃u,mg "EMPTY"=some u/\aU (.str ".") u
 HOLE:∃u,mg "HOLE"=some u/\aU (.str "#") u
 MOST_PAIRS:∃u,mg "MOST_PAIRS"=some u/\aU (.int 6) u
 MOST_KINDS:∃u,mg "MOST_KINDS"=some u/\aU (.int 6) u
 MOST_RULES:∃u,mg "MOST_RULES"=some u/\aU (.int 24) u
 LONGEST:∃u,mg "LONGEST"=some u/\aU (.int 8) u
 SORTS:∃u,mg "SORTS"=some u/\aU (.ref aS) u
 AIMS:∃u,mg "AIMS"=some u/\aU (.ref aA) u
 END_WORDS:∃u,mg "END_WORDS"=some u/\aU (.ref aE) u
 STUCK_WORDS:∃u,mg "STUCK_WORDS"=some u/\aU (.ref aW) u
section
def t6(F:ci K "is_whole" "is_whole" gB f fd)(T:Txt mg aS aA aE aW):aX P w K mg QR cI 1 f fd ["thing"] mP:=by refine F.ok2 tO ?_;rintro _ _ _ _ H _ Q _ hr _ ⟨v,rfl,t,q⟩;refine⟨_,(aj (aB (cH (wm .int T.isinstance T.int su (cv 0)) (dh (wP (wm .bool T.isinstance T.bool sJ (cv 0))))))),?_⟩;show cJ _ _ [some v] H;refine aJ (cy (n9 (ev_v rfl) t) (λ_=>wx (n9 (ev_v rfl) t))) ?_;rw[Ar t];exact q
def ub(F:ci K "is_among" "is_among" gE f fd)(T:Txt mg aS aA aE aW)(C:RG0 P w K mg QR):aX P w K mg QR cI 2 f fd ["thing","least","most"] i8:=by
 refine F.ok2 tQ ?_;rintro _ _ _ _ H _ Q _ hr hu ⟨v,a,b,rfl,t,q⟩;refine⟨_,(aj (aB (cH (aF C.is_whole hr (az (cv 0) pan)) (dh (wo K hu (cv 1) (cv 0) (cv 2)))))),?_⟩;show cJ _ _ [some v,oJ a,oJ b] H;have hc:=aH (sp:=mP) (σ:=[some v,oJ a,oJ b]) (H:=H) (aa (ev_v (n:=0) rfl) av) (λQ q=>⟨v,rfl,t,q⟩);cases v with
 |int i=>exact aJ (cy hc (λ_=>yd (ev_v rfl) (ev_v rfl) (λ_=>ev_v rfl))) q
 |_=>exact aJ (cy (b:=false) hc (λh=>by cases h)) q
def vX(F:ci K "is_word" "is_word" ig f fd)(T:Txt mg aS aA aE aW):aX P w K mg QR cI 1 f fd ["thing","words"] (jz K):=by
 refine F.ok2 vF ?_;rintro _ _ _ _ H _ Q _ hr hu ⟨v,d,ws,rfl,t,hw,q⟩;refine⟨_,(aj (aB (cH (wm .str T.isinstance T.str wY (cv 0)) (dh (g6 K hu (cv 0) (cv 1)))))),?_⟩;show cJ _ _ [some v,oR d] H;have hs:=n9 (T:=.str) (te:=eZ 0) (σ:=[some v,oR d]) (ev_v rfl) t;rw[vj t]at hs;cases v with
 |str z=>exact aJ (cy hs (λ_=>wB (ev_v rfl) (ev_v rfl) hw)) q
 |_=>exact aJ (cy (b:=false) hs (λh=>by cases h)) q
def ny(F:ci K "is_tuple_of" "is_tuple_of" dj f fd)(T:Txt mg aS aA aE aW):aX P w K mg QR cI 1 f fd ["thing","many"] i7:=by
 refine F.ok2 mZ ?_;rintro _ _ _ _ H _ Q _ hr hu ⟨v,n,rfl,t,q⟩;refine⟨_,(aj (aB (cH (wm .tuple T.isinstance T.tuple Cz (cv 0)) (dh (g6 K hu (kB (fv K) bB T.len (az (cv 0) pan)) (cv 1)))))),?_⟩;show cJ _ _ [some v,oJ n] H;have hs:=n9 (T:=.tuple) (te:=eZ 0) (σ:=[some v,oJ n]) (ev_v rfl) t;rw[JL t]at hs;unfold tupB at q;cases e:tupOf H v with
 |none=>
  rw[e]at hs q;exact aJ (cy (b:=false) hs (λh=>by cases h)) q
 |some xs=>
  rw[e]at hs q;obtain⟨a,rfl,ha⟩:=gv e;exact aJ (cy hs (λ_=>dL (cq (ev_v rfl) (.inr (cY.of ha))) (ev_v rfl))) q
def oK(F:ci K "is_list_of" "is_list_of" dR f fd)(T:Txt mg aS aA aE aW):aX P w K mg QR cI 1 f fd ["thing","least","most"] qA:=by
 refine F.ok2 oE ?_;rintro _ _ _ _ H _ Q _ hr hu ⟨v,a,b,rfl,t,q⟩;refine⟨_,(aj (aB (cH (wm .list T.isinstance T.list da (cv 0)) (dh (wo K hu (cv 1) (kB (fv K) bB T.len (az (cv 0) pan)) (cv 2)))))),?_⟩;show cJ _ _ [some v,oJ a,oJ b] H;have hs:=n9 (T:=.list) (te:=eZ 0) (σ:=[some v,oJ a,oJ b]) (ev_v rfl) t;rw[KC t]at hs;unfold lA at q;cases e:lstOf H v with
 |none=>
  rw[e]at hs q;exact aJ (cy (b:=false) hs (λh=>by cases h)) q
 |some xs=>
  rw[e]at hs q;obtain⟨d,rfl,hd⟩:=gJ e;exact aJ (cy hs (λ_=>yd (ev_v rfl) (cq (ev_v rfl) (.inl (aN.of hd))) (λ_=>ev_v rfl))) q
def vY(F:ci K "is_step" "is_step" ii f fd)(T:Txt mg aS aA aE aW)(C:RG1 P w K mg QR):aX P w K mg QR cI 3 f fd ["sort","across","up"] xm:=by
 refine F.ok2 m7 ?_;rintro _ _ _ _ H _ Q _ hr hu ⟨so,x,y,rfl,tx,ty,q⟩;refine⟨_,(ae (au 3 m7.nd (bP (aT K hu (cv 0) bR) ag ag))
  (ae (aR (PW.pt (gH (bA (a7 (aF C.is_among hr (az (cv 1) (az (lH (cv 3)) (az (cv 3) pan)))))) (fo (bA (a7 (aF C.is_among hr (az (cv 2) (az (lH (cv 3)) (az (cv 3) pan))))))))) (aj (aB eO)) aG)
  (aj (aB (OH (g6 K hu (cv 1) ag) (dh (g6 K hu (cv 2) ag))))))),?_⟩
 show bg _ _ _ [oT so,some x,some y,none] H;refine aZ (v:=.int (limS so)) (λQ q=>?_) ?_
 .refine ow (lX (aV (hG (ev_v rfl) aq)) (λ_=>aq) (λ_=>aq)) ?_;unfold limS at q
  by_cases h:so="leap"
  .rw[QW h]at q;rw[QT h];exact q
  .rw[QV h]at q;rw[QU h];exact q
 unfold lR at q;generalize limS so=l at q ⊢;refine bz (hV (bZ (aV (aH (aa (ev_v rfl) (aa (lF (ev_v rfl)) (aa (ev_v rfl) av))) (λQ q=>⟨x, -l,l,rfl,tx,q⟩)))) (λ_=>bZ (aV (aH (aa (ev_v rfl) (aa (lF (ev_v rfl)) (aa (ev_v rfl) av))) (λQ q=>⟨y, -l,l,rfl,ty,q⟩))))) (λh=>?_) (λh=>?_)
 .refine aJ aq ?_;have e:(amongB x (-l) l&&amongB y (-l) l&& !(decide (x=.int 0)&&decide (y=.int 0)))=false:=by cases h1:amongB x (-l) l<;>cases h2:amongB y (-l) l<;>simp_all
  rw[e]at q;exact q
 .have h1:amongB x (-l) l=true:=by cases h1:amongB x (-l) l<;>simp_all
  have h2:amongB y (-l) l=true:=by cases h2:amongB y (-l) l<;>simp_all
  cases x with
  |int i=>
   cases y with
   |int j=>
    refine aJ (Oy (nX (ev_v rfl) aq) (λ_=>nX (ev_v rfl) aq)) ?_;rw[h1,h2]at q;have ei:∀k:Int,decide (V.int k=V.int 0)=decide (k=0):=λk=>by
     by_cases e:k=0
     .rw[QT e,QT (Q2 V.int e)]
     .rw[QU e,QU (λz=>e (by injection z))]
    rw[ei,ei]at q;have e:(true&&true&& !(decide (i=0)&&decide (j=0)))=(!decide (i=0)|| !decide (j=0)):=by cases decide (i=0)<;>cases decide (j=0)<;>rfl
    rw[e]at q;exact q
   |_=>cases h2
  |_=>cases h1
def v3(F:ci K "is_pair" "is_pair" ik f fd)(T:Txt mg aS aA aE aW)(C:RG2 P w K mg QR):aX P w K mg QR cI 2 f fd ["thing","firsts","seconds"] (xo K):=by
 refine F.ok2 vG ?_;rintro _ A _ _ H _ Q _ hr hu ⟨v,d,e,A,B,rfl,t,hA,hB,q⟩;refine⟨_,(aj (aB (cH (aF C.is_tuple_of hr (az (cv 0) (az ag pan))) (cH (aF C.is_word hr (az (cX K (cv 0) ag) (az (cv 1) pan))) (dh (aF C.is_word hr (az (cX K (cv 0) ag) (az (cv 2) pan)))))))),?_⟩;show cJ _ _ [some v,oR d,oR e] H;have hc:=aH (sp:=i7) (σ:=[some v,oR d,oR e]) (H:=H) (x:=.bl (tupB H v 2)) (aa (ev_v (n:=0) rfl) (aa (aq (x:=.int 2)) av)) (λQ q=>⟨v,2,rfl,t.thg,q⟩);unfold eP at q;unfold tupB at hc;cases e1:tupOf H v with
 |none=>
  rw[e1]at hc q;exact aJ (cy (b:=false) hc (λh=>by cases h)) q
 |some xs=>
  rw[e1]at hc q;obtain⟨a,rfl,ha⟩:=gv e1;have tx:=t.2 xs (.inl e1)
  by_cases hl:(xs.length:Int)=2
  .match xs,hl,e1,ha,tx,q,hc with
   | [x,y],_,e1,ha,tx,q,hc=>
     exact aJ (cy hc (λ_=>cy (aH (aa (aY (ev_v rfl) aq (.inr (cY.of ha)) (bx (j:=0) rfl)) (aa (ev_v rfl) av)) (λQ q=>⟨x,d,A,rfl,tx x (by simp),hA,q⟩))
      (λ_=>aH (aa (aY (ev_v rfl) aq (.inr (cY.of ha)) (bx (j:=1) rfl)) (aa (ev_v rfl) av)) (λQ q=>⟨y,e,B,rfl,tx y (by simp),hB,q⟩)))) q
  .have e2:tY xs A B=false:=by
    unfold tY;split
    .exact QZ rfl hl
    .rfl
   have hc2:Ev (gS i7 (bf (eZ 0) (bf (tC (.int 2)) cw))) [some (.ref a),some (.ref d),some (.ref e)] H (.bl (decide ((xs.length:Int)=2))):=hc;rw[QU hl]at hc2;have q2:Q (.bl (tY xs A B)) H:=q;rw[e2]at q2;exact aJ (cy (b:=false) hc2 (λh=>by cases h)) q2
def vZ(F:ci K "is_rule" "is_rule" ij f fd)(T:Txt mg aS aA aE aW)(hS:∀H,iO K H aS sortsL)(hA:∀H,iO K H aA aimsL)(C:RG3 P w K mg QR):aX P w K mg QR cI 4 f fd ["thing","kinds"] (xn K):=by
 refine F.ok2 jU ?_;rintro _ _ _ _ H _ Q _ hr hu ⟨v,d,ws,rfl,t,hw,q⟩;refine⟨_,(ae (aR (PW.pt (gH (bA (a7 (aF C.is_tuple_of hr (az (cv 0) (az ag pan))))) (fo (bA (a7 (aF C.is_word hr (az (cX K (cv 0) ag) (az (cv 1) pan)))))))) (aj (aB eO)) aG)
  (ae (au 2 jU.nd (cX K (cv 0) ag))
  (ae (au 3 jU.nd (cX K (cv 0) ag))
  (ae (aR (PW.pt (gH (bA (a7 (aF C.is_word hr (az (cv 2) (az (kg T.SORTS) pan))))) (fo (bA (a7 (aF C.is_word hr (az (cv 3) (az (kg T.AIMS) pan)))))))) (aj (aB eO)) aG)
  (ae (aR (PW.pt (gI (aT K hu (cv 2) bR) (eK (aT K hu (cv 3) bR)))) (aj (aB eO)) aG)
  (aj (aB (aF C.is_step hr (az (cv 2) (az (cX K (cv 0) ag) (az (cX K (cv 0) ag) pan))))))))))),?_⟩
 show bg _ _ _ [some v,oR d,none,none] H;have rb:tupB H v 5=false->eI H v ws=false:=λh=>by
  unfold tupB at h;unfold eI;cases e1:tupOf H v with
  |none=>rfl
  |some xs=>
   rw[e1]at h;have h:¬(xs.length:Int)=5:=QY h;show jN xs ws=false;unfold jN;split
   .exact QZ rfl h
   .rfl
 cases hb0:tupB H v 5 with
 |false=>
  rw[rb hb0]at q;refine bz (hV (b:=false) (bZ (aV (aH (sp:=i7) (x:=.bl (tupB H v 5)) (aa (ev_v rfl) (aa aq av)) (λQ q=>⟨v,5,rfl,t.thg,q⟩)))) (λh=>?_)) (λ_=>aJ aq q) (λh=>?_)
  .rw[hb0]at h;cases h
  .rw[hb0]at h;cases h
 |true=>
  obtain⟨xs,e1,hl⟩:∃xs,tupOf H v=some xs/\(xs.length:Int)=5:=by
   unfold tupB at hb0;cases e1:tupOf H v with
   |none=>rw[e1]at hb0;cases hb0
   |some xs=>rw[e1]at hb0;exact⟨xs,rfl,QX hb0⟩
  unfold eI at q;rw[e1]at q;have q:Q (.bl (jN xs ws)) H:=q;obtain⟨a,rfl,ha⟩:=gv e1;have tx:=t.2 xs (.inl e1)
  match xs,hl,e1,ha,tx,q with
  | [k,so,ai,x,y],_,e1,ha,tx,q=>
    have hq:cY K H a [k,so,ai,x,y]:=cY.of ha;have hb:tupB H (.ref a) 5=true:=by unfold tupB;rw[e1];rfl
    refine bz (hV (bZ (aV (aH (sp:=i7) (x:=.bl (tupB H (.ref a) 5)) (aa (ev_v rfl) (aa aq av)) (λQ q=>⟨.ref a,5,rfl,t.thg,q⟩)))) (λ_=>bZ (aV (aH (sp:=jz K) (aa (aY (ev_v rfl) aq (.inr hq) (bx (j:=0) rfl)) (aa (ev_v rfl) av)) (λQ q=>⟨k,d,ws,rfl,tx k (by simp),hw,q⟩))))) (λh=>?_) (λh=>?_)
    .rw[hb]at h;have hk:wordB k ws=false:=by
      cases hk:wordB k ws
      .rfl
      .rw[hk]at h;cases h
     refine aJ aq ?_;have e2:jN [k,so,ai,x,y] ws=false:=by
      unfold jN;split
      .rename_i z;cases z;rw[hk];simp
      .rfl
     rw[e2]at q;exact q
    .rw[hb]at h;have hk:wordB k ws=true:=by
      cases hk:wordB k ws
      .rw[hk]at h;cases h
      .rfl
     refine aZ (v:=so) (aY (ev_v rfl) aq (.inr hq) (bx (j:=1) rfl)) ?_;refine aZ (v:=ai) (aY (ev_v rfl) aq (.inr hq) (bx (j:=2) rfl)) ?_;refine bz (hV (bZ (aV (aH (sp:=jz K) (aa (ev_v rfl) (aa aq av)) (λQ q=>⟨so,aS,sortsL,rfl,tx so (by simp),hS H,q⟩)))) (λ_=>bZ (aV (aH (sp:=jz K) (aa (ev_v rfl) (aa aq av)) (λQ q=>⟨ai,aA,aimsL,rfl,tx ai (by simp),hA H,q⟩))))) (λh=>?_) (λh=>?_)
     .refine aJ aq ?_;have e2:jN [k,so,ai,x,y] ws=false:=by
       unfold jN;split
       .rename_i k' so' ai' x' y' z;cases z;have h:(!decide (so'∈sortsL)|| !decide (ai'∈aimsL))=true:=h
        cases h1:decide (so'∈sortsL)<;>cases h2:decide (ai'∈aimsL)<;>simp_all
       .rfl
      rw[e2]at q;exact q
     .have h1:wordB so sortsL=true:=by cases h1:wordB so sortsL<;>simp_all
      have h2:wordB ai aimsL=true:=by cases h2:wordB ai aimsL<;>simp_all
      cases so with
      |str so=>
       cases ai with
       |str ai=>
        have h1:decide (so∈sortsL)=true:=h1;have h2:decide (ai∈aimsL)=true:=h2;have eR:jN [k,.str so,.str ai,x,y] ws=(!(decide (so="jump")&& !decide (ai="hit"))&&lR so x y):=by show(wordB k ws&&decide (so∈sortsL)&&decide (ai∈aimsL)&& !(decide (so="jump")&& !decide (ai="hit"))&&lR so x y)=_;rw[hk,h1,h2];simp
        rw[eR]at q;refine bz (iW (aV (hG (ev_v rfl) aq)) (λ_=>aV (wz (ev_v rfl) aq))) (λh=>?_) (λh=>?_)
        .refine aJ aq ?_;rw[h]at q;exact q
        .rw[h]at q;exact cR (aa (ev_v rfl) (aa (aY (ev_v rfl) aq (.inr hq) (bx (j:=3) rfl)) (aa (aY (ev_v rfl) aq (.inr hq) (bx (j:=4) rfl)) av))) ⟨so,x,y,rfl,tx x (by simp),tx y (by simp),q⟩
       |_=>cases h2
      |_=>cases h1
def rk(F:ci K "are_pairs" "are_pairs" dE f fd)(T:Txt mg aS aA aE aW)(C:RG4 P w K mg QR):aX P w K mg QR cI 3 f fd ["thing","firsts","seconds"] (tF K):=by
 refine F.ok2 qN ?_;rintro _ A _ _ H _ Q _ hr hu ⟨v,d,e,A,B,rfl,t,hA,hB,q⟩;refine⟨_,(aj (aB (cH (aF C.is_list_of hr (az (cv 0) (az ag (az (kg T.MOST_PAIRS) pan)))) (dh (kB (zL K) lJ T.all (az (eQ (cz (N:=["part","firsts","seconds"]) (src:=[none,some 1,some 2]) (am dE) ["thing","firsts","seconds"]) (mB K (cv 0)) (λ_ _ _=>(bj (i:=0) ["part","firsts","seconds"])) (λ_ _ _=>bO) (λ_ _ _=>(aF C.is_pair hr (az (cv 0) (az (cv 1) (az (cv 2) pan)))))) pan)))))),?_⟩;show cJ _ _ [some v,oR d,oR e] H;refine w6 (a:=lA H v 0 6) (aH (aa (ev_v rfl) (aa aq (aa aq av))) (λQ q=>⟨v,0,6,rfl,t.thg,q⟩)) (λh=>?_) (λh=>?_)
 .unfold lA at h;cases e1:lstOf H v with
  |none=>rw[e1]at h;cases h
  |some xs=>
   rw[e1]at h;have h:0<=(xs.length:Int)/\(xs.length:Int)<=6:=QX h;obtain⟨a,rfl,ha⟩:=gJ e1;have tx:=t.2 xs (.inr e1);refine fF (d:=a) (xs:=xs) (rest:=[oR d,oR e]) (ev_v rfl) (aN.of ha) (by rw[Rf];lia) rfl (λ_=>true) (λx=>.bl (eP H x A B)) (λx hx=>fB) (λx hx _=>?_) (λp hp=>?_)
   .exact aH (aa (ev_v rfl) (aa (ev_v rfl) (aa (ev_v rfl) av))) (λQ q=>⟨x,d,e,A,B,rfl,tx x hx,hA,hB,q⟩)
   .refine⟨xs.map (λx=>eP H x A B),?_,?_⟩
    .have e2:(xs.filter λ_=>true).map (λx=>V.bl (eP H x A B))=(xs.map (λx=>eP H x A B)).map V.bl:=by rw[Vy.mpr (λ_ _=>rfl),Vj];rfl
     rw[<-e2];exact aN.of af
    .have k:=q _ ((ah.refl H).upd (o:=.lst ((xs.filter λ_=>true).map (λx=>V.bl (eP H x A B)))) hp);unfold pairsB at k;rw[e1]at k;have e3:(decide (xs.length<=6)&&xs.all (λx=>eP H x A B))=(xs.map (λx=>eP H x A B)).all id:=by rw[QT (by lia:xs.length<=6),Wv];rfl
     have k:Q (.bl (decide (xs.length<=6)&&xs.all (λx=>eP H x A B))) _:=k;rw[e3]at k;exact k
 .have k:=q H (ah.refl H);have e2:pairsB H v A B=false:=by
   unfold pairsB;unfold lA at h;cases e1:lstOf H v with
   |none=>rfl
   |some xs=>
    rw[e1]at h;have h:¬(0<=(xs.length:Int)/\(xs.length:Int)<=6):=QY h;show(decide (xs.length<=6)&&_)=false;rw[QU (by lia:¬xs.length<=6)];rfl
  rw[e2]at k;exact k
def v5(F:ci K "is_ends" "is_ends" im f fd)(T:Txt mg aS aA aE aW)(hE:∀H,iO K H aE gW)(C:RG5 P w K mg QR):aX P w K mg QR cI 4 f fd ["thing","kinds"] (xv K):=by refine F.ok2 vH ?_;rintro _ _ _ _ H _ Q _ hr _ ⟨v,d,ws,rfl,t,hw,q⟩;refine⟨_,(aj (aB (aF C.are_pairs hr (az (cv 0) (az (kg T.END_WORDS) (az (cv 1) pan)))))),?_⟩;show cJ _ _ [some v,oR d] H;exact cR (aa (ev_v rfl) (aa aq (aa (ev_v rfl) av))) ⟨v,aE,d,gW,ws,rfl,t,hE H,hw,q⟩
def t7(F:ci K "is_turns" "is_turns" dv f fd)(T:Txt mg aS aA aE aW)(C:RG5 P w K mg QR):aX P w K mg QR cI 4 f fd ["thing","kinds"] (tw K):=by
 refine F.ok2 lS ?_;rintro _ _ _ s H _ Q _ hr hu ⟨v,d,ws,rfl,t,hw,q⟩;refine⟨_,(ae (aR (bA (a7 (aF C.are_pairs hr (az (cv 0) (az (cv 1) (az (cv 1) pan)))))) (aj (aB eO)) aG)
  (ae (au 2 lS.nd (eQ (cz (N:=["pair"]) (src:=[none]) (am dv) ["thing","kinds","firsts"]) (mB K (cv 0)) (λ_ _ _=>(bj (i:=0) ["pair"])) (λ_ _ _=>bO) (λ_ _ _=>(cX K (cv 0) ag))))
  (ae (aR (a7 (kB (Qo K) Ll T.any (az (eQ (cz (N:=["pair","firsts"]) (src:=[none,some 2]) (am dv) ["thing","kinds","firsts"]) (mB K (cv 0)) (λ_ _ _=>(bj (i:=0) ["pair","firsts"])) (λ_ _ _=>bO) (λ_ _ _=>(g6 K hu (cX K (cv 0) ag) (cv 1)))) pan))) (aj (aB eO)) aG)
  (aj (aB (g6 K hu (kB on bB T.len (az (xS (Jg K hr) sk T.set (az (cv 2) pan)) pan)) (kB (fv K) bB T.len (az (cv 2) pan)))))))),?_⟩
 show bg _ _ _ [some v,oR d,none] H;refine cP (λb H'=>b=(!pairsB H v ws ws)/\ah H H') (λQ q=>lI (aa (ev_v rfl) (aa (ev_v rfl) (aa (ev_v rfl) av))) ⟨v,d,d,ws,ws,rfl,t,hw,hw,λH' s=>q _ _ ⟨rfl,s⟩⟩) (λH1 h=>?_) (λH1 h=>?_)
 .obtain⟨hb,s1⟩:=h;have k:=q H1 s1;have e0:pairsB H v ws ws=false:=by
   cases z:pairsB H v ws ws
   .rfl
   .rw[z]at hb;cases hb
  unfold gr at k;rw[e0]at k;exact aJ aq k
 .obtain⟨hb,s1⟩:=h;have e0:pairsB H v ws ws=true:=by
   cases z:pairsB H v ws ws
   .rw[z]at hb;cases hb
   .rfl
  unfold gr at q;rw[e0]at q;obtain⟨xs,e1,l6,hp⟩:=zg e0;rw[e1]at q;have q:∀H',ah H H'->Q (.bl (!(xs.any λx=>decide (ia H x∈xs.map (cF H)))&&decide ((xs.map (cF H)).Nodup))) H':=q;obtain⟨a,rfl,ha⟩:=gJ e1;have ha1:=s1 _ _ ha;refine bu (λu H'=>∃fq,u=.ref fq/\H' fq=some (.lst ((xs.map (cF H)).map V.str))/\ah H1 H') (λQ q=>?_) ?_
  .refine fF (d:=a) (xs:=xs) (rest:=[]) (ev_v rfl) (aN.of ha1) (by rw[Rf];lia) rfl (λ_=>true) (λx=>.str (cF H x)) (λx hx=>fB) (λx hx _=>?_) (λp hp'=>?_)
   .obtain⟨c,f1,f2,rfl,hc⟩:=hp x hx;have e:cF H (.ref c)=f1:=by simp only[cF,tupOf,hc]
    rw[e];exact aY (ev_v rfl) aq (.inr (cY.of (s1 _ _ hc))) (bx (j:=0) rfl)
   .have e:(xs.filter λ_=>true).map (λx=>V.str (cF H x))=(xs.map (cF H)).map V.str:=by rw[Vy.mpr (λ_ _=>rfl),Vj];rfl
    rw[e];exact q _ _ ⟨p,rfl,af,(ah.refl H1).upd hp'⟩
  rintro _ H2 ⟨fq,rfl,hf,s2⟩;have ha2:=s2 _ _ ha1;refine cP (λb H'=>b=(xs.any λx=>decide (ia H x∈xs.map (cF H)))/\ah H2 H') (λQ q=>?_) (λH3 h=>?_) (λH3 h=>?_)
  .refine fF (d:=a) (xs:=xs) (rest:=[oR fq]) (ev_v rfl) (aN.of ha2) (by rw[Rf];lia) rfl (λ_=>true) (λx=>.bl (decide (ia H x∈xs.map (cF H)))) (λx hx=>fB) (λx hx _=>?_) (λp hp'=>?_)
   .obtain⟨c,f1,f2,rfl,hc⟩:=hp x hx;have e:ia H (.ref c)=f2:=by simp only[ia,tupOf,hc]
    rw[e];exact wB (aY (ev_v rfl) aq (.inr (cY.of (s2 _ _ (s1 _ _ hc)))) (bx (j:=1) rfl)) (ev_v rfl) (.inl (aN.of hf))
   .refine⟨xs.map (λx=>decide (ia H x∈xs.map (cF H))),?_,?_⟩
    .have e2:(xs.filter λ_=>true).map (λx=>V.bl (decide (ia H x∈xs.map (cF H))))=(xs.map (λx=>decide (ia H x∈xs.map (cF H)))).map V.bl:=by rw[Vy.mpr (λ_ _=>rfl),Vj];rfl
     rw[<-e2];exact aN.of af
    .have e3:(xs.map (λx=>decide (ia H x∈xs.map (cF H)))).any id=xs.any λx=>decide (ia H x∈xs.map (cF H)):=by rw[V7];rfl
     rw[e3];exact q _ _ ⟨rfl,(ah.refl H2).upd hp'⟩
  .have k:=q H3 ((s1.trans s2).trans h.2);rw[<-h.1]at k;exact aJ aq k
  .have s03:=(s1.trans s2).trans h.2;show cJ _ _ [oR a,oR d,oR fq] H3;have hf3:=h.2 _ _ hf;refine Cs (um (ss:=xs.map (cF H)) (ev_v rfl) (aN.of hf3) (by rw[U6];lia) (λH4 s4=>?_));refine ow (cq (ev_v rfl) (.inl (aN.of (s4 _ _ hf3)))) ?_;have k:=q H4 (s03.trans s4);rw[<-h.1]at k;have e4:decide ((((lQ (xs.map (cF H))).length:Nat):Int)=((((xs.map (cF H)).map V.str).length:Nat):Int))=decide ((xs.map (cF H)).Nodup):=by
    rw[U6 (f:=V.str)]
    by_cases hn:(xs.map (cF H)).Nodup
    .rw[QT hn,QT (by rw[(jw _).mpr hn])]
    .rw[QU hn,QU (λz=>hn ((jw _).mp (by lia)))]
   show Q (.bl (decide ((((lQ (xs.map (cF H))).length:Nat):Int)=((((xs.map (cF H)).map V.str).length:Nat):Int)))) H4;rw[e4];exact k
def rc(F:ci K "is_letter" "is_letter" fI f fd)(T:Txt mg aS aA aE aW):aX P w K mg QR cI 1 f fd ["thing"] pz:=by
 refine F.ok2 qI ?_;rintro _ _ _ _ H _ Q _ hr hu ⟨v,rfl,t,q⟩;refine⟨_,(aj (aB (cH (wm .str T.isinstance T.str wY (cv 0)) (cH (g6 K hu (kB (fv K) bB T.len (az (cv 0) pan)) ag) (dh (wo K hu bR (cv 0) bR)))))),?_⟩;show cJ _ _ [some v] H;have hs:=n9 (T:=.str) (te:=eZ 0) (σ:=[some v]) (ev_v rfl) t;rw[vj t]at hs;cases v with
 |str z=>
  refine aJ (cy hs (λ_=>cy (dL (rR (ev_v rfl) (WU (show z.length<=1000 from t) (by decide))) aq) (λ_=>Ej aq (ev_v rfl) aq))) ?_;rw[NN,NL];have e:(true&&(decide ((z.length:Int)=1)&&(!decide (z.cps.toList<[97])&& !decide ([122]<z.cps.toList))))=letB (.str z):=by
   rw[dO]
   match e:z.cps.toList with
   | [c]=>
     simp only[letB,e,KB];rw[Xy];simp
   | []=>simp only[letB,e];rfl
   |_::_::r=>
    simp only[letB,e];rw[QU (by simp only[Vp];lia)];rfl
  have q2:=q;rw[<-e]at q2;exact q2
 |_=>exact aJ (cy (b:=false) hs (λh=>by cases h)) q
def rp(F:ci K "are_kinds" "are_kinds" dF f fd)(T:Txt mg aS aA aE aW)(C:QG P w K mg QR):aX P w K mg QR cI 2 f fd ["thing"] tG:=by
 refine F.ok2 qO ?_;rintro _ _ _ _ H _ Q _ hr hu ⟨v,rfl,t,q⟩;refine⟨_,(ae (aR (PW.pt (gH (bA (a7 (aF C.is_list_of hr (az (cv 0) (az ag (az (kg T.MOST_KINDS) pan)))))) (fo (bA (a7 (kB (zL K) lJ T.all (az (eQ (cz (N:=["part"]) (src:=[none]) (am dF) ["thing"]) (mB K (cv 0)) (λ_ _ _=>(bj (i:=0) ["part"])) (λ_ _ _=>bO) (λ_ _ _=>(aF C.is_letter hr (az (cv 0) pan)))) pan))))))) (aj (aB eO)) aG)
  (aj (aB (g6 K hu (kB on bB T.len (az (xS (Jg K hr) sk T.set (az (cv 0) pan)) pan)) (kB (fv K) bB T.len (az (cv 0) pan)))))),?_⟩
 show bg _ _ _ [some v] H;have eL:Ev (gS qA (bf (eZ 0) (bf (tC (.int 1)) (bf (tC (.int 6)) cw)))) [some v] H (.bl (lA H v 1 6)):=aH (aa (ev_v rfl) (aa aq (aa aq av))) (λQ q=>⟨v,1,6,rfl,t.thg,q⟩);unfold nJ at q;cases e1:lstOf H v with
 |none=>
  have hb:lA H v 1 6=false:=by unfold lA;rw[e1]
  rw[hb]at eL;rw[e1]at q;refine bz (b:=true) (λQ q=>bZ (aV eL) _ (gN q)) (λ_=>aJ aq (q H (ah.refl H))) (λh=>by cases h)
 |some xs=>
  rw[e1]at q;have q:∀H',ah H H'->Q (.bl (decide (1<=xs.length/\xs.length<=6)&&xs.all letB&&decide ((xs.map iZ).Nodup))) H':=q;obtain⟨a,rfl,ha⟩:=gJ e1;have tx:=t.2 xs (.inr e1);have hb:lA H (.ref a) 1 6=decide (1<=xs.length/\xs.length<=6):=by unfold lA;rw[e1];show decide ((1:Int)<=xs.length/\(xs.length:Int)<=6)=_;rw[decide_eq_decide];lia
  rw[hb]at eL
  by_cases hl:1<=xs.length/\xs.length<=6
  .rw[QT hl]at eL q;refine cP (λb H'=>b=(!xs.all letB)/\ah H H') (λQ q=>?_) (λH1 h=>?_) (λH1 h=>?_)
   .refine NI (bZ (aV eL)) ?_;refine fF (d:=a) (xs:=xs) (rest:=[]) (ev_v rfl) (aN.of ha) (by rw[Rf];lia) rfl (λ_=>true) (λx=>.bl (letB x)) (λx hx=>fB) (λx hx _=>?_) (λp hp=>?_)
    .exact aH (aa (ev_v rfl) av) (λQ q=>⟨x,rfl,tx x hx,q⟩)
    .refine⟨xs.map letB,?_,?_⟩
     .have e2:(xs.filter λ_=>true).map (λx=>V.bl (letB x))=(xs.map letB).map V.bl:=by rw[Vy.mpr (λ_ _=>rfl),Vj];rfl
      rw[<-e2];exact aN.of af
     .have e3:(xs.map letB).all id=xs.all letB:=by rw[Wv];rfl
      rw[e3];exact q _ _ ⟨rfl,(ah.refl H).upd hp⟩
   .have k:=q H1 h.2;have e0:xs.all letB=false:=by
     cases z:xs.all letB
     .rfl
     .rw[z]at h;cases h.1
    rw[e0]at k;exact aJ aq k
   .obtain⟨hq,s1⟩:=h;have e0:xs.all letB=true:=by
     cases z:xs.all letB
     .rw[z]at hq;cases hq
     .rfl
    have e5:xs=(xs.map iZ).map V.str:=by
     rw[Vj];have:∀x∈xs,x=(V.str∘iZ) x:=λx hx=>by obtain⟨c,rfl,_⟩:=BG (Vt.mp e0 x hx);rfl
     exact(List.map_id xs).symm.trans (VD this)
    have ha1:=s1 _ _ ha;rw[e5]at ha1;show cJ _ _ [oR a] H1;refine Cs (um (ss:=xs.map iZ) (ev_v rfl) (aN.of ha1) (by rw[U6];lia) (λH4 s4=>?_));refine ow (cq (ev_v rfl) (.inl (aN.of (s4 _ _ ha1)))) ?_;have k:=q H4 (s1.trans s4);rw[e0]at k;have e4:decide ((((lQ (xs.map iZ)).length:Nat):Int)=((((xs.map iZ).map V.str).length:Nat):Int))=decide ((xs.map iZ).Nodup):=by
     rw[U6 (f:=V.str)]
     by_cases hn:(xs.map iZ).Nodup
     .rw[QT hn,QT (by rw[(jw _).mpr hn])]
     .rw[QU hn,QU (λz=>hn ((jw _).mp (by lia)))]
    show Q (.bl (decide ((((lQ (xs.map iZ)).length:Nat):Int)=((((xs.map iZ).map V.str).length:Nat):Int)))) H4;rw[e4];exact k
  .rw[QU hl]at eL q;exact bz (b:=true) (λQ q=>bZ (aV eL) _ (gN q)) (λ_=>aJ aq (q H (ah.refl H))) (λh=>by cases h)
def rj(F:ci K "are_rules" "are_rules" dD f fd)(T:Txt mg aS aA aE aW)(C:QG P w K mg QR):aX P w K mg QR cI 5 f fd ["thing","kinds"] (tE K):=by
 refine F.ok2 qM ?_;rintro _ _ _ _ H _ Q _ hr hu ⟨v,d,ws,rfl,t,hw,q⟩;refine⟨_,(aj (aB (cH (aF C.is_list_of hr (az (cv 0) (az ag (az (kg T.MOST_RULES) pan)))) (dh (kB (zL K) lJ T.all (az (eQ (cz (N:=["part","kinds"]) (src:=[none,some 1]) (am dD) ["thing","kinds"]) (mB K (cv 0)) (λ_ _ _=>(bj (i:=0) ["part","kinds"])) (λ_ _ _=>bO) (λ_ _ _=>(aF C.is_rule hr (az (cv 0) (az (cv 1) pan))))) pan)))))),?_⟩;show cJ _ _ [some v,oR d] H;refine w6 (a:=lA H v 0 24) (aH (aa (ev_v rfl) (aa aq (aa aq av))) (λQ q=>⟨v,0,24,rfl,t.thg,q⟩)) (λh=>?_) (λh=>?_)
 .unfold lA at h;cases e1:lstOf H v with
  |none=>rw[e1]at h;cases h
  |some xs=>
   rw[e1]at h;have h:0<=(xs.length:Int)/\(xs.length:Int)<=24:=QX h;obtain⟨a,rfl,ha⟩:=gJ e1;have tx:=t.2 xs (.inr e1);refine fF (d:=a) (xs:=xs) (rest:=[oR d]) (ev_v rfl) (aN.of ha) (by rw[Rf];lia) rfl (λ_=>true) (λx=>.bl (eI H x ws)) (λx hx=>fB) (λx hx _=>?_) (λp hp=>?_)
   .exact aH (aa (ev_v rfl) (aa (ev_v rfl) av)) (λQ q=>⟨x,d,ws,rfl,tx x hx,hw,q⟩)
   .refine⟨xs.map (λx=>eI H x ws),?_,?_⟩
    .have e2:(xs.filter λ_=>true).map (λx=>V.bl (eI H x ws))=(xs.map (λx=>eI H x ws)).map V.bl:=by rw[Vy.mpr (λ_ _=>rfl),Vj];rfl
     rw[<-e2];exact aN.of af
    .have k:=q _ ((ah.refl H).upd (o:=.lst ((xs.filter λ_=>true).map (λx=>V.bl (eI H x ws)))) hp);unfold fY at k;rw[e1]at k;have e3:(decide (xs.length<=24)&&xs.all (λx=>eI H x ws))=(xs.map (λx=>eI H x ws)).all id:=by rw[QT (by lia:xs.length<=24),Wv];rfl
     have k:Q (.bl (decide (xs.length<=24)&&xs.all (λx=>eI H x ws))) _:=k;rw[e3]at k;exact k
 .have k:=q H (ah.refl H);have e2:fY H v ws=false:=by
   unfold fY;unfold lA at h;cases e1:lstOf H v with
   |none=>rfl
   |some xs=>
    rw[e1]at h;have h:¬(0<=(xs.length:Int)/\(xs.length:Int)<=24):=QY h;show(decide (xs.length<=24)&&_)=false;rw[QU (by lia:¬xs.length<=24)];rfl
  rw[e2]at k;exact k
def rH(F:ci K "__init__" "Game.__init__" cL f fd)(T:Txt mg aS aA aE aW)(hW:∀H,iO K H aW jT)(B:uZ K cG)(C:GG2 P w K mg QR):aX P w K mg QR cI 6 f fd ["self","board","kinds","rules","turns","ends","stuck"] (xu K cG):=by
 refine F.ok2 lh ?_;rintro _ _ _ s H _ Q _ hr hu ⟨p,b,kd,rd,td,ed,dx,ws,rs,ts,es,st,rfl,hp,hk,hr',ht,he,tk,tr,tt,te,bk,br,bt,be,hst,lst',q⟩;have wk:∀H',ah H H'->iO K H' kd ws:=λH' s=>.inl (aN.of (s _ _ hk));refine⟨_,(ae (aR (bA (a7 (aF C.are_kinds hr (az (cv 2) pan)))) (aj eM) aG)
  (ae (aR (bA (a7 (aF C.are_rules hr (az (cv 3) (az (cv 2) pan))))) (aj eM) aG)
  (ae (aR (bA (a7 (aF C.is_turns hr (az (cv 4) (az (cv 2) pan))))) (aj eM) aG)
  (ae (aR (bA (a7 (aF C.is_ends hr (az (cv 5) (az (cv 2) pan))))) (aj eM) aG)
  (ae (aR (bA (a7 (aF C.is_word hr (az (cv 6) (az (kg T.STUCK_WORDS) pan))))) (aj eM) aG)
  (ae (gK K (cv 0) (cv 1))
  (ae (gK K (cv 0) (xS (nI K) da T.list (az (cv 2) pan)))
  (ae (gK K (cv 0) (xS (nI K) da T.list (az (cv 3) pan)))
  (ae (gK K (cv 0) (xS (nI K) da T.list (az (cv 4) pan)))
  (ae (gK K (cv 0) (xS (nI K) da T.list (az (cv 5) pan)))
  (aj (gK K (cv 0) (cv 6))))))))))))),?_⟩
 show bg _ _ _ [oR p,oR b,oR kd,oR rd,oR td,oR ed,oT st] H;refine cP (λb H'=>b=false/\ah H H') (λQ q=>lI (aa (ev_v rfl) av) ⟨.ref kd,rfl,tk,λH' s=>?_⟩) (λH' h=>by cases h.1) (λH1 h=>?_)
 .rw[bk];exact q _ _ ⟨rfl,s⟩
 obtain⟨_,s1⟩:=h;have eqR:fY H1 (.ref rd) ws=fY H (.ref rd) ws:=tU tr s1;refine cP (λb H'=>b=false/\ah H1 H') (λQ q=>lI (aa (ev_v rfl) (aa (ev_v rfl) av)) ⟨.ref rd,kd,ws,rfl,tr.same s1,wk _ s1,λH' s=>?_⟩) (λH' h=>by cases h.1) (λH2 h=>?_)
 .rw[eqR,br];exact q _ _ ⟨rfl,s⟩
 obtain⟨_,s2⟩:=h;have s02:=s1.trans s2;have eqT:gr H2 (.ref td) ws=gr H (.ref td) ws:=sW tt s02;refine cP (λb H'=>b=false/\ah H2 H') (λQ q=>lI (aa (ev_v rfl) (aa (ev_v rfl) av)) ⟨.ref td,kd,ws,rfl,tt.same s02,wk _ s02,λH' s=>?_⟩) (λH' h=>by cases h.1) (λH3 h=>?_)
 .rw[eqT,bt];exact q _ _ ⟨rfl,s⟩
 obtain⟨_,s3⟩:=h;have s03:=s02.trans s3;have eqE:pairsB H3 (.ref ed) gW ws=pairsB H (.ref ed) gW ws:=lT te s03;refine cP (λb H'=>b=false/\ah H3 H') (λQ q=>lI (aa (ev_v rfl) (aa (ev_v rfl) av)) ⟨.ref ed,kd,ws,rfl,te.same s03,wk _ s03,λH' s=>?_⟩) (λH' h=>by cases h.1) (λH4 h=>?_)
 .rw[eqE,be];exact q _ _ ⟨rfl,s⟩
 obtain⟨_,s4⟩:=h;have s04:=s03.trans s4;refine bz (bZ (aV (aH (aa (ev_v rfl) (aa aq av)) (λQ q=>⟨.str st,aW,jT,rfl,lst',hW H4,q⟩)))) (λh=>?_) (λ_=>?_)
 .have e:wordB (.str st) jT=true:=QT hst;rw[e]at h;cases h
 have gl:=λb k r t e=>KY (b:=b) (k:=k) (r:=r) (t:=t) (e:=e);have nk:p≠kd:=iw hp hk (by intro z;cases z);have nr:p≠rd:=iw hp hr' (by intro z;cases z);have nt:p≠td:=iw hp ht (by intro z;cases z);have ne':p≠ed:=iw hp he (by intro z;cases z);have h4:∀(G:Hp),SameBut p H G->G kd=some (.lst (ws.map V.str))/\G rd=some (.lst rs)/\G td=some (.lst ts)/\G ed=some (.lst es):=λG sb=>⟨sb _ _ hk nk.symm,sb _ _ hr' nr.symm,sb _ _ ht nt.symm,sb _ _ he ne'.symm⟩;refine qx (ev_v rfl) (ev_v rfl) (s04 _ _ hp) B.cl B.board (by decide) ?_;generalize hG5:upd H4 p (HO.ins cG dx (putF "board" (V.ref b) []))=G5;have p5:G5 p=some (.ins cG dx (gf1 b)):=hG5▸af;have b5:SameBut p H G5:=hG5▸s04.but.self;have nfree:∀(G:Hp)(q:YC),SameBut p H G->G p≠none->G q=none->H q=none:=λG q sb hpp hq=>by
  cases e:H q with
  |none=>rfl
  |some o=>
   by_cases z:q=p
   .rw[z]at hq;exact QZ hq hpp
   .have:=sb q o e z;rw[hq]at this;cases this
 refine mr (ev_v rfl) (h4 _ b5).1 (λH'=>ev_v rfl) p5 B.cl B.kinds (by have:=(gl b 0 0 0 0).1;lia) (λkq hkq=>?_);have nkq:p≠kq:=ay p5 hkq;generalize hG6:upd (upd G5 kq (HO.lst (ws.map V.str))) p (HO.ins cG dx (putF "kinds" (V.ref kq) (gf1 b)))=G6;have p6:G6 p=some (.ins cG dx (gf2 b kq)):=hG6▸af;have k6:G6 kq=some (.lst (ws.map V.str)):=by rw[<-hG6,ak nkq.symm,af]
 have b6:SameBut p H G6:=hG6▸(b5.new (nfree _ _ b5 (by rw[p5];simp) hkq)).self;refine mr (ev_v rfl) (h4 _ b6).2.1 (λH'=>ev_v rfl) p6 B.cl B.rules (by have:=(gl b kq 0 0 0).2.1;lia) (λrq hrq=>?_);have nrq:p≠rq:=ay p6 hrq;generalize hG7:upd (upd G6 rq (HO.lst rs)) p (HO.ins cG dx (putF "rules" (V.ref rq) (gf2 b kq)))=G7;have p7:G7 p=some (.ins cG dx (gf3 b kq rq)):=hG7▸af;have r7:G7 rq=some (.lst rs):=by rw[<-hG7,ak nrq.symm,af]
 have k7:G7 kq=some (.lst (ws.map V.str)):=by rw[<-hG7,ak nkq.symm,ak (ay k6 hrq)];exact k6
 have b7:SameBut p H G7:=hG7▸(b6.new (nfree _ _ b6 (by rw[p6];simp) hrq)).self;refine mr (ev_v rfl) (h4 _ b7).2.2.1 (λH'=>ev_v rfl) p7 B.cl B.turns (by have:=(gl b kq rq 0 0).2.2.1;lia) (λtq htq=>?_);have ntq:p≠tq:=ay p7 htq;generalize hG8:upd (upd G7 tq (HO.lst ts)) p (HO.ins cG dx (putF "turns" (V.ref tq) (gf3 b kq rq)))=G8;have p8:G8 p=some (.ins cG dx (gf4 b kq rq tq)):=hG8▸af;have t8:G8 tq=some (.lst ts):=by rw[<-hG8,ak ntq.symm,af]
 have r8:G8 rq=some (.lst rs):=by rw[<-hG8,ak nrq.symm,ak (ay r7 htq)];exact r7
 have k8:G8 kq=some (.lst (ws.map V.str)):=by rw[<-hG8,ak nkq.symm,ak (ay k7 htq)];exact k7
 have b8:SameBut p H G8:=hG8▸(b7.new (nfree _ _ b7 (by rw[p7];simp) htq)).self;refine mr (ev_v rfl) (h4 _ b8).2.2.2 (λH'=>ev_v rfl) p8 B.cl B.ends (by have:=(gl b kq rq tq 0).2.2.2.1;lia) (λeq heq=>?_);have neq:p≠eq:=ay p8 heq;generalize hG9:upd (upd G8 eq (HO.lst es)) p (HO.ins cG dx (putF "ends" (V.ref eq) (gf4 b kq rq tq)))=G9;have p9:G9 p=some (.ins cG dx (CV b kq rq tq eq)):=hG9▸af;have e9:G9 eq=some (.lst es):=by rw[<-hG9,ak neq.symm,af]
 have t9:G9 tq=some (.lst ts):=by rw[<-hG9,ak ntq.symm,ak (ay t8 heq)];exact t8
 have r9:G9 rq=some (.lst rs):=by rw[<-hG9,ak nrq.symm,ak (ay r8 heq)];exact r8
 have k9:G9 kq=some (.lst (ws.map V.str)):=by rw[<-hG9,ak nkq.symm,ak (ay k8 heq)];exact k8
 have b9:SameBut p H G9:=hG9▸(b8.new (nfree _ _ b8 (by rw[p8];simp) heq)).self;refine xj (λv H'=>v=.str st/\H'=G9) (λQ q=>ow (v:=.str st) (ev_v rfl) (q _ _ ⟨rfl,rfl⟩)) p cG dx (λH' Q q=>ev_v rfl Q q) B.cl B.stuck ?_;rintro _ _ ⟨rfl,rfl⟩;refine⟨_,p9,by have:=(gl b kq rq tq eq).2.2.2.2;lia,?_⟩;refine q _ ⟨dx,kq,rq,tq,eq,af,?_,?_,?_,?_⟩ b9.self
 .rw[ak nkq.symm];exact k9
 .rw[ak nrq.symm];exact r9
 .rw[ak ntq.symm];exact t9
 .rw[ak neq.symm];exact e9
end
section
def rz(F:ci K "are_holes" "are_holes" dG f fd)(T:Txt mg aS aA aE aW)(C:CA P w K mg QR):aX P w K mg QR cI 3 f fd ["thing","many"] tH:=by
 refine F.ok2 qP ?_;rintro _ _ _ _ H _ Q _ hr hu ⟨d,m,hs,rfl,hd,good,nd,hl,m64,k⟩;have hS:aN K H d (hs.map V.int):=aN.of hd;refine⟨_,(ae (aR (PW.pt (gH (bA (a7 (wm .list T.isinstance T.list da (cv 0)))) (fo (aT K hu (kB (fv K) bB T.len (az (cv 0) pan)) (cv 1))))) (aj (aB eO)) aG)
  (ae (aR (bA (a7 (kB (zL K) lJ T.all (az (eQ (cz (N:=["hole","many"]) (src:=[none,some 1]) (am dG) ["thing","many"]) (mB K (cv 0)) (λ_ _ _=>(bj (i:=0) ["hole","many"])) (λ_ _ _=>bO) (λ_ _ _=>(aF C.is_among hr (az (cv 0) (az ag (az (aw (cv 1) ag) pan)))))) pan)))) (aj (aB eO)) aG)
  (aj (aB (g6 K hu (kB wU bB T.len (az (xS (Qk K hr) sk T.set (az (cv 0) pan)) pan)) (kB (fv K) bB T.len (az (cv 0) pan))))))),?_⟩
 show bg _ _ _ [oR d,oJ m] H;refine bz (hV (bZ (aV (n6 (ev_v rfl) hd))) (λ_=>(aV (Jr (cq (ev_v rfl) (.inl hS)) (ev_v rfl))))) (λh=>?_) (λ_=>?_)
 .have h:decide (m<=((hs.map V.int).length:Int))=true:=h;have h:=QX h;rw[U6]at h;lia
 refine cP (λb H'=>b=false/\ah H H') (λQ q=>?_) (λH' h=>by cases h.1) (λH1 h=>?_)
 .refine fF (d:=d) (xs:=hs.map V.int) (rest:=[oJ m]) (ev_v rfl) hS (by rw[U6,Rf];lia) rfl (λ_=>true) (λ_=>.bl true) (λx hx=>fB) (λx hx _=>?_) (λd' hd'=>?_)
  .obtain⟨z,hz,rfl⟩:=U7.mp hx;have g:=good z hz;refine aH (aa (ev_v rfl) (aa aq (aa (iG (ev_v rfl) aq) av))) (λQ q=>⟨z,0,m - 1,rfl,?_⟩);rw[QT (by lia:0<=z/\z<=m - 1)];exact q
  .refine⟨List.replicate hs.length true,?_,?_⟩
   .have e:((hs.map V.int).filter λ_=>true).map (λ_=>V.bl true)=(List.replicate hs.length true).map V.bl:=by rw[Vy.mpr (λ_ _=>rfl),Vj,List.map_replicate];show hs.map (λ_=>V.bl true)=_;rw[List.map_const']
    rw[<-e];exact aN.of af
   .have e:(List.replicate hs.length true).all id=true:=by simp
    rw[e];exact q _ _ ⟨rfl,(ah.refl H).upd hd'⟩
 obtain⟨_,s1⟩:=h;have hS1:=s1.seq hS;simp only[cJ,fT,cB,bf,cw];refine ow (ev_v rfl) ?_;refine⟨hs,hS1,by have:scanBound=4096:=rfl;lia,λq hq=>?_⟩;refine⟨_,_,af,?_⟩;have s2:ah H1 (upd H1 q (.set (λk=>(uniq hs).any (· == k)) (uniq hs).length)):=(ah.refl H1).upd hq;refine ow (v:=.ref d) (ev_v rfl) ⟨_,.inl (s2.seq hS1),?_⟩;rw[U6,(Ay hs).mpr nd];show Q (.bl (decide ((hs.length:Int)=hs.length))) _;rw[QT rfl];exact k _ (s1.trans ((ah.refl H1).upd hq))
def oV{f cB:YC}{fd:Rn}(F:ci K "__init__" "Board.__init__" bU f fd)(T:Txt mg aS aA aE aW)(B:jK K cB)(C:CB2 P w K mg QR):aX P w K mg QR cI 4 f fd ["self","wide","high","holes"] (qC K cB):=by
 refine F.ok2 ke ?_;rintro _ _ _ s H _ Q _ hr hu ⟨p,d,dx,wi,hi,hs,rfl,hp,hd,w1,w8,h1,h8,good,nd,hl,k⟩;have m1:wi*hi<=8*8:=Xn w8 h8 (by lia) (by lia);have m0:0<=wi*hi:=Xr (by lia) (by lia);have npd:p≠d:=iw hp hd (by intro z;cases z);refine⟨_,(ae (aR (PW.pt (gH (bA (a7 (aF C.is_among hr (az (cv 1) (az ag (az (kg T.LONGEST) pan)))))) (fo (bA (a7 (aF C.is_among hr (az (cv 2) (az ag (az (kg T.LONGEST) pan))))))))) (aj eM) aG)
  (ae (aR (bA (a7 (aF C.are_holes hr (az (cv 3) (az (aw (cv 1) (cv 2)) pan))))) (aj eM) aG)
  (ae (gK K (cv 0) (cv 1))
  (ae (gK K (cv 0) (cv 2))
  (ae (gK K (cv 0) (kB (N9 K) qb T.sorted (az (cv 3) pan)))
  (aj (gK K (cv 0) (eQ (cz (N:=["square","self"]) (src:=[none,some 0]) (am bU) ["self","wide","high","holes"]) (LC T.range (az (aw (cv 1) (cv 2)) pan)) (λ_ _ _=>(bj (i:=0) ["square","self"])) (λ_ _ _=>bO) (λ_ _ _=>(g6 K hu (cv 0) (bG K (cv 1)))))))))))),?_⟩
 show bg _ _ _ [oR p,oJ wi,oJ hi,oR d] H;refine bz (hV (bZ (aV (aH (aa (ev_v rfl) (aa aq (aa aq av))) (λQ q=>⟨wi,1,8,rfl,q⟩)))) (λ_=>(bZ (aV (aH (aa (ev_v rfl) (aa aq (aa aq av))) (λQ q=>⟨hi,1,8,rfl,q⟩)))))) (λh=>?_) (λ_=>?_)
 .rw[QT (⟨w1,w8⟩:1<=wi/\wi<=8),QT (⟨h1,h8⟩:1<=hi/\hi<=8)]at h;cases h
 refine cP (λb H'=>b=false/\ah H H') (λQ q=>?_) (λH' h=>by cases h.1) (λH1 h=>?_)
 .exact lI (aa (ev_v rfl) (aa (cx (ev_v rfl) (ev_v rfl) (.inl ⟨by lia,by lia⟩)) av)) ⟨d,wi*hi,hs,rfl,hd,good,nd,hl,by lia,λH' s=>q _ _ ⟨rfl,s⟩⟩
 obtain⟨_,s1⟩:=h;refine qx (ev_v rfl) (ev_v rfl) (s1 _ _ hp) B.cl B.wide (by decide) ?_;have a1:=bw "wide" (V.int wi) [];have a2:=bw "high" (V.int hi) (putF "wide" (V.int wi) []);simp only[Wg]at a1;refine qx (ev_v rfl) (ev_v rfl) af B.cl B.high (by lia) ?_;generalize hH3:upd (upd H1 p (HO.ins cB dx (putF "wide" (V.int wi) []))) p (HO.ins cB dx (putF "high" (V.int hi) (putF "wide" (V.int wi) [])))=H3;have p3:H3 p=some (.ins cB dx (putF "high" (V.int hi) (putF "wide" (V.int wi) []))):=hH3▸af;have s3:SameBut p H H3:=hH3▸(s1.but.self.self);have d3:H3 d=some (.lst (hs.map V.int)):=s3 _ _ hd npd.symm;refine Dk (λv H'=>∃(hs':List Int)(q:YC),v=.ref q/\hs'.Perm hs/\hs'.Pairwise (·<=·)/\H3 q=none/\H'=upd H3 q (.lst (hs'.map V.int))) (λQ q=>?_) p cB dx (λH' Q q=>ev_v rfl Q q) B.cl B.holes ?_
 .exact Qz (ev_v rfl) ⟨hs,aN.of d3,by lia,λhs' q' h1 h2 h3=>q _ _ ⟨hs',q',rfl,h1,h2,h3,rfl⟩⟩
 rintro _ _ ⟨hs',q,rfl,pm,sr,hq,rfl⟩;have npq:p≠q:=ay p3 hq;have a3:=bw "holes" (V.ref q) (putF "high" (V.int hi) (putF "wide" (V.int wi) []));refine⟨_,(by rw[ak npq];exact p3),(by lia),?_⟩;generalize hH4:upd (upd H3 q (HO.lst (hs'.map V.int))) p (HO.ins cB dx (putF "holes" (V.ref q) (putF "high" (V.int hi) (putF "wide" (V.int wi) []))))=H4;have p4:H4 p=some (.ins cB dx (putF "holes" (V.ref q) (putF "high" (V.int hi) (putF "wide" (V.int wi) [])))):=hH4▸af;have q4:H4 q=some (.lst (hs'.map V.int)):=by rw[<-hH4,ak npq.symm,af]
 have hqH:H q=none:=by
  cases e:H q with
  |none=>rfl
  |some o=>
   have:=s3 q o e npq.symm;rw[hq]at this;cases this
 have s4:SameBut p H H4:=hH4▸((s3.new hqH).self);have f4:Fl K H4 p "holes" (.ref q):=⟨cB,dx,_,p4,B.cl,B.holes,by rw[ao,QW rfl]⟩;refine xj (λv H'=>∃(pf:YC),v=.ref pf/\H4 pf=none/\H'=upd H4 pf (.lst ((firmL wi hi hs').map V.bl))) (λQ k'=>?_) p cB dx (λH' Q q=>ev_v rfl Q q) B.cl B.firm ?_
 .refine uH (n:=wi*hi) (rest:=[oR p]) (aa (cx (ev_v rfl) (ev_v rfl) (.inl ⟨by lia,by lia⟩)) av) m0 (by rw[Rf];lia) (by lia) rfl (λ_=>true) (λx=>match x with| .int i=>.bl (!decide (i∈hs'))|_=>.non) (λi hi=>fB) (λi hi _=>?_) (λd' hd'=>?_)
  .exact(K1 (ev_v rfl) (aK (ev_v rfl) (f4)) (.inl (aN.of q4)))
  .refine k' _ _ ⟨d',rfl,hd',?_⟩;have e:(((List.range (wi*hi).toNat).map λ(i:Nat)=>V.int (0+(i:Int))).filter λ_=>true).map (λx=>match x with| .int i=>V.bl (!decide (i∈hs'))|_=>.non)=(firmL wi hi hs').map V.bl:=by rw[Vy.mpr (λ_ _=>rfl),Vj];unfold firmL;rw[Vj];refine VD λi _=>?_;show V.bl (!decide (0+(i:Int)∈hs'))=V.bl (!decide ((i:Int)∈hs'));rw[Xs]
   rw[e]
 rintro _ _ ⟨pf,rfl,hpf,rfl⟩;have npf:p≠pf:=ay p4 hpf;have nqf:q≠pf:=ay q4 hpf;have hfH:H pf=none:=by
  cases e:H pf with
  |none=>rfl
  |some o=>
   have:=s4 pf o e npf.symm;rw[hpf]at this;cases this
 refine⟨_,(by rw[ak npf];exact p4),(by lia),?_⟩;refine k hs' _ pm ⟨⟨dx,q,pf,af,by rw[ak npq.symm,ak nqf];exact q4,by rw[ak npf.symm,af]⟩,w1,w8,h1,h8,λh hh=>good h (pm.mem_iff.mp hh),sr,pm.nodup_iff.mpr nd⟩ ((s4.new hfH).self)
def rh(F:ci K "column_of" "column_of" fJ f fd)(T:Txt mg aS aA aE aW):aX P w K mg QR cI 1 f fd ["wide","square"] IQ:=by refine F.ok2 qL ?_;rintro _ _ _ _ H _ Q _ hr _ ⟨a,b,rfl,a0,q⟩;refine⟨_,(aj (aB (aw (cv 1) (cv 0)))),?_⟩;show cJ _ _ [oJ a,oJ b] H;exact aJ (bh (ev_v rfl) (ev_v rfl) (a0)) q
def zn(F:ci K "row_of" "row_of" ja f fd)(T:Txt mg aS aA aE aW):aX P w K mg QR cI 1 f fd ["wide","square"] AO:=by refine F.ok2 yT ?_;rintro _ _ _ _ H _ Q _ hr _ ⟨a,b,rfl,a0,a1,q⟩;refine⟨_,(aj (aB (aw (cv 1) (cv 0)))),?_⟩;show cJ _ _ [oJ a,oJ b] H;exact aJ (bM (ev_v rfl) (ev_v rfl) (⟨a0,by lia⟩)) q
def ra(F:ci K "square_at" "square_at" fH f fd)(T:Txt mg aS aA aE aW):aX P w K mg QR cI 1 f fd ["wide","column","row"] AL:=by refine F.ok2 qG ?_;rintro _ _ _ _ H _ Q _ hr _ ⟨a,b,c,rfl,a0,a1,q⟩;refine⟨_,(aj (aB (aw (aw (cv 2) (cv 0)) (cv 1)))),?_⟩;show cJ _ _ [oJ a,oJ b,oJ c] H;exact aJ (cU (cx (ev_v rfl) (ev_v rfl) (.inr ⟨by lia,by lia⟩)) (ev_v rfl)) q
def nB{f cB:YC}{fd:Rn}(F:ci K "moved" "Board.moved" dt f fd)(T:Txt mg aS aA aE aW)(B:jK K cB)(C:CB P w K mg QR):aX P w K mg QR cI 2 f fd ["self","square","across","up"] (xp K cB):=by
 refine F.ok2 dQ ?_;rintro _ _ _ _ H _ Q _ hr hu ⟨p,wi,hi,hs,sq,ax,up,rfl,O,k⟩;have w1:=O.w1;have w8:=O.w8;have fw:=O.wide B;have fh:=O.high B;obtain⟨pf,ff,hf⟩:=O.firm B;refine⟨_,(ae (au 4 dQ.nd (aw (aF C.column_of hr (az (bG K (cv 0)) (az (cv 1) pan))) (cv 2)))
  (ae (au 5 dQ.nd (aw (aF C.row_of hr (az (bG K (cv 0)) (az (cv 1) pan))) (cv 3)))
  (ae (aR (PW.pt (gH (bA (xQ K hu ag (cv 4) (bG K (cv 0)))) (fo (bA (xQ K hu ag (cv 5) (bG K (cv 0))))))) (aj (aB cm)) aG)
  (ae (au 6 dQ.nd (aF C.square_at hr (az (bG K (cv 0)) (az (cv 4) (az (cv 5) pan)))))
  (aj (aB (bP (a7 (cX K (bG K (cv 0)) (cv 6))) (cv 6) cm))))))),?_⟩
 show bg _ _ _ [oR p,oJ sq,oJ ax,oJ up,none,none,none] H;refine aZ (cU (aH (aa (aK (ev_v rfl) (fw)) (aa (ev_v rfl) av)) (λQ q=>⟨wi,sq,rfl,by lia,q⟩)) (ev_v rfl)) ?_;refine aZ (cU (aH (aa (aK (ev_v rfl) (fw)) (aa (ev_v rfl) av)) (λQ q=>⟨wi,sq,rfl,by lia,by lia,q⟩)) (ev_v rfl)) ?_;unfold Pf at k;generalize hc:sq % wi+ax=c at k;generalize hr':sq / wi+up=r at k;refine bz (hV (bZ (xf aq (ev_v rfl) (λ_=>(aK (ev_v rfl) (fw))))) (λ_=>(bZ (xf aq (ev_v rfl) (λ_=>(aK (ev_v rfl) (fh))))))) (λh=>?_) (λh=>?_)
 .show cJ _ _ _ _;refine aJ aq ?_;rw[QV (λz=>by rw[QT (⟨z.1,z.2.1⟩:0<=c/\c<wi),QT (⟨z.2.2.1,z.2.2.2⟩:0<=r/\r<hi)]at h;cases h)]at k;exact k
 .have h2:(0<=c/\c<wi)/\(0<=r/\r<hi):=by
   by_cases a:0<=c/\c<wi
   .by_cases b:0<=r/\r<hi
    .exact⟨a,b⟩
    .rw[QT a,QU b]at h;cases h
   .rw[QU a]at h;cases h
  rw[QW ⟨h2.1.1,h2.1.2,h2.2.1,h2.2.2⟩]at k;refine aZ (aH (aa (aK (ev_v rfl) (fw)) (aa (ev_v rfl) (aa (ev_v rfl) av))) (λQ q=>⟨wi,c,r,rfl,by lia,by lia,q⟩)) ?_;have g0:0<=r*wi+c:=by have:=Xr h2.2.1 (by lia:0<=wi);lia
  have g1:r*wi+c<wi*hi:=by
   have:r*wi<=(hi - 1)*wi:=Xv (by lia) (by lia);have e:(hi - 1)*wi=wi*hi - wi:=by rw[Int.sub_mul,Xq,Xo]
   lia
  show cJ _ _ _ _;refine aJ (v:=if(!decide (r*wi+c∈hs))=true then .int (r*wi+c)else .non) (lX (aV (aY (aK (ev_v rfl) (ff)) (ev_v rfl) (.inl (aN.of hf)) (x9 g0 g1))) (λ_=>(ev_v rfl)) (λ_=>aq)) ?_
  by_cases m:r*wi+c∈hs
  .rw[QT m];rw[QW m]at k;exact k
  .rw[QU m];rw[QV m]at k;exact k
def Ku{f cB:YC}{fd:Rn}(F:ci K "ray" "ray" tS f fd)(T:Txt mg aS aA aE aW)(B:jK K cB)(C:CB3 P w K mg QR cB):aX P w K mg QR cI 3 f fd ["board","square","across","up"] (IL K cB):=by
 refine F.ok2 qH ?_;rintro _ _ _ s H _ Q _ hr hu ⟨p,wi,hi,hs,sq,ax,up,rfl,O,s0,s1,n0,k⟩;have w1:=O.w1;have w8:=O.w8;have m0:=Xl sq (by lia:wi≠0);have m1:=Xm sq (by lia:0<wi);refine⟨_,(ae (aR (PW.pt (gI (aT K hu (cv 2) ag) (eK (aT K hu (cv 3) ag)))) (aj (aB (bp pan))) aG)
  (ae (au 4 qH.nd (bp pan))
  (ae (au 5 qH.nd (iL C.Board_moved hr (cv 0) (az (cv 1) (az (cv 2) (az (cv 3) pan)))))
  (ae (nu Rr (aT K hu (cv 5) cm) (ae (bK (dw (cv 4) (cv 5)))
  (aj (au 5 qH.nd (iL C.Board_moved hr (cv 0) (az (cv 5) (az (cv 2) (az (cv 3) pan))))))))
  (aj (aB (cv 4))))))),?_⟩
 show bg _ _ _ [oR p,oJ sq,oJ ax,oJ up,none,none] H;refine bz (iW (aV (dL (ev_v rfl) aq)) (λ_=>(aV (dL (ev_v rfl) aq)))) (λh=>?_) (λ_=>?_)
 .rw[Xx]at h;exact QZ ⟨QX h.1,QX h.2⟩ n0
 refine gX λq hq=>?_;have sm:ah H (upd H q (.lst [])):=(ah.refl H).upd hq;have O1:=O.same sm;refine aZ (v:=oI (if ue wi hi hs sq ax up 1 then some (qy wi sq ax up 1)else none)) (kN (p:=p) (ev_v rfl) O1.no (aa (ev_v rfl) (aa (ev_v rfl) (aa (ev_v rfl) av))) (λQ q=>⟨p,wi,hi,hs,sq,ax,up,rfl,O1,?_⟩)) ?_
 .have e:=xJ (hi:=hi) (hs:=hs) (s:=sq) (ax:=ax) (up:=up) (k:=0) w1 (by simp;exact m0) (by simp;exact m1);rw[AF w1]at e;rw[e];exact q
 refine⟨λm σ' H'=>∃i:Nat,m=8 - i/\i<=8/\(∀j<i,ue wi hi hs sq ax up (j+1))/\σ'=[oR p,oJ sq,oJ ax,oJ up,oR q,some (oI (if ue wi hi hs sq ax up (i+1)then some (qy wi sq ax up (i+1))else none))]/\H' q=some (.lst ((fQ wi sq ax up i).map V.int))/\ah H H',
  ⟨8,0,rfl,by lia,λj hj=>by lia,rfl,af,sm⟩,?_⟩
 rintro m _ H1 ⟨i,rfl,hi8,hok,rfl,hl,hs1⟩
 by_cases hk:ue wi hi hs sq ax up (i+1)
 .rw[QW hk];have hlt:=Bt w8 O.h8 w1 s0 s1 n0 hk;refine(aV (nZ (ev_v rfl) aq)) _ (gN ⟨_,λ_ _ h=>h,?_⟩);refine vm (ev_v rfl) (ev_v rfl) hl (by rw[U6,km,Rf];lia) ?_;have s2:ah H (upd H1 q (.lst ((fQ wi sq ax up i).map V.int++[.int (qy wi sq ax up (i+1))]))):=hs1.put hq;have O2:=O.same s2;refine fC (v:=oI (if ue wi hi hs sq ax up (i+1+1)then some (qy wi sq ax up (i+1+1))else none)) (kN (p:=p) (ev_v rfl) O2.no (aa (ev_v rfl) (aa (ev_v rfl) (aa (ev_v rfl) av))) (λQ q=>⟨p,wi,hi,hs,qy wi sq ax up (i+1),ax,up,rfl,O2,?_⟩)) ?_
  .rw[xJ w1 hk.1 hk.2.1];exact q
  .refine⟨8 - (i+1),by lia,i+1,rfl,by lia,λj hj=>?_,rfl,?_,s2⟩
   .by_cases e:j=i
    .subst e;exact hk
    .exact hok j (by lia)
   .rw[af,yX,Vg];rfl
 .rw[QV hk];refine(aV (nY (ev_v rfl) aq)) _ (gO ?_);dsimp only;exact aJ (ev_v rfl) (k i q H1 ⟨hok,hk⟩ hi8 hq hl hs1)
def vW(F:ci K "kind_of" "kind_of" ie f fd)(T:Txt mg aS aA aE aW):aX P w K mg QR cI 1 f fd ["sign"] vt:=by
 refine F.ok2 vE ?_;rintro _ _ _ s H _ Q _ hr hu ⟨c,rfl,hc,q⟩;refine⟨_,(aj (aB (bP (aT K hu (cv 0) (ck (az (kg T.EMPTY) (az (kg T.HOLE) pan)))) cm (rY PySem.F.slot_str_lower PySem.F.type_str_lower Ky (cv 0))))),?_⟩;show cJ _ _ [oT (one c)] H;simp only[cJ,NK];refine Jl (ev_v rfl) wD rS (λH' s=>?_);have k:=q H' s;unfold lV at k
 by_cases h:c=46\/c=35
 .rw[QT h];rw[QW h]at k;exact gN (ow aq k)
 .rw[QU h];rw[QV h]at k;exact gO (ow (Oz (ev_v rfl) hc) k)
def vV(F:ci K "side_of" "side_of" ic f fd)(T:Txt mg aS aA aE aW):aX P w K mg QR cI 1 f fd ["sign"] mR:=by
 refine F.ok2 vD ?_;rintro _ _ _ s H _ Q _ hr hu ⟨c,rfl,hc,q⟩;refine⟨_,(ae (aR (aT K hu (cv 0) (ck (az (kg T.EMPTY) (az (kg T.HOLE) pan)))) (aj (aB cm)) aG)
  (aj (aB (bP (a7 (rY PySem.F.slot_str_isupper PySem.F.type_str_isupper Kz (cv 0))) ag ag)))),?_⟩
 show bg _ _ _ [oT (one c)] H;unfold dc at q;refine cP (λb H'=>b=decide (c=46\/c=35)/\ah H H') (λQ q=>Jl (ev_v rfl) wD rS (λH' s=>q _ _ ⟨rfl,s⟩)) (λH1 h=>?_) (λH1 h=>?_)
 .have k:=q H1 h.2;rw[QW (QX h.1.symm)]at k;exact aJ aq k
 .have k:=q H1 h.2;rw[QV (QY h.1.symm)]at k;refine aJ (lX (aV (OA (ev_v rfl) hc)) (λ_=>aq) (λ_=>aq)) ?_
  by_cases g:65<=c/\c<=90
  .rw[QT g];rw[QW g]at k;exact k
  .rw[QU g];rw[QV g]at k;exact k
end
section
def DN(F:ci K "slid" "slid" nc f fd)(T:Txt mg aS aA aE aW)(C:CRs P w K mg QR):aX P w K mg QR cI 2 f fd ["row","side","aim","path"] (AN K):=by
 refine F.ok2 mw ?_;rintro _ _ _ _ H _ Q _ hr hu ⟨row,aim,sd,p,path,rfl,hp,R,hg,h8,k⟩;have rl:=R.len;refine⟨_,(ae (au 4 mw.nd (bp pan))
  (ae (fu Rr rfl (mB K (cv 3)) (bY 5 mw.nd) (ae (au 6 mw.nd (aF C.side_of hr (az (cX K (cv 0) (cv 5)) pan)))
  (ae (aR (aT K hu (cv 6) cm) (ae (aR (PW.pt (gI (aT K hu (cv 6) (cv 1)) (eK (aT K hu (cv 2) bR)))) (aj (bK (dw (cv 4) (ck (az (cv 5) (az (cv 5) pan)))))) aG)
  (aj Bc)) aG)
  (aj (aR (aT K hu (cv 2) bR) (aj (bK (dw (cv 4) (ck (az (cv 5) (az (kg T.NOTHING) pan)))))) aG)))))
  (aj (aB (cv 4))))),?_⟩
 show bg _ _ _ [oT row,oJ sd,oT aim,oR p,none,none,none] H;refine gX λq hq=>?_;have sm:ah H (upd H q (.lst [])):=(ah.refl H).upd hq;refine bD (λσ' H'=>(∃o5 o6,σ'=[oT row,oJ sd,oT aim,oR p,oR q,o5,o6])/\cS H H' q (gf row sd aim path)/\ah H H') (λK' hK=>?_) ?_
 .refine eT (λv H'=>v=.ref p/\H'=upd H q (.lst [])) (λQ z=>ev_v rfl _ (z _ _ ⟨rfl,rfl⟩)) ?_;rintro _ _ ⟨rfl,rfl⟩;refine⟨p,path.map V.int,rfl,sm.seq hp,λi σ' H'=>∃(l:List (Int×Int)),(∃o5 o6,σ'=[oT row,oJ sd,oT aim,oR p,oR q,o5,o6])/\cS H H' q l/\l.length<=i/\l++gf row sd aim (path.drop i)=gf row sd aim path/\ah H H',⟨[],⟨_,_,rfl⟩,cS.nil,WT _,rfl,sm⟩,?_,?_,?_⟩
  .rintro i σ' H' _ ⟨_,_,_,_,_,s1⟩;exact s1.seq hp
  .rintro i x _ H1 hx ⟨l,⟨o5,o6,rfl⟩,⟨ps,p1,p2,p3⟩,ll,el,s1⟩;have hi:i<path.length:=by
    have:=(Vi.mp hx).1
    rwa[U6]at this
   obtain rfl:x=.int path[i]:=by rw[Va,U9 hi]at hx;exact(Q0 hx).symm
   have hd:path.drop i=path[i]::path.drop (i+1):=V2 hi;obtain⟨g0,g1⟩:=hg _ (Vl hi);generalize path[i]=g at hd g0 g1;obtain⟨at1,at2⟩:=R.at g0 g1;rw[hd,mW]at el;show bg _ _ _ [oT row,oJ sd,oT aim,oR p,oR q,oJ g,o6] H1;refine bu (λv H'=>v=sdV row g/\ah H1 H') (λQ z=>(aa (jo (ev_v rfl) (ev_v rfl) (by rw[Rf];lia) at1) av) _ ⟨_,rfl,at2,λH2 s2=>z _ _ ⟨rfl,s2⟩⟩) ?_;rintro _ H2 ⟨rfl,s2⟩;have p2':=s2 _ _ p2;have p3':∀p∈ps,H p.2=none/\H2 p.2=some (.tup (p.1.map V.int)):=λp h=>⟨(p3 p h).1,s2 _ _ (p3 p h).2⟩;have s3:=s1.trans s2;have lz:(ps.map λz=>V.ref z.2).length=l.length:=by have:=Q2 List.length p1;rw[U6,U6]at this;rw[U6,this]
   by_cases hn:sdV row g=.non
   .rw[QW hn]at el;refine bz (b:=false) ?_ (λz=>nomatch z) λ_=>?_
    .rw[hn];exact aV (nY (ev_v rfl) aq)
    .refine cQ (aV (wz (ev_v rfl) aq)) (λh=>?_) (λh=>?_)
     .have ha:¬aim="hit":=λz=>by rw[z]at h;simp at h
      rw[QV ha]at el;refine uS (ev_v rfl) ⟨_,p2'⟩ (iX (ev_v rfl) (aq (x:=.int (-1))) λt ht=>?_);have nt:q≠t:=λz=>by rw[<-z,p2']at ht;cases ht
      refine⟨_,by rw[ak nt];exact p2',by rw[lz,Rf];lia,l++[(g, -1)],⟨_,_,rfl⟩,cS.add p1 p2' p3' s3 ht,by rw[Ve];show l.length+1<=_;lia,by rw[VC];exact el,?_⟩;exact(s3.upd ht).put hq
     .have ha:aim="hit":=by simpa using h
      rw[QW ha]at el;exact⟨l,⟨_,_,rfl⟩,⟨ps,p1,p2',p3'⟩,by lia,el,s3⟩
   .rw[QV hn]at el;obtain⟨v,hv⟩:∃v,sdV row g=.int v:=by
     unfold sdV dc at hn ⊢;split
     .rename_i z;rw[QW z]at hn;exact QZ rfl hn
     .exact⟨_,rfl⟩
    rw[hv]at el ⊢;refine bz (b:=true) (aV (nZ (ev_v rfl) aq)) (λ_=>?_) (λz=>nomatch z);refine bz (iW (aV (nX (ev_v rfl) (ev_v rfl))) (λ_=>(aV (wz (ev_v rfl) aq)))) (λh=>?_) (λh=>?_)
    .rw[Xx]at h;have h1:¬v=sd:=λz=>by have:=h.1;rw[z]at this;simp at this
     have h2:¬aim="go":=λz=>by have:=h.2;rw[z]at this;simp at this
     rw[QW ⟨λz=>h1 (by injection z),h2⟩]at el;refine uS (ev_v rfl) ⟨_,p2'⟩ (iX (ev_v rfl) (ev_v rfl) λt ht=>?_);have nt:q≠t:=λz=>by rw[<-z,p2']at ht;cases ht
     refine⟨_,by rw[ak nt];exact p2',by rw[lz,Rf];lia,hK _ _ ⟨⟨_,_,rfl⟩,?_,(s3.upd ht).put hq⟩⟩;rw[<-el];exact cS.add p1 p2' p3' s3 ht
    .have h3:¬(¬v=sd/\¬aim="go"):=λz=>by simp[z.1,z.2]at h
     rw[QV (λz=>h3 ⟨λw=>z.1 (by rw[w]),z.2⟩),Vx]at el;refine hK _ _ ⟨⟨_,_,rfl⟩,?_,s3⟩;rw[<-el];exact⟨ps,p1,p2',p3'⟩
  .rintro σ' H' ⟨l,o,hP,_,el,s1⟩;rw[U6,List.drop_length]at el;refine hK _ _ ⟨o,?_,s1⟩;rw[<-el];simpa[gf]using hP
 .rintro _ H1 ⟨⟨o5,o6,rfl⟩,hP,s1⟩;exact aJ (ev_v rfl) (k q H1 hq hP s1)
def zo(F:ci K "jumped" "jumped" jb f fd)(T:Txt mg aS aA aE aW)(C:CRs P w K mg QR):aX P w K mg QR cI 2 f fd ["row","side","path"] (AS K):=by
 refine F.ok2 yU ?_;rintro _ _ _ _ H _ Q _ hr hu ⟨row,sd,p,path,rfl,hp,R,hg,hsd,k⟩;have rl:=R.len;refine⟨_,(ae (aR (PW.pt (gH (aT K hu (kB (fv K) bB T.len (az (cv 2) pan)) ag) (gH (aT K hu (aF C.side_of hr (az (cX K (cv 0) (cX K (cv 2) ag)) pan)) (aw ag (cv 1))) (fo (aT K hu (aF C.side_of hr (az (cX K (cv 0) (cX K (cv 2) ag)) pan)) cm))))) (aj (aB (bp pan))) aG)
  (aj (aB (bp (az (ck (az (cX K (cv 2) ag) (az (cX K (cv 2) ag) pan))) pan))))),?_⟩
 show bg _ _ _ [oT row,oJ sd,oR p] H;refine cP (λb H'=>ah H H'/\(b=true->nN row sd path=[])/\(b=false->∃g b' r,path=g::b'::r/\nN row sd path=[(b',g)])) (λQ z=>?_) (λH' ⟨s1,e,_⟩=>?_) (λH' ⟨s1,_,e⟩=>?_)
 .refine JP (b:=decide (((path.map V.int).length:Int)<2)) (aV (pW (cq (ev_v rfl) (.inl hp)) aq)) (λh=>z _ _ ⟨ah.refl H,λ_=>?_,λw=>nomatch w⟩) (λh=>?_)
  .have:=QX h;rw[U6]at this
   match path,this with
   | [],_=>rfl
   | [_],_=>rfl
   |_::_::_,w=>simp at w;lia
  .have hl:=QY h;rw[U6]at hl;obtain⟨g,b,r,rfl⟩:∃g b r,path=g::b::r:=by
    match path,hl with
    | [],w=>simp at w
    | [_],w=>simp at w
    |g::b::r,_=>exact⟨g,b,r,rfl⟩
   obtain⟨g0,g1⟩:=hg g (by simp);obtain⟨b0,b1⟩:=hg b (by simp);obtain⟨x1,x2⟩:=R.at g0 g1;obtain⟨y1,y2⟩:=R.at b0 b1;refine NH (Cb (aa (jo (ev_v rfl) (aY (x:=.int g) (ev_v rfl) aq (.inl hp) (bx (j:=0) rfl)) (by rw[Rf];lia) x1) av) ⟨_,rfl,x2,λH2 s2=>ow (iG aq (ev_v rfl)) ?_⟩);rw[Dp];show if(!decide (sdV row g=.int (1 - sd)))=true then _ else _
   by_cases h1:sdV row g=.int (1 - sd)
   .rw[QT h1];refine gO (Cb (aa (jo (ev_v rfl) (aY (x:=.int b) (ev_v rfl) aq (.inl (s2.seq hp)) (bx (j:=1) rfl)) (by rw[Rf];lia) y1) av) ⟨_,rfl,y2,λH3 s3=>ow aq ?_⟩);rw[vy];show Q (!decide (sdV row b=.non)) H3;refine z _ _ ⟨s2.trans s3,λh2=>?_,λh2=>⟨g,b,r,rfl,?_⟩⟩
    .show(if _ then _ else _)=_;rw[QV (λw=>by rw[QT w.2]at h2;cases h2)]
    .show(if _ then _ else _)=_;rw[QW ⟨h1,by simpa using h2⟩]
   .rw[QU h1];refine gN (z _ _ ⟨s2,λ_=>?_,λw=>nomatch w⟩);show(if _ then _ else _)=_;rw[QV (λw=>h1 w.1)]
 .refine⟨WT _,λq hq=>k q _ (s1.free hq) ?_ (s1.upd hq)⟩;rw[e rfl];exact⟨[],rfl,af,λ_ z=>nomatch z⟩
 .obtain⟨g,b,r,rfl,e⟩:=e rfl;have hp2:=s1.seq hp;refine gV (iX (x:=.int b) (y:=.int g) (aY (ev_v rfl) aq (.inl hp2) (bx (j:=1) rfl)) (aY (ev_v rfl) aq (.inl hp2) (bx (j:=0) rfl)) λt ht=>⟨by show 1<=v1;decide,λq hq=>?_⟩);have hq1:H' q=none:=by
   by_cases w:q=t
   .rw[w];exact ht
   .rw[ak w]at hq;exact hq
  have nt:t≠q:=λw=>by rw[w,af]at hq;cases hq
  refine k q _ (s1.free hq1) ?_ ((s1.upd ht).upd hq);rw[e];refine⟨[([b,g],t)],rfl,af,λp hp=>?_⟩;rw[Vb.mp hp];exact⟨s1.free ht,by rw[ak nt,af];rfl⟩
def v6{f cB:YC}{fd:Rn}(F:ci K "by_rule" "by_rule" io f fd)(T:Txt mg aS aA aE aW)(C:CRb P w K mg QR cB):aX P w K mg QR cI 4 f fd ["board","row","square","rule"] (tI K cB):=by
 refine F.ok2 jV ?_;rintro _ _ _ _ H _ Q _ hr hu ⟨b,r,row,sq,sd,wi,hi,hs,u,rfl,B,hT,R,rl,s0,s1,hsd,sd2,n0,k⟩;have r64:=R.len;obtain⟨x1,x2⟩:=R.at s0 (by lia);refine⟨_,(ae (au 4 jV.nd (aF C.side_of hr (az (cX K (cv 1) (cv 2)) pan)))
  (ae (au 5 jV.nd (aF C.ray hr (az (cv 0) (az (cv 2) (az (cX K (cv 3) ag) (az (bP (aT K hu (cv 4) ag) (cX K (cv 3) ag) (lH (cX K (cv 3) ag))) pan))))))
  (ae (aR (aT K hu (cX K (cv 3) ag) bR) (aj (aB (aF C.jumped hr (az (cv 1) (az (cv 4) (az (cv 5) pan)))))) aG)
  (aj (aB (aF C.slid hr (az (cv 1) (az (cv 4) (az (cX K (cv 3) ag) (az (bP (aT K hu (cX K (cv 3) ag) bR) (DX K (cv 5) iD (eW ag)) (cv 5)) pan)))))))))),?_⟩
 show bg _ _ _ [oR b,oT row,oJ sq,oR r,none,none] H;refine bu (λv H'=>v=sdV row sq/\ah H H') (λQ z=>(aa (jo (ev_v rfl) (ev_v rfl) (by rw[Rf];lia) x1) av) _ ⟨_,rfl,x2,λH2 s2=>z _ _ ⟨rfl,s2⟩⟩) ?_;rintro _ H1 ⟨rfl,q1⟩;rw[hsd];have T1:∀{H'},ah H H'->cY K H' r u.vs:=λz=>ah.tupY z hT;have dy0:¬(u.ax=0/\u.dy sd=0):=λz=>n0 ⟨z.1,by have:=z.2;unfold bb.dy at this;split at this<;>lia⟩;refine bu (λv H'=>∃n q,v=.ref q/\kU wi hi hs sq u.ax (u.dy sd) n/\n<=8/\H' q=some (.lst ((fQ wi sq u.ax (u.dy sd) n).map V.int))/\ah H1 H')
  (λQ z=>(aa (ev_v rfl) (aa (ev_v rfl) (aa (aY (x:=.int u.ax) (ev_v rfl) aq (.inr (T1 q1)) rfl) (aa (x:=.int (u.dy sd)) (λQ' z'=>?_) av)))) _ ⟨b,wi,hi,hs,sq,u.ax,u.dy sd,rfl,B.same q1,s0,s1,dy0,λn q H' a1 a2 _ a4 a5=>z _ _ ⟨n,q,rfl,a1,a2,a4,a5⟩⟩) ?_
 .refine tf (b:=decide (sd=0)) (aV (dL (ev_v rfl) aq)) (λh=>?_) (λh=>?_)
  .have h:=QX h;rw[show u.dy sd=u.up by unfold bb.dy;rw[QW h]]at z';exact aY (x:=.int u.up) (ev_v rfl) aq (.inr (T1 q1)) rfl _ z'
  .have h:=QY h;rw[show u.dy sd= -u.up by unfold bb.dy;rw[QV h]]at z';exact lF (aY (x:=.int u.up) (ev_v rfl) aq (.inr (T1 q1)) rfl) _ z'
 rintro _ H2 ⟨n,q,rfl,ry,n8,hq,q2⟩;have q3:=q1.trans q2;have inr:∀g∈fQ wi sq u.ax (u.dy sd) n,0<=g/\g<(row.length:Int):=λg hg=>by obtain⟨a,b,_⟩:=vM B.w1 ry g hg;lia
 have free:∀{p:YC},H2 p=none->H p=none:=λ{p} h=>q3.free h;refine bz (b:=decide (u.so="jump")) (aV (hG (aY (x:=.str u.so) (ev_v rfl) aq (.inr (T1 q3)) rfl) aq)) (λh=>?_) (λh=>?_)
 .have h:=QX h;refine IV ((aa (ev_v rfl) (aa (ev_v rfl) (aa (ev_v rfl) av))) _ ⟨row,sd,q,_,rfl,.inl (.inl hq),R,inr,sd2,λt H' t1 t2 t3=>k n t H' ry n8 (free t1) ?_ (q3.trans t3)⟩);unfold wW;rw[QW h];exact t2.from q3
 .have h:=QY h;refine IV ((ev_v rfl) _ ((ev_v rfl) _ ((aY (x:=.str u.ai) (ev_v rfl) aq (.inr (T1 q3)) rfl) _ ?_)));refine tf (b:=decide (u.so="leap")) (aV (hG (aY (x:=.str u.so) (ev_v rfl) aq (.inr (T1 q3)) rfl) aq)) (λh2=>?_) (λh2=>?_)
  .have h2:=QX h2;refine pA (lo:=none) (hi:=some 1) (ev_v rfl) pD (jP aq) (.inl (.inl hq)) λp hp=>?_;have q4:ah H (upd H2 p (.lst (oX ((fQ wi sq u.ax (u.dy sd) n).map V.int) none (some 1)))):=q3.upd hp;have ec:oX ((fQ wi sq u.ax (u.dy sd) n).map V.int) none (some 1)=((fQ wi sq u.ax (u.dy sd) n).take 1).map V.int:=by exact OE _
   refine⟨row,u.ai,sd,p,(fQ wi sq u.ax (u.dy sd) n).take 1,rfl,.inl (.inl (by rw[ec];exact af)),R,λg hg=>inr g (WL hg),by rw[Vs];lia,λt H' t1 t2 t3=>k n t H' ry n8 (q4.free t1) ?_ (q4.trans t3)⟩;unfold wW;rw[QV h,QW h2];exact t2.from q4
  .have h2:=QY h2;refine(ev_v rfl) _ ⟨row,u.ai,sd,q,_,rfl,.inl (.inl hq),R,inr,by rw[km];exact n8,λt H' t1 t2 t3=>k n t H' ry n8 (free t1) ?_ (q3.trans t3)⟩;unfold wW;rw[QV h,QV h2];exact t2.from q3
end
section
def lu(F:ci K "rules_of" "Game.rules_of" cb f fd)(T:Txt mg aS aA aE aW)(D:uZ K cG):aX P w K mg QR cI 1 f fd ["self","kind"] (px cG):=by
 refine F.ok2 lg ?_;rintro _ _ _ _ H _ Q _ hr hu ⟨g,b,kd,ks,ts,es,st,us,rfl,G,R,h24,k⟩;obtain⟨rq,fl,hrq⟩:=G.rules D;refine⟨_,(aj (aB (eQ (cz (N:=["rule","kind"]) (src:=[none,some 1]) (am cb) ["self","kind"]) (mB K (bG K (cv 0))) (λ_ _ _=>(bj (i:=0) ["rule","kind"])) (λ_ _ _=>(ku (aT K hu (cX K (cv 0) ag) (cv 1)))) (λ_ _ _=>(cv 0))))),?_⟩;show tComp _ _ _ _ _ [oR g,oT kd] H Q;refine fF (d:=rq) (xs:=rRefs us) (rest:=[oT kd]) (aK (ev_v rfl) fl) (aN.of hrq) (by rw[U6,Rf];lia) rfl (Pi us kd) (λv=>v) (λx hx=>?_) (λx hx _=>ev_v rfl) (λd hd=>?_)
 .obtain⟨z,hz,rfl⟩:=U7.mp hx;rw[BM R hz];exact aV (hG (aY (x:=.str z.1.kd) (ev_v rfl) aq (.inr (.inl (.inl (R z hz)))) rfl) (ev_v rfl))
 .rw[wn R,List.map_id'']
  .exact k d _ hd af ((ah.refl H).upd hd)
  .exact λ_=>rfl
def Bs{f cB cG:YC}{fd:Rn}(F:ci K "goals" "goals" kh f fd)(T:Txt mg aS aA aE aW)(D:uZ K cG)(C:CRg P w K mg QR cB cG):aX P w K mg QR cI 5 f fd ["game","row","square"] (qB K cB cG):=by
 refine F.ok2 m9 ?_;rintro _ _ _ _ H _ Q _ hr hu ⟨g,b,row,kd,sq,sd,wi,hi,hs,ks,ts,es,st,us,rfl,G,B,U,u12,un0,R,rl,s0,s1,hsd,sd2,hkd,few,k⟩;have r64:=R.len;obtain⟨x1,x2⟩:=R.at s0 (by lia);have ol:(ofKind us kd).length<=12:=WU (VM _ _) u12;have osub:∀z∈ofKind us kd,z∈us:=λz hz=>(Vz.mp hz).1;refine⟨_,(ae (au 3 m9.nd (bp pan))
  (ae (fu Rr rfl (mB K (iL C.Game_rules_of hr (cv 0) (az (aF C.kind_of hr (az (cX K (cv 1) (cv 2)) pan)) pan))) (bY 4 m9.nd) (aj (bK (Cu (cv 3) (aF C.by_rule hr (az (bG K (cv 0)) (az (cv 1) (az (cv 2) (az (cv 4) pan)))))))))
  (aj (aB (kB (KF P w hr) qb T.sorted (az (xS (Oa P w K hr) sk T.set (az (cv 3) pan)) pan)))))),?_⟩
 show bg _ _ _ [oR g,oT row,oJ sq,none,none] H;refine gX λq hq=>?_;have sm:ah H (upd H q (.lst [])):=(ah.refl H).upd hq;refine bD (λσ' H'=>(∃o,σ'=[oR g,oT row,oJ sq,oR q,o])/\(∃l,a8 wi hi hs row sq sd (ofKind us kd) l/\cS H H' q l)/\ah H H') (λK' hK=>?_) ?_
 .refine eT (λv H'=>∃d,v=.ref d/\H' d=some (.lst (rRefs (ofKind us kd)))/\d≠q/\ah (upd H q (.lst [])) H') (λQ z=>?_) ?_
  .refine(show Ev (eZ 0) _ _ (.ref g)from ev_v rfl) _ ⟨(G.same sm).no,OV ((aa (jo (ev_v rfl) (ev_v rfl) (by rw[Rf];lia) x1) av) _ ⟨_,rfl,x2,λH2 s2=>?_⟩)⟩;rw[hkd];refine⟨g,b,kd,ks,ts,es,st,us,rfl,(G.same sm).same s2,(U.same sm).same s2,by lia,λd H' d1 d2 d3=>z _ _ ⟨d,rfl,d2,λe=>?_,s2.trans d3⟩⟩;rw[e,s2 _ _ af]at d1;cases d1
  .rintro _ H1 ⟨d,rfl,hd,ndq,s1'⟩;refine⟨d,rRefs (ofKind us kd),rfl,aN.of hd,λi σ' H'=>(∃o,σ'=[oR g,oT row,oJ sq,oR q,o])/\(∃l,a8 wi hi hs row sq sd ((ofKind us kd).take i) l/\cS H H' q l)/\ah H H'/\H' d=some (.lst (rRefs (ofKind us kd))),⟨⟨_,rfl⟩,⟨[],.nil,[],rfl,s1' _ _ af,λ_ z=>nomatch z⟩,sm.trans s1',hd⟩,?_,?_,?_⟩
   .rintro i σ' H' _ ⟨_,_,_,h⟩;exact aN.of h
   .rintro i x _ H2 hx ⟨⟨o,rfl⟩,⟨l,hl,ps,p1,p2,p3⟩,s2,hd2⟩;have hi':i<(ofKind us kd).length:=by
     have:=(Vi.mp hx).1
     rwa[U6]at this
    obtain rfl:x=.ref (ofKind us kd)[i].2:=by rw[Va,U9 hi']at hx;exact(Q0 hx).symm
    have tk:(ofKind us kd).take (i+1)=(ofKind us kd).take i++[(ofKind us kd)[i]]:=by rw[Ww hi']
    have hz:=osub _ (Vl hi');generalize(ofKind us kd)[i]=zz at tk hz;have ll:=hl.len;rw[Vs]at ll;show iY _ _ [oR g,oT row,oJ sq,oR q,oR zz.2] H2;refine Jp (ev_v rfl) p2 ((aa (aK (ev_v rfl) ((G.same s2).board D)) (aa (ev_v rfl) (aa (ev_v rfl) (aa (ev_v rfl) av)))) _ ⟨b,zz.2,row,sq,sd,wi,hi,hs,zz.1,rfl,B.same s2,.inl (.inl ((U.same s2) zz hz)),R,rl,s0,s1,hsd,sd2,un0 zz hz,λn t H3 ry n8 ht hP s3=>?_⟩);obtain⟨ps2,g1,g2,g3⟩:=hP;have lr:jr wi hi hs row sq sd zz.1 (wW row sd zz.1.so zz.1.ai (fQ wi sq zz.1.ax (zz.1.dy sd) n)):=⟨n,ry,n8,rfl⟩;have lr8:=lr.len;have z1:=Q2 List.length p1;have z2:=Q2 List.length g1;rw[U6,U6]at z1 z2;refine⟨t,_,_,rfl,s3 _ _ p2,g2,by rw[U6,U6,Rf];lia,⟨_,rfl⟩,⟨_,?_,cS.cat p1 (s3 _ _ p2) (λp hp=>⟨(p3 p hp).1,s3 _ _ (p3 p hp).2⟩) s2 g1 g3⟩,(s2.trans s3).put hq,?_⟩
    .rw[tk];exact a8.add lr hl
    .rw[ak ndq];exact s3 _ _ hd2
   .rintro σ' H' ⟨o,⟨l,hl,hP⟩,s2,_⟩;rw[U6,VG]at hl;exact hK _ _ ⟨o,⟨l,hl,hP⟩,s2⟩
 .rintro _ H1 ⟨⟨o,rfl⟩,⟨l,hl,ps,p1,p2,p3⟩,s2⟩;have ll:=hl.len;have z1:=Q2 List.length p1;rw[U6,U6]at z1;refine vx ((ev_v rfl) _ (vz (aN.of p2) (λp hp=>⟨?_,(p3 p hp).2⟩) (by lia) (λL nd mem=>?_) λps' q' H' sub mem pw hq' s3 hq2=>?_))
  .have:p.1∈l.map pk:=by rw[<-p1];exact U7.mpr ⟨p,hp,rfl⟩
   obtain⟨x,_,e⟩:=U7.mp this;rw[<-e];exact λz=>nomatch z
  .obtain⟨m,rfl,hm⟩:=JI (l:=l) λk hk=>by rw[<-p1];exact(mem k).mp hk
   rw[U6];refine few l hl m ?_ hm;rw[V6,VE]at nd;exact nd.imp λz e=>z (by rw[e])
  .obtain⟨l',e,hm⟩:=JI (l:=l) (L:=ps'.map (·.1)) λk hk=>by rw[<-p1];exact(mem k).mp hk
   refine k l l' q' H' hl ⟨λx=>⟨hm x,λhx=>?_⟩,?_⟩ (s2.free hq') ⟨ps',e,hq2,λp hp=>⟨(p3 p (sub p hp)).1,s3 _ _ (p3 p (sub p hp)).2⟩⟩ (s2.trans s3)
   .have:pk x∈ps'.map (·.1):=(mem _).mpr (by rw[p1];exact U7.mpr ⟨x,hx,rfl⟩);rw[e]at this;obtain⟨y,hy,ey⟩:=U7.mp this;exact Kc ey▸hy
   .have z:(ps'.map (·.1)).Pairwise λx y=>fS x y=true:=VE.mpr pw;rw[e]at z;exact VE.mp z
end
section
def vU(F:ci K "sign_of" "sign_of" ib f fd)(T:Txt mg aS aA aE aW):aX P w K mg QR cI 1 f fd ["kind","side"] mQ:=by
 refine F.ok2 vC ?_;rintro _ _ _ _ H _ Q _ hr hu ⟨c,sd,rfl,hc,q⟩;refine⟨_,(aj (aB (bP (aT K hu (cv 1) ag) (rY PySem.F.slot_str_upper PySem.F.type_str_upper Bx (cv 0)) (cv 0)))),?_⟩;show cJ _ _ [oT (one c),oJ sd] H;refine aJ (lX (aV (dL (ev_v rfl) aq)) (λ_=>Jq (ev_v rfl) hc) (λ_=>ev_v rfl)) ?_
 by_cases h:sd=0
 .rw[QT h];rw[QW h]at q;exact q
 .rw[QU h];rw[QV h]at q;exact q
def oH(F:ci K "squares_of" "squares_of" c7 f fd)(T:Txt mg aS aA aE aW)(C:CP1 P w K mg QR):aX P w K mg QR cI 2 f fd ["row","side"] pr:=by
 refine F.ok2 oC ?_;rintro _ _ _ s H _ Q _ hr hu ⟨row,sd,rfl,hz,ha,q⟩;refine⟨_,(aj (aB (eQ (cz (N:=["square","sign","side"]) (src:=[none,none,some 1]) (am c7) ["row","side"]) (Ji K T.enumerate (cv 0)) (λ_ _ _=>(Ph K (n:=2) (fR (bj (i:=0) ["square","sign","side"]) (fR (bj (i:=1) ["square","sign","side"]) mz)))) (λ_ _ _=>(ku (aT K hu (aF C.side_of hr (az (cv 1) pan)) (cv 2)))) (λ_ _ _=>(cv 0))))),?_⟩;show tComp _ _ _ _ _ [oT row,oJ sd] H Q;refine Cq (z:=row) (rest:=[oJ sd]) (ev_v rfl) (by lia) rfl (λi c=>decide (dc c=.int sd)) (λi c=>.int (i:Int)) (λi c H' hc s R r=>?_) (λi c H' hc hp s=>ev_v rfl) (λH' d s hd=>?_)
 .refine Cb (aa (ev_v rfl) av) ⟨c,rfl,ha c (Vn hc),λH2 s2=>ow (v:=.int sd) (ev_v rfl) ?_⟩;rw[Dq];exact r H2 s2
 .have e:Ep row.cps.toList (λi c=>decide (dc c=.int sd)) (λi c=>.int (i:Int)) row.length=(sqsOf row sd).map V.int:=by unfold Ep sqsOf;rw[Vj];rfl
  rw[e];exact q d _ (s.free hd) af (s.upd hd)
def Br{f cB cG:YC}{fd:Rn}(F:ci K "moves" "moves" jA f fd)(T:Txt mg aS aA aE aW)(C:CMv P w K mg QR cB cG):aX P w K mg QR cI 6 f fd ["game","place"] (qz K cB cG):=by
 refine F.ok2 kb ?_;rintro _ _ _ _ H _ Q _ hr hu ⟨g,b,kq,p,row,sd,wi,hi,hs,ks,us,ts,es,st,rfl,G,hp,R,rl,k⟩;have r64:=R.len;refine⟨_,(ae (au 2 kb.nd (cX K (cv 1) ag))
  (ae (au 3 kb.nd (bp pan))
  (ae (fu Rr rfl (mB K (aF C.squares_of hr (az (cv 2) (az (cX K (cv 1) ag) pan)))) (bY 4 kb.nd) (aj (bK (Cu (cv 3) (eQ (cz (N:=["pair","start"]) (src:=[none,some 4]) (am jA) ["game","place","row","found","start"]) (mB K (aF C.goals hr (az (cv 0) (az (cv 2) (az (cv 4) pan))))) (λ_ _ _=>(bj (i:=0) ["pair","start"])) (λ_ _ _=>bO) (λ_ _ _=>(ck (az (cv 1) (az (cX K (cv 0) ag) (az (cX K (cv 0) ag) pan))))))))))
  (aj (aB (cv 3)))))),?_⟩
 show bg _ _ _ [oR g,oR p,none,none,none] H;refine aZ (aY (x:=.str row) (ev_v rfl) aq (.inr hp) rfl) ?_;refine gX λq hq=>?_;have sm:ah H (upd H q (.lst [])):=(ah.refl H).upd hq;show bg _ _ _ [oR g,oR p,oT row,oR q,none] _;refine bD (λσ' H'=>(∃o,σ'=[oR g,oR p,oT row,oR q,o])/\(∃m,mI wi hi hs row us sd (sqsOf row sd) m/\m.length<=4096/\yx H H' q m)/\ah H H') (λK' hK=>?_) ?_
 .refine eT (λv H'=>∃d,v=.ref d/\H' d=some (.lst ((sqsOf row sd).map V.int))/\d≠q/\ah (upd H q (.lst [])) H') (λQ z=>?_) ?_
  .refine cR (aa (ev_v rfl) (aa (aY (x:=.int sd) (ev_v rfl) aq (.inr (sm.tupY hp)) rfl) av)) ⟨row,sd,rfl,by lia,R.asc,λd H' d1 d2 d3=>z _ _ ⟨d,rfl,d2,λe=>?_,d3⟩⟩;rw[e,af]at d1;cases d1
  .rintro _ H1 ⟨d,rfl,hd,ndq,s1'⟩;refine⟨d,(sqsOf row sd).map V.int,rfl,aN.of hd,λi σ' H'=>(∃o,σ'=[oR g,oR p,oT row,oR q,o])/\(∃m,mI wi hi hs row us sd ((sqsOf row sd).take i) m/\m.length<=64*i/\yx H H' q m)/\ah H H'/\H' d=some (.lst ((sqsOf row sd).map V.int)),⟨⟨_,rfl⟩,⟨[],.nil,WT _,[],rfl,s1' _ _ af,λ_ z=>nomatch z⟩,sm.trans s1',hd⟩,?_,?_,?_⟩
   .rintro i σ' H' _ ⟨_,_,_,h⟩;exact aN.of h
   .rintro i x _ H2 hx ⟨⟨o,rfl⟩,⟨m,hm,ml,ps,p1,p2,p3⟩,s2,hd2⟩;have hi':i<(sqsOf row sd).length:=by
     have:=(Vi.mp hx).1
     rwa[U6]at this
    obtain rfl:x=.int (sqsOf row sd)[i]:=by rw[Va,U9 hi']at hx;exact(Q0 hx).symm
    have tk:(sqsOf row sd).take (i+1)=(sqsOf row sd).take i++[(sqsOf row sd)[i]]:=by rw[Ww hi']
    obtain⟨z0,z1,z2⟩:=jy (Vl hi');have i64:i<64:=WV hi' (WU pq r64);generalize(sqsOf row sd)[i]=sq at tk z0 z1 z2;show iY _ _ [oR g,oR p,oT row,oR q,oJ sq] H2;refine Jp (ev_v rfl) p2 (yp (aa (ev_v rfl) (aa (ev_v rfl) (aa (ev_v rfl) av))) (D9 (G.same s2) R rl z0 z1 z2 λl' t H3 hg l64 ht hP s3=>?_).1);obtain⟨ps2,g1,g2,g3⟩:=hP;refine⟨t,rfl,⟨_,aN.of g2⟩,C8 s3 g1 g2 (λp hp=>(g3 p hp).2) l64 rfl (λa x y H' Q' ha q'=>JM (ev_v rfl) (aY (x:=.int x) (ev_v rfl) aq (.inr (cY.of ha)) rfl) (aY (x:=.int y) (ev_v rfl) aq (.inr (cY.of ha)) rfl) q') (λd' H4 ps3 s4 hd' e1 e2=>?_)⟩;have sF:ah H2 (upd H4 d' (.lst (jQ ps3))):=(s3.trans s4).upd hd';have y1:=Q2 List.length p1;have y2:=Q2 List.length e1;rw[U6]at y1;rw[U6,U6]at y2;refine⟨d',_,_,rfl,sF _ _ p2,af,by rw[U6,U6,Rf];lia,⟨_,rfl⟩,⟨_,?_,?_,De p1 (λxs w=>by rw[sF _ _ p2]at w;cases w) (λp hp=>⟨(p3 p hp).1,sF _ _ (p3 p hp).2⟩) s2 e1 (λp hp=>⟨(e2 p hp).1,?_⟩)⟩,(s2.trans sF).put hq,?_⟩
    .rw[tk];exact mI.add hg hm
    .rw[Ve,U6];lia
    .rw[ak (ay (e2 p hp).2 hd')];exact(e2 p hp).2
    .rw[ak ndq];exact sF _ _ hd2
   .rintro σ' H' ⟨o,⟨m,hm,ml,hT⟩,s2,_⟩;rw[U6,VG]at hm;rw[U6]at ml;have:=pq (row:=row) (sd:=sd);exact hK _ _ ⟨o,⟨m,hm,by lia,hT⟩,s2⟩
 .rintro _ H1 ⟨⟨o,rfl⟩,⟨m,hm,ml,hT⟩,s2⟩;exact aJ (ev_v rfl) (k m q H1 hm ml hq hT s2)
end
section
def uc(F:ci K "has_kind" "has_kind" gF f fd)(T:Txt mg aS aA aE aW)(C:CE1 P w K mg QR):aX P w K mg QR cI 2 f fd ["row","kind","side"] vv:=by refine F.ok2 tR ?_;rintro _ _ _ _ H _ Q _ hr hu ⟨z,c,sd,rfl,hc,q⟩;refine⟨_,(aj (aB (g6 K hu (aF C.sign_of hr (az (cv 1) (az (cv 2) pan))) (cv 0)))),?_⟩;show cJ _ _ [oT z,oT (one c),oJ sd] H;exact aJ (K4 (c:=Pc c sd) (aH (aa (ev_v rfl) (aa (ev_v rfl) av)) (λQ q=>⟨c,sd,rfl,hc,q⟩)) (ev_v rfl)) q
def lx{f cB:YC}{fd:Rn}(F:ci K "far_row" "Board.far_row" cM f fd)(T:Txt mg aS aA aE aW)(B:jK K cB):aX P w K mg QR cI 1 f fd ["self","side"] (AW K cB):=by
 refine F.ok2 lj ?_;rintro _ _ _ _ H _ Q _ hr hu ⟨p,wi,hi,hs,sd,rfl,O,q⟩;refine⟨_,(aj (aB (bP (aT K hu (cv 1) ag) (aw (bG K (cv 0)) ag) ag))),?_⟩;show cJ _ _ [oR p,oJ sd] H;refine aJ (lX (aV (dL (ev_v rfl) aq)) (λ_=>iG (aK (ev_v rfl) (O.high B)) aq) (λ_=>aq)) ?_;unfold mh at q
 by_cases h:sd=0
 .rw[QT h];rw[QW h]at q;exact q
 .rw[QU h];rw[QV h]at q;exact q
def v4{f cB:YC}{fd:Rn}(F:ci K "is_home" "is_home" il f fd)(T:Txt mg aS aA aE aW)(B:jK K cB)(C:CE2 P w K mg QR cB):aX P w K mg QR cI 3 f fd ["board","row","kind","side"] (AT K cB):=by
 refine F.ok2 m8 ?_;rintro _ _ _ _ H _ Q _ hr hu ⟨b,row,c,sd,wi,hi,hs,rfl,O,hc,rl,q⟩;have w1:=O.w1;have w8:=O.w8;have h1:=O.h1;have h8:=O.h8;have fb:0<=mh hi sd/\mh hi sd<=8:=by unfold mh;split<;>lia
 refine⟨_,(ae (au 4 m8.nd (aw (iL C.Board_far_row hr (cv 0) (az (cv 3) pan)) (bG K (cv 0))))
  (aj (aB (aF C.has_kind hr (az (DX K (cv 1) (eW (cv 4)) (eW (aw (cv 4) (bG K (cv 0))))) (az (cv 2) (az (cv 3) pan))))))),?_⟩
 show bg _ _ _ [oR b,oT row,oT (one c),oJ sd,none] H;refine aZ (cx (i:=mh hi sd) (j:=wi) (kN (ev_v rfl) O.no (aa (ev_v rfl) av) (λQ q=>⟨b,wi,hi,hs,sd,rfl,O,q⟩)) (aK (ev_v rfl) (O.wide B)) (.inr ⟨by lia,by lia⟩)) ?_;exact aJ (aH (aa (B6 (ev_v rfl) (jP (ev_v rfl)) (jP (cU (ev_v rfl) (aK (ev_v rfl) (O.wide B)))) (by rw[Rf];lia)) (aa (ev_v rfl) (aa (ev_v rfl) av))) (λQ q=>⟨_,c,sd,rfl,hc,q⟩)) q
def zr{f cB:YC}{fd:Rn}(F:ci K "by_end" "by_end" jd f fd)(T:Txt mg aS aA aE aW)(C:CE3 P w K mg QR cB):aX P w K mg QR cI 4 f fd ["board","place","end"] (xx K cB):=by
 refine F.ok2 dz ?_;rintro _ _ _ _ H _ Q _ hr hu ⟨b,p,e,row,en,c,sd,wi,hi,hs,rfl,O,hp,he,hc,rl,q⟩;refine⟨_,(ae (au 3 dz.nd (cX K (cv 1) ag))
  (ae (au 4 dz.nd (cX K (cv 1) ag))
  (ae (au 5 dz.nd (cX K (cv 2) ag))
  (ae (aR (aT K hu (cX K (cv 2) ag) bR) (ae (au 6 dz.nd (wP (aF C.has_kind hr (az (cv 3) (az (cv 5) (az (cv 4) pan))))))
  (aj (au 7 dz.nd (wP (aF C.has_kind hr (az (cv 3) (az (cv 5) (az (aw ag (cv 4)) pan)))))))) (ae (au 6 dz.nd (aF C.is_home hr (az (cv 0) (az (cv 3) (az (cv 5) (az (aw ag (cv 4)) pan))))))
  (aj (au 7 dz.nd (aF C.is_home hr (az (cv 0) (az (cv 3) (az (cv 5) (az (cv 4) pan)))))))))
  (ae (aR (a7 (cv 6)) (aj (aB bR)) aG)
  (aj (aB (bP (a7 (cv 7)) bR cm)))))))),?_⟩
 show bg _ _ _ [oR b,oR p,oR e,none,none,none,none,none] H;refine aZ (aY (x:=.str row) (ev_v rfl) aq (.inr hp) rfl) ?_;refine aZ (aY (x:=.int sd) (ev_v rfl) aq (.inr hp) rfl) ?_;refine aZ (aY (x:=.str (one c)) (ev_v rfl) aq (.inr he) rfl) ?_;refine j7 (λσ' H'=>H'=H/\σ'=[oR b,oR p,oR e,oT row,oJ sd,oT (one c),some (.bl (xN row wi hi sd en c)),some (.bl (C5 row wi hi sd en c))]) ?_ (λgo=>?_)
 rotate_left
 .show bg _ _ _ [oR b,oR p,oR e,oT row,oJ sd,oT (one c),none,none] H;refine JX (aV (hG (aY (x:=.str en) (ev_v rfl) aq (.inr he) rfl) aq)) (λh=>?_) (λh=>?_)
  .have h:=QX h;refine aZ (wx (aH (x:=.bl (kJ row c sd)) (aa (ev_v rfl) (aa (ev_v rfl) (aa (ev_v rfl) av))) (λQ q=>⟨row,c,sd,rfl,hc,q⟩))) (fC (wx (aH (x:=.bl (kJ row c (1 - sd))) (aa (ev_v rfl) (aa (ev_v rfl) (aa (iG aq (ev_v rfl)) av))) (λQ q=>⟨row,c,1 - sd,rfl,hc,q⟩))) ?_);refine go [oR b,oR p,oR e,oT row,oJ sd,oT (one c),some (.bl (!kJ row c sd)),some (.bl (!kJ row c (1 - sd)))] H ⟨rfl,?_⟩;unfold xN C5;rw[QW h,QW h]
  .have h:=QY h;refine aZ (aH (x:=.bl (kJ (ww row wi hi (1 - sd)) c (1 - sd))) (aa (ev_v rfl) (aa (ev_v rfl) (aa (ev_v rfl) (aa (iG aq (ev_v rfl)) av)))) (λQ q=>⟨b,row,c,1 - sd,wi,hi,hs,rfl,O,hc,rl,q⟩)) (fC (aH (x:=.bl (kJ (ww row wi hi sd) c sd)) (aa (ev_v rfl) (aa (ev_v rfl) (aa (ev_v rfl) (aa (ev_v rfl) av)))) (λQ q=>⟨b,row,c,sd,wi,hi,hs,rfl,O,hc,rl,q⟩)) ?_);refine go [oR b,oR p,oR e,oT row,oJ sd,oT (one c),some (.bl (kJ (ww row wi hi (1 - sd)) c (1 - sd))),some (.bl (kJ (ww row wi hi sd) c sd))] H ⟨rfl,?_⟩;unfold xN C5;rw[QV h,QV h]
 rintro _ _ ⟨rfl,rfl⟩;unfold wH at q;refine bz (aV (ev_v rfl)) (λh=>?_) (λh=>?_)
 .rw[QW h]at q;exact aJ aq q
 .rw[QV (by rw[h];decide)]at q;exact aJ (lX (aV (ev_v rfl)) (λ_=>aq) (λ_=>aq)) q
def v7{f cB cG:YC}{fd:Rn}(F:ci K "by_ends" "by_ends" ip f fd)(T:Txt mg aS aA aE aW)(D:uZ K cG)(C:CE4 P w K mg QR cB):aX P w K mg QR cI 5 f fd ["game","place"] (mU K cB cG):=by
 refine F.ok2 jW ?_;rintro _ _ _ _ H _ Q _ hr hu ⟨g,b,kq,p,row,sd,wi,hi,hs,ks,us,ts,es,st,rfl,G,hp,rl,k⟩;obtain⟨qe,fe,he⟩:=G.gm.ends D;refine⟨_,(ae (fu Rr rfl (mB K (bG K (cv 0))) (bY 2 jW.nd) (ae (au 3 jW.nd (aF C.by_end hr (az (bG K (cv 0)) (az (cv 1) (az (cv 2) pan)))))
  (aj (aR (aT K hu (cv 3) cm) (aj (aB (cv 3))) aG))))
  (aj (aB cm))),?_⟩
 show bg _ _ _ [oR g,oR p,none,none] H;refine bD (λσ' H'=>H=H'/\bS (oz row wi hi sd es)=.non/\∃o1 o2,σ'=[oR g,oR p,o1,o2]) (λK' hK=>?_) ?_
 .refine eT (λv H'=>v=.ref qe/\H=H') (λQ z=>(aK (ev_v rfl) fe) _ (z _ _ ⟨rfl,rfl⟩)) ?_;rintro _ _ ⟨rfl,rfl⟩;refine⟨qe,cD es,rfl,aN.of he,λi σ' H'=>H=H'/\(∀z∈es.take i,jJ row wi hi sd z=.non)/\∃o1 o2,σ'=[oR g,oR p,o1,o2],⟨rfl,λ_ z=>(nomatch z),_,_,rfl⟩,?_,?_,?_⟩
  .rintro i σ' H' _ ⟨rfl,_⟩;exact aN.of he
  .rintro i x _ _ hx ⟨rfl,hn,o1,o2,rfl⟩;have hi':i<es.length:=by
    have:=(Vi.mp hx).1
    rwa[U6]at this
   obtain rfl:x=.ref es[i].2:=by rw[Va,U9 hi']at hx;exact(Q0 hx).symm
   have tk:es.take (i+1)=es.take i++[es[i]]:=by rw[Ww hi']
   have dr:es=es.take i++es[i]::es.drop (i+1):=by rw[<-V2 hi',V4]
   have hm:=Vl hi';generalize es[i]=z at tk dr hm;obtain⟨_,c,hc,ec⟩:=G.eg z hm;have ht:=G.et z hm;rw[ec]at ht;have ez:jJ row wi hi sd z=wH row wi hi sd z.1.1 c:=by unfold jJ;rw[ec];rfl
   show bg _ _ _ [oR g,oR p,oR z.2,o2] H;refine aZ (aH (x:=jJ row wi hi sd z) (aa (aK (ev_v rfl) (G.gm.board D)) (aa (ev_v rfl) (aa (ev_v rfl) av))) (λQ q=>⟨b,p,z.2,row,z.1.1,c,sd,wi,hi,hs,rfl,G.bd,hp,cY.of ht,G.ltr c hc,rl,by rw[<-ez];exact q⟩)) ?_;have ff:jJ row wi hi sd z≠.non->bS (oz row wi hi sd es)=jJ row wi hi sd z:=λhne=>by
    unfold oz;rw[dr,Vg,jm]
    .show(if jJ row wi hi sd z=.non then _ else jJ row wi hi sd z)=_;rw[QV hne]
    .intro w hw;obtain⟨y,hy,rfl⟩:=U7.mp hw;exact hn y hy
   refine cQ (aV (ya (ev_v rfl) aq)) (λh=>?_) (λh=>?_)
   .have hne:¬jJ row wi hi sd z=.non:=QY (by rw[<-XA];exact h);refine aJ (ev_v rfl) ?_;rw[ff hne]at k;exact k
   .have hnn:jJ row wi hi sd z=.non:=QX (by rw[XC]at h;exact h);refine⟨rfl,λy hy=>?_,_,_,rfl⟩;rw[tk]at hy
    rcases Vk.mp hy with w|w
    .exact hn y w
    .rw[Vb.mp w];exact hnn
  .rintro σ' H' ⟨rfl,hn,o⟩;rw[U6,VG]at hn;refine hK _ _ ⟨rfl,?_,o⟩;have z:=jm (a:=oz row wi hi sd es) (b:=[]) λw hw=>by obtain⟨y,hy,rfl⟩:=U7.mp hw;exact hn y hy
   rw[Vx]at z;exact z
 .rintro _ _ ⟨rfl,hn,o1,o2,rfl⟩;rw[hn]at k;exact aJ aq k
def zq{f cB cG:YC}{fd:Rn}(F:ci K "ending" "ending" jc f fd)(T:Txt mg aS aA aE aW)(D:uZ K cG)(C:CE5 P w K mg QR cB cG):aX P w K mg QR cI 7 f fd ["game","place"] (mT K cB cG):=by
 refine F.ok2 pB ?_;rintro _ _ _ s H _ Q _ hr hu ⟨g,b,kq,p,row,sd,wi,hi,hs,ks,us,ts,es,st,rfl,G,hp,R,rl,sd2,k⟩;refine⟨_,(ae (au 2 pB.nd (aF C.by_ends hr (az (cv 0) (az (cv 1) pan))))
  (ae (aR (PW.pt (gI (aT K hu (cv 2) cm) (eK (bA (N8 K (aF C.moves hr (az (cv 0) (az (cv 1) pan)))))))) (aj (aB (bG K (cv 0)))) aG)
  (aj (aB (cv 2))))),?_⟩
 show bg _ _ _ [oR g,oR p,none] H;refine aZ (aH (x:=bS (oz row wi hi sd es)) (aa (ev_v rfl) (aa (ev_v rfl) av)) (λQ q=>⟨g,b,kq,p,row,sd,wi,hi,hs,ks,us,ts,es,st,rfl,G,hp,R.len,q⟩)) ?_;show bg _ _ _ [oR g,oR p,some (bS (oz row wi hi sd es))] H
 by_cases e:bS (oz row wi hi sd es)=.non
 .refine cP (λt H'=>(∃m:List (List Int),mI wi hi hs row us sd (sqsOf row sd) m/\t=decide (m=[]))/\ah H H') (λR' z=>qm ((aV (B9 (ev_v rfl) aq)) _ (Of (QT e) (JQ (II (cR (aa (ev_v rfl) (aa (ev_v rfl) av)) ⟨g,b,kq,p,row,sd,wi,hi,hs,ks,us,ts,es,st,rfl,G,hp,R,rl,λm q H' hm ml hq hT s=>?_⟩)))))) (λH' h=>?_) (λH' h=>?_)
  .obtain⟨ps,p1,p2,p3⟩:=hT;refine⟨_,.inl ⟨_,aN.of p2,rfl⟩,z _ _ ⟨⟨m,hm,?_⟩,s⟩⟩;rw[<-p1];cases ps<;>rfl
  .obtain⟨⟨m,hm,hb⟩,s⟩:=h;refine aJ (aK (ev_v rfl) ((G.same s).gm.stuck D)) (k _ _ ⟨λz=>QZ e z,λ_=>⟨m,hm,?_⟩⟩ s);rw[QW (QX hb.symm)]
  .obtain⟨⟨m,hm,hb⟩,s⟩:=h;refine aJ (ev_v rfl) (k _ _ ⟨λz=>QZ e z,λ_=>⟨m,hm,?_⟩⟩ s);rw[QV (QY hb.symm)];exact e
 .refine cP (λt H'=>t=false/\H'=H) (λR' z=>qm ((aV (B9 (ev_v rfl) aq)) _ (Og (QU e) (z _ _ ⟨rfl,rfl⟩)))) (λH' h=>nomatch h.1) (λH' h=>?_);obtain⟨_,rfl⟩:=h;exact aJ (ev_v rfl) (k _ _ ⟨λ_=>rfl,λz=>QZ z e⟩ (ah.refl _))
end
section
def Kv(F:ci K "put" "put" tT f fd)(T:Txt mg aS aA aE aW):aX P w K mg QR cI 1 f fd ["row","square","sign"] IM:=by
 refine F.ok2 J5 ?_;rintro _ _ _ _ H _ Q _ hr hu ⟨row,sq,c,rfl,s0,hz,q⟩;have z1:row.length<=v1:=WU hz (by decide);have l1:=oh row none (some sq);have l2:=oh row (some (sq+1)) none;have l3:(j1 row none (some sq)++one c).length=(j1 row none (some sq)).length+1:=by rw[dO,qw,Ve,<-dO];rfl
 refine⟨_,(aj (aB (aw (aw (DX K (cv 0) iD (eW (cv 1))) (cv 2)) (DX K (cv 0) (eW (aw (cv 1) ag)) iD)))),?_⟩;show cJ _ _ [oT row,oJ sq,oT (one c)] H;refine aJ (yf (yf (B6 (ev_v rfl) pD (jP (ev_v rfl)) z1) (ev_v rfl) ?_) (B6 (ev_v rfl) (jP (cU (ev_v rfl) aq)) pD z1) ?_) q
 .show _+1<=v1;rw[Rf];lia
 .rw[l3,Rf];lia
def nA(F:ci K "turned" "Game.turned" dm f fd)(T:Txt mg aS aA aE aW)(D:uZ K cG):aX P w K mg QR cI 1 f fd ["self","kind"] (tD cG):=by refine F.ok2 na ?_;rintro _ _ _ s H _ Q _ hr hu ⟨g,b,kd,ks,rs,es,ts,st,rfl,G,hp,h6,k⟩;obtain⟨qt,ft,ht⟩:=G.turns D;refine⟨_,(aj (aB (Ob K (xS (KM K hr) EB T.dict (az (bG K (cv 0)) pan)) (az (cv 1) (az (cv 1) pan))))),?_⟩;show cJ _ _ [oR g,oT kd] H;exact eJ (La (aK (ev_v rfl) ft) (aN.of ht) hp (by lia) (λH' s=>aa (ev_v rfl) (aa (ev_v rfl) av)) k)
def v8{f cB cG:YC}{fd:Rn}(F:ci K "arrived" "arrived" iq f fd)(T:Txt mg aS aA aE aW)(B:jK K cB)(D:uZ K cG)(C:CD1 P w K mg QR cB cG):aX P w K mg QR cI 2 f fd ["game","sign","side","goal"] (IS K cB cG):=by
 refine F.ok2 vI ?_;rintro _ _ _ _ H _ Q _ hr hu ⟨g,b,kq,c,sd,gl,wi,hi,hs,ks,us,ts,es,st,rfl,G,hc,k⟩;have w1:=G.bd.w1;have w8:=G.bd.w8;obtain⟨lk,c128,cn⟩:=pO G.ltr hc;refine⟨_,(ae (aR (aT K hu (aF C.row_of hr (az (bG K (bG K (cv 0))) (az (cv 3) pan))) (iL C.Board_far_row hr (bG K (cv 0)) (az (cv 2) pan))) (aj (aB (cv 1))) aG)
  (aj (aB (aF C.sign_of hr (az (iL C.Game_turned hr (cv 0) (az (aF C.kind_of hr (az (cv 1) pan)) pan)) (az (cv 2) pan)))))),?_⟩
 show bg _ _ _ [oR g,oT (one c),oJ sd,oJ gl] H;have fb:=G.gm.board D;unfold sM at k;refine bz (aV (nX (aH (x:=.int (gl / wi)) (aa (aK (aK (ev_v rfl) fb) (G.bd.wide B)) (aa (ev_v rfl) av)) (λQ q=>⟨wi,gl,rfl,by lia,by lia,q⟩)) (kN (x:=.int (mh hi sd)) (aK (ev_v rfl) fb) G.bd.no (aa (ev_v rfl) av) (λQ q=>⟨b,wi,hi,hs,sd,rfl,G.bd,q⟩)))) (λh=>?_) (λh=>?_)
 .have h:¬gl / wi=mh hi sd:=QY (by rw[<-XA];exact h);rw[QV h]at k;exact aJ (ev_v rfl) (k _ (ah.refl H))
 .have h:gl / wi=mh hi sd:=QX (by rw[XC]at h;exact h);rw[QW h]at k;obtain⟨c',hc',et⟩:=xg G.tg lk;rw[et]at k;have ek:lV c=.str (one (PyProof.Rows.lo1 c)):=by unfold lV;rw[QV cn]
  refine eJ (Lg (cu (DU (ev_v rfl) G.gm.no (cu (cR (aa (ev_v rfl) av) ⟨c,rfl,c128,λH1 s1=>?_⟩)))));rw[ek];refine cN ⟨g,b,one (PyProof.Rows.lo1 c),ks.map strV,rRefs us,cD es,ts,st,rfl,(G.same s1).gm,(G.same s1).tt,G.tg.len,λH2 s2=>?_⟩;rw[et];exact bI (ev_v rfl) (cN ⟨c',sd,rfl,G.ltr c' hc',k _ (s1.trans s2)⟩)
def zt{f cB cG:YC}{fd:Rn}(F:ci K "behind" "behind" je f fd)(T:Txt mg aS aA aE aW)(C:CD2 P w K mg QR cB cG):aX P w K mg QR cI 3 f fd ["game","place","move"] (tJ K cB cG):=by
 refine F.ok2 dA ?_;rintro _ _ _ s H _ Q _ hr hu ⟨g,b,kq,p,mv,row,sd,s,gl,t,wi,hi,hs,ks,us,ts,es,st,rfl,G,hp,hm,R,s0,s1,hsd,g0,g1,ht,k⟩;have mm:=G.bd.many;have rl:=R.len;have RG:=R.g G.ltr mm.2;have r64:=RG.len;obtain⟨x1,x2⟩:=RG.toRowS.at s0 s1;have cc:row.cps.toList.getD s.toNat 0∈ks\/row.cps.toList.getD s.toNat 0∈ks.map (· - 32):=by
  have hlt:s.toNat<row.cps.toList.length:=by have:row.length=row.cps.toList.length:=rfl;lia
  have e:row.cps.toList[s.toNat]? =some (row.cps.toList.getD s.toNat 0):=by rw[Vh,U9 hlt];rfl
  have n:=R.at_ _ _ e;have hsd:dc (row.cps.toList.getD s.toNat 0)=.int sd:=hsd
  rcases gR n with⟨_,h⟩|⟨_,h|h⟩
  .rw[h]at hsd;cases hsd
  .rw[h]at hsd;cases hsd
  .exact h
 refine⟨_,(ae (au 3 dA.nd (cX K (cv 1) ag))
  (ae (au 4 dA.nd (cX K (cv 2) ag))
  (ae (au 5 dA.nd (cX K (cv 2) ag))
  (ae (au 6 dA.nd (cX K (cv 2) ag))
  (ae (au 7 dA.nd (aF C.arrived hr (az (cv 0) (az (cX K (cX K (cv 1) ag) (cv 4)) (az (cv 3) (az (cv 5) pan))))))
  (ae (au 8 dA.nd (aF C.put hr (az (cX K (cv 1) ag) (az (cv 4) (az (kg T.EMPTY) pan)))))
  (ae (aR (aT K hu (cv 6) (kg T.NOTHING)) (aj (au 8 dA.nd (aF C.put hr (az (cv 8) (az (cv 6) (az (kg T.EMPTY) pan)))))) aG)
  (aj (aB (ck (az (aF C.put hr (az (cv 8) (az (cv 5) (az (cv 7) pan)))) (az (aw ag (cv 3)) pan)))))))))))),?_⟩
 show bg _ _ _ [oR g,oR p,oR mv,none,none,none,none,none,none] H;refine aZ (aY (x:=.int sd) (ev_v rfl) aq (.inr hp) rfl) ?_;refine aZ (aY (x:=.int s) (ev_v rfl) aq (.inr hm) rfl) ?_;refine aZ (aY (x:=.int gl) (ev_v rfl) aq (.inr hm) rfl) ?_;refine aZ (aY (x:=.int t) (ev_v rfl) aq (.inr hm) rfl) ?_;refine bu (λv H'=>v=.str (one (sM ts wi hi (row.cps.toList.getD s.toNat 0) sd gl))/\ah H H') (λQ q=>?_) ?_
 .exact cR (aa (ev_v rfl) (aa (jo (aY (x:=.str row) (ev_v rfl) aq (.inr hp) rfl) (ev_v rfl) (by rw[Rf];lia) x1) (aa (ev_v rfl) (aa (ev_v rfl) av)))) ⟨g,b,kq,_,sd,gl,wi,hi,hs,ks,us,ts,es,st,rfl,G,cc,λH' s=>q _ _ ⟨rfl,s⟩⟩
 rintro _ H1 ⟨rfl,s1'⟩;refine aZ (aH (x:=.str (fZ row s (one 46))) (aa (aY (x:=.str row) (ev_v rfl) aq (.inr (s1'.tupY hp)) rfl) (aa (ev_v rfl) (aa (B7 aq) av))) (λQ q=>⟨row,s,46,rfl,s0,by lia,q⟩)) ?_;have l1:=iu (c:=46) s0 s1;refine j7 (λσ' H'=>H'=H1/\σ'=[oR g,oR p,oR mv,oJ sd,oJ s,oJ gl,oJ t,oT (one (sM ts wi hi (row.cps.toList.getD s.toNat 0) sd gl)),oT (if t= -1 then fZ row s (one 46)else fZ (fZ row s (one 46)) t (one 46))]) ?_ (λgo=>?_)
 rotate_left
 .refine bz (aV (nX (ev_v rfl) aq)) (λh=>?_) (λh=>?_)
  .have h:¬t= -1:=QY (by rw[<-XA];exact h);refine fC (aH (x:=.str (fZ (fZ row s (one 46)) t (one 46))) (aa (ev_v rfl) (aa (ev_v rfl) (aa (B7 aq) av))) (λQ q=>⟨_,t,46,rfl,by lia,by rw[l1];lia,q⟩)) ?_;refine go [oR g,oR p,oR mv,oJ sd,oJ s,oJ gl,oJ t,oT (one (sM ts wi hi (row.cps.toList.getD s.toNat 0) sd gl)),oT (fZ (fZ row s (one 46)) t (one 46))] H1 ⟨rfl,?_⟩;rw[QV h]
  .have h:t= -1:=QX (by rw[XC]at h;exact h);refine go [oR g,oR p,oR mv,oJ sd,oJ s,oJ gl,oJ t,oT (one (sM ts wi hi (row.cps.toList.getD s.toNat 0) sd gl)),oT (fZ row s (one 46))] H1 ⟨rfl,?_⟩;rw[QW h]
 rintro _ _ ⟨rfl,rfl⟩;have l2:(if t= -1 then fZ row s (one 46)else fZ (fZ row s (one 46)) t (one 46)).length=row.length:=by
  split
  .exact l1
  .rw[iu (by lia) (by rw[l1];lia),l1]
 refine eJ (iX (aH (x:=.str (uR ts wi hi row sd s gl t)) (aa (ev_v rfl) (aa (ev_v rfl) (aa (ev_v rfl) av))) (λQ q=>⟨_,gl,_,rfl,g0,by rw[l2];lia,q⟩)) (iG aq (ev_v rfl)) λq hq=>k q _ (s1'.free hq) af (s1'.upd hq))
end
section
def re{f cB cG:YC}{fd:Rn}(F:ci K "followers" "followers" dB f fd)(T:Txt mg aS aA aE aW)(C:CD3 P w K mg QR cB cG):aX P w K mg QR cI 7 f fd ["game","place"] (vw K cB cG):=by
 refine F.ok2 qJ ?_;rintro _ _ _ s H _ Q _ hr hu ⟨g,b,kq,p,row,sd,wi,hi,hs,ks,us,ts,es,st,rfl,G,hp,R,sd2,k⟩;have mm:=G.bd.many;have rlen:=R.len;have RG:=R.g G.ltr mm.2;have rl:(row.length:Int)=wi*hi:=by rw[rlen];lia
 refine⟨_,(ae (aR (aT K hu (aF C.by_ends hr (az (cv 0) (az (cv 1) pan))) cm) (aj (aB (bp pan))) aG)
  (aj (aB (eQ (cz (N:=["move","game","place"]) (src:=[none,some 0,some 1]) (am dB) ["game","place"]) (mB K (aF C.moves hr (az (cv 0) (az (cv 1) pan)))) (λ_ _ _=>(bj (i:=0) ["move","game","place"])) (λ_ _ _=>bO) (λ_ _ _=>(aF C.behind hr (az (cv 1) (az (cv 2) (az (cv 0) pan))))))))),?_⟩
 show bg _ _ _ [oR g,oR p] H;refine bz (aV (ya (aH (x:=bS (oz row wi hi sd es)) (aa (ev_v rfl) (aa (ev_v rfl) av)) (λQ q=>⟨g,b,kq,p,row,sd,wi,hi,hs,ks,us,ts,es,st,rfl,G,hp,RG.len,q⟩)) aq)) (λh=>?_) (λh=>?_)
 .have hne:¬bS (oz row wi hi sd es)=.non:=QY (by rw[<-XA];exact h);exact eJ (gV (cN ⟨WT _,λq hq=>k [] q _ (.inl ⟨hne,rfl⟩) hq ⟨[],rfl,af,λ_ z=>nomatch z⟩ ((ah.refl H).upd hq)⟩))
 .have hnn:bS (oz row wi hi sd es)=.non:=QX (by rw[XC]at h;exact h);refine eJ (yp (aa (ev_v rfl) (aa (ev_v rfl) av)) ⟨g,b,kq,p,row,sd,wi,hi,hs,ks,us,ts,es,st,rfl,G,hp,RG,rl,λm q H1 hm ml hq hT s1=>?_⟩);obtain⟨ps,p1,p2,p3⟩:=hT;have y1:=Q2 List.length p1;rw[U6]at y1;have okm:=hm.ok G.bd.w1 (λs hs=>jy hs);refine⟨q,rfl,⟨_,aN.of p2⟩,sU (rest:=[oR g,oR p]) p2 (by rw[U6,Rf];lia) rfl (λj H' v=>∃x t,m[j]? =some x/\v=.ref t/\H t=none/\H' t=some (.tup [.str (EI ts wi hi row sd x).1,.int (EI ts wi hi row sd x).2])) (λi H H' v h s=>?_) (λi x H' hx s' Q' q'=>?_) (λd' H' ys s' hd hl hy=>?_)⟩
  .obtain⟨x,t,a1,a2,a3,a4⟩:=h;exact⟨x,t,a1,a2,a3,s _ _ a4⟩
  .have hi':i<ps.length:=by
    have:=(Vi.mp hx).1
    rwa[U6]at this
   rw[Va,U9 hi']at hx;obtain rfl:V.ref ps[i].2=x:=Q0 hx;have hm':=Vl hi';have mi:m[i]? =some ps[i].1:=by rw[<-p1,Va,U9 hi'];rfl
   generalize ps[i]=z at hm' mi;obtain⟨s,gl,t,ek,ok⟩:=okm z.1 (Vn mi);have ht:=s' _ _ (p3 z hm').2;rw[ek]at ht;have s1':=s1.trans s';refine cR (aa (ev_v rfl) (aa (ev_v rfl) (aa (ev_v rfl) av))) ⟨g,b,kq,p,z.2,row,sd,s,gl,t,wi,hi,hs,ks,us,ts,es,st,rfl,G.same s1',s1'.tupY hp,cY.of ht,R,ok.s0,ok.s1,ok.sd,ok.g0,by have:=ok.g1;lia,?_,λr H2 hr h2 s2=>q' _ _ ⟨z.1,r,mi,rfl,s1'.free hr,?_⟩ s2⟩
   .rcases ok.tk with e|⟨t0,t1,_⟩
    .exact .inl e
    .exact .inr ⟨t0,by lia⟩
   .rw[ek];exact h2
  .obtain⟨ps2,rfl,e1,e2⟩:=Bg (EI ts wi hi row sd) m ys (by rw[hl,U6];exact y1) hy;have sF:=s1.trans s';refine k _ d' _ (.inr ⟨hnn,m,hm,ml,rfl⟩) (sF.free hd) ⟨ps2,e1,af,λp hp=>⟨(e2 p hp).1,?_⟩⟩ (sF.upd hd);rw[ak (ay (e2 p hp).2 hd)];exact(e2 p hp).2
end
section
def rJ{f cB:YC}{fd:Rn}(F:ci K "has" "Board.has" fP f fd)(T:Txt mg aS aA aE aW)(B:jK K cB)(C:CA P w K mg QR):aX P w K mg QR cI 3 f fd ["self","square"] (IN K cB):=by
 refine F.ok2 qT ?_;rintro _ _ _ _ H _ Q _ hr hu ⟨p,wi,hi,hs,sq,rfl,O,k⟩;obtain⟨pf,ff,hf⟩:=O.firm B;have mm:=O.many;have hl:(((firmL wi hi hs).map V.bl).length:Int)=wi*hi:=by rw[U6,uy];lia
 refine⟨_,(aj (aB (cH (aF C.is_among hr (az (cv 1) (az ag (az (aw (kB (fv K) bB T.len (az (bG K (cv 0)) pan)) ag) pan)))) (dh (cX K (bG K (cv 0)) (cv 1)))))),?_⟩;show cJ _ _ [oR p,oJ sq] H;refine aJ (cy (b:= !decide (sq∈hs)) (aH (aa (ev_v rfl) (aa aq (aa (iG (cq (aK (ev_v rfl) ff) (.inl (aN.of hf))) aq) av))) (λQ q=>⟨sq,0,_,rfl,q⟩)) (λh=>?_)) ?_
 .have h:=QX h;rw[hl]at h;exact aY (aK (ev_v rfl) ff) (ev_v rfl) (.inl (aN.of hf)) (x9 h.1 (by lia))
 .rw[hl];have e:(decide (0<=sq/\sq<=wi*hi - 1)&& !decide (sq∈hs))=decide (0<=sq/\sq<wi*hi/\¬sq∈hs):=by
   rw[Xy];simp only[Xx,decide_eq_true_eq,XA,decide_eq_false_iff_not]
   constructor
   .rintro⟨⟨a,b⟩,c⟩;exact⟨a,by lia,c⟩
   .rintro⟨a,b,c⟩;exact⟨⟨a,by lia⟩,c⟩
  show Q (.bl (decide (0<=sq/\sq<=wi*hi - 1)&& !decide (sq∈hs))) H;rw[e];exact k
def rf{f cB:YC}{fd:Rn}(F:ci K "empty_row" "empty_row" dC f fd)(T:Txt mg aS aA aE aW)(B:jK K cB)(C:CP2 P w K mg QR cB):aX P w K mg QR cI 4 f fd ["board"] (xw K cB):=by
 refine F.ok2 qK ?_;rintro _ _ _ s H _ Q _ hr hu ⟨p,wi,hi,hs,rfl,O,k⟩;have mm:=O.many;have fw:=O.wide B;have fh:=O.high B;have w8:=O.w8;have w1:=O.w1;refine⟨_,(aj (aB (ksm PySem.F.slot_str_join PySem.F.type_str_join (Jh K) bR (az (eQ (cz (N:=["square","board"]) (src:=[none,some 0]) (am dC) ["board"]) (LC T.range (az (aw (bG K (cv 0)) (bG K (cv 0))) pan)) (λ_ _ _=>(bj (i:=0) ["square","board"])) (λ_ _ _=>bO) (λ_ _ _=>(bP (a7 (iL C.Board_has hr (cv 1) (az (cv 0) pan))) (kg T.EMPTY) (kg T.HOLE)))) pan)))),?_⟩;show cJ _ _ [oR p] H;refine NO aq ?_;refine uH (n:=wi*hi) (rest:=[oR p]) (aa (cx (aK (ev_v rfl) fw) (aK (ev_v rfl) fh) (.inl ⟨by lia,by lia⟩)) av) (by lia) (by rw[Rf];lia) (by lia) rfl (λ_=>true)
  (λx=>match x with| .int i=>if i∈hs then .str (one 35)else .str (one 46)|_=>.non) (λi hi=>fB) (λi hi' _=>?_) (λd hd=>?_)
 .have e:(if decide (0<=0+(i:Int)/\0+(i:Int)<wi*hi/\¬(0+(i:Int))∈hs)=true then V.str (one 46)else V.str (one 35))=(if 0+(i:Int)∈hs then V.str (one 35)else V.str (one 46)):=by
   by_cases m:0+(i:Int)∈hs
   .rw[QW m,QV (by rw[decide_eq_true_eq];exact λz=>z.2.2 m)]
   .rw[QV m,QW (by rw[decide_eq_true_eq];exact⟨by lia,by lia,m⟩)]
  show Ev _ _ _ (if 0+(i:Int)∈hs then V.str (one 35)else V.str (one 46));rw[<-e];exact lX (aV (kN (p:=p) (ev_v rfl) O.no (aa (ev_v rfl) av) (λQ q=>⟨p,wi,hi,hs,_,rfl,O,q⟩))) (λ_=>wD) (λ_=>rS)
 .have e:(((List.range (wi*hi).toNat).map λ(i:Nat)=>V.int (0+(i:Int))).filter λ_=>true).map (λx=>match x with| .int i=>if i∈hs then V.str (one 35)else V.str (one 46)|_=>.non)=(((List.range (wi*hi).toNat).map λ(s:Nat)=>if(s:Int)∈hs then 35 else 46).map one).map V.str:=by rw[Vy.mpr (λ_ _=>rfl),Vj,Vj,Vj];refine VD λi _=>?_;show(if 0+(i:Int)∈hs then V.str (one 35)else V.str (one 46))=V.str (one (if(i:Int)∈hs then 35 else 46));rw[Xs];split<;>rfl
  rw[e];show nO K (.str "") [.ref d] _ Q;rw[A5];refine⟨_,aN.of af,?_,?_⟩
  .rw[Vj];have es:∀l:List Nat,(l.map ((λx:Str=>x.length)∘one)).sum=l.length:=λl=>by
    induction l with
    |nil=>rfl
    |cons a r ih=>rw[Vm,Wu,ih,Vp];show 1+r.length=_;lia
   have ez:("":Str).length=0:=by decide+kernel
   rw[es,ez,U6,Vu];lia
  .rw[pR];exact k _ ((ah.refl H).upd hd)
def zp{f cB cG:YC}{fd:Rn}(F:ci K "is_row" "is_row" gC f fd)(T:Txt mg aS aA aE aW)(B:jK K cB)(D:uZ K cG)(C:CR1 P w K mg QR cB):aX P w K mg QR cI 5 f fd ["game","thing"] (vo K cB cG):=by
 refine F.ok2 lf ?_;rintro _ _ _ s H _ Q _ hr hu ⟨g,b,v,wi,hi,hs,ks,rs,ts,es,st,rfl,G,O,hl,h6,t,q⟩;refine⟨_,(ae (au 2 lf.nd (aF C.empty_row hr (az (bG K (cv 0)) pan)))
  (ae (aR (PW.pt (gH (bA (a7 (wm .str T.isinstance T.str wY (cv 1)))) (fo (aT K hu (kB (fv K) bB T.len (az (cv 1) pan)) (kB (fv K) bB T.len (az (cv 2) pan)))))) (aj (aB eO)) aG)
  (ae (au 3 lf.nd (aw (aw (bp (az (kg T.EMPTY) pan)) (bG K (cv 0))) (eQ (cz (N:=["kind"]) (src:=[none]) (am gC) ["game","thing","bare","signs"]) (mB K (bG K (cv 0))) (λ_ _ _=>(bj (i:=0) ["kind"])) (λ_ _ _=>bO) (λ_ _ _=>(aF C.sign_of hr (az (cv 0) (az ag pan)))))))
  (aj (aB (kB (zL K) lJ T.all (az (eQ (cz (N:=["sign","under","signs"]) (src:=[none,none,some 3]) (am gC) ["game","thing","bare","signs"]) (Qj T.zip (az (cv 1) (az (cv 2) pan))) (λ_ _ _=>(Ph K (n:=2) (fR (bj (i:=0) ["sign","under","signs"]) (fR (bj (i:=1) ["sign","under","signs"]) mz)))) (λ_ _ _=>bO) (λ_ _ _=>(bP (aT K hu (cv 1) (kg T.HOLE)) (g6 K hu (cv 0) (kg T.HOLE)) (g6 K hu (cv 0) (cv 2))))) pan))))))),?_⟩
 show bg _ _ _ [oR g,some v,none,none] H;have mm:=O.many;refine bu (λu H'=>u=.str (emptyT wi hi hs)/\ah H H') (λQ q=>cR (aa (aK (ev_v rfl) (G.board D)) av) ⟨b,wi,hi,hs,rfl,O,λH' s=>q _ _ ⟨rfl,s⟩⟩) ?_;rintro _ H1 ⟨rfl,s1⟩;have t1:=t.same s1;have hel:(emptyT wi hi hs).length<=64:=by rw[og];lia
 have hs0:=n9 (T:=.str) (te:=eZ 1) (σ:=[oR g,some v,oT (emptyT wi hi hs),none]) (ev_v rfl) t1;rw[vj t1]at hs0;cases v with
 |str z=>
  have hz:z.length<=1000:=t;refine bz (hV (bZ (aV hs0)) (λ_=>aV (nX (rR (ev_v rfl) (WU hz (by decide))) (rR (ev_v rfl) (WU hel (by decide)))))) (λh=>?_) (λh=>?_)
  .have hne:¬z.length=(emptyT wi hi hs).length:=λe=>by rw[e]at h;simp at h
   have k:=q H1 s1;have e:rowB wi hi hs ks (.str z)=false:=by unfold rowB;dsimp only;rw[QU hne];rfl
   rw[e]at k;exact aJ aq k
  .have heq:z.length=(emptyT wi hi hs).length:=by
    have h:(!decide ((z.length:Int)=(emptyT wi hi hs).length))=false:=h;have:((z.length:Int)=(emptyT wi hi hs).length):=QX (by cases hd:decide ((z.length:Int)=(emptyT wi hi hs).length)with|true=>rfl|false=>rw[hd]at h;cases h)
    lia
   obtain⟨kq,fk,hkq⟩:=(G.same s1).kinds D;refine bu (λu H'=>∃sq,u=.ref sq/\H' sq=some (.lst (([46]++ks++ks.map (· - 32)).map strV))/\ah H1 H') (λQ q=>?_) ?_
   .refine Jw (Jw (gV (bI aq (cN ⟨by show 1<=v1;decide,λp hp=>?_⟩))));have s2:=(ah.refl H1).upd (o:=.lst [.str "."]) hp;obtain⟨kq2,fk2,hkq2⟩:=((G.same s1).same s2).kinds D;refine ow (aK (ev_v rfl) fk2) (yr af hkq2 (by rw[U6];show 1+ks.length<=1000;lia) (λp2 hp2=>?_));have s3:=s2.upd (o:=.lst ([.str "."]++ks.map strV)) hp2;obtain⟨kq3,fk3,hkq3⟩:=((G.same s1).same s3).kinds D;refine fF (d:=kq3) (xs:=ks.map strV) (rest:=[]) (aK (ev_v rfl) fk3) (aN.of hkq3) (by rw[U6,Rf];lia) rfl (λ_=>true) upV (λx hx=>fB) (λx hx _=>?_) (λp3 hp3=>?_)
    .obtain⟨k,hk,rfl⟩:=U7.mp hx;exact aH (sp:=mQ) (aa (ev_v rfl) (aa aq av)) (λQ q=>⟨k,0,rfl,hl k hk,by rw[QW rfl];exact q⟩)
    .refine yr (by rw[ak (ay af hp3),af]) af ?_ (λp4 hp4=>q _ _ ⟨p4,rfl,?_,(s3.upd hp3).upd hp4⟩)
     .rw[Ve,U6,Vy.mpr (λ_ _=>rfl),U6,U6];show 1+ks.length+ks.length<=1000;lia
     .rw[af,Vy.mpr (λ_ _=>rfl),Vj,Vg,Vg,Vj,Er];rfl
   rintro _ H2 ⟨sq,rfl,hsq,s2⟩;show cJ _ _ [oR g,oT z,oT (emptyT wi hi hs),oR sq] H2;have hws:∀H',ah H2 H'->aN K H' sq ((([46]++ks++ks.map (· - 32)).map one).map V.str):=λH' s=>by rw[Vj];exact aN.of (s _ _ hsq)
   refine zY (rest:=[oR sq]) (aa (ev_v rfl) (aa (ev_v rfl) av)) heq hz rfl (λc e=>.bl (iM ks c e)) (λi c e H' hc he s'=>?_) (λH' dq s' hd=>?_)
   .refine λQ q=>ow (lX (aV (hG (ev_v rfl) aq)) (λ_=>hG (ev_v rfl) aq) (λ_=>wB (ev_v rfl) (ev_v rfl) (.inl (hws H' s')))) ?_;unfold iM at q;rw[uw,rV (q9 (a:=e) (b:=35)),rV (q9 (a:=c) (b:=35))]
    by_cases h35:e=35
    .rw[QW h35]at q;rw[QT h35];exact q
    .rw[QV h35]at q;rw[QU h35];rw[rV (p:=one c∈List.map one ([46]++ks++ks.map (· - 32))) (q:=c=46\/c∈ks\/c∈ks.map (· - 32))]
     .exact q
     .constructor
      .intro h;obtain⟨c',h1,h2⟩:=U7.mp h;have e2:=q9.mp h2;subst e2;simpa[or_assoc]using h1
      .intro h;exact U7.mpr ⟨c,by simpa[or_assoc]using h,rfl⟩
   .refine⟨List.zipWith (iM ks) z.cps.toList (emptyT wi hi hs).cps.toList,?_,?_⟩
    .rw[List.map_zipWith];exact aN.of af
    .have k:=q _ (((s1.trans s2).trans s').upd (o:=.lst (List.zipWith (λc e=>V.bl (iM ks c e)) z.cps.toList (emptyT wi hi hs).cps.toList)) hd);unfold rowB at k;dsimp only at k;rw[QT heq,XB]at k;exact k
 |_=>
  refine bz (hV (b:=false) (bZ (aV hs0)) (λh=>by cases h)) (λ_=>aJ aq (q H1 s1)) (λh=>by cases h)
def ua{f cB cG:YC}{fd:Rn}(F:ci K "is_place" "is_place" gD f fd)(T:Txt mg aS aA aE aW)(C:CR2 P w K mg QR cB cG):aX P w K mg QR cI 6 f fd ["game","thing"] (mS K cB cG):=by
 refine F.ok2 tP ?_;rintro _ _ _ _ H _ Q _ hr hu ⟨g,b,v,wi,hi,hs,ks,rs,ts,es,st,rfl,G,O,hl,h6,t,q⟩;refine⟨_,(aj (aB (cH (aF C.is_tuple_of hr (az (cv 1) (az ag pan))) (cH (aF C.is_row hr (az (cv 0) (az (cX K (cv 1) ag) pan))) (dh (aF C.is_among hr (az (cX K (cv 1) ag) (az ag (az ag pan))))))))),?_⟩;show cJ _ _ [oR g,some v] H;refine w6 (a:=tupB H v 2) (aH (sp:=i7) (aa (ev_v rfl) (aa aq av)) (λQ q=>⟨v,2,rfl,t.thg,q⟩)) (λh=>?_) (λh=>?_)
 .unfold tupB at h;cases e1:tupOf H v with
  |none=>rw[e1]at h;cases h
  |some xs=>
   rw[e1]at h;obtain⟨a,rfl,ha⟩:=gv e1;have h:(xs.length:Int)=2:=QX h;have tx:=t.2 xs (.inl e1)
   match xs,h,e1,ha,tx,q with
   | [x,y],_,e1,ha,tx,q=>
     refine cR (sp:=vo K cB cG) (aa (ev_v rfl) (aa (aY (ev_v rfl) aq (.inr (cY.of ha)) (bx (j:=0) rfl)) av)) ⟨g,b,x,wi,hi,hs,ks,rs,ts,es,st,rfl,G,O,hl,h6,tx x (by simp),λH' s'=>?_⟩;have k:=q H' s';rw[jX e1]at k;cases hr2:rowB wi hi hs ks x with
     |false=>
      rw[hr2]at k;exact k
     |true=>
      rw[hr2,XB]at k;simp only[cV,if_true];exact cR (sp:=i8) (aa (aY (ev_v rfl) aq (.inr (cY.of (s' _ _ ha))) (bx (j:=1) rfl)) (aa aq (aa aq av))) ⟨y,0,1,rfl,(tx y (by simp)).thg.same s',k⟩
 .have k:=q H (ah.refl H);rw[za h]at k;exact k
end
section
def oU(F:ci K "gather" "Web.gather" ef f fd)(T:Txt mg aS aA aE aW)(D:u7 K cW):aX P w K mg QR cI 1 f fd ["self","found","most"] (AV cW):=by
 refine F.ok2 jL ?_;rintro _ _ _ _ H _ Q _ hr hu ⟨x,g,dx,lp,dn,lw,lo,d,zs,fs,ws,os,n,rfl,W,hd,fk,nd,gl,n1,q⟩;refine⟨_,(aj (fu Rr rfl (mB K (cv 1)) (bY 3 jL.nd) (aj (aR (KD hu (cv 3) (bG K (cv 0))) (ae (aR (aT K hu (kB (fv K) bB T.len (az (bG K (cv 0)) pan)) (cv 2)) (aj eM) aG)
  (ae (Od hu (bG K (cv 0)) (cv 3) (kB (fv K) bB T.len (az (bG K (cv 0)) pan)))
  (aj (bK (dw (bG K (cv 0)) (cv 3)))))) aG)))),?_⟩
 have ndn:d≠dn:=λe=>by rw[e,W.nb]at hd;cases hd
 refine eT (λv H'=>v=.ref d/\H=H') (λQ k=>ow (v:=.ref d) (ev_v rfl) (k _ _ ⟨rfl,rfl⟩)) ?_;rintro _ _ ⟨rfl,rfl⟩;refine⟨d,_,rfl,aN.of hd,λi σ' H'=>∃(y:Option V)(zs':List (Pla×YC)),σ'=[oR x,oR d,oJ n,y]/\zs'.map (·.1)=cp (zs.map (·.1)) ((fs.map (·.1)).take i)/\cr cW H' x g dx lp dn lw lo zs' ws os/\(∀b o,H b=some o->b≠lp->b≠dn->H' b=some o),⟨none,zs,rfl,by simp[cp],W,λb o e _ _=>e⟩,?_,?_,?_⟩
 .rintro i _ H' _ ⟨y,zs',rfl,_,_,fr⟩;exact aN.of (fr _ _ hd nd ndn)
 .rintro i v _ H' hv ⟨y,zs',rfl,ez,W',fr⟩;rw[Va]at hv;obtain⟨z,hz,rfl⟩:=XW.mp hv;have hzm:=Vn hz;have tz:=fk z hzm;have tz':H' z.2=some (.tup [.str z.1.1,.int z.1.2]):=fr _ _ tz (λe=>by rw[e,W.pl]at tz;cases tz) (λe=>by rw[e,W.nb]at tz;cases tz);have et:(fs.map (·.1)).take (i+1)=(fs.map (·.1)).take i++[z.1]:=by rw[VS,Va,hz];rfl
  have gn:=jE z.1 ((fs.map (·.1)).take i) (zs.map (·.1));rw[<-et,<-ez]at gn;have gt:=lC (fs:=fs.map (·.1)) (ps:=zs.map (·.1)) (i+1);have lz:zs'.length=(zs'.map (·.1)).length:=by rw[U6]
  show l7 _ _ _ _ [oR x,oR d,oJ n,oR z.2] H';refine cQ (Dc (p:=z.1) (ev_v rfl) (aK (ev_v rfl) (W'.fnumbers D)) tz' W'.nb) (λh=>?_) (λh=>?_)
  .rw[XA,decide_eq_false_iff_not]at h;rw[QV h]at gn;have gl2:(zs'.length:Int)+1<=n:=by rw[gn,Ve,<-lz]at gt;have:zs'.length+1<=(cp (zs.map (·.1)) (fs.map (·.1))).length:=gt;lia
   refine bz (aV (Jr (W'.lenp D (ev_v rfl)) (ev_v rfl))) (λh=>?_) (λ_=>?_)
   .have:=QX h;lia
   have npd:lp≠dn:=λe=>by have:=W'.pl;rw[e,W'.nb]at this;cases this
   have nxd:x≠dn:=λe=>by have:=W'.at_;rw[e,W'.nb]at this;cases this
   refine Dj (p:=z.1) (ps:=zs'.map (·.1)) (by rw[<-lz];exact W'.lenp D (ev_v rfl)) (aK (ev_v rfl) (W'.fnumbers D)) (ev_v rfl) tz' W'.nb h (by rw[<-lz,Rf];lia) ?_;refine jx (aK (ev_v rfl) ⟨cW,dx,_,(by rw[ak nxd];exact W'.at_),D.cl,D.places,pd⟩) (ev_v rfl) (by rw[ak npd];exact W'.pl) (by rw[U6,Rf];lia) ⟨_,zs'++[z],rfl,by rw[gn,Vg];rfl,W'.add tz',λb o e n1 n2=>?_⟩;rw[ak n1,ak n2];exact fr b o e n1 n2
  .rw[XC,decide_eq_true_iff]at h;rw[QW h]at gn;exact⟨_,zs',rfl,by rw[gn],W',fr⟩
 .rintro _ H' ⟨y,zs',rfl,ez,W',fr⟩;rw[U6]at ez;exact q zs' H' (by rw[ez,<-U6 (as:=fs) (·.1),VG]) W' fr
end
def Jm(h:t σ H λb H1=>if b=true then ta σ H1 Q else tb σ H1 Q):NK t ta tb σ H Q:=h
def Oj{A B:Hp->Prop}{H:Hp}(h:A H):cV (λb H1=>if b=true then A H1 else B H1) (.bl true) H:=by show(if true=true then A H else B H);exact gN h
def Ol{A B:Hp->Prop}{H:Hp}(h:B H):cV (λb H1=>if b=true then A H1 else B H1) (.bl false) H:=by show(if false=true then A H else B H);exact gO h
section
def oS{f cB cG cW:YC}{fd:Rn}(F:ci K "number" "Web.number" dZ f fd)(T:Txt mg aS aA aE aW)(D:u7 K cW)(C:CWn P w K mg QR cB cG):aX P w K mg QR cI 7 f fd ["self","place"] (vn K cB cG cW):=by
 refine F.ok2 oG ?_;rintro _ _ _ s H _ Q _ hr hu ⟨x,g,dx,lp,dn,lw,lo,t,b,zs,ws,os,p,wi,hi,hs,ks,rs,ts,es,st,rfl,W,G,O,hl,k6,ht,lz,q⟩;refine⟨_,(aj (aB (bP (a7 (aF C.is_place hr (az (bG K (cv 0)) (az (cv 1) pan)))) (Oc hu (bG K (cv 0)) (cv 1)) cm))),?_⟩;refine eJ (Jm (Lh (aa (aK (ev_v rfl) (W.fgame D)) (aa (ev_v rfl) av)) ⟨g,b,.ref t,wi,hi,hs,ks,rs,ts,es,st,rfl,G,O,hl,k6,IJ ht lz,λH' s=>?_⟩));have et:tupOf H (.ref t)=some [.str p.1,.int p.2]:=by simp only[tupOf,ht]
 rw[jX et];have q':=q H' s;unfold mK at q';cases hb:(rowB wi hi hs ks (.str p.1)&&amongB (.int p.2) 0 1)with
 |true=>
  rw[hb,QW rfl]at q';have W':=(W).same s;refine Oj ?_;show qr _ _ [some (.ref x),some (.ref t)] H' _;refine Et (aK (ev_v rfl) (W'.fnumbers D)) (.inr ⟨_,.inl W'.nb⟩) (ev_v rfl) ⟨_,lP.t (k:=gM p) W'.nb (s _ _ ht),?_⟩;rw[kE]
  by_cases hm:p∈zs.map (·.1)
  .rw[QW hm]at q' ⊢;rw[W9];exact q'
  .rw[QV hm]at q' ⊢;exact q'
 |false=>
  rw[hb,QV (by decide)]at q';exact Ol q'
def rF(F:ci K "nexts" "Web.nexts" dJ f fd)(T:Txt mg aS aA aE aW)(D:u7 K cW):aX P w K mg QR cI 1 f fd ["self"] (AH cW):=by
 refine F.ok2 qR ?_;rintro _ _ _ s H _ Q _ hr hu ⟨x,g,dx,lp,dn,lw,lo,zs,ws,os,led,rfl,W,R,ll,q⟩;refine⟨_,(aj (aB (eQ (cz (N:=["numbers"]) (src:=[none]) (am dJ) ["self"]) (mB K (bG K (cv 0))) (λ_ _ _=>(bj (i:=0) ["numbers"])) (λ_ _ _=>bO) (λ_ _ _=>(xS (nI K) da T.list (az (cv 0) pan)))))),?_⟩;refine eJ (uG (rest:=[]) (aK (ev_v rfl) (W.fways D)) W.wy (by rw[R.1,Rf];lia) rfl (λi H' v=>∃l a,led[i]? =some l/\v=.ref a/\H a=none/\H' a=some (.lst (l.map λ(n:Nat)=>V.int n))) (λi H1 H2 v h s=>?_) (λi v H' hv s Q' q'=>?_) (λd' H' ys s hd hl hy=>?_))
 .obtain⟨l,a,h1,h2,h3,h4⟩:=h;exact⟨l,a,h1,h2,h3,s _ _ h4⟩
 .have hi:=(Vi.mp hv).1;have hi':i<led.length:=by rw[<-R.1];exact hi
  obtain⟨a,rfl,ha⟩:=R.2 i v led[i] hv (U9 hi');exact BF (ev_v rfl) (.inl (aN.of (s _ _ ha))) λl hl=>q' _ _ ⟨led[i],l,U9 hi',rfl,s.free hl,af⟩ ((ah.refl H').upd hl)
 .refine q d' ys _ (s.free hd) af ⟨by rw[hl,R.1],λi v l h1 h2=>?_⟩ (s.upd hd);obtain⟨l',a,e1,e2,e3,e4⟩:=hy i v h1;rw[h2]at e1;injection e1 with e1;subst e1;exact⟨a,e2,e3,(ah.refl H').upd hd _ _ e4⟩
def rG(F:ci K "known" "Web.known" fO f fd)(T:Txt mg aS aA aE aW)(D:u7 K cW):aX P w K mg QR cI 1 f fd ["self"] (AI cW):=by refine F.ok2 qS ?_;rintro _ _ _ _ H _ Q _ hr hu ⟨x,g,dx,lp,dn,lw,lo,zs,ws,os,rfl,W,q⟩;refine⟨_,(aj (aB (xS (nI K) da T.list (az (bG K (cv 0)) pan)))),?_⟩;exact eJ (BF (aK (ev_v rfl) (W.fovers D)) (.inl (aN.of W.ov)) λl hl=>q l hl)
end
def rK(ho:Ev to σ H (.ref a))(hn:kW C m H a)(ht:Av t σ H vs)(q:sp (.ref a::vs) H Q E0):oo C m sp to t σ H Q:=ho _ ⟨hn,ht _ q⟩
def Ld(P:V->Hp->Prop)(h:∀Q:VK,(∀v H',P v H'->Q v H')->te σ H Q)(q:∀v H',P v H'->ta σ H' (λxs H2=>R (v::xs) H2)):bf te ta σ H R:=h _ q
def j6(q:t σ H (λvs H2=>vs.length<=v1/\∀p,H2 p=none->Q (.ref p) (upd H2 p (.tup vs)))):yH t σ H Q:=q
def Dl(ho:Ev to σ H (.ref l))(hl:∃xs,H l=some (.lst xs))(q:te σ H λy H2=>∃xs,H2 l=some (.lst xs)/\xs.length<v1/\u D σ (upd H2 l (.lst (xs++[y])))):bg (iY (Aj to te)) u D σ H:=ho _ ⟨hl,q⟩
def JR(h:te σ H (cV λc H1=>Q (!c) H1)):yI (gh te) σ H Q:=h
def Qy(h:te σ H λv H1=>r [v] H1 Q):L2.cB r (bf te cw) σ H Q:=h
section
def ud{f cB cG cW:YC}{fd:Rn}(F:ci K "__init__" "Web.__init__" bX f fd)(T:Txt mg aS aA aE aW)(D:u7 K cW)(C:CWi P w K mg QR cB cG cW):aX P w K mg QR cI 8 f fd ["self","game","starts","most"] (xk K cB cG cW):=by
 refine F.ok2 fX ?_;rintro _ _ _ s H vs Q _ hr hu ⟨x,g,b,kq,d,dx,H0,wi,hi,hs,ks,us,ts,es,st,fs,m,rfl,s0,nx,hx,G,hd,l1000,fk,fg,k2,hb,q⟩;refine⟨_,(ae (aR (bA (a7 (kB (zL K) lJ T.all (az (eQ (cz (N:=["start","game"]) (src:=[none,some 1]) (am bX) ["self","game","starts","most","place","found"]) (mB K (cv 2)) (λ_ _ _=>(bj (i:=0) ["start","game"])) (λ_ _ _=>bO) (λ_ _ _=>(aF C.is_place hr (az (cv 1) (az (cv 0) pan))))) pan)))) (aj eM) aG)
  (ae (gK K (cv 0) (cv 1))
  (ae (gK K (cv 0) (bp pan))
  (ae (gK K (cv 0) Bo)
  (ae (gK K (cv 0) (bp pan))
  (ae (gK K (cv 0) (bp pan))
  (ae (bK (iL C.Web_gather hr (cv 0) (az (cv 2) (az (cv 3) pan))))
  (aj (nu Rr (aT K hu (kB (fv K) bB T.len (az (bG K (cv 0)) pan)) (kB (fv K) bB T.len (az (bG K (cv 0)) pan))) (ae (au 4 fX.nd (cX K (bG K (cv 0)) (kB (fv K) bB T.len (az (bG K (cv 0)) pan))))
  (ae (au 5 fX.nd (aF C.followers hr (az (cv 1) (az (cv 4) pan))))
  (ae (bK (iL C.Web_gather hr (cv 0) (az (cv 5) (az (cv 3) pan))))
  (ae (bK (dw (bG K (cv 0)) (eQ (cz (N:=["follower","self"]) (src:=[none,some 0]) (am bX) ["self","game","starts","most","place","found"]) (mB K (cv 5)) (λ_ _ _=>(bj (i:=0) ["follower","self"])) (λ_ _ _=>bO) (λ_ _ _=>(Oe hu (bG K (cv 1)) (cv 0))))))
  (aj (bK (dw (bG K (cv 0)) (bP (N8 K (cv 5)) cm (ck (az (aF C.ending hr (az (cv 1) (az (cv 4) pan))) (az ag pan)))))))))))))))))))),?_⟩
 show bg _ _ _ [oR x,oR g,oR d,oJ 5000,none,none] H;have mm:=G.bd.many;have w1:=G.bd.w1;obtain⟨p0,hP⟩:∃p0:List Pla,p0=fs.map (·.1):=⟨_,rfl⟩;rw[<-hP]at q;generalize hF:folF wi hi hs us ts es=FF at q;have fgood:∀y,lM wi hi hs ks m y->∀z∈FF y,lM wi hi hs ks m z:=λy hy=>by rw[<-hF];exact lD w1 (by lia) G.ltr G.tg hy
 have few:∀n,(∀j,j<n->j<(ba FF p0 j).length)->(∀y∈ba FF p0 n,lM wi hi hs ks m y)/\(ba FF p0 n).length<=2000:=λn hn=>by
  have hg:∀y∈ba FF p0 n,lM wi hi hs ks m y:=mJ (λy hy=>by
   rw[hP]at hy;obtain⟨z,hz,rfl⟩:=U7.mp hy;exact fg z hz) fgood hn
  exact⟨hg,qi k2 G.ltr (j5 _ _ _) hg hb⟩
 have dH:=s0 _ _ hd;refine cP (λc H'=>c=false/\ah H H') (λQ q=>?_) (λH' h=>by cases h.1) (λH1 h=>?_)
 .refine JR (Qy (zZ (rest:=[oR g]) (ev_v rfl) dH (by rw[U6,Rf];lia) rfl (λ_=>.bl true) (λv hv H' s' Q' q'=>?_) (λH' d' s' hd'=>⟨fs.map λ_=>true,aN.of ?_,?_⟩)))
  .obtain⟨z,hz,rfl⟩:=U7.mp hv;have tz:=(s0.trans s') _ _ (fk z hz);have Pz:=fg z hz;have lz:z.1.1.length<=1000:=by have:=Pz.row.len;lia
   have G':=G.same (s0.trans s');refine cR (aa (ev_v rfl) (aa (ev_v rfl) av)) ⟨g,b,.ref z.2,wi,hi,hs,ks,_,_,_,st,rfl,G'.gm,G'.bd,G.ltr,G.k6,IJ tz lz,λH2 s2=>?_⟩;have et:tupOf H' (.ref z.2)=some [.str z.1.1,.int z.1.2]:=by simp only[tupOf,tz]
   rw[jX et,xA Pz.row];have:amongB (.int z.1.2) 0 1=true:=by
    rcases Pz.sd with e|e<;>rw[e]<;>decide
   rw[this];exact q' _ s2
  .rw[af,Vj,Vj];rfl
  .refine q _ _ ⟨?_,s'.upd hd'⟩;have:(fs.map λ_=>true).all id=true:=by simp
   rw[this];rfl
 obtain⟨_,s1⟩:=h;refine JW D (s1 _ _ hx) (λH'=>ev_v rfl) (λH'=>ev_v rfl) λH2 lp dn lw lo W nlp ndn nlw nlo sb=>?_;have f0:∀a,H1 a=none->H0 a=none:=λa e=>(s0.trans s1).free e;have s2:ah H0 H2:=λa o e=>sb a o ((s0.trans s1) a o e) (λz=>by rw[z,nx]at e;cases e);have few0:=few 0 (λj hj=>by lia);refine AE (λH'=>∃zs:List (Pla×YC),zs.map (·.1)=ba FF p0 0/\cr cW H' x g dx lp dn lw lo zs [] []/\ah H0 H') (λQ k=>?_) ?_
 .refine rK (vs:=[.ref d,.int 5000]) (ev_v rfl) W.no (aa (ev_v rfl) (aa (ev_v rfl) av)) ⟨x,g,dx,lp,dn,lw,lo,d,[],fs,[],[],5000,rfl,W,s2 _ _ hd,fk.same s2,(λe=>by rw[e,f0 _ nlp]at hd;cases hd),?_,by decide,λzs' H' ez W' fr=>k _ _ ⟨zs',by rw[hP];exact ez,W',λa o e=>?_⟩⟩
  .have:=few0.2;rw[hP]at this;have h2:(cp [] (fs.map (·.1))).length<=2000:=this;show((cp [] (fs.map (·.1))).length:Int)<=5000;lia
  .exact fr a o (s2 a o e) (λz=>by rw[z,f0 _ nlp]at e;cases e) (λz=>by rw[z,f0 _ ndn]at e;cases e)
 rintro H3 ⟨zs0,ez0,W0,s3⟩;refine⟨λmm' σ' H'=>∃(i:Nat)(zs:List (Pla×YC))(ws os:List V)(y4 y5:Option V),mm'=2001 - i/\σ'=[oR x,oR g,oR d,oJ 5000,y4,y5]/\zs.map (·.1)=ba FF p0 i/\(∀j,j<i->j<(ba FF p0 j).length)/\cr cW H' x g dx lp dn lw lo zs ws os/\aO (vb H0 lp lw lo) H' ws (wled FF p0 i)/\aO j3 H' os ((List.range i).map λj=>tZ wi hi hs us es st ((ba FF p0 j).getD j ("",0)))/\ah H0 H',⟨_,0,zs0,[],[],none,none,rfl,rfl,ez0,(λj hj=>by lia),W0,aO.nil,aO.nil,s3⟩,?_⟩;rintro mm' _ H4 ⟨i,zs,ws,os,y4,y5,rfl,rfl,ez,hj,W4,Rw,Ro,s4⟩;have lw4:ws.length=i:=by rw[Rw.1,mL]
 have lz:zs.length=(ba FF p0 i).length:=by rw[<-ez,U6]
 have fw:=few i hj;refine(aV (pW (cq (aK (ev_v rfl) (W4.fways D)) (.inl (aN.of W4.wy))) (W4.lenp D (ev_v rfl))):Tv _ _ H4 _) _ ?_
 by_cases hlt:(ws.length:Int)<zs.length
 .rw[QT hlt];have hi':i<zs.length:=by lia
  have hjs:∀j,j<i+1->j<(ba FF p0 j).length:=λj h=>by
   by_cases e:j=i
   .subst e;lia
   .exact hj j (by lia)
  have fw1:=few (i+1) hjs;have ei:zs[i]? =some zs[i]:=U9 hi';generalize zs[i]=z at ei;have hzm:=Vn ei;have tz:=W4.pk z hzm;have ewi:(ba FF p0 i).getD i ("",0)=z.1:=by rw[<-ez,Vh,Va,ei];rfl
  have Pz:lM wi hi hs ks m z.1:=fw.1 _ (by rw[<-ez];exact U7.mpr ⟨z,hzm,rfl⟩);refine gN ⟨λσ' H'=>∃(zs:List (Pla×YC))(ws os:List V)(y4 y5:Option V),σ'=[oR x,oR g,oR d,oJ 5000,y4,y5]/\zs.map (·.1)=ba FF p0 (i+1)/\cr cW H' x g dx lp dn lw lo zs ws os/\aO (vb H0 lp lw lo) H' ws (wled FF p0 (i+1))/\aO j3 H' os ((List.range (i+1)).map λj=>tZ wi hi hs us es st ((ba FF p0 j).getD j ("",0)))/\ah H0 H',?_,?_⟩
  .rintro σ' H' ⟨zs',ws',os',y4',y5',e1,e2,e3,e4,e5,e6⟩;exact⟨2001 - (i+1),by lia,i+1,zs',ws',os',y4',y5',rfl,e1,e2,hjs,e3,e4,e5,e6⟩
  refine aZ (v:=.ref z.2) (aY (aK (ev_v rfl) (W4.fplaces D)) (cq (aK (ev_v rfl) (W4.fways D)) (.inl (aN.of W4.wy))) (.inl (aN.of W4.pl)) (by rw[lw4];exact bx (by rw[Va,ei];rfl))) ?_;show bg _ _ _ [oR x,oR g,oR d,oJ 5000,oR z.2,y5] H4;refine bu (λv H'=>∃(qf:YC)(ps:List (Pla×YC)),v=.ref qf/\ju wi hi hs z.1.1 us ts es z.1.2 (ps.map (·.1))/\H4 qf=none/\H' qf=some (.lst (aM ps))/\bE H' ps/\ah H4 H') (λQ k=>?_) ?_
  .exact cR (aa (ev_v rfl) (aa (ev_v rfl) av)) ⟨g,b,kq,z.2,z.1.1,z.1.2,wi,hi,hs,ks,us,ts,es,st,rfl,G.same s4,cY.of tz,Pz.row,Pz.sd,λls qf H' hf nq hp s=>by
    obtain⟨ps,p1,p2,p3⟩:=hp;exact k _ _ ⟨qf,ps,rfl,p1▸hf,nq,p2,λy hy=>(p3 y hy).2,s⟩⟩
  rintro _ H5 ⟨qf,ps,rfl,hf,nqf,eqf,pk5,s5⟩;have eF:FF z.1=ps.map (·.1):=by rw[<-hF];exact x8 hf
  have ws1:ba FF p0 (i+1)=cp (zs.map (·.1)) (ps.map (·.1)):=by show cp _ (FF ((ba FF p0 i).getD i ("",0)))=_;rw[ewi,eF,ez]
  have W5:=W4.same s5;have nqp:qf≠lp:=λe=>by rw[e,W4.pl]at nqf;cases nqf
  have nqd:qf≠dn:=λe=>by rw[e,W4.nb]at nqf;cases nqf
  refine AE (λH'=>∃zs':List (Pla×YC),zs'.map (·.1)=ba FF p0 (i+1)/\cr cW H' x g dx lp dn lw lo zs' ws os/\(∀a o,H5 a=some o->a≠lp->a≠dn->H' a=some o)) (λQ k=>?_) ?_
  .refine rK (vs:=[.ref qf,.int 5000]) (ev_v rfl) W5.no (aa (ev_v rfl) (aa (ev_v rfl) av)) ⟨x,g,dx,lp,dn,lw,lo,qf,zs,ps,ws,os,5000,rfl,W5,eqf,pk5,nqp,?_,by decide,λzs' H' ez' W' fr=>k _ _ ⟨zs',by rw[ws1];exact ez',W',fr⟩⟩;rw[<-ws1];have:=fw1.2;lia
  rintro H6 ⟨zs',ez',W6,fr6⟩;have tup6:∀(a:YC)(vs:List V),H5 a=some (.tup vs)->H6 a=some (.tup vs):=λa vs h=>fr6 a _ h (λe=>by rw[e,W5.pl]at h;cases h) (λe=>by rw[e,W5.nb]at h;cases h);have s06:ah H0 H6:=λa o e=>fr6 a o (s5 _ _ (s4 _ _ e)) (λz=>by rw[z,f0 _ nlp]at e;cases e) (λz=>by rw[z,f0 _ ndn]at e;cases e);have Rw6:aO (vb H0 lp lw lo) H6 ws (wled FF p0 i):=Rw.imp λv l h=>by obtain⟨a,e,h0,h1,h2,h3,h4⟩:=h;have h4':=s5 _ _ h4;exact⟨a,e,h0,h1,h2,h3,fr6 _ _ h4' h1 (λz=>by rw[z,W5.nb]at h4';cases h4')⟩
  have Ro6:aO j3 H6 os ((List.range i).map λj=>tZ wi hi hs us es st ((ba FF p0 j).getD j ("",0))):=Ro.imp λv o h=>by
   cases o with
   |none=>exact h
   |some y=>
    obtain⟨a,e,h⟩:=h;exact⟨a,e,tup6 _ _ (s5 _ _ h)⟩
  have eqf6:=fr6 _ _ eqf nqp nqd;have pk6:bE H6 ps:=λy hy=>tup6 _ _ (pk5 y hy);have mem:∀y∈ps,y.1∈zs'.map (·.1):=λy hy=>by rw[ez',ws1];exact(iz _ _).mpr (.inr (U7.mpr ⟨y,hy,rfl⟩))
  refine Dl (l:=lw) (aK (ev_v rfl) (W6.fways D)) ⟨_,W6.wy⟩ ?_;have psz:ps.length<=4096:=by
   rcases hf with⟨_,e⟩|⟨_,mv,_,l,e⟩
   .have:=Q2 List.length e;rw[U6]at this;rw[this];exact WT _
   .have:=Q2 List.length e;rw[U6,U6]at this;lia
  refine fF (d:=qf) (xs:=aM ps) (rest:=[oR x]) (ev_v rfl) (aN.of eqf6) (by rw[U6,Rf];lia) rfl (λ_=>true) (λv=>match v with| .ref a=>(match H6 a with|some (.tup [.str r,.int sd])=>.int ((ba FF p0 (i+1)).idxOf (r,sd):Nat)|_=>.non)|_=>.non) (λv _=>fB) (λv hv _=>?_) (λql hql=>?_)
  .obtain⟨y,hy,rfl⟩:=U7.mp hv;have hy6:=pk6 y hy;show Ev (AB _ _) [some (.ref y.2),some (.ref x)] H6 (match H6 y.2 with|some (.tup [.str r,.int sd])=>.int ((ba FF p0 (i+1)).idxOf (r,sd):Nat)|_=>.non)
   rw[hy6];refine λQ k=>(aK (ev_v rfl) (W6.fnumbers D)) _ ((ev_v rfl) _ ⟨dn,_,rfl,?_,k⟩);have hg:=lP.t (k:=gM y.1) W6.nb hy6;rw[kE,QW (mem y hy),W9,ez']at hg;exact hg
  rw[Vy.mpr (λ_ _=>rfl)];have enum:(aM ps).map (λ(v:V)=>match v with| .ref a=>(match H6 a with|some (.tup [.str r,.int sd])=>V.int ((ba FF p0 (i+1)).idxOf (r,sd):Nat)|_=>.non)|_=>.non)=(wrow FF p0 i).map λ(n:Nat)=>V.int n:=by
   unfold wrow;rw[ewi,eF,Vj,Vj,Vj];apply VD;intro y hy;show(match H6 y.2 with|some (.tup [.str r,.int sd])=>V.int ((ba FF p0 (i+1)).idxOf (r,sd):Nat)|_=>.non)=_
   rw[pk6 y hy];rfl
  rw[enum];have nlq:ql≠lw:=λe=>by rw[e,W6.wy]at hql;cases hql
  refine⟨ws,by rw[ak nlq.symm];exact W6.wy,by rw[lw4,Rf];lia,?_⟩;generalize hH7:upd (upd H6 ql (HO.lst ((wrow FF p0 i).map λ(n:Nat)=>V.int n))) lw (HO.lst (ws++[V.ref ql]))=H7;have k7:∀a o,H6 a=some o->a≠lw->H7 a=some o:=λa o e n=>by rw[<-hH7,ak n,ak (ay e hql)];exact e
  have ql7:H7 ql=some (.lst ((wrow FF p0 i).map λ(n:Nat)=>V.int n)):=by rw[<-hH7,ak nlq,af]
  have nxw:x≠lw:=λe=>by have:=W6.at_;rw[e,W6.wy]at this;cases this
  have ndw:dn≠lw:=λe=>by have:=W6.nb;rw[e,W6.wy]at this;cases this
  have tup7:∀(a:YC)(vs:List V),H6 a=some (.tup vs)->H7 a=some (.tup vs):=λa vs h=>k7 a _ h (λe=>by rw[e,W6.wy]at h;cases h);have W7:cr cW H7 x g dx lp dn lw lo zs' (ws++[.ref ql]) os:=⟨k7 _ _ W6.at_ nxw,k7 _ _ W6.pl W6.nwp.symm,λy hy=>tup7 _ _ (W6.pk y hy),k7 _ _ W6.nb ndw,by rw[<-hH7,af],k7 _ _ W6.ov W6.nwo.symm,W6.nwp,W6.nop,W6.nwo⟩;have s07:ah H0 H7:=λa o e=>k7 a o (s06 _ _ e) (λz=>by rw[z,f0 _ nlw]at e;cases e);have Rw7:aO (vb H0 lp lw lo) H7 (ws++[.ref ql]) (wled FF p0 (i+1)):=by
   rw[o9];refine aO.snoc (Rw6.imp λv l h=>?_) ⟨ql,rfl,?_,(λe=>by rw[e,W6.pl]at hql;cases hql),nlq,(λe=>by rw[e,W6.ov]at hql;cases hql),ql7⟩
   .obtain⟨a,e,h0,h1,h2,h3,h4⟩:=h;exact⟨a,e,h0,h1,h2,h3,k7 _ _ h4 h2⟩
   .exact s06.free hql
  have Ro7:aO j3 H7 os ((List.range i).map λj=>tZ wi hi hs us es st ((ba FF p0 j).getD j ("",0))):=Ro6.imp λv o h=>by
   cases o with
   |none=>exact h
   |some y=>
    obtain⟨a,e,h⟩:=h;exact⟨a,e,tup7 _ _ h⟩
  have nqw:qf≠lw:=λe=>by rw[e,W4.wy]at nqf;cases nqf
  have eqf7:=k7 _ _ eqf6 nqw;have tz7:=tup7 _ _ (tup6 _ _ (s5 _ _ tz));have G7:=G.same s07;have fin:∀(v:V)(H8:Hp),ah H7 H8->j3 H8 v (tZ wi hi hs us es st z.1)->∃(zs:List (Pla×YC))(ws os':List V)(y4 y5:Option V),[some (V.ref x),some (.ref g),some (.ref d),some (.int 5000),some (.ref z.2),some (.ref qf)]=[some (.ref x),some (.ref g),some (.ref d),some (.int 5000),y4,y5]/\zs.map (·.1)=ba FF p0 (i+1)/\cr cW (upd H8 lo (.lst (os++[v]))) x g dx lp dn lw lo zs ws os'/\aO (vb H0 lp lw lo) (upd H8 lo (.lst (os++[v]))) ws (wled FF p0 (i+1))/\aO j3 (upd H8 lo (.lst (os++[v]))) os' ((List.range (i+1)).map λj=>tZ wi hi hs us es st ((ba FF p0 j).getD j ("",0)))/\ah H0 (upd H8 lo (.lst (os++[v]))):=λv H8 s8 hv=>by
   have W8:=W7.same s8;have k9:∀a o,H8 a=some o->a≠lo->(upd H8 lo (.lst (os++[v]))) a=some o:=λa o e n=>by rw[ak n];exact e
   have tup9:∀(a:YC)(vs:List V),H8 a=some (.tup vs)->(upd H8 lo (.lst (os++[v]))) a=some (.tup vs):=λa vs h=>k9 a _ h (λe=>by rw[e,W8.ov]at h;cases h);have ov9:∀(u:V)(o:Option Str),j3 H8 u o->j3 (upd H8 lo (.lst (os++[v]))) u o:=λu o h=>by
    cases o with
    |none=>exact h
    |some y=>
     obtain⟨a,e,h⟩:=h;exact⟨a,e,tup9 _ _ h⟩
   refine⟨zs',ws++[.ref ql],os++[v],_,_,rfl,ez',⟨k9 _ _ W8.at_ (λe=>by have:=W8.at_;rw[e,W8.ov]at this;cases this),k9 _ _ W8.pl W8.nop.symm,λy hy=>tup9 _ _ (W8.pk y hy),k9 _ _ W8.nb (λe=>by have:=W8.nb;rw[e,W8.ov]at this;cases this),k9 _ _ W8.wy W8.nwo,af,W8.nwp,W8.nop,W8.nwo⟩,Rw7.imp λu l h=>?_,?_,λa o e=>k9 _ _ (s8 _ _ (s07 _ _ e)) (λz=>by rw[z,f0 _ nlo]at e;cases e)⟩
   .obtain⟨a,e,h0,h1,h2,h3,h4⟩:=h;exact⟨a,e,h0,h1,h2,h3,k9 _ _ (s8 _ _ h4) h3⟩
   .rw[VL,Vg];refine aO.snoc (Ro7.imp λu o h=>ov9 u o (h.same s8)) ?_;show j3 _ v (tZ wi hi hs us es st ((ba FF p0 i).getD i ("",0)));rw[ewi];exact ov9 v _ hv
  have lo7:os.length<v1:=by rw[Ro.1,U6,Vu,Rf];lia
  show iY (Aj _ _) _ [some (.ref x),some (.ref g),some (.ref d),some (.int 5000),some (.ref z.2),some (.ref qf)] H7;refine uS (l:=lo) (aK (ev_v rfl) (W7.fovers D)) ⟨_,W7.ov⟩ (Jm (II (ow (v:=.ref qf) (ev_v rfl) ⟨!(aM ps).isEmpty,Dd (aN.of eqf7) rfl,?_⟩)))
  by_cases hps:ps=[]
  .subst hps;refine gO ?_;refine j6 (Ld (P:=λv H'=>mq wi hi hs z.1.1 us es st z.1.2 v/\ah H7 H') (λQ k=>?_) ?_)
   .exact cR (aa (ev_v rfl) (aa (ev_v rfl) av)) ⟨g,b,kq,z.2,z.1.1,z.1.2,wi,hi,hs,ks,us,ts,es,st,rfl,G7,cY.of tz7,Pz.row.g G.ltr mm.2,by have:=Pz.row.len;lia,Pz.sd,λv H' he s=>k _ _ ⟨he,s⟩⟩
   rintro v H8 ⟨he,s8⟩;obtain⟨y,rfl⟩:=(end_fol hf he).2 rfl;refine bI aq (cN ⟨by show 2<=v1;decide,λt ht=>?_⟩);have s9:ah H7 (upd H8 t (.tup [.str y,.int 0])):=s8.upd ht;refine⟨os,s9 _ _ W7.ov,lo7,fin _ _ s9 ?_⟩;rw[xI he];exact⟨t,rfl,af⟩
  .have hne:(!(aM ps).isEmpty)=true:=by
    cases ps with
    |nil=>exact QZ rfl hps
    |cons a l=>rfl
   rw[hne];refine gN ?_;refine⟨os,W7.ov,lo7,fin _ _ (ah.refl H7) ?_⟩;rw[DI hf (λe=>hps (WO.mp e))];rfl
 .rw[QU hlt];refine gO ?_;have ge:i<=(ba FF p0 i).length:=by
   cases i with
   |zero=>exact WT _
   |succ j=>
    obtain⟨r,hr'⟩:=j4 FF p0 (WW j);have:=hj j (WZ j);have h2:=Q2 List.length hr';rw[Ve]at h2;show j+1<=(ba FF p0 (j+1)).length;have h3:(ba FF p0 (j+1)).length=(ba FF p0 j).length+r.length:=h2;lia
  refine q i lp dn lw lo zs ws os H4 ⟨by lia,hj⟩ ez W4 Rw ?_ (f0 _ nlp) (f0 _ nlw) (f0 _ nlo) s4;unfold ovsF;rw[hF];exact Ro
end
noncomputable def mixF(ns:List Int)(k:Int):Int:=(wO ns k+7919*k)*48271 % 2147483647
def xq(K:Frag):Sp:=λvs H Q _=>∃a ns k,vs=[.ref a,.int k]/\aN K H a (ns.map V.int)/\0<=k/\Q (.int (mixF ns k)) H
def AR:Sp:=λvs H Q _=>∃c:Int,vs=[.int c]/\∀q ks H',kT H' q ks->ks.length<=2->H q=none->ah H H'->Q (.ref q) H'
structure QP(P:Rg)(w:Rk)(K:Frag)(mg:Q3)(QR:Rq):Prop where
 _law_cell_at:cC P w K mg QR "_law_cell_at" ["_law_script","_law_k"] 1 (j8 K)
section
def me(F:ci K "_law_cell_at" "_law_cell_at" cT f fd)(T:Txt mg aS aA aE aW):aX P w K mg QR cI 1 f fd ["_law_script","_law_k"] (j8 K):=by
 refine F.ok2 l9 ?_;rintro _ _ _ _ H _ Q _ hr hu ⟨a,ns,k,rfl,hS,k0,q⟩;refine⟨_,(ae (aR (aT K hu (cv 1) (kB (fv K) bB T.len (az (cv 0) pan))) (aj (aB (cX K (cv 0) (cv 1)))) aG)
  (aj (aB ag))),?_⟩
 show bg _ _ _ [oR a,oJ k] H;unfold wO at q;refine bz (aV (pW (ev_v rfl) (cq (ev_v rfl) (.inl hS)))) (λh=>?_) (λh=>?_)
 .have h:=QX h;rw[U6]at h;have hlt:k.toNat<ns.length:=by lia
  have e:(ns.map V.int)[k.toNat]? =some (.int (ns.getD k.toNat 0)):=by rw[Va,Vh,U9 hlt];rfl
  have e2:=bx e;have ei:((k.toNat:Nat):Int)=k:=by lia
  rw[ei]at e2;exact aJ (aY (ev_v rfl) (ev_v rfl) (.inl hS) e2) q
 .have h:=QY h;rw[U6]at h;rw[Vh,Vw (by lia)]at q;exact aJ aq q
def oN(F:ci K "_law_mixed" "_law_mixed" dU f fd)(T:Txt mg aS aA aE aW)(C:QP P w K mg QR):aX P w K mg QR cI 2 f fd ["_law_script","_law_k"] (xq K):=by refine F.ok2 oF ?_;rintro _ _ _ _ H _ Q _ hr hu ⟨a,ns,k,rfl,hS,k0,q⟩;refine⟨_,(aj (aB (aw (aw (aw (aF C._law_cell_at hr (az (cv 0) (az (cv 1) pan))) (aw ag (cv 1))) ag) ag))),?_⟩;show cJ _ _ [oR a,oJ k] H;exact aJ (bh (cx (cU (aH (aa (ev_v rfl) (aa (ev_v rfl) av)) (λQ q=>⟨a,ns,k,rfl,hS,k0,q⟩)) (cx aq (ev_v rfl) (.inl ⟨by decide,by decide⟩))) aq (.inr ⟨by decide,by decide⟩)) aq) q
def oO(F:ci K "_law_kinds" "_law_kinds" dW f fd)(T:Txt mg aS aA aE aW):aX P w K mg QR cI 1 f fd ["_law_cell"] AR:=by
 refine F.ok2 fE ?_;rintro _ _ _ _ H _ Q _ hr hu ⟨c,rfl,q⟩;refine⟨_,(ae (au 1 fE.nd bR)
  (ae (au 2 fE.nd (aw (cv 0) ag))
  (ae (au 3 fE.nd (bp (az (cX K (cv 1) (cv 2)) (az (cX K (cv 1) (aw (aw (aw (cv 2) ag) (aw (aw (cv 0) ag) ag)) ag)) pan))))
  (aj (aB (DX K (cv 3) iD (eW (aw ag (aw (aw (cv 0) ag) ag))))))))),?_⟩
 show bg _ _ _ [oJ c,none,none,none] H;refine aZ aq ?_;refine aZ (v:=.int (c % 26)) (bh (ev_v rfl) aq) ?_;have f0:0<=c % 26/\c % 26<26:=by lia
 generalize c % 26=i at f0 ⊢;have g0:0<=(i+1+c / 26 % 25) % 26/\(i+1+c / 26 % 25) % 26<26/\(i+1+c / 26 % 25) % 26≠i:=by lia
 refine bu (λv H'=>∃p,v=.ref p/\H p=none/\H'=upd H p (.lst [strV (97+i.toNat),strV (97+((i+1+c / 26 % 25) % 26).toNat)])) (λQ k=>?_) ?_
 .refine gV (bI (v:=strV (97+i.toNat)) (jo (ev_v rfl) (ev_v rfl) (by decide) (CM f0.1 f0.2)) (bI (v:=strV (97+((i+1+c / 26 % 25) % 26).toNat)) (jo (ev_v rfl) (bh (cU (cU (ev_v rfl) aq) (bh (bM (ev_v rfl) aq) aq)) aq) (by decide) (CM g0.1 g0.2.1)) (cN ⟨by show 2<=v1;decide,λp hp=>k _ _ ⟨p,rfl,hp,rfl⟩⟩)))
 rintro _ _ ⟨p,rfl,np,rfl⟩;generalize(i+1+c / 26 % 25) % 26=j at g0 ⊢;show cJ _ _ [oJ c,oT ("abcdefghijklmnopqrstuvwxyz"),oJ i,oR p] _;have n0:1+c / 650 % 2=1\/1+c / 650 % 2=2:=by lia
 refine eJ (pA (lo:=none) (hi:=some (1+c / 650 % 2)) (ev_v rfl) (λQ q=>q) (λQ q=>?_) (aN.of af) λl hl=>?_)
 .exact(show Ev _ _ _ _ from(cU aq (bh (bM (ev_v rfl) aq) aq))) _ q
 have s1:ah H (upd H p (.lst [strV (97+i.toNat),strV (97+j.toNat)])):=(ah.refl H).upd np;generalize 1+c / 650 % 2=n at n0
 rcases n0 with rfl|rfl
 .refine q l [97+i.toNat] _ ⟨af,?_,by simp,by simp,by simp⟩ (by simp) (s1.free hl) (s1.upd hl);intro k hk;rw[Vb.mp hk]
  constructor<;>lia
 .refine q l [97+i.toNat,97+j.toNat] _ ⟨af,?_,by simp,by simp,?_⟩ (by simp) (s1.free hl) (s1.upd hl)
  .intro k hk;simp only[U8,Vq,or_false]at hk
   rcases hk with rfl|rfl<;>constructor<;>lia
  .simp only[VB,U8,Vq,or_false,not_false_eq_true,VU,and_true];lia
def rD(F:ci K "_law_rule" "_law_rule" fM f fd)(T:Txt mg aS aA aE aW):aX P w K mg QR cI 1 f fd ["_law_cell","_law_kinds_here"] xt:=by
 refine F.ok2 bJ ?_;rintro _ _ _ s H _ Q _ hr hu ⟨c,d,ks,rfl,hk,q⟩;have hpos:(0:Int)<((ks.map strV).length:Int):=by rw[U6];have:=hk.l1;lia
 refine⟨_,(ae (au 0 bJ.nd (aw (aw (cv 0) ag) ag))
  (ae (au 2 bJ.nd (cX K (cv 1) (aw (cv 0) (kB (fv K) bB T.len (az (cv 1) pan)))))
  (ae (au 3 bJ.nd (cX K (bp (jD rfl)) (aw (aw (cv 0) ag) ag)))
  (ae (au 4 bJ.nd (cX K (bp (jD rfl)) (aw (aw (cv 0) ag) ag)))
  (ae (aR (aT K hu (cv 3) bR) (aj (au 4 bJ.nd bR)) aG)
  (ae (au 5 bJ.nd (aw (aw (aw (cv 0) ag) ag) ag))
  (ae (au 6 bJ.nd (aw (aw (aw (cv 0) ag) ag) ag))
  (ae (aR (PW.pt (gI (aT K hu (cv 3) bR) (eK (aT K hu (aw (aw (cv 0) ag) ag) ag)))) (aj (au 5 bJ.nd (aw (cv 5) ag))) aG)
  (ae (aR (PW.pt (gI (aT K hu (cv 5) ag) (eK (aT K hu (cv 6) ag)))) (aj (au 6 bJ.nd ag)) aG)
  (aj (aB (ck (az (cv 2) (az (cv 3) (az (cv 4) (az (cv 5) (az (cv 6) pan))))))))))))))))),?_⟩
 show bg _ _ _ [oJ c,oR d,none,none,none,none,none] H;refine aZ (v:=.int (c*48271 % 2147483647)) (bh (cx (ev_v rfl) aq (.inr ⟨by decide,by decide⟩)) aq) ?_;generalize c*48271 % 2147483647=m;obtain⟨k,hkm,ek⟩:=hk.pick m;refine aZ (v:=strV k) (aY (ev_v rfl) (bh (ev_v rfl) (cq (ev_v rfl) (.inl (aN.of hk.at_))) hpos) (.inl (aN.of hk.at_)) ek) ?_;refine bu (λv H'=>∃so:Str,v=.str so/\so∈sortsL/\ah H H') (λQ q=>?_) ?_
 .obtain⟨n,e,hn⟩:=Bi (ss:=["leap","slide","jump","leap"]) (i:=m / 2 % 4) (by lia) (by show _<(4:Int);lia);exact uj yv (by decide) (λH'=>(bh (bM (ev_v rfl) aq) aq)) e (λH' s=>q _ _ ⟨n,rfl,by
   simp only[U8,Vq,or_false]at hn
   rcases hn with rfl|rfl|rfl|rfl<;>decide,s⟩)
 rintro _ H1 ⟨so,rfl,hso,s1⟩;refine bu (λv H'=>∃ai:Str,v=.str ai/\ai∈aimsL/\ah H1 H') (λQ q=>?_) ?_
 .obtain⟨n,e,hn⟩:=Bi (ss:=["any","go","hit","any"]) (i:=m / 8 % 4) (by lia) (by show _<(4:Int);lia);exact uj yv (by decide) (λH'=>(bh (bM (ev_v rfl) aq) aq)) e (λH' s=>q _ _ ⟨n,rfl,by
   simp only[U8,Vq,or_false]at hn
   rcases hn with rfl|rfl|rfl|rfl<;>decide,s⟩)
 rintro _ H2 ⟨ai,rfl,hai,s2⟩;show bg _ _ _ [oJ m,oR d,some (strV k),oT so,oT ai,none,none] H2;refine j7 (λσ' H'=>H'=H2/\∃ai:Str,σ'=[oJ m,oR d,some (strV k),oT so,oT ai,none,none]/\ai∈aimsL/\(so="jump"->ai="hit")) ?_ (λgo=>?_)
 rotate_left
 .exact bz (aV (hG (ev_v rfl) aq)) (λh=>fC aq (go _ _ ⟨rfl,"hit",rfl,by decide,λ_=>rfl⟩)) (λh=>go _ _ ⟨rfl,ai,rfl,hai,λz=>QZ z (QY h)⟩)
 rintro _ H2 ⟨rfl,ai,rfl,hai,hjh⟩;refine aZ (v:=.int (m / 32 % 3 - 1)) (iG (bh (bM (ev_v rfl) aq) aq) aq) ?_;refine aZ (v:=.int (m / 96 % 3 - 1)) (iG (bh (bM (ev_v rfl) aq) aq) aq) ?_;have hax: -1<=m / 32 % 3 - 1/\m / 32 % 3 - 1<=1:=by lia
 have hup: -1<=m / 96 % 3 - 1/\m / 96 % 3 - 1<=1:=by lia
 generalize m / 32 % 3 - 1=ax at hax ⊢;generalize m / 96 % 3 - 1=up at hup ⊢;show bg _ _ _ [oJ m,oR d,some (strV k),oT so,oT ai,oJ ax,oJ up] H2;refine j7 (λσ' H'=>H'=H2/\∃ax:Int,σ'=[oJ m,oR d,some (strV k),oT so,oT ai,oJ ax,oJ up]/\-(if so="leap"then 3 else 1)<=ax/\ax<=(if so="leap"then 3 else 1)) ?_ (λgo=>?_)
 rotate_left
 .refine bz (iW (aV (hG (ev_v rfl) aq)) (λ_=>aV (dL (bh (bM (ev_v rfl) aq) aq) aq))) (λh=>?_) (λh=>go _ _ ⟨rfl,ax,rfl,?_,?_⟩)
  .have hl:=QX (XD.mp h).1;exact fC (v:=.int (ax*2)) (cx (ev_v rfl) aq (.inr ⟨by decide,by decide⟩)) (go _ _ ⟨rfl,ax*2,rfl,by rw[QW hl];lia,by rw[QW hl];lia⟩)
  .split<;>lia
  .split<;>lia
 rintro _ H2 ⟨rfl,ax,rfl,a0,a1⟩;refine j7 (λσ' H'=>H'=H2/\∃up:Int,σ'=[oJ m,oR d,some (strV k),oT so,oT ai,oJ ax,oJ up]/\-1<=up/\up<=1/\¬(ax=0/\up=0)) ?_ (λgo=>?_)
 rotate_left
 .refine bz (iW (aV (dL (ev_v rfl) aq)) (λ_=>aV (dL (ev_v rfl) aq))) (λh=>fC aq (go _ _ ⟨rfl,1,rfl,by lia,by lia,by lia⟩)) (λh=>go _ _ ⟨rfl,up,rfl,hup.1,hup.2,λz=>by simp[z.1,z.2]at h⟩)
 rintro _ H2 ⟨rfl,up,rfl,u0,u1,n0⟩;have s03:=s1.trans s2;refine tupY (iB (ev_v rfl) (iB (ev_v rfl) (iB (ev_v rfl) (iB (ev_v rfl) (iB (ev_v rfl) (Kx ⟨by show 5<=v1;decide,λp hp=>?_⟩))))));exact q p ⟨one k,so,ai,ax,up⟩ _ ⟨⟨k,hkm,rfl⟩,hso,hai,hjh,⟨a0,a1⟩,⟨by show -(if so="leap"then 3 else 1)<=up;split<;>lia,by show up<=(if so="leap"then 3 else 1);split<;>lia⟩,n0⟩ (s03.free hp) af (s03.upd hp)
end
def AX(K:Frag)(cB:YC):Sp:=λvs H Q _=>∃c:Int,vs=[.int c]/\∀b wi hi hs H',bQ K cB H' b wi hi hs->wi*hi<=6->(hs.length:Int)<wi*hi->ah H H'->Q (.ref b) H'
structure QO(P:Rg)(w:Rk)(K:Frag)(mg:Q3)(QR:Rq)(cB:YC):Prop where
 Board:lY P w K mg QR "Board" cB ["self","wide","high","holes"] 4 (qC K cB)
def Qi{a b:Int}(ha:1<=a)(hb:1<=b)(h:a*b=1):a=1:=by apply Classical.byContradiction;intro n;have:2*1<=a*b:=Xn (by lia) hb (by lia) (by lia);lia
section
def oQ{f cB:YC}{fd:Rn}(F:ci K "_law_board" "_law_board" dY f fd)(T:Txt mg aS aA aE aW)(C:QO P w K mg QR cB):aX P w K mg QR cI 6 f fd ["_law_cell"] (AX K cB):=by
 refine F.ok2 bT ?_;rintro _ _ _ _ H _ Q _ hr hu ⟨c,rfl,q⟩;refine⟨_,(ae (au 1 bT.nd (aw ag (aw (cv 0) ag)))
  (ae (au 2 bT.nd (aw ag (aw (aw (cv 0) ag) ag)))
  (ae (aR (PW.pt (gH (PW.pt (gI (aT K hu (aw (cv 1) (cv 2)) ag) (eK (aT K hu (aw (aw (cv 0) ag) ag) ag)))) (fo (aT K hu (aw (cv 1) (cv 2)) ag)))) (ae (au 1 bT.nd ag)
  (aj (au 2 bT.nd (aw ag (aw (aw (cv 0) ag) ag))))) aG)
  (ae (aR (aT K hu (aw (cv 1) (cv 2)) ag) (aj (au 2 bT.nd ag)) aG)
  (ae (au 3 bT.nd (bp pan))
  (ae (aR (PW.pt (gI (aT K hu (aw (aw (cv 0) ag) ag) ag) (eK (aT K hu (aw (cv 1) (cv 2)) ag)))) (aj (au 3 bT.nd (bp (az (aw (aw (cv 0) ag) (aw (cv 1) (cv 2))) pan)))) aG)
  (aj (aB (BL C.Board hr (az (cv 1) (az (cv 2) (az (cv 3) pan)))))))))))),?_⟩
 show bg _ _ _ [oJ c,none,none,none] H;refine aZ (v:=.int (1+c % 3)) (cU aq (bh (ev_v rfl) aq)) ?_;refine aZ (v:=.int (1+c / 3 % 3)) (cU aq (bh (bM (ev_v rfl) aq) aq)) ?_;have w0:1<=1+c % 3/\1+c % 3<=3:=by lia
 have h0:1<=1+c / 3 % 3/\1+c / 3 % 3<=3:=by lia
 generalize 1+c % 3=wi0 at w0 ⊢;generalize 1+c / 3 % 3=hi0 at h0 ⊢;refine bD (λσ' H'=>∃wi hi:Int,σ'=[oJ c,oJ wi,oJ hi,none]/\1<=wi/\wi<=3/\1<=hi/\hi<=3/\wi*hi<=6/\H'=H) (λKK hK=>?_) ?_
 .refine cQ (hV (iW (aV (pW (cx (ev_v rfl) (ev_v rfl) (.inl ⟨by lia,by lia⟩)) aq)) (λ_=>aV (yb (bh (bM (ev_v rfl) aq) aq) aq))) (λ_=>aV (yb (cx (ev_v rfl) (ev_v rfl) (.inl ⟨by lia,by lia⟩)) aq))) (λ_=>?_) (λh=>?_)
  .refine aZ aq ?_;exact fC (v:=.int (2+c / 972 % 2)) (cU aq (bh (bM (ev_v rfl) aq) aq)) (hK _ _ ⟨2,2+c / 972 % 2,rfl,by lia,by lia,by lia,by lia,by lia,rfl⟩)
  .rw[Bool.or_eq_false_iff]at h;have:=QY h.2;exact hK _ _ ⟨wi0,hi0,rfl,w0.1,w0.2,h0.1,h0.2,by lia,rfl⟩
 rintro _ H1 ⟨wi,hi1,rfl,w1,w3,g1,g3,m6,e1⟩;subst e1;refine bD (λσ' H'=>∃hi:Int,σ'=[oJ c,oJ wi,oJ hi,none]/\1<=hi/\hi<=3/\wi*hi<=6/\H'=H1) (λKK hK=>?_) ?_
 .refine cQ (aV (dL (cx (ev_v rfl) (ev_v rfl) (.inl ⟨by lia,by lia⟩)) aq)) (λh=>?_) (λh=>hK _ _ ⟨hi1,rfl,g1,g3,m6,rfl⟩);have e:=Qi w1 g1 (QX h);subst e;exact fC aq (hK _ _ ⟨2,rfl,by lia,by lia,by lia,rfl⟩)
 rintro _ H2 ⟨hi,rfl,h1,h3,m6',e2⟩;subst e2;have m1:1*1<=wi*hi:=Xn w1 h1 (by lia) (by lia);refine gX λq1 hq1=>?_;refine bD (λσ' H'=>∃(p:YC)(hs:List Int),σ'=[oJ c,oJ wi,oJ hi,oR p]/\H' p=some (.lst (hs.map V.int))/\(∀h∈hs,0<=h/\h<wi*hi)/\hs.Nodup/\(hs.length:Int)<wi*hi/\ah H2 H') (λKK hK=>?_) ?_
 .have sm:ah H2 (upd H2 q1 (.lst [])):=(ah.refl H2).upd hq1;refine cQ (iW (aV (dL (bh (bM (ev_v rfl) aq) aq) aq)) (λ_=>aV (yb (cx (ev_v rfl) (ev_v rfl) (.inl ⟨by lia,by lia⟩)) aq))) (λh=>?_) (λh=>hK _ _ ⟨q1,[],rfl,af,(λh hh=>by cases hh),VU,by show(0:Int)<_;lia,sm⟩);have h2:=QX (XD.mp h).2;refine sL (gV (bI (v:=.int (c / 27 % (wi*hi))) (bh (bM (ev_v rfl) aq) (cx (ev_v rfl) (ev_v rfl) (.inl ⟨by lia,by lia⟩)) (by lia)) (cN ⟨by show 1<=v1;decide,λp hp=>hK _ _ ⟨p,[c / 27 % (wi*hi)],rfl,af,λh hh=>?_,by simp,by show(1:Int)<_;lia,sm.upd hp⟩⟩)));rw[Vb.mp hh];exact⟨Xl _ (by lia),Xm _ (by lia)⟩
 rintro _ H3 ⟨p,hs,rfl,ep,gd,nd,hl,s3⟩;refine IW (BE (iB (ev_v rfl) (iB (ev_v rfl) (iB (ev_v rfl) (Kx λx dx nx ndx ne=>?_)))));exact⟨x,p,dx,wi,hi,hs,rfl,af,by rw[ak (ay ep nx),ak (ay ep ndx)];exact ep,w1,by lia,h1,by lia,gd,nd,hl,λhs' H' pm O sb=>⟨rfl,q x wi hi hs' H' O m6' (by rw[pm.length_eq];exact hl) (pJ s3 nx ndx sb)⟩⟩
end
def Bj{xs:List V}{i:Int}(h0:0<=i)(h1:i<xs.length):∃v,atI xs i=some v/\v∈xs:=by
 have hl:i.toNat<xs.length:=by lia
 refine⟨xs[i.toNat],?_,Vl hl⟩;have:=bx (U9 hl)
 rwa[Xu h0]at this
def Le(P:V->Hp->Prop)(h:∀R:VK,(∀v H',P v H'->R v H')->to σ H R)(q:∀v H',P v H'->∃p xs i x,v=.ref p/\H' p=some (.lst xs)/\Ev ti σ H' (.int i)/\atI xs i=some x/\Q x H'):LD K to ti σ H Q:=h _ λv H' pv=>by obtain⟨p,xs,i,x,rfl,e1,e2,e3,e4⟩:=q v H' pv;exact e2 _ ⟨xs,x,.inl (aN.of e1),e3,e4⟩
noncomputable def CW(x0 xl:Nat)(t1 t2 t3:YC):List ((Str×Str)×YC):=[(("without",one x0),t1),(("home",one xl),t2),(("home",one x0),t3)]
def IP(K:Frag)(cB cG:YC):Sp:=λvs H Q _=>∃(a:YC)(ns:List Int),vs=[.ref a]/\aN K H a (ns.map V.int)/\∀(g b kq:YC)(wi hi:Int)(hs:List Int)(ks:List Nat)(us:List (bb×YC))(ts es:List ((Str×Str)×YC))(st:Str)(H':Hp),
 fj K cB cG H' g b kq wi hi hs ks us ts es st->ks.length<=2->wi*hi<=6->(hs.length:Int)<wi*hi->ah H H'->Q (.ref g) H'
structure QN(P:Rg)(w:Rk)(K:Frag)(mg:Q3)(QR:Rq)(cB cG:YC):Prop where
 _law_cell_at:cC P w K mg QR "_law_cell_at" ["_law_script","_law_k"] 1 (j8 K)
 _law_mixed:cC P w K mg QR "_law_mixed" ["_law_script","_law_k"] 2 (xq K)
 _law_kinds:cC P w K mg QR "_law_kinds" ["_law_cell"] 1 AR
 _law_rule:cC P w K mg QR "_law_rule" ["_law_cell","_law_kinds_here"] 1 xt
 _law_board:cC P w K mg QR "_law_board" ["_law_cell"] 6 (AX K cB)
 Game:lY P w K mg QR "Game" cG ["self","board","kinds","rules","turns","ends","stuck"] 6 (xu K cG)
def gT.neg(h:gT ks u):gT ks ⟨u.kd,u.so,u.ai, -u.ax, -u.up⟩:=by
 refine⟨h.kd,h.so,h.ai,h.jh,?_,?_,?_⟩
 .have:=h.ax;show -(if u.so="leap"then(3:Int)else 1)<=-u.ax/\-u.ax<=(if u.so="leap"then 3 else 1);lia
 .have:=h.up;show -(if u.so="leap"then(3:Int)else 1)<=-u.up/\-u.up<=(if u.so="leap"then 3 else 1);lia
 .have:=h.n0;show¬(-u.ax=0/\-u.up=0);lia
section
def rE{f cB cG:YC}{fd:Rn}(F:ci K "_law_game" "_law_game" fN f fd)(T:Txt mg aS aA aE aW)(C:QN P w K mg QR cB cG):aX P w K mg QR cI 8 f fd ["_law_script"] (IP K cB cG):=by
 refine F.ok2 bo ?_;rintro _ _ _ s H _ Q _ hr hu ⟨a,ns,rfl,hS,k⟩;refine⟨_,(ae (au 1 bo.nd (aF C._law_mixed hr (az (cv 0) (az ag pan))))
  (ae (au 2 bo.nd (aF C._law_kinds hr (az (cv 1) pan)))
  (ae (au 3 bo.nd (cX K (bp (jD rfl)) (aw (aw (cv 1) ag) ag)))
  (ae (au 4 bo.nd (bp pan))
  (ae (fu Rr rfl (LC T.range (az (cv 3) pan)) (bY 5 bo.nd) (ae (au 6 bo.nd (aF C._law_rule hr (az (aw (aF C._law_cell_at hr (az (cv 0) (az (aw ag (cv 5)) pan))) (aw ag (cv 5))) (az (cv 2) pan))))
  (ae (bK (dw (cv 4) (cv 6)))
  (aj (aR (aT K hu (aw (aw (cv 1) ag) ag) ag) (aj (bK (dw (cv 4) (ck (az (cX K (cv 6) ag) (az (cX K (cv 6) ag) (az (cX K (cv 6) ag) (az (lH (cX K (cv 6) ag)) (az (lH (cX K (cv 6) ag)) pan))))))))) aG)))))
  (ae (au 7 bo.nd (aF C._law_mixed hr (az (cv 0) (az ag pan))))
  (ae (au 8 bo.nd (bp pan))
  (ae (aR (PW.pt (gI (aT K hu (kB (fv K) bB T.len (az (cv 2) pan)) ag) (eK (aT K hu (aw (cv 7) ag) ag)))) (aj (au 8 bo.nd (bp (az (ck (az (cX K (cv 2) ag) (az (cX K (cv 2) ag) pan))) pan)))) aG)
  (ae (au 9 bo.nd (bp (az (ck (az bR (az (cX K (cv 2) ag) pan))) (az (ck (az bR (az (cX K (cv 2) (lH ag)) pan))) (az (ck (az bR (az (cX K (cv 2) ag) pan))) pan)))))
  (ae (au 10 bo.nd (cX K (bp (az (bp pan) (az (bp pan) (az (bp pan) (az (DX K (cv 9) iD (eW ag)) (az (DX K (cv 9) (eW ag) (eW ag)) (az (DX K (cv 9) iD (eW ag)) (az (DX K (cv 9) (eW ag) iD) (az (cv 9) pan))))))))) (aw (aw (cv 7) ag) ag)))
  (ae (au 11 bo.nd (cX K (bp (jD rfl)) (aw (aw (cv 7) ag) ag)))
  (aj (aB (BL C.Game hr (az (aF C._law_board hr (az (aF C._law_mixed hr (az (cv 0) (az ag pan))) pan)) (az (cv 2) (az (cv 4) (az (cv 8) (az (cv 10) (az (cv 11) pan)))))))))))))))))))),?_⟩
 show bg _ _ _ [oR a,none,none,none,none,none,none,none,none,none,none,none] H;refine aZ (aH (aa (ev_v rfl) (aa aq av)) (λQ q=>⟨a,ns,1,rfl,hS,by decide,q⟩)) ?_;generalize mixF ns 1=c;refine bu (λv H'=>∃(kq:YC)(ks:List Nat),v=.ref kq/\kT H' kq ks/\ks.length<=2/\ah H H') (λQ q=>?_) ?_
 .exact cR (aa (ev_v rfl) av) ⟨_,rfl,λkq ks H' z1 z2 z3 z4=>q _ _ ⟨kq,ks,rfl,z1,z2,z4⟩⟩
 rintro _ H1 ⟨kq,ks,rfl,ek,k2,s1⟩;have hS1:=s1.seq hS;have hpos:(0:Int)<((ks.map strV).length:Int):=by rw[U6];have:=ek.l1;lia
 refine bu (λv H'=>∃n:Int,v=.int n/\0<=n/\n<=5/\ah H1 H') (λQ q=>?_) ?_
 .obtain⟨n,e,hn⟩:=NT (ns:=[2,3,4,2,5,3,1,4,0,3]) (i:=c / 1300 % 10) (by lia) (by show _<(10:Int);lia);simp only[U8,Vq,or_false]at hn;exact uj yv (by decide) (λH'=>(bh (bM (ev_v rfl) aq) aq)) e (λH' s=>q _ _ ⟨n,rfl,by lia,by lia,s⟩)
 rintro _ H2 ⟨n,rfl,n0,n5,s2⟩;refine gX λrq hrq=>?_;have sr:ah H2 (upd H2 rq (.lst [])):=(ah.refl H2).upd hrq;refine bD (λσ' H'=>∃us:List (bb×YC),(∃o5 o6,σ'=[oR a,oJ c,oR kq,oJ n,oR rq,o5,o6,none,none,none,none,none])/\H' rq=some (.lst (rRefs us))/\dM H' us/\(∀z∈us,gT ks z.1)/\us.length<=12/\ah H2 H') (λK' hK=>?_) ?_
 .refine kM n (λQ q=>ow (v:=.int n) (ev_v rfl) q) (by lia) (by lia)
   (λi σ' H'=>∃us:List (bb×YC),(∃o5 o6,σ'=[oR a,oJ c,oR kq,oJ n,oR rq,o5,o6,none,none,none,none,none])/\H' rq=some (.lst (rRefs us))/\dM H' us/\(∀z∈us,gT ks z.1)/\us.length<=2*i/\ah H2 H')
   ⟨[],⟨_,_,rfl⟩,af,λ_ z=>(nomatch z),λ_ z=>(nomatch z),WT _,sr⟩ ?_ (λσ' H' h=>?_)
  .rintro i _ H3 hi' ⟨us,⟨o5,o6,rfl⟩,h3,hR,hg,hl,s3⟩;show bg _ _ _ [oR a,oJ c,oR kq,oJ n,oR rq,oJ (0+(i:Int)),o6,none,none,none,none,none] H3;have hS3:=(s2.trans s3).seq hS1;have ek3:=ek.same (s2.trans s3);refine bu (λv H'=>∃(t:YC)(u:bb),v=.ref t/\gT ks u/\H' t=some (.tup u.vs)/\ah H3 H') (λQ q=>?_) ?_
   .exact cR (aa (cU (aH (aa (ev_v rfl) (aa (cU aq (ev_v rfl)) av)) (λQ q=>⟨a,ns,_,rfl,hS3,by lia,q⟩)) (cx aq (ev_v rfl) (.inl ⟨by decide,by decide⟩))) (aa (ev_v rfl) av)) ⟨_,kq,ks,rfl,ek3,λt u H' g1 g2 g3 g4=>q _ _ ⟨t,u,rfl,g1,g3,g4⟩⟩
   rintro _ H4 ⟨t,u,rfl,gu,et,s4⟩;have h4:=s4 _ _ h3;refine vm (ev_v rfl) (ev_v rfl) h4 (by rw[U6,Rf];lia) ?_;have ntr:t≠rq:=λe=>by rw[e,h4]at et;cases et
   have R5:dM (upd H4 rq (.lst (rRefs us++[.ref t]))) (us++[(u,t)]):=(hR.add s4 et).put h4;have e5:(upd H4 rq (.lst (rRefs us++[.ref t]))) rq=some (.lst (rRefs (us++[(u,t)]))):=by rw[af,show rRefs (us++[(u,t)])=rRefs us++[V.ref t]from Vg ..]
   have t5:(upd H4 rq (.lst (rRefs us++[.ref t]))) t=some (.tup u.vs):=by rw[ak ntr];exact et
   have s5:ah H2 (upd H4 rq (.lst (rRefs us++[.ref t]))):=(s3.trans s4).put hrq;have g5:∀z∈us++[(u,t)],gT ks z.1:=λz hz=>by
    rcases Vk.mp hz with w|w
    .exact hg z w
    .rw[Vb.mp w];exact gu
   generalize upd H4 rq (.lst (rRefs us++[.ref t]))=H5 at R5 e5 t5 s5 ⊢;have l5:(us++[(u,t)]).length=us.length+1:=by rw[Ve];rfl
   generalize us++[(u,t)]=us1 at R5 e5 g5 l5;show l7 _ _ _ _ [oR a,oJ c,oR kq,oJ n,oR rq,oJ (0+(i:Int)),oR t,none,none,none,none,none] H5;refine cQ (aV (yb (bh (bM (ev_v rfl) aq) aq) aq)) (λ_=>?_) (λ_=>⟨us1,⟨_,_,rfl⟩,e5,R5,g5,by lia,s5⟩);have tt:aN K H5 t u.vs\/cY K H5 t u.vs:=.inr (cY.of t5);refine uS (ev_v rfl) ⟨_,e5⟩ (j6 (bI (aY (x:=.str u.kd) (ev_v rfl) aq tt rfl) (bI (aY (x:=.str u.so) (ev_v rfl) aq tt rfl) (bI (aY (x:=.str u.ai) (ev_v rfl) aq tt rfl) (bI (lF (aY (x:=.int u.ax) (ev_v rfl) aq tt rfl)) (bI (lF (aY (x:=.int u.up) (ev_v rfl) aq tt rfl)) (cN ⟨by show 5<=v1;decide,λt2 ht2=>?_⟩)))))));have s6:ah H5 (upd H5 t2 (.tup (bb.vs ⟨u.kd,u.so,u.ai, -u.ax, -u.up⟩))):=(ah.refl H5).upd ht2;refine⟨_,s6 _ _ e5,by rw[U6,l5,Rf];lia,us1++[(⟨u.kd,u.so,u.ai, -u.ax, -u.up⟩,t2)],⟨_,_,rfl⟩,?_,(R5.add s6 af).put (s6 _ _ e5),λz hz=>?_,by rw[Ve,l5];show us.length+1+1<=_;lia,(s5.trans s6).put hrq⟩
   .rw[af,show rRefs (us1++[((⟨u.kd,u.so,u.ai, -u.ax, -u.up⟩:bb),t2)])=rRefs us1++[V.ref t2]from Vg ..]
   .rcases Vk.mp hz with w|w
    .exact g5 z w
    .rw[Vb.mp w];exact gT.neg gu
  .obtain⟨us,o,x1,x2,x3,x4,x5⟩:=h;exact hK _ _ ⟨us,o,x1,x2,x3,by lia,x5⟩
 rintro _ H3 ⟨us,⟨o5,o6,rfl⟩,h3,hR,hg,hl,s3⟩;have hS3:=(s2.trans s3).seq hS1;refine aZ (aH (aa (ev_v rfl) (aa aq av)) (λQ q=>⟨a,ns,2,rfl,hS3,by decide,q⟩)) ?_;generalize mixF ns 2=mo;have ek3:=ek.same (s2.trans s3);refine gX λtq0 htq=>?_;have st3:ah H3 (upd H3 tq0 (.lst [])):=(ah.refl H3).upd htq;refine bD (λσ' H'=>∃(tq:YC)(ts:List ((Str×Str)×YC)),σ'=[oR a,oJ c,oR kq,oJ n,oR rq,o5,o6,oJ mo,oR tq,none,none,none]/\lZ ks ts/\mn H' ts/\H' tq=some (.lst (cD ts))/\ah H3 H') (λK' hK=>?_) ?_
 .have ek3':=ek3.same st3;refine cQ (iW (aV (dL (cq (ev_v rfl) (.inl (aN.of ek3'.at_))) aq)) (λ_=>aV (dL (bh (ev_v rfl) aq) aq))) (λh=>?_) (λ_=>hK _ _ ⟨tq0,[],rfl,⟨WT _,λ_ z=>(nomatch z),VU,λ_ z=>(nomatch z)⟩,λ_ z=>(nomatch z),af,st3⟩);have hlen:=QX (XD.mp h).1;rw[U6]at hlen;obtain⟨x,y,rfl⟩:∃x y,ks=[x,y]:=by
   match ks,hlen with
   | [x,y],_=>exact⟨x,y,rfl⟩
   | [],h=>cases h
   | [_],h=>simp at h
   |_::_::_::_,h=>simp at h;lia
  have nxy:x≠y:=by have:=ek.nd;simp at this;exact this
  refine sL (gV (cu (j6 (bI (aY (x:=strV x) (ev_v rfl) aq (.inl (aN.of ek3'.at_)) rfl) (bI (aY (x:=strV y) (ev_v rfl) aq (.inl (aN.of ek3'.at_)) rfl) (cN ⟨by show 2<=v1;decide,λt ht=>cN ⟨by show 1<=v1;decide,λp hp=>?_⟩⟩))))));have s4:=st3.upd (o:=.tup [strV x,strV y]) ht;refine hK _ _ ⟨p,[((one x,one y),t)],rfl,⟨by simp,λz hz=>?_,by simp,λz hz z' hz'=>?_⟩,λz hz=>?_,af,s4.upd hp⟩
  .rw[Vb.mp hz];exact⟨⟨x,by simp,rfl⟩,y,by simp,rfl⟩
  .rw[Vb.mp hz,Vb.mp hz'];exact λe=>nxy (DM e).symm
  .rw[Vb.mp hz];exact((ah.refl _).upd hp) _ _ (show(upd (upd H3 tq0 (HO.lst [])) t (HO.tup [strV x,strV y])) t=some (.tup [.str (one x),.str (one y)])from af)
 rintro _ H4 ⟨tq,ts,rfl,tg,tp,et,s4⟩;have ek4:=ek3.same s4;obtain⟨x0,hx0,ex0⟩:∃x∈ks,atI (ks.map strV) 0=some (strV x):=by obtain⟨v,e,hv⟩:=Bj (xs:=ks.map strV) (i:=0) (by decide) hpos;obtain⟨x,hx,rfl⟩:=U7.mp hv;exact⟨x,hx,e⟩
 obtain⟨xl,hxl,exl⟩:∃x∈ks,atI (ks.map strV) (-1)=some (strV x):=by
  rcases List.eq_nil_or_concat ks with e|⟨init,x,e⟩
  .have:=ek.l1;rw[e]at this;simp at this
  .rw[List.concat_eq_append]at e;exact⟨x,by rw[e];simp,by rw[e,Vg];exact CD _ _⟩
 refine bu (λv H'=>∃sq t1 t2 t3,v=.ref sq/\H' sq=some (.lst [.ref t1,.ref t2,.ref t3])/\H' t1=some (.tup [.str "without",strV x0])/\H' t2=some (.tup [.str "home",strV xl])/\H' t3=some (.tup [.str "home",strV x0])/\ah H4 H') (λQ q=>?_) ?_
 .refine gV (cu (j6 (bI aq (bI (aY (ev_v rfl) aq (.inl (aN.of ek4.at_)) ex0) (cN ⟨by show 2<=v1;decide,λt1 h1=>?_⟩)))));have sA:ah H4 (upd H4 t1 (.tup [.str "without",strV x0])):=(ah.refl H4).upd h1;have eA:(upd H4 t1 (.tup [.str "without",strV x0])) t1=some (.tup [.str "without",strV x0]):=af;generalize upd H4 t1 (.tup [.str "without",strV x0])=HA at sA eA ⊢;refine cu (j6 (bI aq (bI (aY (ev_v rfl) (lF aq) (.inl (aN.of (ek4.same sA).at_)) exl) (cN ⟨by show 2<=v1;decide,λt2 h2=>?_⟩))));have sB:ah HA (upd HA t2 (.tup [.str "home",strV xl])):=(ah.refl HA).upd h2;have eB:(upd HA t2 (.tup [.str "home",strV xl])) t2=some (.tup [.str "home",strV xl]):=af;generalize upd HA t2 (.tup [.str "home",strV xl])=HB at sB eB ⊢;refine cu (j6 (bI aq (bI (aY (ev_v rfl) aq (.inl (aN.of (ek4.same (sA.trans sB)).at_)) ex0) (cN ⟨by show 2<=v1;decide,λt3 h3=>cN ⟨by show 3<=v1;decide,λsq hsq=>?_⟩⟩))));have sC:ah HB (upd HB t3 (.tup [.str "home",strV x0])):=(ah.refl HB).upd h3;have sD:=(ah.refl (upd HB t3 (.tup [.str "home",strV x0]))).upd (o:=.lst [.ref t1,.ref t2,.ref t3]) hsq;exact q _ _ ⟨sq,t1,t2,t3,rfl,af,sD _ _ (sC _ _ (sB _ _ eA)),sD _ _ (sC _ _ eB),sD _ _ af,((sA.trans sB).trans sC).trans sD⟩
 rintro _ H5 ⟨sq,t1,t2,t3,rfl,esq,et1,et2,et3,s5⟩;have subs:∀(H':Hp),ah H5 H'->∀es:List ((Str×Str)×YC),(∀z∈es,z∈CW x0 xl t1 t2 t3)->mn H' es/\(∀z∈es,z.1.1∈gW/\∃b∈ks,z.1.2=one b):=λH' s es h=>by
  have all:∀z∈CW x0 xl t1 t2 t3,H' z.2=some (.tup [.str z.1.1,.str z.1.2])/\z.1.1∈gW/\∃b∈ks,z.1.2=one b:=λz hz=>by
   simp only[CW,U8,Vq,or_false]at hz
   rcases hz with rfl|rfl|rfl
   .exact⟨s _ _ et1,(by decide:("without":Str)∈gW),x0,hx0,rfl⟩
   .exact⟨s _ _ et2,(by decide:("home":Str)∈gW),xl,hxl,rfl⟩
   .exact⟨s _ _ et3,(by decide:("home":Str)∈gW),x0,hx0,rfl⟩
  exact⟨λz hz=>(all z (h z hz)).1,λz hz=>(all z (h z hz)).2⟩
 refine bu (λv H'=>∃(eq:YC)(es:List ((Str×Str)×YC)),v=.ref eq/\H' eq=some (.lst (cD es))/\es.length<=3/\(∀z∈es,z∈CW x0 xl t1 t2 t3)/\ah H5 H') (λQ q=>?_) ?_
 .refine Le (λv H'=>∃p refs,v=.ref p/\H' p=some (.lst refs)/\refs.length=8/\(∀r∈refs,∃(eq:YC)(es:List ((Str×Str)×YC)),r=.ref eq/\H' eq=some (.lst (cD es))/\es.length<=3/\∀z∈es,z∈CW x0 xl t1 t2 t3)/\ah H5 H') (λR k=>?_) ?_
  .refine gV (cu (gV (cN ⟨WT _,λp1 h1=>?_⟩)));have sA:ah H5 (upd H5 p1 (.lst [])):=(ah.refl H5).upd h1;have eA:(upd H5 p1 (.lst [])) p1=some (.lst []):=af;generalize upd H5 p1 (.lst [])=HA at sA eA ⊢;refine cu (gV (cN ⟨WT _,λp2 h2=>?_⟩));have sB:ah HA (upd HA p2 (.lst [])):=(ah.refl HA).upd h2;have eB:(upd HA p2 (.lst [])) p2=some (.lst []):=af;generalize upd HA p2 (.lst [])=HB at sB eB ⊢;refine cu (gV (cN ⟨WT _,λp3 h3=>?_⟩));have sC:ah HB (upd HB p3 (.lst [])):=(ah.refl HB).upd h3;have eC:(upd HB p3 (.lst [])) p3=some (.lst []):=af;generalize upd HB p3 (.lst [])=HC at sC eC ⊢;have s3c:=(sA.trans sB).trans sC;refine cu (pA (lo:=none) (hi:=some 1) (ev_v rfl) pD (jP aq) (aN.of (s3c _ _ esq)) λp4 h4=>?_);have sD:ah HC (upd HC p4 (.lst [.ref t1])):=(ah.refl HC).upd h4;have eD:(upd HC p4 (.lst [.ref t1])) p4=some (.lst [.ref t1]):=af;show bf _ _ _ (upd HC p4 (.lst [.ref t1])) _;generalize upd HC p4 (.lst [.ref t1])=HD at sD eD ⊢;refine cu (pA (lo:=some 1) (hi:=some 2) (ev_v rfl) (jP aq) (jP aq) (aN.of ((s3c.trans sD) _ _ esq)) λp5 h5=>?_);have sE:ah HD (upd HD p5 (.lst [.ref t2])):=(ah.refl HD).upd h5;have eE:(upd HD p5 (.lst [.ref t2])) p5=some (.lst [.ref t2]):=af;show bf _ _ _ (upd HD p5 (.lst [.ref t2])) _;generalize upd HD p5 (.lst [.ref t2])=HE at sE eE ⊢;have s3e:=(s3c.trans sD).trans sE;refine cu (pA (lo:=none) (hi:=some 2) (ev_v rfl) pD (jP aq) (aN.of (s3e _ _ esq)) λp6 h6=>?_);have sF:ah HE (upd HE p6 (.lst [.ref t1,.ref t2])):=(ah.refl HE).upd h6;have eF:(upd HE p6 (.lst [.ref t1,.ref t2])) p6=some (.lst [.ref t1,.ref t2]):=af;show bf _ _ _ (upd HE p6 (.lst [.ref t1,.ref t2])) _;generalize upd HE p6 (.lst [.ref t1,.ref t2])=HF at sF eF ⊢;refine cu (pA (lo:=some 2) (hi:=none) (ev_v rfl) (jP aq) pD (aN.of ((s3e.trans sF) _ _ esq)) λp7 h7=>?_);have sG:ah HF (upd HF p7 (.lst [.ref t3])):=(ah.refl HF).upd h7;have eG:(upd HF p7 (.lst [.ref t3])) p7=some (.lst [.ref t3]):=af;show bf _ _ _ (upd HF p7 (.lst [.ref t3])) _;generalize upd HF p7 (.lst [.ref t3])=HG at sG eG ⊢;refine bI (ev_v rfl) (cN ⟨by show 8<=v1;decide,λp hp=>?_⟩);have sP:=(ah.refl HG).upd (o:=.lst [.ref p1,.ref p2,.ref p3,.ref p4,.ref p5,.ref p6,.ref p7,.ref sq]) hp;have zF:=sG.trans sP;have zE:=sF.trans zF;have zD:=sE.trans zE;have zC:=sD.trans zD;have zB:=sC.trans zC;have zA:=sB.trans zB;refine k _ _ ⟨p,_,rfl,af,rfl,λr hr'=>?_,sA.trans zA⟩;simp only[U8,Vq,or_false]at hr'
   rcases hr' with rfl|rfl|rfl|rfl|rfl|rfl|rfl|rfl
   .exact⟨p1,[],rfl,zA _ _ eA,by simp,λ_ z=>(nomatch z)⟩
   .exact⟨p2,[],rfl,zB _ _ eB,by simp,λ_ z=>(nomatch z)⟩
   .exact⟨p3,[],rfl,zC _ _ eC,by simp,λ_ z=>(nomatch z)⟩
   .exact⟨p4,[(("without",one x0),t1)],rfl,zD _ _ eD,by simp,λz hz=>by rw[Vb.mp hz];simp[CW]⟩
   .exact⟨p5,[(("home",one xl),t2)],rfl,zE _ _ eE,by simp,λz hz=>by rw[Vb.mp hz];simp[CW]⟩
   .exact⟨p6,[(("without",one x0),t1),(("home",one xl),t2)],rfl,zF _ _ eF,by simp,λz hz=>by
     rcases U8.mp hz with h|h
     .rw[h];simp[CW]
     .rw[Vb.mp h];simp[CW]⟩
   .exact⟨p7,[(("home",one x0),t3)],rfl,sP _ _ eG,by simp,λz hz=>by rw[Vb.mp hz];simp[CW]⟩
   .exact⟨sq,[(("without",one x0),t1),(("home",one xl),t2),(("home",one x0),t3)],rfl,(sA.trans zA) _ _ esq,by simp,λz hz=>hz⟩
  .rintro _ H' ⟨p,refs,rfl,ep,l8,hr',s6⟩;obtain⟨v,e,hv⟩:=Bj (xs:=refs) (i:=mo / 2 % 8) (by lia) (by rw[l8];show _<(8:Int);lia);obtain⟨eq,es,rfl,ee,l3,hz⟩:=hr' v hv;exact⟨p,refs,mo / 2 % 8,_,rfl,ep,(bh (bM (ev_v rfl) aq) aq),e,q _ _ ⟨eq,es,rfl,ee,l3,hz,s6⟩⟩
 rintro _ H6 ⟨eq,es,rfl,ee,l3,hz3,s6⟩;refine bu (λv H'=>∃st:Str,v=.str st/\st∈jT/\ah H6 H') (λQ q=>?_) ?_
 .obtain⟨n,e,hn⟩:=Bi (ss:=["lost","even","lost","won"]) (i:=mo / 16 % 4) (by lia) (by show _<(4:Int);lia);exact uj yv (by decide) (λH'=>(bh (bM (ev_v rfl) aq) aq)) e (λH' s=>q _ _ ⟨n,rfl,by
   simp only[U8,Vq,or_false]at hn
   rcases hn with rfl|rfl|rfl|rfl<;>decide,s⟩)
 rintro _ H7 ⟨st,rfl,hst,s7⟩;have s37:=((s4.trans s5).trans s6).trans s7;have hS7:=s37.seq hS3;refine IW (BE (cu (cR (aa (aH (aa (ev_v rfl) (aa aq av)) (λQ q=>⟨a,ns,0,rfl,hS7,by decide,q⟩)) av) ⟨_,rfl,λb wi hi hs H8 O m6 hl6 s8=>?_⟩)));refine iB (ev_v rfl) (iB (ev_v rfl) (iB (ev_v rfl) (iB (ev_v rfl) (iB (ev_v rfl) (Kx λg gx ng ngx nne=>?_)))));have sF:ah H8 (upd (upd H8 gx (.own g)) g (.ins cG gx [])):=((ah.refl H8).upd ngx).upd (by rw[ak (Ne.symm nne)];exact ng);have s38:=s37.trans s8;have ekF:=ek3.same (s38.trans sF);have q3:=s38.trans sF;have q4:=(((s5.trans s6).trans s7).trans s8).trans sF;have q6:=(s7.trans s8).trans sF;have q5:ah H5 _:=(((s6.trans s7).trans s8).trans sF);obtain⟨hP,hg5⟩:=subs _ q5 es hz3;have mm:(ks.map one).map V.str=ks.map strV:=by rw[Vj];rfl
 have tln:∀z∈ts,z.1.1.length<=1000/\z.1.2.length<=1000:=λz hz=>by obtain⟨⟨a,_,e1⟩,b,_,e2⟩:=tg.kd z hz;rw[e1,e2];exact⟨ji a,ji b⟩
 have eln:∀z∈es,z.1.1.length<=1000/\z.1.2.length<=1000:=λz hz=>by obtain⟨e1,b,_,e2⟩:=hg5 z hz;rw[e2];exact⟨K8 e1,ji b⟩
 refine⟨g,b,kq,rq,tq,eq,gx,ks.map one,rRefs us,cD ts,cD es,st,rfl,af,by rw[mm];exact ekF.at_,q3 _ _ h3,q4 _ _ et,q6 _ _ ee,KL ekF,J6 (q3 _ _ h3) (hR.same q3) hg,Bd (q4 _ _ et) (tp.same q4) tln,Bd (q6 _ _ ee) hP eln,
  zI ekF.at_ ek.ltr ek.nd ek.l1 ek.l6,yV (q3 _ _ h3) (hR.same q3) hg (by lia),yE (q4 _ _ et) (tp.same q4) tg,pE (q6 _ _ ee) hP (λz hz=>⟨(hg5 z hz).1,?_⟩) (by lia),hst,(by decide:∀s∈jT,s.length<=1000) st hst,λH9 G sb'=>⟨rfl,?_⟩⟩
 .obtain⟨b,hb,e2⟩:=(hg5 z hz).2;exact U7.mpr ⟨b,hb,e2.symm⟩
 .rw[mm]at G;have s9:ah H8 H9:=pJ (ah.refl H8) ng ngx sb';have q5':ah H5 H9:=((s6.trans s7).trans s8).trans s9;have q4':ah H4 H9:=s5.trans q5';have q3':ah H3 H9:=s4.trans q4';obtain⟨hP',_⟩:=subs _ q5' es hz3;exact k g b kq wi hi hs ks us ts es st H9 ⟨G,O.same s9,ek.ltr,ek.l1,ek.l6,ek.nd,hR.same q3',hl,hg,tp.same q4',tg,hP',by lia,hg5,hst⟩ k2 m6 hl6 (((s1.trans s2).trans s3).trans q3')
end
def gU(ho:Ev to σ H (.ref a))(hn:kW C m H a)(q:sp [.ref a] H Q E0):oo C m sp to cw σ H Q:=ho _ ⟨hn,q⟩
theorem Ca{α β:Type}(f:α->β):∀(l:List α)(k:Nat),(l.map f).eraseIdx k=(l.eraseIdx k).map f
 | [],_=>rfl
 |_::_,0=>rfl
 |a::l,k+1=>by show f a::(l.map f).eraseIdx k=f a::(l.eraseIdx k).map f;rw[Ca f l k]
def Bf(ho:Ev to σ H (.ref l))(hi:Ev te σ H (.int i))(hl:H l=some (.lst xs))(h0:0<=i)(h1:i<xs.length)(h9:xs.length<=1000)(q:∀v,xs[i.toNat]? =some v->Q v (upd H l (.lst (xs.eraseIdx i.toNat)))):Cy to te σ H Q:=ho _ ⟨⟨xs,hl⟩,hi _ (by
 have hx:xs[i.toNat]? =some (xs[i.toNat]'(by lia)):=U9 (by lia);exact⟨l,xs,i,i.toNat,_,rfl,rfl,hl,by lia,by lia,PySem.StrLaws.seqIndex_nonneg h0 h1,hx,q _ hx⟩)⟩
noncomputable def mOf(wi hi:Int)(hs:List Int):Nat:=if(freeQ wi hi hs).length<5 then 3 else 2
def vp(K:Frag)(cB cG:YC):Sp:=λvs H Q _=>∃g b kq c wi hi hs ks us ts es st,vs=[.ref g,.int c]/\fj K cB cG H g b kq wi hi hs ks us ts es st/\wi*hi<=6/\
 ∀(t:YC)(p:Pla)(H':Hp),lM wi hi hs ks (mOf wi hi hs) p->H t=none->H' t=some (.tup [.str p.1,.int p.2])->ah H H'->Q (.ref t) H'
structure QM(P:Rg)(w:Rk)(K:Frag)(mg:Q3)(QR:Rq)(cB:YC):Prop where
 Board_squares:fV P w K mg QR cB "squares" ["self"] 1 (IR K cB)
def Jk(ha:Ev ta σ H (.bl a)):Ev (L2.cB KR (bf ta cw)) σ H (.int (if a then 1 else 0)):=λQ q=>ha _ q
theorem tW:∀{l:List Nat},(∀c∈l,c=35\/c=46)->pcs l=0
 | [],_=>rfl
 |c::l,h=>by rw[cf,QW (h c Vf),tW λx hx=>h x (Vd _ hx)]
section
def lv{f cB:YC}{fd:Rn}(F:ci K "squares" "Board.squares" ce f fd)(T:Txt mg aS aA aE aW)(B:jK K cB):aX P w K mg QR cI 1 f fd ["self"] (IR K cB):=by refine F.ok2 li ?_;rintro _ _ _ s H _ Q _ hr hu ⟨p,wi,hi,hs,rfl,O,k⟩;obtain⟨pf,ff,hf⟩:=O.firm B;have mm:=O.many;refine⟨_,(aj (aB (eQ (cz (N:=["square","firm"]) (src:=[none,none]) (am ce) ["self"]) (Ji K T.enumerate (bG K (cv 0))) (λ_ _ _=>(Ph K (n:=2) (fR (bj (i:=0) ["square","firm"]) (fR (bj (i:=1) ["square","firm"]) mz)))) (λ_ _ _=>(ku (a7 (cv 1)))) (λ_ _ _=>(cv 0))))),?_⟩;show cJ _ _ [oR p] H;refine eJ (Aa (l:=firmL wi hi hs) (rest:=[]) (aK (ev_v rfl) ff) hf (by rw[uy];lia) rfl λH' d s hd=>?_);rw[B5];exact k d _ (s.free hd) af (s.upd hd)
def oM{f cB cG:YC}{fd:Rn}(F:ci K "_law_place" "_law_place" dS f fd)(T:Txt mg aS aA aE aW)(B:jK K cB)(D:uZ K cG)(C:QM P w K mg QR cB):aX P w K mg QR cI 2 f fd ["_law_game_here","_law_cell"] (vp K cB cG):=by
 refine F.ok2 bm ?_;rintro _ _ _ s H _ Q _ hr hu ⟨g,b,kq,c,wi,hi,hs,ks,us,ts,es,st,rfl,G,m6,q⟩;have mm:=G.bd.many;have w8:=G.bd.w8;have w1:=G.bd.w1;refine⟨_,(ae (au 2 bm.nd (Ql (bp (az bR pan)) (aw (bG K (bG K (cv 0))) (bG K (bG K (cv 0))))))
  (ae (fu Rr rfl (mB K (bG K (bG K (cv 0)))) (bY 3 bm.nd) (aj (vQ bR (Bk (cv 2) (cv 3) tM))))
  (ae (au 4 bm.nd (jl C.Board_squares hr (bG K (cv 0))))
  (ae (au 5 bm.nd (aw ag (aw (xS qa su T.int (az (g6 K hu (kB (fv K) bB T.len (az (cv 4) pan)) ag) pan)) (aw (cv 1) ag))))
  (ae (au 6 bm.nd (aw (aw (cv 1) ag) ag))
  (ae (au 1 bm.nd (aw (cv 1) ag))
  (ae (fu Rr rfl (LC T.range (az (kB (Ad rfl) Lk T.min (az (cv 5) (az (kB (fv K) bB T.len (az (cv 4) pan)) pan))) pan)) (bY 7 bm.nd) (ae (au 8 bm.nd (Ct (cv 4) (aw (cv 1) (kB (fv K) bB T.len (az (cv 4) pan)))))
  (ae (au 1 bm.nd (aw (cv 1) ag))
  (ae (au 9 bm.nd (cX K (bG K (cv 0)) (aw (aw (aw (cv 1) ag) (kB (fv K) bB T.len (az (bG K (cv 0)) pan))) (xS qa su T.int (az (g6 K hu (aw (cv 1) ag) ag) pan)))))
  (ae (vQ (cX K (bp (az (rY PySem.F.slot_str_upper PySem.F.type_str_upper Bx (cv 9)) (az (cv 9) pan))) (aw (aw (cv 7) (aw (aw (aw (cv 1) ag) ag) (aw (cv 7) ag))) ag)) (Bk (cv 2) (cv 8) tM))
  (aj (au 1 bm.nd (aw (cv 1) ag))))))))
  (aj (aB (ck (az (ksm PySem.F.slot_str_join PySem.F.type_str_join (Jh K) bR (az (cv 2) pan)) (az (cv 6) pan)))))))))))),?_⟩
 show bg _ _ _ [oR g,oJ c,none,none,none,none,none,none,none,none] H;obtain⟨n,hn⟩:∃n:Nat,wi*hi=n:=⟨(wi*hi).toNat,by lia⟩;refine bu (λv H'=>∃sq,v=.ref sq/\H sq=none/\H' sq=some (.lst ((List.replicate n 46).map strV))/\ah H H') (λQ q=>?_) ?_
 .refine(gV (bI aq (cN ⟨by show 1<=v1;decide,λp hp=>?_⟩)):qo _ _ H _);have s1:ah H (upd H p (.lst [.str "."])):=(ah.refl H).upd hp;have G1:=G.same s1;refine(cx (aK (aK (ev_v rfl) (G1.gm.board D)) (G1.bd.wide B)) (aK (aK (ev_v rfl) (G1.gm.board D)) (G1.bd.high B)) (.inl ⟨by lia,by lia⟩)) _ ⟨p,wi*hi,[.str "."],rfl,rfl,af,by lia,by lia,by rw[Rf];show 1*_<=_;lia,λp2 hp2=>q _ _ ⟨p2,rfl,s1.free hp2,?_,s1.upd hp2⟩⟩;rw[af,hn,Xk];have e:∀k:Nat,(List.replicate k [V.str "."]).flatten=(List.replicate k 46).map strV:=λk=>by
   induction k with
   |zero=>rfl
   |succ k ih=>
    rw[VP,VY,ih,VP,Vm];rfl
  rw[e]
 rintro _ H1 ⟨sq,rfl,nsq,e1,s1⟩;have G1:=G.same s1;obtain⟨ph,fh,eh⟩:=G1.bd.holes B;have nph:ph≠sq:=λe=>by obtain⟨ph0,fh0,eh0⟩:=G.bd.holes B;obtain⟨C1,dx1,fs1,a1,_,_,l1⟩:=fh;obtain⟨C2,dx2,fs2,a2,_,_,l2⟩:=fh0;have a3:=s1 _ _ a2;rw[a1]at a3;injection a3 with a3;injection a3 with _ _ a3;rw[a3,l2]at l1;injection l1 with l1;injection l1 with l1;rw[l1,e,nsq]at eh0;cases eh0
 refine bD (λσ' H'=>∃(y3:Option V)(cs:List Nat),σ'=[oR g,oJ c,oR sq,y3,none,none,none,none,none,none]/\H' sq=some (.lst (cs.map strV))/\cs.length=n/\(∀s:Nat,s<n->cs[s]? =some (if(s:Int)∈hs then 35 else 46))/\ah H H') (λKK hK=>?_) ?_
 .refine eT (λv H'=>v=.ref ph/\H1=H') (λQ k=>ow (v:=.ref ph) (aK (aK (ev_v rfl) (G1.gm.board D)) fh) (k _ _ ⟨rfl,rfl⟩)) ?_;rintro _ _ ⟨rfl,rfl⟩;refine⟨ph,_,rfl,aN.of eh,λi σ' H'=>∃(y3:Option V)(cs:List Nat),σ'=[oR g,oJ c,oR sq,y3,none,none,none,none,none,none]/\H' sq=some (.lst (cs.map strV))/\cs.length=n/\(∀s:Nat,s<n->cs[s]? =some (if(s:Int)∈hs.take i then 35 else 46))/\ah H H'/\SameBut sq H1 H',⟨none,List.replicate n 46,rfl,e1,WD,λs hs'=>by rw[Wz,QW hs'];simp,s1,SameBut.refl _⟩,?_,?_,?_⟩
  .rintro i _ H' _ ⟨_,_,_,_,_,_,_,sb⟩;exact aN.of (sb _ _ eh nph)
  .rintro i v _ H' hv ⟨y3,cs,rfl,ec,lc,hc,s2,sb⟩;rw[Va]at hv;obtain⟨h,hh,rfl⟩:=XW.mp hv;have gd:=G.bd.good h (Vn hh);show tAsg _ (gSub _ _ A7) _ [some (.ref g),some (.int c),some (.ref sq),some (.int h),none,none,none,none,none,none] H';refine IZ (P:=λv H''=>v=strV 35/\H''=H') (l:=sq) (i:=h) (λQ q=>aq _ (q _ _ ⟨Q2 V.str uw,rfl⟩)) ?_;rintro _ _ ⟨rfl,rfl⟩;refine⟨ev_v rfl,ev_v rfl,_,ec,gd.1,by rw[U6,lc];lia,_,cs.set h.toNat 35,rfl,by rw[af,tL],by rw[Wd,lc],λs hs'=>?_,s2.put nsq,?_⟩
   .rw[WQ];have et:(s:Int)∈hs.take (i+1)<->(s:Int)∈hs.take i\/(s:Int)=h:=by rw[VS,hh];simp
    by_cases e:h.toNat=s
    .rw[QW e,QW (by rw[lc];lia),QW (et.mpr (.inr (by lia)))]
    .rw[QV e,hc s hs'];have:(s:Int)∈hs.take (i+1)<->(s:Int)∈hs.take i:=by rw[et];exact⟨λz=>z.resolve_right (by lia),.inl⟩
     by_cases hm:(s:Int)∈hs.take i
     .rw[QW hm,QW (this.mpr hm)]
     .rw[QV hm,QV (λz=>hm (this.mp z))]
   .exact λa o e n=>by rw[ak n];exact sb a o e n
  .rintro _ H' ⟨y3,cs,rfl,ec,lc,hc,s2,_⟩;refine hK _ _ ⟨y3,cs,rfl,ec,lc,λs hs'=>?_,s2⟩;have:=hc s hs'
   rwa[U6,VG]at this
 rintro _ H2 ⟨y3,cs,rfl,ec,lc,hc,s2⟩;have G2:=G.same s2;have l0:(freeQ wi hi hs).length<=n:=by unfold freeQ;rw[U6];refine WU (VM _ _) ?_;rw[Vu];lia
 have fin:∀s∈freeQ wi hi hs,0<=s/\s<wi*hi/\¬s∈hs:=λs hs'=>by obtain⟨i,hi',rfl⟩:=U7.mp hs';obtain⟨h1,h2⟩:=Vz.mp hi';have:=Vo.mp h1;refine⟨by lia,by lia,?_⟩;simpa using h2
 refine bu (λv H'=>∃qs,v=.ref qs/\H2 qs=none/\H' qs=some (.lst ((freeQ wi hi hs).map V.int))/\ah H2 H') (λQ q=>?_) ?_
 .exact gU (aK (ev_v rfl) (G2.gm.board D)) G2.bd.no ⟨b,wi,hi,hs,rfl,G2.bd,λq1 H' n1 e1 s1=>q _ _ ⟨q1,rfl,n1,e1,s1⟩⟩
 rintro _ H3 ⟨qs,rfl,nqs,eqs,s3⟩;generalize hfr:freeQ wi hi hs=fr at eqs l0 fin;have ec3:=s3 _ _ ec;have nqq:qs≠sq:=λe=>by rw[e,ec]at nqs;cases nqs
 refine aZ (v:=.int (2+(if decide ((fr.length:Int)<5)then 1 else 0)*(c % 2))) (cU aq (cx (Jk (pW (by rw[<-U6 (as:=fr) V.int];exact cq (ev_v rfl) (.inl (aN.of eqs))) aq)) (bh (ev_v rfl) aq) (.inr ⟨by lia,by lia⟩))) ?_;have hmany:2<=2+(if decide ((fr.length:Int)<5)then 1 else 0)*(c % 2)/\2+(if decide ((fr.length:Int)<5)then 1 else 0)*(c % 2)<=(mOf wi hi hs:Nat):=by
  unfold mOf;rw[hfr]
  by_cases h:fr.length<5
  .rw[QT (by lia),QW h];simp;lia
  .rw[QU (by lia),QV h];simp
 generalize 2+(if decide ((fr.length:Int)<5)then 1 else 0)*(c % 2)=many at hmany ⊢;have hm3:mOf wi hi hs<=3:=by unfold mOf;split<;>lia
 refine aZ (v:=.int (c / 2 % 2)) (bh (bM (ev_v rfl) aq) aq) ?_;have hside:c / 2 % 2=0\/c / 2 % 2=1:=by lia
 generalize c / 2 % 2=side at hside ⊢;refine aZ (v:=.int (c / 4)) (bM (ev_v rfl) aq) ?_;have R3:iQ wi hi hs ks ⟨cs.toArray⟩:=by
  refine⟨by show cs.toArray.size=_;rw[Vc,lc];lia,λs x hx=>?_⟩;have hx:cs[s]? =some x:=by simpa using hx
  have hlt:=(Vi.mp hx).1;rw[hc s (by lia)]at hx;injection hx with hx;subst hx;unfold iM
  by_cases hm:(s:Int)∈hs
  .rw[QW hm,QW rfl];rfl
  .rw[QV hm];simp
 have p3:pcs cs=0:=tW λx hx=>by
  obtain⟨s,hs'⟩:=V9 hx;have hlt:=(Vi.mp hs').1;rw[hc s (by lia)]at hs';injection hs' with hs';subst hs';split
  .exact .inl rfl
  .exact .inr rfl
 have s03:=s2.trans s3;have nq0:H qs=none:=s2.free nqs;refine bD (λσ' H'=>∃(y1 y7 y8 y9:Option V)(cs:List Nat),σ'=[oR g,y1,oR sq,y3,oR qs,oJ many,oJ side,y7,y8,y9]/\H' sq=some (.lst (cs.map strV))/\iQ wi hi hs ks ⟨cs.toArray⟩/\(pcs cs:Int)<=many/\ah H H') (λKK hK=>?_) ?_
 .generalize hn2:(if(fr.length:Int)<many then(fr.length:Int)else many)=n2;have n20:0<=n2/\n2<=fr.length/\n2<=many:=by
   by_cases h:(fr.length:Int)<many
   .rw[QW h]at hn2;lia
   .rw[QV h]at hn2;lia
  refine kM n2 (λQ q=>(aa (K3 (ev_v rfl) (cq (ev_v rfl) (.inl (aN.of eqs)))) av) _ (by rw[U6,hn2];exact q)) (by lia) (by lia)
   (λi σ' H'=>∃(c:Int)(y7 y8 y9:Option V)(cs:List Nat)(ms:List Int),σ'=[oR g,oJ c,oR sq,y3,oR qs,oJ many,oJ side,y7,y8,y9]/\H' sq=some (.lst (cs.map strV))/\iQ wi hi hs ks ⟨cs.toArray⟩/\pcs cs<=i/\H' qs=some (.lst (ms.map V.int))/\ms.length+i=fr.length/\(∀s∈ms,0<=s/\s<wi*hi/\¬s∈hs)/\ah H H')
   ⟨c / 4,none,none,none,cs,fr,rfl,ec3,R3,by lia,eqs,rfl,fin,s03⟩ ?_ ?_
  .rintro i _ H4 hi4 ⟨c,y7,y8,y9,cs,ms,rfl,e4,R4,p4,m4,l4,f4,s4⟩;show bg _ _ _ [oR g,oJ c,oR sq,y3,oR qs,oJ many,oJ side,oJ (0+(i:Int)),y8,y9] H4;have ml:0<ms.length/\ms.length<=6:=by lia
   have lcs:cs.length=n:=by
    have:=R4.len;have e:(⟨cs.toArray⟩:Str).length=cs.length:=by show cs.toArray.size=_;simp
    lia
   have cl0:0<=c % ((ms.map V.int).length:Int):=Xl _ (by rw[U6];lia);have cl1:c % ((ms.map V.int).length:Int)<((ms.map V.int).length:Int):=Xm _ (by rw[U6];lia);refine bu (λv H'=>∃(sx:Int)(ms':List Int),v=.int sx/\(0<=sx/\sx<wi*hi/\¬sx∈hs)/\ms'.length+(i+1)=fr.length/\(∀s∈ms',0<=s/\s<wi*hi/\¬s∈hs)/\H'=upd H4 qs (.lst (ms'.map V.int))) (λQ q=>?_) ?_
   .refine Bf (ev_v rfl) (bh (ev_v rfl) (cq (ev_v rfl) (.inl (aN.of m4))) (by rw[U6];lia)) m4 cl0 cl1 (by rw[U6];lia) (λv hv=>?_);rw[Va]at hv;obtain⟨sx,hsx,rfl⟩:=XW.mp hv;have hlt:=(Vi.mp hsx).1;refine q _ _ ⟨sx,ms.eraseIdx (c % ((ms.map V.int).length:Int)).toNat,rfl,f4 sx (Vn hsx),?_,λs hs'=>f4 s (List.mem_of_mem_eraseIdx hs'),?_⟩
    .rw[Wl hlt];lia
    .rw[Ca]
   rintro _ _ ⟨sx,ms',rfl,gx,lm',fm',rfl⟩;have e5:(upd H4 qs (.lst (ms'.map V.int))) sq=some (.lst (cs.map strV)):=by rw[ak nqq.symm];exact e4
   have s5:ah H (upd H4 qs (.lst (ms'.map V.int))):=s4.put nq0;have m5:(upd H4 qs (.lst (ms'.map V.int))) qs=some (.lst (ms'.map V.int)):=af;generalize upd H4 qs (.lst (ms'.map V.int))=H5 at e5 s5 m5 ⊢;refine aZ (v:=.int (c / 9)) (bM (ev_v rfl) aq) ?_;generalize c / 9=c9;have G5:=G.same s5;obtain⟨kq5,fk5,ek5⟩:=G5.gm.kinds D;have kl:1<=ks.length/\ks.length<=6:=⟨G.k1,G.k6⟩;obtain⟨k,hk,ek⟩:∃k∈ks,atI (ks.map strV) (c9 / 3 % ((ks.map strV).length:Int)*(if decide (c9 % 3=1)then 1 else 0))=some (strV k):=by have a0:0<=c9 / 3 % ((ks.map strV).length:Int):=Xl _ (by rw[U6];lia);have a1:c9 / 3 % ((ks.map strV).length:Int)<((ks.map strV).length:Int):=Xm _ (by rw[U6];lia);obtain⟨v,e,hv⟩:=Bj (xs:=ks.map strV) (i:=c9 / 3 % ((ks.map strV).length:Int)*(if decide (c9 % 3=1)then 1 else 0)) (by split<;>lia) (by split<;>lia);obtain⟨x,hx,rfl⟩:=U7.mp hv;exact⟨x,hx,e⟩
   refine aZ (v:=strV k) (aY (aK (ev_v rfl) fk5) (cx (bh (bM (ev_v rfl) aq) (cq (aK (ev_v rfl) fk5) (.inl (aN.of ek5))) (by rw[U6];lia)) (Jk (dL (bh (ev_v rfl) aq) aq)) (.inr ⟨by split<;>lia,by split<;>lia⟩)) (.inl (aN.of ek5)) ek) ?_;have hl:=G.ltr k hk;show bg _ _ _ [oR g,oJ c9,oR sq,y3,oR qs,oJ many,oJ side,oJ (0+(i:Int)),oJ sx,some (strV k)] H5;refine bD (λσ' H'=>∃cs':List Nat,σ'=[oR g,oJ c9,oR sq,y3,oR qs,oJ many,oJ side,oJ (0+(i:Int)),oJ sx,some (strV k)]/\H' sq=some (.lst (cs'.map strV))/\iQ wi hi hs ks ⟨cs'.toArray⟩/\pcs cs'<=i+1/\H' qs=some (.lst (ms'.map V.int))/\ah H H') (λKK hK=>?_) ?_
   .refine IZ (P:=λv H'=>∃x,v=strV x/\(x∈ks\/x∈ks.map (· - 32))/\ah H5 H') (l:=sq) (i:=sx) (λQ q=>?_) ?_
    .obtain⟨x,ex,hx⟩:∃x,atI [V.str (one (k - 32)),V.str (one k)] ((0+(i:Int)+c9 / 2 % 2*((0+(i:Int)) / 2)) % 2)=some (strV x)/\(x∈ks\/x∈ks.map (· - 32)):=by
      rcases(by lia:(0+(i:Int)+c9 / 2 % 2*((0+(i:Int)) / 2)) % 2=0\/(0+(i:Int)+c9 / 2 % 2*((0+(i:Int)) / 2)) % 2=1)with h|h
      .rw[h];exact⟨k - 32,rfl,.inr (U7.mpr ⟨k,hk,rfl⟩)⟩
      .rw[h];exact⟨k,rfl,.inl hk⟩
     exact uj (aa (Jq (ev_v rfl) hl) (aa (ev_v rfl) av)) (by show 2<=1000;decide) (λH'=>bh (cU (ev_v rfl) (cx (bh (bM (ev_v rfl) aq) aq) (bM (ev_v rfl) aq) (.inl ⟨by lia,by lia⟩))) aq (by decide)) ex (λH' s=>q _ _ ⟨x,rfl,hx,s⟩)
    rintro _ H6 ⟨x,rfl,hx,s6⟩;refine⟨ev_v rfl,ev_v rfl,_,s6 _ _ e5,gx.1,by rw[U6,lcs];lia,hK _ _ ⟨cs.set sx.toNat x,rfl,by rw[af,tL],?_,WU qX (by lia),by rw[ak nqq];exact s6 _ _ m5,(s5.trans s6).put nsq⟩⟩;refine⟨?_,λs' y hy=>?_⟩
    .show(cs.set sx.toNat x).toArray.size=_;rw[Vc,Wd,lcs];lia
    .have hy:(cs.set sx.toNat x)[s']? =some y:=by simpa using hy
     rw[WQ]at hy
     by_cases e:sx.toNat=s'
     .rw[QW e]at hy;split at hy
      .injection hy with hy;subst hy;have:¬(s':Int)∈hs:=by
        have e2:(s':Int)=sx:=by lia
        rw[e2];exact gx.2.2
       unfold iM;rw[QV this,QV (by decide)];exact QT (.inr hx)
      .cases hy
     .rw[QV e]at hy;exact R4.at_ s' y (by simpa using hy)
   rintro _ H6 ⟨cs',rfl,e6,R6,p6,m6',s6⟩;exact fC (v:=.int (c9 / 4)) (bM (ev_v rfl) aq) ⟨c9 / 4,_,_,_,cs',ms',rfl,e6,R6,p6,m6',lm',fm',s6⟩
  .rintro _ H4 ⟨c,y7,y8,y9,cs,ms,rfl,e4,R4,p4,m4,l4,f4,s4⟩;exact hK _ _ ⟨_,_,_,_,cs,rfl,e4,R4,by lia,s4⟩
 rintro _ H4 ⟨y1,y7,y8,y9,cs',rfl,e4,R4,p4,s4⟩;have lcs:cs'.length<=6:=by
  have:=R4.len;have e:(⟨cs'.toArray⟩:Str).length=cs'.length:=by show cs'.toArray.size=_;simp
  lia
 refine eJ (j6 (bI (B8 aq (ev_v rfl) e4 (by lia)) (bI (ev_v rfl) (cN ⟨by show 2<=v1;decide,λt ht=>?_⟩))));refine q t (⟨cs'.toArray⟩,side) _ ⟨R4,hside,?_⟩ (s4.free ht) af (s4.upd ht);show pcs cs'.toArray.toList<=_;rw[List.toList_toArray];lia
end
theorem ux:∀a b ps,cp ps (a++b)=cp (cp ps a) b
 | [],b,ps=>rfl
 |x::a,b,ps=>ux a b _
def Ec(i:Nat):∃r,cp ps xs=cp ps (xs.take i)++r:=by have h:=ux (xs.take i) (xs.drop i) ps;rw[V4]at h;obtain⟨r,hr⟩:=kK (xs.drop i) (cp ps (xs.take i));exact⟨r,by rw[h,hr]⟩
def AK(K:Frag)(cB cG:YC):Sp:=λvs H Q _=>∃(a g b kq:YC)(ns:List Int)(wi hi:Int)(hs:List Int)(ks:List Nat)(us:List (bb×YC))(ts es:List ((Str×Str)×YC))(st:Str),vs=[.ref a,.ref g]/\aN K H a (ns.map V.int)/\fj K cB cG H g b kq wi hi hs ks us ts es st/\wi*hi<=6/\
 ∀(q:YC)(fs:List (Pla×YC))(H':Hp),H q=none->H' q=some (.lst (aM fs))->bE H' fs->(∀z∈fs,lM wi hi hs ks (mOf wi hi hs) z.1)->1<=fs.length->fs.length<=2->ah H H'->Q (.ref q) H'
structure QL(P:Rg)(w:Rk)(K:Frag)(mg:Q3)(QR:Rq)(cB cG:YC):Prop where
 _law_mixed:cC P w K mg QR "_law_mixed" ["_law_script","_law_k"] 2 (xq K)
 _law_place:cC P w K mg QR "_law_place" ["_law_game_here","_law_cell"] 2 (vp K cB cG)
def AU(K:Frag)(cB cG:YC):Sp:=λvs H Q _=>∃(g b kq d:YC)(wi hi:Int)(hs:List Int)(ks:List Nat)(us:List (bb×YC))(ts es:List ((Str×Str)×YC))(st:Str)(fs:List (Pla×YC))(m:Nat),vs=[.ref g,.ref d]/\fj K cB cG H g b kq wi hi hs ks us ts es st/\H d=some (.lst (aM fs))/\fs.length<=1000/\bE H fs/\(∀z∈fs,lM wi hi hs ks m z.1)/\ks.length<=2/\(∀f,f=((List.range (wi*hi).toNat).filter λ(s:Nat)=> !decide ((s:Int)∈hs)).length->kO 4 f m<=1000)/\
 ∀(n:Nat)(t lp lw:YC)(zs:List (Pla×YC))(ws:List V)(H':Hp),ve (folF wi hi hs us ts es) (fs.map (·.1)) n->H t=none->H' t=some (.tup [.ref lp,.ref lw])->H' lp=some (.lst (aM zs))->bE H' zs->zs.map (·.1)=ba (folF wi hi hs us ts es) (fs.map (·.1)) n->H' lw=some (.lst ws)->aO (vb H lp lw lw) H' ws (wled (folF wi hi hs us ts es) (fs.map (·.1)) n)->H lp=none->H lw=none->ah H H'->Q (.ref t) H'
structure QK(P:Rg)(w:Rk)(K:Frag)(mg:Q3)(QR:Rq)(cB cG:YC):Prop where
 followers:cC P w K mg QR "followers" ["game","place"] 7 (vw K cB cG)
section
def nz{f cB cG:YC}{fd:Rn}(F:ci K "_law_starts" "_law_starts" dk f fd)(T:Txt mg aS aA aE aW)(C:QL P w K mg QR cB cG):aX P w K mg QR cI 3 f fd ["_law_script","_law_game_here"] (AK K cB cG):=by
 refine F.ok2 gz ?_;rintro _ _ _ s H vs Q _ hr hu ⟨a,g,b,kq,ns,wi,hi,hs,ks,us,ts,es,st,rfl,hS,G,m6,q⟩;refine⟨_,(ae (au 2 gz.nd (aF C._law_mixed hr (az (cv 0) (az ag pan))))
  (ae (au 3 gz.nd (bp (az (aF C._law_place hr (az (cv 1) (az (cv 2) pan))) pan)))
  (ae (aR (aT K hu (aw (cv 2) ag) ag) (aj (bK (dw (cv 3) (aF C._law_place hr (az (cv 1) (az (aw (aw (aw (cv 2) ag) ag) ag) pan)))))) aG)
  (aj (aB (cv 3)))))),?_⟩
 show bg _ _ _ [oR a,oR g,none,none] H;refine aZ (aH (aa (ev_v rfl) (aa aq av)) (λQ q=>⟨a,ns,3,rfl,hS,by decide,q⟩)) ?_;generalize mixF ns 3=c;refine bu (λv H'=>∃(sq:YC)(z:Pla×YC),v=.ref sq/\H sq=none/\H' sq=some (.lst [.ref z.2])/\H' z.2=some (.tup [.str z.1.1,.int z.1.2])/\lM wi hi hs ks (mOf wi hi hs) z.1/\ah H H') (λQ k=>?_) ?_
 .refine gV (cu (cR (aa (ev_v rfl) (aa (ev_v rfl) av)) ⟨g,b,kq,c,wi,hi,hs,ks,us,ts,es,st,rfl,G,m6,λt p H' Gp nt et s=>cN ⟨by show 1<=v1;decide,λsq hsq=>?_⟩⟩));exact k _ _ ⟨sq,(p,t),rfl,s.free hsq,af,((ah.refl H').upd hsq) _ _ et,Gp,s.upd hsq⟩
 rintro _ H1 ⟨sq,z,rfl,nsq,e1,ez,Gz,s1⟩;refine bD (λσ' H'=>∃fs:List (Pla×YC),σ'=[oR a,oR g,oJ c,oR sq]/\H' sq=some (.lst (aM fs))/\bE H' fs/\(∀z∈fs,lM wi hi hs ks (mOf wi hi hs) z.1)/\1<=fs.length/\fs.length<=2/\ah H H') (λKK hK=>?_) ?_
 .refine cQ (aV (dL (bh (ev_v rfl) aq) aq)) (λ_=>?_) (λ_=>hK _ _ ⟨[z],rfl,e1,λy hy=>by rw[Vb.mp hy];exact ez,λy hy=>by rw[Vb.mp hy];exact Gz,by simp,by simp,s1⟩);refine uS (ev_v rfl) ⟨_,e1⟩ (cR (aa (ev_v rfl) (aa (bh (cx (bM (ev_v rfl) aq) aq (.inr ⟨by decide,by decide⟩)) aq) av)) ⟨g,b,kq,_,wi,hi,hs,ks,us,ts,es,st,rfl,G.same s1,m6,λt p H' Gp nt et s=>⟨_,s _ _ e1,by rw[Rf];show 1<_;lia,hK _ _ ⟨[z,(p,t)],rfl,af,λy hy=>?_,λy hy=>?_,by simp,by simp,(s1.trans s).put nsq⟩⟩⟩)
  .have hne:∀(x:YC)(vs:List V),H' x=some (.tup vs)->(upd H' sq (.lst ([.ref z.2]++[.ref t]))) x=some (.tup vs):=λx vs h=>by rw[ak (λe=>by rw[e,s _ _ e1]at h;cases h)];exact h
   rcases U8.mp hy with rfl|hy
   .exact hne _ _ (s _ _ ez)
   .rw[Vb.mp hy];exact hne _ _ et
  .rcases U8.mp hy with rfl|hy
   .exact Gz
   .rw[Vb.mp hy];exact Gp
 rintro _ H2 ⟨fs,rfl,e2,pk,Gf,l1,l2,s2⟩;exact aJ (ev_v rfl) (q sq fs H2 nsq e2 pk Gf l1 l2 s2)
def oP{f cB cG:YC}{fd:Rn}(F:ci K "_law_going" "_law_going" dX f fd)(T:Txt mg aS aA aE aW)(C:QK P w K mg QR cB cG):aX P w K mg QR cI 8 f fd ["_law_game_here","_law_starts_here"] (AU K cB cG):=by
 refine F.ok2 cO ?_;rintro _ _ _ s H vs Q _ hr hu ⟨g,b,kq,d,wi,hi,hs,ks,us,ts,es,st,fs,m,rfl,G,hd,l1000,fk,fg,k2,hb,q⟩;refine⟨_,(ae (au 2 cO.nd (bp pan))
  (ae (fu Rr rfl (mB K (cv 1)) (bY 3 cO.nd) (aj (aR (BK K hu (cv 3) (cv 2)) (aj (bK (dw (cv 2) (cv 3)))) aG)))
  (ae (au 4 cO.nd (bp pan))
  (ae (nu Rr (aT K hu (kB (fv K) bB T.len (az (cv 4) pan)) (kB (fv K) bB T.len (az (cv 2) pan))) (ae (au 5 cO.nd (bp pan))
  (ae (fu Rr rfl (mB K (aF C.followers hr (az (cv 0) (az (cX K (cv 2) (kB (fv K) bB T.len (az (cv 4) pan))) pan)))) (bY 3 cO.nd) (ae (aR (BK K hu (cv 3) (cv 2)) (aj (bK (dw (cv 2) (cv 3)))) aG)
  (aj (bK (dw (cv 5) (Ew hu (cv 2) (cv 3)))))))
  (aj (bK (dw (cv 4) (cv 5)))))))
  (aj (aB (ck (az (cv 2) (az (cv 4) pan))))))))),?_⟩
 show bg _ _ _ [oR g,oR d,none,none,none,none] H;have mm:=G.bd.many;have w1:=G.bd.w1;obtain⟨p0,hP⟩:∃p0:List Pla,p0=fs.map (·.1):=⟨_,rfl⟩;rw[<-hP]at q;generalize hF:folF wi hi hs us ts es=FF at q;have fgood:∀y,lM wi hi hs ks m y->∀z∈FF y,lM wi hi hs ks m z:=λy hy=>by rw[<-hF];exact lD w1 (by lia) G.ltr G.tg hy
 have few:∀n,(∀j,j<n->j<(ba FF p0 j).length)->(∀y∈ba FF p0 n,lM wi hi hs ks m y)/\(ba FF p0 n).length<=2000:=λn hn=>by
  have hg:∀y∈ba FF p0 n,lM wi hi hs ks m y:=mJ (λy hy=>by
   rw[hP]at hy;obtain⟨z,hz,rfl⟩:=U7.mp hy;exact fg z hz) fgood hn
  exact⟨hg,qi k2 G.ltr (j5 _ _ _) hg hb⟩
 have few0:=(few 0 (λj hj=>by lia)).2;refine gX λlp hlp=>?_;have sm:ah H (upd H lp (.lst [])):=(ah.refl H).upd hlp;have ndl:d≠lp:=λe=>by rw[e,hlp]at hd;cases hd
 have more:∀(H1:Hp)(zs:List (Pla×YC))(z:Pla×YC),H1 lp=some (.lst (aM zs))->bE H1 zs->H1 z.2=some (.tup [.str z.1.1,.int z.1.2])->bE (upd H1 lp (.lst (aM zs++[.ref z.2]))) (zs++[z]):=λH1 zs z e pk hz y hy=>by
  have hne:∀(x:YC)(vs:List V),H1 x=some (.tup vs)->(upd H1 lp (.lst (aM zs++[.ref z.2]))) x=some (.tup vs):=λx vs h=>by rw[ak (λe'=>by rw[e',e]at h;cases h)];exact h
  rcases Vk.mp hy with h|h
  .exact hne _ _ (pk y h)
  .rw[Vb.mp h];exact hne _ _ hz
 refine bD (λσ' H'=>∃(y3:Option V)(zs:List (Pla×YC)),σ'=[oR g,oR d,oR lp,y3,none,none]/\H' lp=some (.lst (aM zs))/\bE H' zs/\zs.map (·.1)=ba FF p0 0/\ah H H') (λKK hK=>?_) ?_
 .refine eT (λv H'=>v=.ref d/\upd H lp (.lst [])=H') (λQ k=>ow (v:=.ref d) (ev_v rfl) (k _ _ ⟨rfl,rfl⟩)) ?_;rintro _ _ ⟨rfl,rfl⟩;refine⟨d,_,rfl,aN.of (sm _ _ hd),λi σ' H'=>∃(y3:Option V)(zs:List (Pla×YC)),σ'=[oR g,oR d,oR lp,y3,none,none]/\H' lp=some (.lst (aM zs))/\bE H' zs/\zs.map (·.1)=cp [] (p0.take i)/\ah H H',⟨none,[],rfl,af,(λ_ z=>nomatch z),rfl,sm⟩,?_,?_,?_⟩
  .rintro i _ H' _ ⟨_,_,_,_,_,_,s'⟩;exact aN.of (s' _ _ hd)
  .rintro i v _ H' hv ⟨y3,zs,rfl,ep,pk,ez,s'⟩;rw[Va]at hv;obtain⟨z,hz,rfl⟩:=XW.mp hv;have tz:=s' _ _ (fk z (Vn hz));have et:p0.take (i+1)=p0.take i++[z.1]:=by rw[VS,hP,Va,hz];rfl
   have gn:=jE z.1 (p0.take i) [];rw[<-et,<-ez]at gn;have gt:=lC (fs:=p0) (ps:=[]) (i+1);have lz:zs.length=(zs.map (·.1)).length:=by rw[U6]
   show l7 _ _ _ _ [oR g,oR d,oR lp,oR z.2,none,none] H';refine cQ (qj (k:=z.1) (ev_v rfl) (ev_v rfl) ep pk tz) (λh=>?_) (λh=>?_)
   .rw[XA,decide_eq_false_iff_not]at h;rw[QV h]at gn;have:zs.length+1<=2000:=by rw[gn,Ve,<-lz]at gt;have h1:zs.length+1<=(cp [] p0).length:=gt;have h2:(cp [] p0).length<=2000:=few0;lia
    exact jx (ev_v rfl) (ev_v rfl) ep (by rw[U6,Rf];lia) ⟨_,zs++[z],rfl,by rw[af];simp[aM],more H' zs z ep pk tz,by rw[gn,Vg];rfl,s'.put hlp⟩
   .rw[XC,decide_eq_true_iff]at h;rw[QW h]at gn;exact⟨_,zs,rfl,ep,pk,by rw[gn],s'⟩
  .rintro _ H' ⟨y3,zs,rfl,ep,pk,ez,s'⟩;refine hK _ _ ⟨y3,zs,rfl,ep,pk,?_,s'⟩;rw[ez,U6,show fs.length=p0.length from by rw[hP,U6],VG];rfl
 rintro _ H1 ⟨y3,zs0,rfl,ep0,pk0,ez0,s1⟩;refine gX λlw hlw=>?_;have nlw:H lw=none:=s1.free hlw;have nwp:lw≠lp:=λe=>by rw[e,ep0]at hlw;cases hlw
 have sw:ah H1 (upd H1 lw (.lst [])):=(ah.refl H1).upd hlw;refine bD (λσ' H'=>∃(i:Nat)(zs:List (Pla×YC))(ws:List V)(y3 y5:Option V),σ'=[oR g,oR d,oR lp,y3,oR lw,y5]/\ve FF p0 i/\zs.map (·.1)=ba FF p0 i/\H' lp=some (.lst (aM zs))/\bE H' zs/\H' lw=some (.lst ws)/\aO (vb H lp lw lw) H' ws (wled FF p0 i)/\ah H H') (λKK hK=>?_) ?_
 .refine⟨λmm' σ' H'=>∃(i:Nat)(zs:List (Pla×YC))(ws:List V)(y3 y5:Option V),mm'=2001 - i/\σ'=[oR g,oR d,oR lp,y3,oR lw,y5]/\zs.map (·.1)=ba FF p0 i/\(∀j,j<i->j<(ba FF p0 j).length)/\H' lp=some (.lst (aM zs))/\bE H' zs/\H' lw=some (.lst ws)/\aO (vb H lp lw lw) H' ws (wled FF p0 i)/\ah H H',⟨_,0,zs0,[],y3,none,rfl,rfl,ez0,(λj hj=>by lia),sw _ _ ep0,pk0.same sw,af,aO.nil,s1.trans sw⟩,?_⟩;rintro mm' _ H4 ⟨i,zs,ws,y3,y5,rfl,rfl,ez,hj,ep,pk,ew,Rw,s4⟩;have lw4:ws.length=i:=by rw[Rw.1,mL]
  have lz:zs.length=(ba FF p0 i).length:=by rw[<-ez,U6]
  have fw:=few i hj;refine(aV (pW (cq (ev_v rfl) (.inl (aN.of ew))) (cq (ev_v rfl) (.inl (aN.of ep)))):Tv _ _ H4 _) _ ?_;rw[U6]
  by_cases hlt:(ws.length:Int)<zs.length
  .rw[QT hlt];have hi':i<zs.length:=by lia
   have hjs:∀j,j<i+1->j<(ba FF p0 j).length:=λj h=>by
    by_cases e:j=i
    .subst e;lia
    .exact hj j (by lia)
   have fw1:=few (i+1) hjs;have ei:zs[i]? =some zs[i]:=U9 hi';generalize zs[i]=z at ei;have hzm:=Vn ei;have tz:=pk z hzm;have ewi:(ba FF p0 i).getD i ("",0)=z.1:=by rw[<-ez,Vh,Va,ei];rfl
   have Pz:lM wi hi hs ks m z.1:=fw.1 _ (by rw[<-ez];exact U7.mpr ⟨z,hzm,rfl⟩);refine gN ⟨λσ' H'=>∃(zs:List (Pla×YC))(ws:List V)(y3 y5:Option V),σ'=[oR g,oR d,oR lp,y3,oR lw,y5]/\zs.map (·.1)=ba FF p0 (i+1)/\H' lp=some (.lst (aM zs))/\bE H' zs/\H' lw=some (.lst ws)/\aO (vb H lp lw lw) H' ws (wled FF p0 (i+1))/\ah H H',?_,?_⟩
   .rintro σ' H' ⟨zs',ws',y3',y5',e1,e2,e3,e4,e5,e6,e7⟩;exact⟨2001 - (i+1),by lia,i+1,zs',ws',y3',y5',rfl,e1,e2,hjs,e3,e4,e5,e6,e7⟩
   refine gX λnq hnq=>?_;have nnp:nq≠lp:=λe=>by rw[e,ep]at hnq;cases hnq
   have nnw:nq≠lw:=λe=>by rw[e,ew]at hnq;cases hnq
   have nn0:H nq=none:=s4.free hnq;have s5:ah H4 (upd H4 nq (.lst [])):=(ah.refl H4).upd hnq;have en5:(upd H4 nq (.lst [])) nq=some (.lst []):=af;generalize upd H4 nq (.lst [])=H5 at s5 en5 ⊢;have Rw5:aO (vb H lp lw lw) H5 ws (wled FF p0 i):=Rw.imp λv l h=>by obtain⟨a,e,h0,h1,h2,h3,h4⟩:=h;exact⟨a,e,h0,h1,h2,h3,s5 _ _ h4⟩
   have ep5:=s5 _ _ ep;have pk5:=pk.same s5;have ew5:=s5 _ _ ew;have s05:=s4.trans s5;refine bD (λσ' H'=>∃(y3:Option V)(zs':List (Pla×YC)),σ'=[oR g,oR d,oR lp,y3,oR lw,oR nq]/\zs'.map (·.1)=ba FF p0 (i+1)/\H' lp=some (.lst (aM zs'))/\bE H' zs'/\H' nq=some (.lst ((wrow FF p0 i).map λ(n:Nat)=>V.int n))/\H' lw=some (.lst ws)/\aO (vb H lp lw lw) H' ws (wled FF p0 i)/\ah H H') (λKK hK=>?_) ?_
   .refine eT (λv H'=>∃(qf:YC)(ps:List (Pla×YC)),v=.ref qf/\ju wi hi hs z.1.1 us ts es z.1.2 (ps.map (·.1))/\H5 qf=none/\H' qf=some (.lst (aM ps))/\bE H' ps/\ah H5 H') (λQ k=>?_) ?_
    .exact cR (aa (ev_v rfl) (aa (aY (x:=.ref z.2) (ev_v rfl) (cq (ev_v rfl) (.inl (aN.of ew5))) (.inl (aN.of ep5)) (by rw[lw4];exact bx (by rw[Va,ei];rfl))) av)) ⟨g,b,kq,z.2,z.1.1,z.1.2,wi,hi,hs,ks,us,ts,es,st,rfl,G.same s05,cY.of (s5 _ _ tz),Pz.row,Pz.sd,λls qf H' hf nq hp s=>by
      obtain⟨ps,p1,p2,p3⟩:=hp;exact k _ _ ⟨qf,ps,rfl,p1▸hf,nq,p2,λy hy=>(p3 y hy).2,s⟩⟩
    rintro _ H6 ⟨qf,ps,rfl,hf,nqf,eqf,pk6,s6⟩;have eF:FF z.1=ps.map (·.1):=by rw[<-hF];exact x8 hf
    have ws1:ba FF p0 (i+1)=cp (zs.map (·.1)) (ps.map (·.1)):=by show cp _ (FF ((ba FF p0 i).getD i ("",0)))=_;rw[ewi,eF,ez]
    have nqp:qf≠lp:=λe=>by rw[e,ep5]at nqf;cases nqf
    have nqn:qf≠nq:=λe=>by rw[e,en5]at nqf;cases nqf
    have psz:ps.length<=4096:=by
     rcases hf with⟨_,e⟩|⟨_,mv,_,l,e⟩
     .have:=Q2 List.length e;rw[U6]at this;rw[this];exact WT _
     .have:=Q2 List.length e;rw[U6,U6]at this;lia
    have ep6:=s6 _ _ ep5;have en6:=s6 _ _ en5;refine⟨qf,_,rfl,aN.of eqf,λj σ' H'=>∃(y3:Option V)(zs':List (Pla×YC)),σ'=[oR g,oR d,oR lp,y3,oR lw,oR nq]/\zs'.map (·.1)=cp (zs.map (·.1)) ((ps.map (·.1)).take j)/\H' lp=some (.lst (aM zs'))/\bE H' zs'/\H' nq=some (.lst ((((ps.map (·.1)).take j).map λx=>(ba FF p0 (i+1)).idxOf x).map λ(n:Nat)=>V.int n))/\(∀a o,H6 a=some o->a≠lp->a≠nq->H' a=some o),⟨_,zs,rfl,by simp[cp],ep6,pk5.same s6,en6,λ_ _ e _ _=>e⟩,?_,?_,?_⟩
    .rintro j _ H' _ ⟨_,_,_,_,_,_,_,fr⟩;exact aN.of (fr _ _ eqf nqp nqn)
    .rintro j v _ H' hv ⟨y3,zs',rfl,ez',ep',pk',en',fr⟩;rw[Va]at hv;obtain⟨y,hy,rfl⟩:=XW.mp hv;have hjl:=(Vi.mp hy).1;have ty6:=pk6 y (Vn hy);have ty:H' y.2=some (.tup [.str y.1.1,.int y.1.2]):=fr _ _ ty6 (λe=>by rw[e,ep6]at ty6;cases ty6) (λe=>by rw[e,en6]at ty6;cases ty6);have et:(ps.map (·.1)).take (j+1)=(ps.map (·.1)).take j++[y.1]:=by rw[VS,Va,hy];rfl
     have gn:=jE y.1 ((ps.map (·.1)).take j) (zs.map (·.1));rw[<-et,<-ez']at gn;have gt:=lC (fs:=ps.map (·.1)) (ps:=zs.map (·.1)) (j+1);have lz':zs'.length=(zs'.map (·.1)).length:=by rw[U6]
     show bg _ _ _ [oR g,oR d,oR lp,oR y.2,oR lw,oR nq] H';refine bD (λσ' H''=>∃zs':List (Pla×YC),σ'=[oR g,oR d,oR lp,oR y.2,oR lw,oR nq]/\zs'.map (·.1)=cp (zs.map (·.1)) ((ps.map (·.1)).take (j+1))/\H'' lp=some (.lst (aM zs'))/\bE H'' zs'/\H'' nq=some (.lst ((((ps.map (·.1)).take j).map λx=>(ba FF p0 (i+1)).idxOf x).map λ(n:Nat)=>V.int n))/\(∀a o,H6 a=some o->a≠lp->a≠nq->H'' a=some o)) (λKK hK=>?_) ?_
     .refine cQ (qj (k:=y.1) (ev_v rfl) (ev_v rfl) ep' pk' ty) (λh=>?_) (λh=>?_)
      .rw[XA,decide_eq_false_iff_not]at h;rw[QV h]at gn;have:zs'.length+1<=2000:=by rw[gn,Ve,<-lz',<-ws1]at gt;have h1:zs'.length+1<=(ba FF p0 (i+1)).length:=gt;have h2:=fw1.2;lia
       exact jx (ev_v rfl) (ev_v rfl) ep' (by rw[U6,Rf];lia) (hK _ _ ⟨zs'++[y],rfl,by rw[gn,Vg];rfl,by rw[af];simp[aM],more H' zs' y ep' pk' ty,by rw[ak nnp];exact en',λa o e n1 n2=>by rw[ak n1];exact fr a o e n1 n2⟩)
      .rw[XC,decide_eq_true_iff]at h;rw[QW h]at gn;exact hK _ _ ⟨zs',rfl,by rw[gn],ep',pk',en',fr⟩
     rintro _ H7 ⟨zs7,rfl,ez7,ep7,pk7,en7,fr7⟩;have ty7:H7 y.2=some (.tup [.str y.1.1,.int y.1.2]):=fr7 _ _ ty6 (λe=>by rw[e,ep6]at ty6;cases ty6) (λe=>by rw[e,en6]at ty6;cases ty6);have ym:y.1∈zs7.map (·.1):=by rw[ez7,et];exact(iz _ _).mpr (.inr (by simp))
     obtain⟨r,hr'⟩:=Ec (ps:=zs.map (·.1)) (xs:=ps.map (·.1)) (j+1);have ix:(ba FF p0 (i+1)).idxOf y.1=(zs7.map (·.1)).idxOf y.1:=by rw[ws1,hr',<-ez7,D6 ym]
     refine jx (ev_v rfl) (Eh (ev_v rfl) (ev_v rfl) ep7 pk7 ty7 ym) en7 (by rw[U6,U6,Vs,Rf];lia) ⟨_,zs7,rfl,ez7,by rw[ak nnp.symm];exact ep7,λx hx=>?_,?_,λa o e n1 n2=>by rw[ak n2];exact fr7 a o e n1 n2⟩
     .have h7:=pk7 x hx;rw[ak (λe=>by rw[e,en7]at h7;cases h7)];exact h7
     .rw[af,et,Vg,Vg,<-ix];rfl
    .rintro _ H' ⟨y3,zs',rfl,ez',ep',pk',en',fr⟩;rw[U6,<-U6 (as:=ps) (·.1),VG]at ez' en';refine hK _ _ ⟨y3,zs',rfl,by rw[ws1];exact ez',ep',pk',?_,fr _ _ (s6 _ _ ew5) nwp nnw.symm,aO.imp (R:=λH' v l=>vb H lp lw lw H4 v l) (H:=H4) Rw λv l h=>?_,λa o e=>fr a o (s6 _ _ (s05 _ _ e)) (λz=>by rw[z,hlp]at e;cases e) (λz=>by rw[z,nn0]at e;cases e)⟩
     .unfold wrow;rw[ewi,eF];exact en'
     .obtain⟨a,e,h0,h1,h2,h3,h4⟩:=h;exact⟨a,e,h0,h1,h2,h3,fr _ _ (s6 _ _ (s5 _ _ h4)) h1 (λz=>by rw[z,hnq]at h4;cases h4)⟩
   rintro _ H7 ⟨y3',zs',rfl,ez',ep7,pk7,en7,ew7,Rw7,s7⟩;refine jx (ev_v rfl) (ev_v rfl) ew7 (by rw[lw4,Rf];lia) ⟨zs',ws++[.ref nq],_,_,rfl,ez',by rw[ak nwp.symm];exact ep7,λx hx=>?_,af,?_,s7.put nlw⟩
   .have h7:=pk7 x hx;rw[ak (λe=>by rw[e,ew7]at h7;cases h7)];exact h7
   .rw[o9];refine aO.snoc (Rw7.imp λv l h=>?_) ⟨nq,rfl,nn0,nnp,nnw,nnw,by rw[ak nnw];exact en7⟩;obtain⟨a,e,h0,h1,h2,h3,h4⟩:=h;exact⟨a,e,h0,h1,h2,h3,by rw[ak h2];exact h4⟩
  .rw[QU hlt];refine gO ?_;have ge:i<=(ba FF p0 i).length:=by
    cases i with
    |zero=>exact WT _
    |succ j=>
     obtain⟨r,hr'⟩:=j4 FF p0 (WW j);have:=hj j (WZ j);have h2:=Q2 List.length hr';rw[Ve]at h2;have h3:(ba FF p0 (j+1)).length=(ba FF p0 j).length+r.length:=h2;lia
   exact hK _ _ ⟨i,zs,ws,y3,y5,rfl,⟨by lia,hj⟩,ez,ep,pk,ew,Rw,s4⟩
 rintro _ H2 ⟨i,zs,ws,y3',y5,rfl,hw,ez,ep,pk,ew,Rw,s2⟩;refine eJ (j6 (bI (ev_v rfl) (bI (ev_v rfl) (cN ⟨by show 2<=v1;decide,λt ht=>?_⟩))));have st':ah H2 (upd H2 t (.tup [.ref lp,.ref lw])):=(ah.refl H2).upd ht;exact q i t lp lw zs ws _ hw (s2.free ht) af (st' _ _ ep) (pk.same st') ez (st' _ _ ew) (Rw.imp λv l h=>by
  obtain⟨a,e,h0,h1,h2,h3,h4⟩:=h;exact⟨a,e,h0,h1,h2,h3,st' _ _ h4⟩) hlp nlw (s2.trans st')
end
def AG(K:Frag)(cB cG:YC):Sp:=λvs H Q _=>∃g b kq t p wi hi hs ks us ts es st m,vs=[.ref g,.ref t]/\fj K cB cG H g b kq wi hi hs ks us ts es st/\H t=some (.tup [.str p.1,.int p.2])/\lM wi hi hs ks m p/\
 ∀(v:V)(H':Hp),j3 H' v (tZ wi hi hs us es st p)->ah H H'->Q v H'
structure QJ(P:Rg)(w:Rk)(K:Frag)(mg:Q3)(QR:Rq)(cB cG:YC):Prop where
 ending:cC P w K mg QR "ending" ["game","place"] 7 (mT K cB cG)
def AM(K:Frag):Sp:=λvs H Q _=>∃a b xs,vs=[.ref a,.ref b]/\H a=some (.lst xs)/\o7 K H 20 (.ref a) (.ref b) true/\Q (.bl true) H
section
def rA{f cB cG:YC}{fd:Rn}(F:ci K "_law_word" "_law_word" fK f fd)(T:Txt mg aS aA aE aW)(C:QJ P w K mg QR cB cG):aX P w K mg QR cI 8 f fd ["_law_game_here","_law_place_here"] (AG K cB cG):=by
 refine F.ok2 kc ?_;rintro _ _ _ s H _ Q _ hr hu ⟨g,b,kq,t,p,wi,hi,hs,ks,us,ts,es,st,m,rfl,G,ht,Pp,q⟩;have mm:=G.bd.many;refine⟨_,(ae (au 2 kc.nd (aF C.ending hr (az (cv 0) (az (cv 1) pan))))
  (ae (aR (aT K hu (cv 2) cm) (aj (aB cm)) aG)
  (aj (aB (ck (az (cv 2) (az ag pan))))))),?_⟩
 show bg _ _ _ [oR g,oR t,none] H;refine bu (λv H'=>mq wi hi hs p.1 us es st p.2 v/\ah H H') (λQ k=>?_) ?_
 .exact cR (aa (ev_v rfl) (aa (ev_v rfl) av)) ⟨g,b,kq,t,p.1,p.2,wi,hi,hs,ks,us,ts,es,st,rfl,G,cY.of ht,Pp.row.g G.ltr mm.2,by have:=Pp.row.len;lia,Pp.sd,λv H' he s=>k _ _ ⟨he,s⟩⟩
 rintro v H1 ⟨he,s1⟩
 rcases K6 he with rfl|⟨z,rfl⟩
 .refine bz (aV (Ei (ev_v rfl) aq)) (λ_=>?_) (λh=>by cases h);refine aJ aq (q _ _ ?_ s1);rw[DH he];rfl
 .refine bz (b:=false) (aV (λQ q=>(ev_v rfl:Ev (eZ 2) _ H1 (.str z)) _ (aq _ q))) (λh=>by cases h) (λ_=>?_);refine eJ (j6 (bI (ev_v rfl) (bI aq (cN ⟨by show 2<=v1;decide,λt' ht'=>q _ _ ?_ (s1.upd ht')⟩))));rw[xI he];exact⟨t',rfl,af⟩
def rC(F:ci K "_law_same" "_law_same" fL f fd)(T:Txt mg aS aA aE aW):aX P w K mg QR cI 1 f fd ["_law_found","_law_due"] (AM K):=by refine F.ok2 qQ ?_;rintro _ _ _ _ H _ Q _ hr hu ⟨a,b,xs,rfl,ha,he,q⟩;refine⟨_,(aj (aB (cH (wm .list T.isinstance T.list da (cv 0)) (dh (g6 K hu (cv 0) (cv 1)))))),?_⟩;show cJ _ _ [oR a,oR b] H;exact aJ (cy (n6 (ev_v rfl) ha) (λ_=>wC (ev_v rfl) (ev_v rfl) he)) q
end
def AJ(cW:YC):Sp:=λvs H Q _=>∃(x g dx lp dn lw lo lp2 lw2 wd:YC)(zs zs2:List (Pla×YC))(ws ws2 os os2:List V)(led:List (List Nat))(ovs:List (Option Str))(way:Int),vs=[.ref x,.ref lp2,.ref lw2,.ref wd,.int way]/\(way=0\/way=1)/\cr cW H x g dx lp dn lw lo zs ws os/\aO vc H ws led/\H lw2=some (.lst ws2)/\aO vc H ws2 led/\aO j3 H os ovs/\H wd=some (.lst os2)/\aO j3 H os2 ovs/\H lp2=some (.lst (aM zs2))/\bE H zs2/\zs2.map (·.1)=zs.map (·.1)/\led.length<=2000/\(∀l∈led,l.length<=4096)/\ovs.length<=2000/\
 ∀H',ah H H'->Q (.bl true) H'
structure QI(P:Rg)(w:Rk)(K:Frag)(mg:Q3)(QR:Rq)(cW:YC):Prop where
 Web_known:fV P w K mg QR cW "known" ["self"] 1 (AI cW)
 Web_nexts:fV P w K mg QR cW "nexts" ["self"] 1 (AH cW)
 _law_same:cC P w K mg QR "_law_same" ["_law_found","_law_due"] 1 (AM K)
def NJ(ht:Tv t σ H false)(h:u σ H Q):Lz t u σ H Q:=ht _ (gO h)
def IK(h:te σ H (cV Q)):gh te σ H Q:=h
def rX(h:ta σ H λx H1=>tb σ H1 λy H2=>gQ K op x y H2 Q):fT K op ta tb σ H Q:=h
def Jv(ho:Ev to σ H (.ref l))(hl:H l=some (.lst xs))(h:u D σ (upd H l (.lst []))):bg (iY (OT to)) u D σ H:=ho _ ⟨⟨xs,hl⟩,⟨l,xs,rfl,rfl,hl,h⟩⟩
section
def rB(F:ci K "_law_told" "_law_told" dI f fd)(T:Txt mg aS aA aE aW)(D:u7 K cW)(C:QI P w K mg QR cW):aX P w K mg QR cI 2 f fd ["_law_web","_law_places","_law_led","_law_words","_law_way"] (AJ cW):=by
 refine F.ok2 cZ ?_;rintro _ _ _ s H _ Q _ hr hu ⟨x,g,dx,lp,dn,lw,lo,lp2,lw2,wd,zs,zs2,ws,ws2,os,os2,led,ovs,way,rfl,hway,W,Rw,ew2,Rw2,Ro,ewd,Ro2,ep2,pk2,ez2,ll,lb,lov,q⟩;refine⟨_,(ae (au 5 cZ.nd cm)
  (ae (aR (aT K hu (cv 4) ag) (aj (au 5 cZ.nd (jl C.Web_known hr (cv 0)))) aG)
  (ae (au 6 cZ.nd (jl C.Web_nexts hr (cv 0)))
  (ae (aR (aT K hu (cv 4) ag) (aj (au 5 cZ.nd (jl C.Web_known hr (cv 0)))) aG)
  (ae (aR (PW.pt (gH (bA (a7 (aF C._law_same hr (az (cv 6) (az (cv 2) pan))))) (fo (bA (a7 (aF C._law_same hr (az (cv 5) (az (cv 3) pan)))))))) (aj (aB eO)) aG)
  (ae (fu Rr rfl (mB K (cv 6)) (bY 7 cZ.nd) (ae (aR (PW.pt (gH (bA (a7 (wm .list T.isinstance T.list da (cv 7)))) (fo (aT K hu (eQ (cz (N:=["_law_one"]) (src:=[none]) (am dI) ["_law_web","_law_places","_law_led","_law_words","_law_way","_law_known","_law_nexts","_law_numbers"]) (mB K (cv 7)) (λ_ _ _=>(bj (i:=0) ["_law_one"])) (λ_ _ _=>(ku (a7 (wm .bool T.isinstance T.bool sJ (cv 0))))) (λ_ _ _=>(cv 0))) (bp pan))))) (aj (aB eO)) aG)
  (aj (bK (dw (cv 7) ag)))))
  (ae (bK (uM (cv 6)))
  (ae (bK (dw (cv 5) cm))
  (aj (aB (cH (wm .list T.isinstance T.list da (bG K (cv 0))) (dh (g6 K hu (bG K (cv 0)) (cv 1)))))))))))))),?_⟩
 show bg _ _ _ [oR x,oR lp2,oR lw2,oR wd,oJ way,none,none,none] H;refine aZ aq ?_;refine bD (λσ' H'=>∃y5:V,σ'=[oR x,oR lp2,oR lw2,oR wd,oJ way,some y5,none,none]/\(way=1->∃kn,y5=.ref kn/\H kn=none/\H' kn=some (.lst os))/\ah H H') (λKK hK=>?_) ?_
 .refine cQ (aV (dL (ev_v rfl) aq)) (λh=>?_) (λh=>hK _ _ ⟨.non,rfl,λe=>QZ e (QY h),ah.refl H⟩);exact sL (gU (ev_v rfl) W.no ⟨x,g,dx,lp,dn,lw,lo,zs,ws,os,rfl,W,λkn hkn=>hK _ _ ⟨.ref kn,rfl,λ_=>⟨kn,rfl,hkn,af⟩,(ah.refl H).upd hkn⟩⟩)
 rintro _ H1 ⟨y5,rfl,hy5,s1⟩;have W1:=(W).same s1;refine bu (λv H'=>∃(nq:YC)(ys:List V),v=.ref nq/\H1 nq=none/\H' nq=some (.lst ys)/\aO (λH' v l=>∃a,v=.ref a/\H1 a=none/\H' a=some (.lst (l.map λ(n:Nat)=>V.int n))) H' ys led/\ah H1 H') (λQ k=>?_) ?_
 .exact gU (ev_v rfl) W1.no ⟨x,g,dx,lp,dn,lw,lo,zs,ws,os,led,rfl,W1,Rw.imp λv l h=>h.same s1,by lia,λnq ys H' nn en R s=>k _ _ ⟨nq,ys,rfl,nn,en,R,s⟩⟩
 rintro _ H2 ⟨nq,ys,rfl,nnq,enq,Ry,s2⟩;have s02:=s1.trans s2;have W2:=(W).same s02;have nqy:∀(v:V)(l:List Nat)(a:YC),v∈ys->v=.ref a->H2 a=some (.lst (l.map λ(n:Nat)=>V.int n))->a≠nq:=λv l a hv e h z=>by rw[z,enq]at h;injection h with h;injection h with h;rw[h]at hv;obtain⟨n,_,rfl⟩:=U7.mp hv;cases e
 refine bD (λσ' H'=>∃kn:YC,σ'=[oR x,oR lp2,oR lw2,oR wd,oJ way,oR kn,oR nq,none]/\H kn=none/\kn≠nq/\H' kn=some (.lst os)/\H' nq=some (.lst ys)/\aO (λH' v l=>∃a,v=.ref a/\H a=none/\a≠kn/\a≠nq/\H' a=some (.lst (l.map λ(n:Nat)=>V.int n))) H' ys led/\ah H H') (λKK hK=>?_) ?_
 .have mk:∀(kn:YC)(H':Hp),ah H2 H'->(∀a o,H2 a=some o->H1 a=none->a≠kn)->aO (λH' v l=>∃a,v=.ref a/\H a=none/\a≠kn/\a≠nq/\H' a=some (.lst (l.map λ(n:Nat)=>V.int n))) H' ys led:=λkn H' s' hne=>⟨Ry.1,λi v l h1 h2=>by
   obtain⟨a,e,h3,h4⟩:=Ry.2 i v l h1 h2;exact⟨a,e,s1.free h3,hne a _ h4 h3,nqy v l a (Vn h1) e h4,s' _ _ h4⟩⟩
  refine cQ (aV (dL (ev_v rfl) aq)) (λh=>?_) (λh=>?_)
  .refine sL (gU (ev_v rfl) W2.no ⟨x,g,dx,lp,dn,lw,lo,zs,ws,os,rfl,W2,λkn hkn=>?_⟩);have s3:=(ah.refl H2).upd (o:=.lst os) hkn;exact hK _ _ ⟨kn,rfl,s02.free hkn,(λe=>by rw[e,enq]at hkn;cases hkn),af,s3 _ _ enq,mk kn _ s3 (λa o e _ z=>by rw[z,hkn]at e;cases e),s02.trans s3⟩
  .have hw:way=1:=by have:=QY h;lia
   obtain⟨kn,rfl,hk0,hk1⟩:=hy5 hw;exact hK _ _ ⟨kn,rfl,hk0,(λe=>by rw[e,nnq]at hk1;cases hk1),s2 _ _ hk1,enq,mk kn _ (ah.refl H2) (λa o _ n z=>by rw[z,hk1]at n;cases n),s02⟩
 rintro _ H3 ⟨kn,rfl,nkn,nkq,ekn,enq3,Ry3,s3⟩;have nnq0:H nq=none:=s1.free nnq;have NM:aO vc H3 ys led:=Ry3.imp λv l h=>by obtain⟨a,e,_,_,_,h⟩:=h;exact⟨a,e,h⟩
 refine bz (hV (bZ (aV (aH (x:=.bl true) (aa (ev_v rfl) (aa (ev_v rfl) av)) (λQ q=>⟨nq,lw2,ys,rfl,enq3,yh enq3 (s3 _ _ ew2) NM (Rw2.imp λv l h=>h.same s3) (λv u x h h'=>wG h h'),q⟩)))) (λ_=>bZ (aV (aH (x:=.bl true) (aa (ev_v rfl) (aa (ev_v rfl) av)) (λQ q=>⟨kn,wd,os,rfl,ekn,yh ekn (s3 _ _ ewd) (Ro.imp λv o h=>h.same s3) (Ro2.imp λv o h=>h.same s3) (λv u x h h'=>wF h h'),q⟩))))) (λh=>by cases h) (λ_=>?_);refine bD (λσ' H'=>∃y7:Option V,σ'=[oR x,oR lp2,oR lw2,oR wd,oJ way,oR kn,oR nq,y7]/\H' nq=some (.lst ys)/\H' kn=some (.lst os)/\ah H H') (λKK hK=>?_) ?_
 .refine eT (λv H'=>v=.ref nq/\H3=H') (λQ k=>ow (v:=.ref nq) (ev_v rfl) (k _ _ ⟨rfl,rfl⟩)) ?_;rintro _ _ ⟨rfl,rfl⟩;refine⟨nq,_,rfl,aN.of enq3,λi σ' H'=>∃y7:Option V,σ'=[oR x,oR lp2,oR lw2,oR wd,oJ way,oR kn,oR nq,y7]/\H' nq=some (.lst ys)/\H' kn=some (.lst os)/\(∀v∈ys,∃(a:YC)(l:List Int),v=.ref a/\H a=none/\a≠kn/\a≠nq/\H' a=some (.lst (l.map V.int))/\l.length<=5000+i)/\ah H H',⟨none,rfl,enq3,ekn,λv hv=>?_,s3⟩,?_,?_,?_⟩
  .obtain⟨i,hi⟩:=V9 hv;have hil:i<led.length:=by rw[<-Ry3.1];exact(Vi.mp hi).1
   obtain⟨a,e,h0,h1,h2,h3⟩:=Ry3.2 i v led[i] hi (U9 hil);refine⟨a,led[i].map λ(n:Nat)=>(n:Int),e,h0,h1,h2,by rw[Vj];exact h3,?_⟩;rw[U6];have:=lb _ (Vl hil);lia
  .rintro i _ H' _ ⟨_,_,e,_⟩;exact aN.of e
  .rintro i v _ H' hv ⟨y7,rfl,en',ek',hall,s'⟩;have hil:i<ys.length:=(Vi.mp hv).1;have i2:i<2000:=by have:=Ry3.1;lia
   obtain⟨a,l,rfl,a0,a1,a2,ea,la⟩:=hall v (Vn hv);show bg _ _ _ [oR x,oR lp2,oR lw2,oR wd,oJ way,oR kn,oR nq,oR a] H';refine cP (λc H''=>c=false/\ah H' H'') (λQ k=>?_) (λH'' h=>by cases h.1) (λH4 h=>?_)
   .refine NJ (bZ (aV (n6 (ev_v rfl) ea))) (IK (rX (fF (d:=a) (xs:=l.map V.int) (rest:=[]) (ev_v rfl) (aN.of ea) (by rw[U6,Rf];lia) rfl (λ_=>false) (λv=>v) (λv hv=>?_) (λv hv h=>by cases h) (λd' hd'=>gV (cN ⟨WT _,λe' he'=>?_⟩)))))
    .obtain⟨n,_,rfl⟩:=U7.mp hv;exact aV (wA (ev_v rfl))
    .have hd2:(upd H' d' (.lst (((l.map V.int).filter λ_=>false).map λv=>v))) d'=some (.lst []):=by rw[af];simp
     have s4:=(ah.refl H').upd (o:=.lst (((l.map V.int).filter λ_=>false).map λv=>v)) hd';have s5:=(ah.refl (upd H' d' (.lst (((l.map V.int).filter λ_=>false).map λv=>v)))).upd (o:=.lst []) he';exact⟨true,L2.Em (s5 _ _ hd2) af,k _ _ ⟨rfl,s4.trans s5⟩⟩
   obtain⟨_,s4⟩:=h;refine jx (ev_v rfl) aq (s4 _ _ ea) (by rw[U6,Rf];lia) ⟨_,rfl,by rw[ak a2.symm];exact s4 _ _ en',by rw[ak a1.symm];exact s4 _ _ ek',λv hv=>?_,(s'.trans s4).put a0⟩;obtain⟨a',l',rfl,b0,b1,b2,eb,lb'⟩:=hall v hv
   by_cases e:a'=a
   .subst e;rw[ea]at eb;injection eb with eb;injection eb with eb;exact⟨a',l++[0],rfl,b0,b1,b2,by rw[af,Vg];rfl,by rw[Ve];show l.length+1<=_;lia⟩
   .exact⟨a',l',rfl,b0,b1,b2,by rw[ak e];exact s4 _ _ eb,by lia⟩
  .rintro _ H' ⟨y7,rfl,en',ek',_,s'⟩;exact hK _ _ ⟨y7,rfl,en',ek',s'⟩
 rintro _ H4 ⟨y7,rfl,en4,ek4,s4⟩;refine Jv (ev_v rfl) en4 ?_;have s5:ah H (upd H4 nq (.lst [])):=s4.put nnq0;refine vm (ev_v rfl) aq (by rw[ak nkq];exact ek4) (by rw[Ro.1,Rf];lia) ?_;have s6:ah H (upd (upd H4 nq (.lst [])) kn (.lst (os++[.non]))):=s5.put nkn;generalize upd (upd H4 nq (.lst [])) kn (.lst (os++[.non]))=H6 at s6 ⊢;have W6:=(W).same s6;exact aJ (cy (n6 (aK (ev_v rfl) (W6.fplaces D)) W6.pl) (λ_=>wC (aK (ev_v rfl) (W6.fplaces D)) (ev_v rfl) (yi (aN.of W6.pl) (aN.of (s6 _ _ ep2)) ez2.symm W6.pk (pk2.same s6)))) (q _ s6)
end
theorem Bv:∀{l:List Pla}{i:Nat},l.Nodup->l[i]? =some x->l.idxOf x=i
 | [],_,_,h=>by simp at h
 |a::l,0,_,h=>by
  have:a=x:=by simpa using h
  subst this;simp
 |a::l,i+1,nd,h=>by
  have h:l[i]? =some x:=by simpa using h
  have nd':=VB.mp nd;have hne:a≠x:=λe=>nd'.1 (by rw[e];exact Vn h);rw[List.idxOf_cons,show(a == x)=false from by simpa using hne];show l.idxOf x+1=i+1;rw[Bv nd'.2 h]
def vq(K:Frag)(cB cG cW:YC):Sp:=λvs H Q _=>∃(x g dx lp dn lw lo lp2 b:YC)(zs zs2:List (Pla×YC))(ws os:List V)(wi hi:Int)(hs:List Int)(ks:List Nat)(rs ts es:List V)(st:Str)(m:Nat),vs=[.ref x,.ref lp2]/\cr cW H x g dx lp dn lw lo zs ws os/\fA cG H g b (ks.map strV) rs ts es st/\bQ K cB H b wi hi hs/\(∀k∈ks,lN k)/\ks.length<=6/\H lp2=some (.lst (aM zs2))/\bE H zs2/\zs2.map (·.1)=zs.map (·.1)/\(∀z∈zs2,lM wi hi hs ks m z.1)/\(zs2.map (·.1)).Nodup/\zs2.length<=2000/\
 ∀H',ah H H'->Q (.bl true) H'
structure QH(P:Rg)(w:Rk)(K:Frag)(mg:Q3)(QR:Rq)(cB cG cW:YC):Prop where
 Web_number:fV P w K mg QR cW "number" ["self","place"] 7 (vn K cB cG cW)
section
def lq{f cB cG cW:YC}{fd:Rn}(F:ci K "_law_numbered" "_law_numbered" cK f fd)(T:Txt mg aS aA aE aW)(D:u7 K cW)(C:QH P w K mg QR cB cG cW):aX P w K mg QR cI 8 f fd ["_law_web","_law_places"] (vq K cB cG cW):=by
 refine F.ok2 fm ?_;rintro _ _ _ s H vs Q _ hr hu ⟨x,g,dx,lp,dn,lw,lo,lp2,b,zs,zs2,ws,os,wi,hi,hs,ks,rs,ts,es,st,m,rfl,W,G,O,hl,k6,ep2,pk2,ez2,Gz,nd,l2,q⟩;have mm:=O.many;refine⟨_,(ae (fu Rr rfl (LC T.range (az (kB (fv K) bB T.len (az (cv 1) pan)) pan)) (bY 2 fm.nd) (ae (au 3 fm.nd (iL C.Web_number hr (cv 0) (az (cX K (cv 1) (cv 2)) pan)))
  (aj (aR (PW.pt (gH (bA (a7 (wm .int T.isinstance T.int su (cv 3)))) (gH (a7 (wm .bool T.isinstance T.bool sJ (cv 3))) (fo (aT K hu (cv 3) (cv 2)))))) (aj (aB eO)) aG))))
  (aj (aB (cH (wm .list T.isinstance T.list da (bG K (cv 0))) (dh (g6 K hu (bG K (cv 0)) (cv 1))))))),?_⟩
 show bg _ _ _ [oR x,oR lp2,none,none] H;refine bD (λσ' H'=>∃y2 y3,σ'=[oR x,oR lp2,y2,y3]/\ah H H') (λKK hK=>?_) ?_
 .refine kM ((aM zs2).length:Int) (λQ q=>(aa (cq (ev_v rfl) (.inl (aN.of ep2))) av) _ q) (by lia) (by rw[U6];lia) (λi σ' H'=>∃y2 y3,σ'=[oR x,oR lp2,y2,y3]/\ah H H') ⟨_,_,rfl,ah.refl H⟩ ?_ (λσ' H' h=>hK _ _ h);rintro i _ H1 hi1 ⟨y2,y3,rfl,s1⟩;rw[U6]at hi1;have hil:i<zs2.length:=by lia
  have ei:zs2[i]? =some zs2[i]:=U9 hil;generalize zs2[i]=z at ei;have hz:=Vn ei;have Pz:=Gz z hz;have tz:=s1 _ _ (pk2 z hz);have lz:z.1.1.length<=1000:=by have:=Pz.row.len;lia
  show bg _ _ _ [oR x,oR lp2,oJ (0+(i:Int)),y3] H1;refine bu (λv H'=>v=.int (i:Int)/\ah H1 H') (λQ k=>?_) ?_
  .have W1:=(W).same s1;refine rK (vs:=[.ref z.2]) (ev_v rfl) W1.no (aa (aY (ev_v rfl) (ev_v rfl) (.inl (aN.of (s1 _ _ ep2))) (by rw[Xs];exact bx (by rw[Va,ei];rfl))) av) ⟨x,g,dx,lp,dn,lw,lo,z.2,b,zs,ws,os,z.1,wi,hi,hs,ks,rs,ts,es,st,rfl,W1,G.same s1,O.same s1,hl,k6,tz,lz,λH' s=>?_⟩;have em:z.1∈zs.map (·.1):=by rw[<-ez2];exact U7.mpr ⟨z,hz,rfl⟩
   have ea:amongB (.int z.1.2) 0 1=true:=by
    rcases Pz.sd with e|e<;>rw[e]<;>decide
   have ex:(zs.map (·.1)).idxOf z.1=i:=by rw[<-ez2];exact Bv nd (by rw[Va,ei];rfl)
   unfold mK;rw[xA Pz.row,ea,QW (show(true&&true)=true from rfl),QW em,ex];exact k _ _ ⟨rfl,s⟩
  rintro _ H2 ⟨rfl,s2⟩;refine cQ (b:=false) ?_ (λh=>by cases h) (λ_=>⟨_,_,rfl,s1.trans s2⟩);have hb:(!eS .int .int||(eS .int .bool|| !decide ((i:Int)=0+(i:Int))))=false:=by rw[QT (by lia)];rfl
  rw[<-hb];exact hV (bZ (aV (wA (ev_v rfl)))) (λ_=>hV (aV (wA (ev_v rfl))) (λ_=>aV (nX (ev_v rfl) (ev_v rfl))))
 rintro _ H1 ⟨y2,y3,rfl,s1⟩;have W1:=(W).same s1;exact aJ (cy (n6 (aK (ev_v rfl) (W1.fplaces D)) W1.pl) (λ_=>wC (aK (ev_v rfl) (W1.fplaces D)) (ev_v rfl) (yi (aN.of W1.pl) (aN.of (s1 _ _ ep2)) ez2.symm W1.pk (pk2.same s1)))) (q _ s1)
end
def xr(K:Frag):Sp:=λvs H Q _=>∃(a:YC)(ns:List Int),vs=[.ref a]/\aN K H a (ns.map V.int)/\ns.length<=63/\∀H',Q (.bl true) H'
structure CL(P:Rg)(w:Rk)(K:Frag)(mg:Q3)(QR:Rq)(cB cG cW:YC):Prop where
 _law_cell_at:cC P w K mg QR "_law_cell_at" ["_law_script","_law_k"] 1 (j8 K)
 _law_mixed:cC P w K mg QR "_law_mixed" ["_law_script","_law_k"] 2 (xq K)
 _law_game:cC P w K mg QR "_law_game" ["_law_script"] 8 (IP K cB cG)
 _law_place:cC P w K mg QR "_law_place" ["_law_game_here","_law_cell"] 2 (vp K cB cG)
 _law_starts:cC P w K mg QR "_law_starts" ["_law_script","_law_game_here"] 3 (AK K cB cG)
 Web:lY P w K mg QR "Web" cW ["self","game","starts","most"] 8 (xk K cB cG cW)
 _law_going:cC P w K mg QR "_law_going" ["_law_game_here","_law_starts_here"] 8 (AU K cB cG)
 _law_word:cC P w K mg QR "_law_word" ["_law_game_here","_law_place_here"] 8 (AG K cB cG)
 _law_told:cC P w K mg QR "_law_told" ["_law_web","_law_places","_law_led","_law_words","_law_way"] 2 (AJ cW)
 _law_numbered:cC P w K mg QR "_law_numbered" ["_law_web","_law_places"] 8 (vq K cB cG cW)
 Web_known:fV P w K mg QR cW "known" ["self"] 1 (AI cW)
 Web_nexts:fV P w K mg QR cW "nexts" ["self"] 1 (AH cW)
 Web_number:fV P w K mg QR cW "number" ["self","place"] 7 (vn K cB cG cW)
def NF(m6:wi*hi<=6):∀f,f=((List.range (wi*hi).toNat).filter λ(s:Nat)=> !decide ((s:Int)∈hs)).length->kO 4 f (mOf wi hi hs)<=1000:=by
 intro f hf;have hl:(freeQ wi hi hs).length=f:=by unfold freeQ;rw[U6,hf]
 have h6:f<=6:=by have:=VM (λ(s:Nat)=> !decide ((s:Int)∈hs)) (List.range (wi*hi).toNat);rw[<-hf,Vu]at this;lia
 unfold mOf;rw[hl];have:f=0\/f=1\/f=2\/f=3\/f=4\/f=5\/f=6:=by lia
 rcases this with rfl|rfl|rfl|rfl|rfl|rfl|rfl<;>decide
def cr.clear{cW:YC}{H:Hp}{x g dx lp dn lw lo d:YC}{zs:List (Pla×YC)}{ws os ys ys':List V}(W:cr cW H x g dx lp dn lw lo zs ws os)(hd:H d=some (.lst ys))(n1:lp≠d)(n2:lw≠d)(n3:lo≠d):cr cW (L2.upd H d (.lst ys')) x g dx lp dn lw lo zs ws os:=by
 refine⟨?_,by rw[ak n1];exact W.pl,λz hz=>?_,?_,by rw[ak n2];exact W.wy,by rw[ak n3];exact W.ov,W.nwp,W.nop,W.nwo⟩
 .rw[ak (λe=>by have:=W.at_;rw[e,hd]at this;cases this)];exact W.at_
 .rw[ak (λe=>by have:=W.pk z hz;rw[e,hd]at this;cases this)];exact W.pk z hz
 .rw[ak (λe=>by have:=W.nb;rw[e,hd]at this;cases this)];exact W.nb
def j3.clear(h:j3 H v o)(hd:H d=some (.lst ys)):j3 (L2.upd H d (.lst ys')) v o:=by
 cases o with
 |none=>exact h
 |some z=>
  obtain⟨a,e,h⟩:=h;exact⟨a,e,by rw[ak (λe=>by rw[e,hd]at h;cases h)];exact h⟩
def Di(P:Bool->Hp->Prop)(hc:∀Q:Bool->Hp->Prop,(∀b H',P b H'->Q b H')->c σ H Q)(h1:∀H',P true H'->t D σ H')(h2:∀H',P false H'->D.nx σ H'):l7 c t tj D σ H:=by
 refine hc _ λb H' p=>?_;cases b with
 |true=>exact gN (h1 H' p)
 |false=>exact gO (h2 H' p)
def J3{p0:List Pla}{n i:Nat}{zs:List (Pla×YC)}(h:ve F p0 n)(ez:zs.map (·.1)=ba F p0 n)(hz:zs[i]? =some z):(ba F p0 i).getD i ("",0)=z.1:=by
 have hi:i<n:=by
  have l:zs.length=n:=by rw[<-h.1,<-ez,U6]
  rw[<-l];exact(Vi.mp hz).1
 obtain⟨r,hr⟩:=j4 F p0 (Xb hi);have e:(ba F p0 n)[i]? =some z.1:=by rw[<-ez,Va,hz];rfl
 rw[hr,VH (h.2 i hi)]at e;rw[Vh,e];rfl
def JG(h:p∉ps):mK wi hi hs ks ps p=.non:=by unfold mK;rw[QV h];split<;>rfl
def JF:mK wi hi hs ks ps (z,2)=.non:=by unfold mK;rw[show amongB (.int ((z,(2:Int)).2)) 0 1=false from rfl,XF,QV (by decide)]
def Oh(h:Q (.bl true) H):gQ K .Is .non .non H Q:=by show Q (.bl (decide (V.non=V.non))) H;rw[QT rfl];exact h
def OB(ha:Ev ta σ H (.ref c))(hb:Ev tb σ H (.ref c))(hc:H c=some (.ins C dx fs))(cl:oA K C)(ec:Po K C)(q:Q (.bl true) H):OS K ta tb σ H Q:=ha _ (hb _ ⟨c,C,dx,fs,rfl,rfl,hc,cl,ec,q⟩)
def N4(ho:Ev to σ H (.ref a))(hn:kW C m H a)(h:t σ H λvs H1=>sp (.ref a::vs) H1 Q E0):oo C m sp to t σ H Q:=ho _ ⟨hn,h⟩
def yg(ht:H t=some (.tup [a,b]))(ht':H t'=some (.tup [a',b']))(h1:jv K H n a a' true)(h2:jv K H n b b' true):o7 K H (n+1) (.ref t) (.ref t') true:=by
 have:=o7.tup (es:=λ_=>true) (cY.of ht) (cY.of ht') (n:=n) (λi x y hx hy=>by
  match i,hx,hy with
  |0,hx,hy=>cases hx;cases hy;exact h1
  |1,hx,hy=>cases hx;cases hy;exact h2
  |i+2,hx,_=>simp at hx)
 exact this
structure Pn(K:Frag)(cB cG cW:YC)(H:Hp)(g b kq:YC)(wi hi:Int)(hs:List Int)(ks:List Nat)(us:List (bb×YC))(ts es:List ((Str×Str)×YC))(st:Str)(x dx lp dn lw lo lp2 lw2 wd:YC)(zs zs2:List (Pla×YC))(ws ws2 os os2:List V)(led:List (List Nat))(ovs:List (Option Str)):Prop where
 G:fj K cB cG H g b kq wi hi hs ks us ts es st
 W:cr cW H x g dx lp dn lw lo zs ws os
 Rw:aO vc H ws led
 Ro:aO j3 H os ovs
 ep:H lp2=some (.lst (aM zs2))
 pk:bE H zs2
 ew:H lw2=some (.lst ws2)
 Rw2:aO vc H ws2 led
 ed:H wd=some (.lst os2)
 Ro2:aO j3 H os2 ovs
theorem Pn.same{K:Frag}{cB cG cW:YC}{H H':Hp}{g b kq:YC}{wi hi:Int}{hs:List Int}{ks:List Nat}{us:List (bb×YC)}{ts es:List ((Str×Str)×YC)}{st:Str}{x dx lp dn lw lo lp2 lw2 wd:YC}{zs zs2:List (Pla×YC)}{ws ws2 os os2:List V}{led:List (List Nat)}{ovs:List (Option Str)}(h:Pn K cB cG cW H g b kq wi hi hs ks us ts es st x dx lp dn lw lo lp2 lw2 wd zs zs2 ws ws2 os os2 led ovs)(s:ah H H'):Pn K cB cG cW H' g b kq wi hi hs ks us ts es st x dx lp dn lw lo lp2 lw2 wd zs zs2 ws ws2 os os2 led ovs:=
 ⟨h.G.same s,h.W.same s,h.Rw.imp λ_ _ z=>z.same s,h.Ro.imp λ_ _ z=>z.same s,s _ _ h.ep,h.pk.same s,s _ _ h.ew,h.Rw2.imp λ_ _ z=>z.same s,s _ _ h.ed,h.Ro2.imp λ_ _ z=>z.same s⟩
section
def Kw{f cB cG cW:YC}{fd:Rn}(F:ci K "law" "law" jM f fd)(T:Txt mg aS aA aE aW)(D:u7 K cW)(GC:uZ K cG)(EC:Po K cG)(C:CL P w K mg QR cB cG cW):aX P w K mg QR cI 10 f fd ["_law_script"] (xr K):=by
 refine F.ok2 dP ?_;rintro _ _ _ s H vs Q _ hr hu ⟨a,ns,rfl,hS,hlen,k⟩;refine⟨_,(ae (au 1 dP.nd (aF C._law_game hr (az (cv 0) pan)))
  (ae (au 2 dP.nd (aF C._law_starts hr (az (cv 0) (az (cv 1) pan))))
  (ae (au 3 dP.nd (xS (nI K) da T.list (az (cv 2) pan)))
  (ae (au 4 dP.nd (BL C.Web hr (az (cv 1) (az (cv 3) (az ag pan)))))
  (ae (aR (aT K hu (cv 3) (cv 2)) (aj (aB eO)) aG)
  (ae (bK (uM (cv 3)))
  (ae (vQ (aF C._law_going hr (az (cv 1) (az (cv 2) pan))) (Ph K (n:=2) (fR (bY 5 dP.nd) (fR (bY 6 dP.nd) mz))))
  (ae (Dv (i:=7) rfl (cz (N:=["_law_place_here","_law_game_here"]) (src:=[none,some 1]) (am jM) ["_law_script","_law_game_here","_law_starts_here","_law_handed","_law_web","_law_places","_law_led","_law_words","_law_is_turned","_law_first","_law_second","_law_turn","_law_strange","_law_due"]) (mB K (cv 5)) (λ_ _ _=>(bj (i:=0) ["_law_place_here","_law_game_here"])) (λ_ _ _=>bO) (λ_ _ _=>(aF C._law_word hr (az (cv 1) (az (cv 0) pan)))) dP.nd rfl (Or.inl rfl) rfl (Or.inl rfl))
  (ae (aR (PW.pt (gI (aT K hu (aw (aF C._law_mixed hr (az (cv 0) (az ag pan))) ag) ag) (eK (bA (a7 (aF C._law_numbered hr (az (cv 4) (az (cv 5) pan)))))))) (aj (aB eO)) aG)
  (ae (au 8 dP.nd (g6 K hu (aw (aF C._law_mixed hr (az (cv 0) (az ag pan))) ag) ag))
  (ae (au 9 dP.nd (bP (a7 (cv 8)) (jl C.Web_known hr (cv 4)) (jl C.Web_nexts hr (cv 4))))
  (ae (au 10 dP.nd (bP (a7 (cv 8)) (jl C.Web_nexts hr (cv 4)) (jl C.Web_known hr (cv 4))))
  (ae (fu Rr rfl (LC T.range (az ag pan)) (bY 11 dP.nd) (aj (aR (bA (a7 (aF C._law_told hr (az (cv 4) (az (cv 5) (az (cv 6) (az (cv 7) (az (aw (aw (aF C._law_mixed hr (az (cv 0) (az ag pan))) (cv 11)) ag) pan)))))))) (aj (aB eO)) aG)))
  (ae (aR (bA (a7 (aF C._law_numbered hr (az (cv 4) (az (cv 5) pan))))) (aj (aB eO)) aG)
  (ae (au 12 dP.nd (aF C._law_place hr (az (cv 1) (az (aw (aF C._law_cell_at hr (az (cv 0) (az ag pan))) ag) pan))))
  (ae (aR (PW.pt (gI (BK K hu (cv 12) (cv 5)) (eK (aT K hu (iL C.Web_number hr (cv 4) (az (cv 12) pan)) cm)))) (aj (aB eO)) aG)
  (ae (au 13 dP.nd (bP (a7 (cv 8)) (ck (az (cv 7) (az (cv 6) pan))) (ck (az (cv 6) (az (cv 7) pan)))))
  (aj (aB (cH (g6 K hu (iL C.Web_number hr (cv 4) (az (ck (az (cX K (cX K (cv 5) ag) ag) (az ag pan))) pan)) cm) (cH (Qn K hu (bG K (cv 4)) (cv 1)) (dh (g6 K hu (ck (az (cv 9) (az (cv 10) pan))) (cv 13)))))))))))))))))))))))),?_⟩
 show bg _ _ _ [oR a,none,none,none,none,none,none,none,none,none,none,none,none,none] H;refine bu (λv H'=>∃(g b kq:YC)(wi hi:Int)(hs:List Int)(ks:List Nat)(us:List (bb×YC))(ts es:List ((Str×Str)×YC))(st:Str),v=.ref g/\fj K cB cG H' g b kq wi hi hs ks us ts es st/\ks.length<=2/\wi*hi<=6/\ah H H') (λQ q=>cR (aa (ev_v rfl) av) ⟨a,ns,rfl,hS,λg b kq wi hi hs ks us ts es st H' h1 h2 h3 h4 h5=>q _ _ ⟨g,b,kq,wi,hi,hs,ks,us,ts,es,st,rfl,h1,h2,h3,h5⟩⟩) ?_;rintro _ H1 ⟨g,b,kq,wi,hi,hs,ks,us,ts,es,st,rfl,G,k2,m6,s1⟩;have hS1:=s1.seq hS;refine bu (λv H'=>∃(q:YC)(fs:List (Pla×YC)),v=.ref q/\H' q=some (.lst (aM fs))/\bE H' fs/\(∀z∈fs,lM wi hi hs ks (mOf wi hi hs) z.1)/\1<=fs.length/\fs.length<=2/\ah H1 H') (λQ k=>cR (aa (ev_v rfl) (aa (ev_v rfl) av)) ⟨a,g,b,kq,ns,wi,hi,hs,ks,us,ts,es,st,rfl,hS1,G,m6,λq fs H' _ e pk Gf l1 l2 s=>k _ _ ⟨q,fs,rfl,e,pk,Gf,l1,l2,s⟩⟩) ?_;rintro _ H2 ⟨sq,fs,rfl,esq,pf,Gf,l1,l2,s2⟩;have G2:=G.same s2;have hS2:=s2.seq hS1;have hb:=NF (hs:=hs) m6;generalize mOf wi hi hs=m at Gf hb;refine bu (λv H'=>∃d:YC,v=.ref d/\H2 d=none/\H' d=some (.lst (aM fs))/\ah H2 H') (λQ q=>BF (ev_v rfl) (.inl (aN.of esq)) λl hl=>q _ _ ⟨l,rfl,hl,af,(ah.refl H2).upd hl⟩) ?_;rintro _ H3 ⟨d,rfl,nd,ed,s3⟩;have G3:=G2.same s3;obtain⟨p0,hP⟩:∃p0:List Pla,p0=fs.map (·.1):=⟨_,rfl⟩;obtain⟨FF,hF⟩:∃FF,FF=folF wi hi hs us ts es:=⟨_,rfl⟩;refine bu (λv H'=>∃(x dx lp dn lw lo:YC)(n:Nat)(zs:List (Pla×YC))(ws os:List V),v=.ref x/\ve FF p0 n/\zs.map (·.1)=ba FF p0 n/\cr cW H' x g dx lp dn lw lo zs ws os/\aO (vb H3 lp lw lo) H' ws (wled FF p0 n)/\aO j3 H' os (ovsF wi hi hs us ts es st p0 n)/\H3 lp=none/\H3 lw=none/\H3 lo=none/\ah H3 H') (λQ q=>?_) ?_
 .refine BE (aa (ev_v rfl) (aa (ev_v rfl) (aa aq av)) _ λx dx hx hdx ne=>?_);have hx':(L2.upd H3 dx (.own x)) x=none:=by rw[ak (Ne.symm ne)];exact hx
  refine⟨x,g,b,kq,d,dx,H3,wi,hi,hs,ks,us,ts,es,st,fs,m,rfl,((ah.refl H3).upd hdx).upd hx',hx,af,G3,ed,by lia,pf.same s3,Gf,k2,hb,λn lp dn lw lo zs ws os H' h1 h2 h3 h4 h5 h6 h7 h8 h9=>⟨rfl,q _ _ ⟨x,dx,lp,dn,lw,lo,n,zs,ws,os,rfl,?_,?_,h3,?_,?_,h6,h7,h8,h9⟩⟩⟩
  .rw[hP,hF];exact h1
  .rw[hP,hF];exact h2
  .rw[hP,hF];exact h4
  .rw[hP];exact h5
 rintro _ H4 ⟨x,dx,lp,dn,lw,lo,n,zs,ws,os,rfl,we,ez,W4,Rw4,Ro4,nlp,nlw,nlo,s4⟩;have ed4:=s4 _ _ ed;have esq4:=s4 _ _ (s3 _ _ esq);refine bz (aV (K2 (ev_v rfl) (ev_v rfl) (Cf (aN.of ed4) (aN.of esq4) (λv hv=>?_)))) (λh=>by cases h) (λ_=>?_)
 .obtain⟨z,_,rfl⟩:=U7.mp hv;rfl
 refine Jv (ev_v rfl) ed4 ?_;have nned:∀{c:YC},H3 c=none->c≠d:=λh e=>by rw[e,ed]at h;cases h
 have W5:=cr.clear (ys':=[]) W4 ed4 (nned nlp) (nned nlw) (nned nlo);have Rw5:aO vc (L2.upd H4 d (.lst [])) ws (wled FF p0 n):=Rw4.imp λv l h=>by obtain⟨c,e,h0,_,_,_,h1⟩:=h;exact⟨c,e,by rw[ak (nned h0)];exact h1⟩
 have Ro5:aO j3 (L2.upd H4 d (.lst [])) os (ovsF wi hi hs us ts es st p0 n):=Ro4.imp λv o h=>j3.clear h ed4;have s5:ah H2 (L2.upd H4 d (.lst [])):=(s3.trans s4).put nd;generalize L2.upd H4 d (.lst [])=H5 at W5 Rw5 Ro5 s5 ⊢;have G5:=G2.same s5;have hS5:=s5.seq hS2;have pf5:=pf.same s5;have few:(∀y∈ba FF p0 n,lM wi hi hs ks m y)/\n<=2000:=by
  have hg:∀y∈ba FF p0 n,lM wi hi hs ks m y:=mJ (λy hy=>by
   rw[hP]at hy;obtain⟨z,hz,rfl⟩:=U7.mp hy;exact Gf z hz) (λy hy=>by rw[hF];exact lD G.bd.w1 (by have:=G.bd.many;lia) G.ltr G.tg hy) we.2
  refine⟨hg,?_⟩;rw[<-we.1];exact qi k2 G.ltr (j5 _ _ _) hg hb
 refine bD (λσ' H'=>∃(lp2 lw2:YC)(zs2:List (Pla×YC))(ws2:List V),σ'=[oR a,oR g,oR sq,oR d,oR x,oR lp2,oR lw2,none,none,none,none,none,none,none]/\H' lp2=some (.lst (aM zs2))/\bE H' zs2/\zs2.map (·.1)=ba FF p0 n/\H' lw2=some (.lst ws2)/\aO vc H' ws2 (wled FF p0 n)/\ah H5 H') (λKK hK=>?_) ?_
 .refine Ln (aa (ev_v rfl) (aa (ev_v rfl) av)) ⟨g,b,kq,sq,wi,hi,hs,ks,us,ts,es,st,fs,m,rfl,G5,s5 _ _ esq,by lia,pf5,Gf,k2,hb,λn' t lp2 lw2 zs2 ws2 H' h1 h2 h3 h4 h5 h6 h7 h8 h9 h10 h11=>Ot h3 (hK _ _ ⟨lp2,lw2,zs2,ws2,rfl,h4,h5,?_,h7,?_,h11⟩)⟩
  .rw[<-hP,<-hF]at h1 h6;rw[h6,pe we h1]
  .rw[<-hP,<-hF]at h1 h8;rw[pe we h1];exact h8.imp λv l h=>h.nm
 rintro _ H6 ⟨lp2,lw2,zs2,ws2,rfl,ep2,pk2,ez2,ew2,Rw2,s6⟩;have zl2:zs2.length=n:=by rw[<-we.1,<-ez2,U6]
 have G6:=G5.same s6;refine bu (λv H'=>∃(wd:YC)(os2:List V),v=.ref wd/\H' wd=some (.lst os2)/\aO j3 H' os2 (ovsF wi hi hs us ts es st p0 n)/\ah H6 H') (λQ q=>?_) ?_
 .refine uG (d:=lp2) (xs:=aM zs2) (rest:=[oR g]) (ev_v rfl) ep2 (by rw[U6,Rf];have:=few.2;lia) rfl (λi H v=>j3 H v (tZ wi hi hs us es st ((ba FF p0 i).getD i ("",0)))) (λi H H' v h s=>h.same s) (λi y H' hy s Q q=>?_) (λd' H' ys s nd' ly hy=>q _ _ ⟨d',ys,rfl,af,⟨?_,λi v o hv ho=>?_⟩,s.upd nd'⟩)
  .rw[Va]at hy;obtain⟨z,hz,rfl⟩:=XW.mp hy;have hzm:=Vn hz;exact cR (aa (ev_v rfl) (aa (ev_v rfl) av)) ⟨g,b,kq,z.2,z.1,wi,hi,hs,ks,us,ts,es,st,m,rfl,G6.same s,s _ _ (pk2 z hzm),few.1 _ (by rw[<-ez2];exact U7.mpr ⟨z,hzm,rfl⟩),λv H2 ho s2=>q _ _ (by rw[J3 we ez2 hz];exact ho) s2⟩
  .rw[ly,U6,zl2];unfold ovsF;rw[U6,Vu]
  .have ho':o=tZ wi hi hs us es st ((ba FF p0 i).getD i ("",0)):=by unfold ovsF at ho;rw[Va]at ho;obtain⟨j,hj,rfl⟩:=XW.mp ho;have hj':=Vi.mp hj;obtain⟨_,e⟩:=hj';rw[Ws]at e;subst e;rw[hF]
   rw[ho'];exact(hy i v hv).same ((ah.refl H').upd nd')
 rintro _ H7 ⟨wd,os2,rfl,ewd,Ro2,s7⟩;have s57:=s6.trans s7;have L7:Pn K cB cG cW H7 g b kq wi hi hs ks us ts es st x dx lp dn lw lo lp2 lw2 wd zs zs2 ws ws2 os os2 (wled FF p0 n) (ovsF wi hi hs us ts es st p0 n):=
  ⟨G5.same s57,W5.same s57,Rw5.imp λ_ _ z=>z.same s57,Ro5.imp λ_ _ z=>z.same s57,s7 _ _ ep2,pk2.same s7,s7 _ _ ew2,Rw2.imp λ_ _ z=>z.same s7,ewd,Ro2⟩
 have hS7:=s57.seq hS5;have ez12:zs2.map (·.1)=zs.map (·.1):=by rw[ez2,ez]
 have nd2:(zs2.map (·.1)).Nodup:=by rw[ez2];exact j5 _ _ _
 have gz2:∀z∈zs2,lM wi hi hs ks m z.1:=λz hz=>few.1 _ (by rw[<-ez2];exact U7.mpr ⟨z,hz,rfl⟩);have ll:(wled FF p0 n).length<=2000:=by rw[mL];exact few.2
 have lb:∀l∈wled FF p0 n,l.length<=4096:=λl hl=>by unfold wled at hl;obtain⟨j,_,rfl⟩:=U7.mp hl;unfold wrow;rw[U6,hF];exact B3
 have lo2:(ovsF wi hi hs us ts es st p0 n).length<=2000:=by unfold ovsF;rw[U6,Vu];exact few.2
 have z0:∃z,zs2[0]? =some z:=by
  have:0<zs2.length:=by
   rw[zl2];have h0:=few.2
   by_cases e:n=0
   .exfalso;have hw:=we.1;rw[e]at hw;cases hf:fs with
    |nil=>rw[hf]at l1;simp at l1
    |cons y ys=>
     have hy:y.1∈ba FF p0 0:=(iz _ _).mpr (.inr (by rw[hP,hf];exact Vf));rw[List.eq_nil_of_length_eq_zero hw]at hy;cases hy
   .lia
  exact⟨_,U9 this⟩
 generalize wled FF p0 n=led at L7 ll lb;generalize ovsF wi hi hs us ts es st p0 n=ovs at L7 lo2;clear Rw4 Ro4 Rw5 Ro5 Rw2 Ro2;have nbd:∀(H':Hp)(Q:VK),ah H7 H'->(∀H'',ah H' H''->Q (.bl true) H'')->vq K cB cG cW [.ref x,.ref lp2] H' Q E0:=λH' Q s q=>by have L:=L7.same s;exact⟨x,g,dx,lp,dn,lw,lo,lp2,b,zs,zs2,ws,os,wi,hi,hs,ks,_,_,_,st,m,rfl,L.W,L.G.gm,L.G.bd,L.G.ltr,L.G.k6,L.ep,L.pk,ez12,gz2,nd2,by rw[zl2];exact few.2,q⟩
 refine cP (λc H'=>c=false/\ah H7 H') (λQ q=>?_) (λH' h=>by cases h.1) (λH8 h=>?_)
 .refine qm ?_;refine aV (dL (bh (aH (aa (ev_v rfl) (aa aq av)) (λQ q=>⟨a,ns,10,rfl,hS7,by decide,q⟩)) aq) aq) _ ?_;split
  .exact wV (aa (ev_v rfl) (aa (ev_v rfl) av)) (nbd H7 _ (ah.refl H7) λH'' s=>q _ _ ⟨rfl,s⟩)
  .exact q _ _ ⟨rfl,ah.refl H7⟩
 obtain⟨_,s8⟩:=h;have hS8:=s8.seq hS7;refine aZ (v:=.bl (decide (mixF ns 11 % 2=1))) (dL (bh (aH (aa (ev_v rfl) (aa aq av)) (λQ q=>⟨a,ns,11,rfl,hS8,by decide,q⟩)) aq) aq) ?_;generalize decide (mixF ns 11 % 2=1)=tu;have L8:=L7.same s8;refine bu (λv H'=>∃(f1:YC)(L:List V),v=.ref f1/\H' f1=some (.lst L)/\(tu=true->aO j3 H' L ovs)/\(tu=false->aO vc H' L led)/\ah H8 H') (λQ q=>?_) ?_
 .refine tf (b:=tu) (aV (ev_v rfl)) (λh=>?_) (λh=>?_)
  .exact gU (ev_v rfl) L8.W.no ⟨x,g,dx,lp,dn,lw,lo,zs,ws,os,rfl,L8.W,λkn hkn=>q _ _ ⟨kn,os,rfl,af,λ_=>L8.Ro.imp λv o z=>z.same ((ah.refl H8).upd hkn),(λe=>by rw[h]at e;cases e),(ah.refl H8).upd hkn⟩⟩
  .exact gU (ev_v rfl) L8.W.no ⟨x,g,dx,lp,dn,lw,lo,zs,ws,os,led,rfl,L8.W,L8.Rw,by lia,λnq ys H' nn en R s=>q _ _ ⟨nq,ys,rfl,en,(λe=>by rw[h]at e;cases e),λ_=>R.imp (λv l z=>(by obtain⟨a,e,_,z⟩:=z;exact⟨a,e,z⟩)),s⟩⟩
 rintro _ H9 ⟨f1,x1,rfl,ef1,o1,n1,s9⟩;have L9:=L8.same s9;refine bu (λv H'=>∃(f2:YC)(L:List V),v=.ref f2/\H' f2=some (.lst L)/\(tu=false->aO j3 H' L ovs)/\(tu=true->aO vc H' L led)/\ah H9 H') (λQ q=>?_) ?_
 .refine tf (b:=tu) (aV (ev_v rfl)) (λh=>?_) (λh=>?_)
  .exact gU (ev_v rfl) L9.W.no ⟨x,g,dx,lp,dn,lw,lo,zs,ws,os,led,rfl,L9.W,L9.Rw,by lia,λnq ys H' nn en R s=>q _ _ ⟨nq,ys,rfl,en,(λe=>by rw[h]at e;cases e),λ_=>R.imp (λv l z=>(by obtain⟨a,e,_,z⟩:=z;exact⟨a,e,z⟩)),s⟩⟩
  .exact gU (ev_v rfl) L9.W.no ⟨x,g,dx,lp,dn,lw,lo,zs,ws,os,rfl,L9.W,λkn hkn=>q _ _ ⟨kn,os,rfl,af,λ_=>L9.Ro.imp λv o z=>z.same ((ah.refl H9).upd hkn),(λe=>by rw[h]at e;cases e),(ah.refl H9).upd hkn⟩⟩
 rintro _ H10 ⟨f2,x2,rfl,ef2,o2,n2,s10⟩;have L10:=L9.same s10;have hS10:=(s9.trans s10).seq hS8;refine bD (λσ' H'=>∃y11:Option V,σ'=[oR a,oR g,oR sq,oR d,oR x,oR lp2,oR lw2,oR wd,some (.bl tu),oR f1,oR f2,y11,none,none]/\ah H10 H') (λKK hK=>?_) ?_
 .refine kM 2 (λQ q=>(aa aq av) _ q) (by decide) (by decide) (λi σ' H'=>∃y11:Option V,σ'=[oR a,oR g,oR sq,oR d,oR x,oR lp2,oR lw2,oR wd,some (.bl tu),oR f1,oR f2,y11,none,none]/\ah H10 H') ⟨_,rfl,ah.refl _⟩ ?_ (λσ' H' h=>hK _ _ h);rintro i _ H' hi1 ⟨y11,rfl,s'⟩;have L':=L10.same s';have hS':=s'.seq hS10;show l7 _ _ _ _ [oR a,oR g,oR sq,oR d,oR x,oR lp2,oR lw2,oR wd,some (.bl tu),oR f1,oR f2,oJ (0+(i:Int)),none,none] H';refine Di (λc H''=>c=false/\ah H' H'') (λQ q=>?_) (λH'' h=>by cases h.1) (λH'' h=>⟨_,rfl,s'.trans h.2⟩);exact wV (aa (ev_v rfl) (aa (ev_v rfl) (aa (ev_v rfl) (aa (ev_v rfl) (aa (bh (cU (aH (aa (ev_v rfl) (aa aq av)) (λQ q=>⟨a,ns,9,rfl,hS',by decide,q⟩)) (ev_v rfl)) aq) av))))) ⟨x,g,dx,lp,dn,lw,lo,lp2,lw2,wd,zs,zs2,ws,ws2,os,os2,led,ovs,(mixF ns 9+(0+(i:Int))) % 2,rfl,by lia,L'.W,L'.Rw,L'.ew,L'.Rw2,L'.Ro,L'.ed,L'.Ro2,L'.ep,L'.pk,ez12,ll,lb,lo2,λH'' s=>q _ _ ⟨rfl,s⟩⟩
 rintro _ H11 ⟨y11,rfl,s11⟩;have s7b:=((s8.trans s9).trans s10).trans s11;refine cP (λc H'=>c=false/\ah H11 H') (λQ q=>wV (aa (ev_v rfl) (aa (ev_v rfl) av)) (nbd H11 _ s7b λH'' s=>q _ _ ⟨rfl,s⟩)) (λH' h=>by cases h.1) (λH12 h=>?_);obtain⟨_,s12⟩:=h;have s1b:=s11.trans s12;have L12:=L10.same s1b;have hS12:=s1b.seq hS10;refine bu (λv H'=>∃(t:YC)(p:Pla),v=.ref t/\p.1.length<=1000/\H' t=some (.tup [.str p.1,.int p.2])/\ah H12 H') (λQ q=>cR (aa (ev_v rfl) (aa (bM (aH (aa (ev_v rfl) (aa aq av)) (λQ q=>⟨a,ns,3,rfl,hS12,by decide,q⟩)) aq) av)) ⟨g,b,kq,_,wi,hi,hs,ks,us,ts,es,st,rfl,L12.G,m6,λt p H' Gp _ et s=>q _ _ ⟨t,p,rfl,by have:=Gp.row.len;lia,et,s⟩⟩) ?_;rintro _ H13 ⟨t,p,rfl,lp1,et,s13⟩;have L13:=L12.same s13;refine cP (λc H'=>c=false/\ah H13 H') (λQ q=>?_) (λH' h=>by cases h.1) (λH14 h=>?_)
 .refine qm (qj (k:=p) (ev_v rfl) (ev_v rfl) L13.ep L13.pk et _ ?_)
  by_cases hp:p∈zs2.map (·.1)
  .rw[QT hp];exact gO (q _ _ ⟨rfl,ah.refl _⟩)
  .rw[QU hp];refine gN (IK (rX (rK (vs:=[.ref t]) (ev_v rfl) L13.W.no (aa (ev_v rfl) av) ⟨x,g,dx,lp,dn,lw,lo,t,b,zs,ws,os,p,wi,hi,hs,ks,_,_,_,st,rfl,L13.W,L13.G.gm,L13.G.bd,L13.G.ltr,L13.G.k6,et,lp1,λH' s=>?_⟩)));rw[JG (by rw[<-ez12];exact hp)];exact ow (v:=.non) aq (q _ _ ⟨rfl,s⟩)
 obtain⟨_,s14⟩:=h;have L14:=L13.same s14;refine bu (λv H'=>∃t:YC,v=.ref t/\H' t=some (.tup (if tu=true then [.ref wd,.ref lw2]else [.ref lw2,.ref wd]))/\ah H14 H') (λQ q=>tf (b:=tu) (aV (ev_v rfl)) (λh=>iX (ev_v rfl) (ev_v rfl) λt ht=>q _ _ ⟨t,rfl,by rw[af,QW h],(ah.refl H14).upd ht⟩) (λh=>iX (ev_v rfl) (ev_v rfl) λt ht=>q _ _ ⟨t,rfl,by rw[af,QV (by rw[h];decide)],(ah.refl H14).upd ht⟩)) ?_;rintro _ H15 ⟨t2,rfl,et2,s15⟩;have L15:=L14.same s15;obtain⟨z,hz⟩:=z0;have zm:=Vn hz;have lz:z.1.1.length<=1000:=by have:=(gz2 z zm).row.len;lia
 refine eJ (CI (rX (N4 (ev_v rfl) L15.W.no (cu (iX (aY (x:=.str z.1.1) (aY (x:=.ref z.2) (ev_v rfl) aq (.inl (aN.of L15.ep)) (bx (j:=0) (by rw[Va,hz];rfl))) aq (.inr (cY.of (L15.pk z zm))) rfl) aq λt3 ht3=>cN ?_)))));have s16:=(ah.refl H15).upd (o:=.tup [.str z.1.1,.int 2]) ht3;have et3:(L2.upd H15 t3 (.tup [.str z.1.1,.int 2])) t3=some (.tup [.str z.1.1,.int 2]):=af;generalize L2.upd H15 t3 (.tup [.str z.1.1,.int 2])=H16 at s16 et3 ⊢;have L16:=L15.same s16;refine⟨x,g,dx,lp,dn,lw,lo,t3,b,zs,ws,os,(z.1.1,2),wi,hi,hs,ks,_,_,_,st,rfl,L16.W,L16.G.gm,L16.G.bd,L16.G.ltr,L16.G.k6,et3,lz,λH17 s17=>?_⟩;have L17:=L16.same s17;rw[JF];refine ow (v:=.non) aq (Oh (CH (CI ?_)));obtain⟨dg,_,_,_,_,eg,_⟩:=L17.G.gm.ex;refine OB (aK (ev_v rfl) (L17.W.fgame D)) (ev_v rfl) eg GC.cl EC (CH (rX (iX (ev_v rfl) (ev_v rfl) λt4 ht4=>ow (v:=.ref t2) (ev_v rfl) ⟨true,?_,k _⟩)));have s18:=(ah.refl H17).upd (o:=.tup [.ref f1,.ref f2]) ht4;have et4:(L2.upd H17 t4 (.tup [.ref f1,.ref f2])) t4=some (.tup [.ref f1,.ref f2]):=af;generalize L2.upd H17 t4 (.tup [.ref f1,.ref f2])=H18 at s18 et4 ⊢;have L18:=L17.same s18;have sX:ah H10 H18:=((((s1b.trans s13).trans s14).trans s15).trans (s16.trans s17)).trans s18;have e1:=sX _ _ (s10 _ _ ef1);have e2:=sX _ _ ef2;have et2':=s18 _ _ (s17 _ _ (s16 _ _ et2));cases tu with
 |true=>
  exact yg et4 et2' (mG e1 L18.ed ((o1 rfl).imp λ_ _ y=>y.same (s10.trans sX)) L18.Ro2 λ_ _ _ h h'=>wF h h') (mG e2 L18.ew ((n2 rfl).imp λ_ _ y=>y.same sX) L18.Rw2 λ_ _ _ h h'=>wG h h')
 |false=>
  exact yg et4 et2' (mG e1 L18.ew ((n1 rfl).imp λ_ _ y=>y.same (s10.trans sX)) L18.Rw2 λ_ _ _ h h'=>wG h h') (mG e2 L18.ed ((o2 rfl).imp λ_ _ y=>y.same sX) L18.Ro2 λ_ _ _ h h'=>wF h h')
end
end K19
namespace L2
open PySem PySem.W PyProof.Rows
def Au{q:Rg}{loose:List Str}{XP:(Q3)->Rq->Prop}{YP:Rk->Rq->Prop}{α:Type}{Yf:Rb->α}{Ya:Rk->α}{r:RowW}{d:DefRec}{kwd:List (Str×RU)}{run:YB->List YB->Sem YB}(hY:∀(w:Rk)(s₀ s₁:Rb),Yf s₀=Ya w->(∀b o,s₀.heap.get? b=some o->s₁.heap.get? b=some o)->YP w s₁.heap)(h:WalkO q loose XP YP r d kwd run):PySem.W.WalkX q loose XP Yf Ya r d kwd run:=
 λw s₀ s₁ mg mb G y a o pm cd doc dV kV ho hd hcd hD hmg hg args vals as L hpre hlay hrd hwl hlo=>h w s₀ s₁ mg mb G (hY w s₀ s₁ y L.keeps) a o pm cd doc dV kV ho hd hcd hD hmg hg args vals as hpre hlay hrd hwl hlo
def ln1{P:List YB->Prop}(h:∀a0:YB,P [a0]):∀us:List YB,us.length=1->P us
 | [a0],_=>h a0
def LB{P:List YB->Prop}(h:∀a0 a1:YB,P [a0,a1]):∀us:List YB,us.length=2->P us
 | [a0,a1],_=>h a0 a1
def ln3{P:List YB->Prop}(h:∀a0 a1 a2:YB,P [a0,a1,a2]):∀us:List YB,us.length=3->P us
 | [a0,a1,a2],_=>h a0 a1 a2
def Pg{P:List YB->Prop}(h:∀a0 a1 a2 a3:YB,P [a0,a1,a2,a3]):∀us:List YB,us.length=4->P us
 | [a0,a1,a2,a3],_=>h a0 a1 a2 a3
def ln5{P:List YB->Prop}(h:∀a0 a1 a2 a3 a4:YB,P [a0,a1,a2,a3,a4]):∀us:List YB,us.length=5->P us
 | [a0,a1,a2,a3,a4],_=>h a0 a1 a2 a3 a4
def ln7{P:List YB->Prop}(h:∀a0 a1 a2 a3 a4 a5 a6:YB,P [a0,a1,a2,a3,a4,a5,a6]):∀us:List YB,us.length=7->P us
 | [a0,a1,a2,a3,a4,a5,a6],_=>h a0 a1 a2 a3 a4 a5 a6
noncomputable def vi:Nat->List Obj->Nat->Nat->PySem.W.BT
 |0,_,_,_=>.nil
 |f+1,l,a,b=>(l[b]?).elim .nil λo=>.node o (vi f l (2*a) (a+b)) (vi f l (2*a) (2*a+b))
noncomputable def toT(s:Rb):SharedT:=⟨vi 12 s.heap.objs.toList 1 0,s.heap.objs.size,s.heap.life,s.gens,s.drawn,s.toks,s.os⟩
noncomputable abbrev Ow(name qual:Str)(params:Arguments)(body:List Rt)(scope:Tn)(globals:YC)(closure:List (Str×YC))(dV kV doc pm:YB)(an:Option YC)(cdv ct:YB)(bl:YC):Rn:=
 {name,qualname:=qual,params,body:=.stmts body,scope,globals,closure,defaults:=dV,kwdefaults:=kV,doc,pyModule:=pm,annotations:=an,code:=cdv,closureTuple:=ct,builtins:=bl}
noncomputable def stT(t:PySem.W.BT)(n k:Nat)(P:TV)(os:SW):SharedT:=⟨t,n,(boot_heap P).life,Array.mk [],boot_drawn,k,os⟩
def zG{p q:Rg}{loose:List Str}{Xt:Rb->Bool}{α:Type}{Yf:Rb->α}{Ya:Rk->α}{N:Nat}{g0:Bool}{H₀:TV->Rq}{gs₀:Array T4}{d₀:Drawn}{k₀ m₀:Nat}{ann:Option YB}{n0 nb n:Nat}{b:List Rt}{env:U4}{qp p0 p1:Uk}{sa:Rk->SW->Rb}{sb:Rk->SW->SharedT}{sf:Rk->SW->Rb}(open_:∀w:Rk,(fencedOpening RB p w N).map (λs=>(s.heap,s.gens,s.drawn,s.toks))=some (H₀ w.params,gs₀,d₀,k₀))(size:∀w:Rk,((H₀ w.params).isNs Ri&&gs₀.size == 0,(H₀ w.params).objs.size,(H₀ w.params).nsMap Ri "__annotations__")=(true,m₀,ann))(pre:∀w os,topGo RB p w m₀ ann n0 ⟨H₀ w.params,gs₀,d₀,k₀,os⟩ (topStub p)=some (sa w os,⟨denote RB (.body b env),.body b env,p0,[topFrame qp]⟩))(block:∀w os,segRun RB p w m₀ ann 1 nb (sa w os) (blockOf b env (.body b env) p0 [topFrame qp])=some (.next,(sb w os).abs,.body b env,p1))(main:∀w os,topRun RB p w m₀ ann n (sb w os).abs (restOf b env (.body b env) p1 [topFrame qp])=some (sf w os))(le:Nat.ble (n0+(nb+n)) N=true)(looks:∀w os,((staticsOk (SU p.main.body) (H₀ w.params) (sf w os).heap&&namesBound p (sf w os).heap&&gensDone (sf w os)&&laidKept (H₀ w.params) (sf w os).heap),
    openSeen q loose (SU p.main.body) Xt g0 (sf w os),Yf (sf w os))=(true,openGood q loose,Ya w)):LeftO p q loose Xt Yf Ya N g0:=λw=>by
 obtain⟨⟨h,gs,d,k,os⟩,e,e'⟩:=XW.mp (open_ w);obtain⟨rfl,rfl,rfl,rfl⟩:h=H₀ w.params/\gs=gs₀/\d=d₀/\k=k₀:=by simpa using e'
 obtain⟨z1,z2,z3⟩:_/\_/\_:=by simpa only[Prod.mk.injEq]using size w
 obtain⟨l1,l2,l3⟩:_/\_/\_:=by simpa only[Prod.mk.injEq]using looks w os
 have r3:=go_top (pre w os) (piece_block (block w os) (main w os));have r:=topRun_mono (N - (n0+(nb+n))) _ _ _ _ r3;rw[show n0+(nb+n)+(N - (n0+(nb+n)))=N by have:=Nat.le_of_ble_eq_true le;lia]at r;have t:topFrom RB p w N ⟨H₀ w.params,gs,d,k,os⟩=some (sf w os):=by
  unfold topFrom;dsimp only;rw[z1,z2,z3,r];show(match staticsOk (SU p.main.body) (H₀ w.params) (sf w os).heap&&namesBound p (sf w os).heap&&gensDone (sf w os)&&laidKept (H₀ w.params) (sf w os).heap with|true=>_|false=>_)=_
  rw[l1]
 unfold openEnds;rw[e];show(topFrom RB p w N _).map _=_;rw[t];exact Q2 some (Prod.ext l2 l3)
noncomputable def xZ(as:List YC)(s:Rb):List (Option Obj):=as.map s.heap.get?
noncomputable def xY(K:TV->Frag)(w:Rk):List (Option Obj):=(K w.params).map λp=>some p.2
def Oo{K:TV->Frag}{as:List YC}(e:∀P,as=(K P).map (·.1))(w:Rk)(s₀ s₁:Rb)(y:xZ as s₀=xY K w)(k:∀b o,s₀.heap.get? b=some o->s₁.heap.get? b=some o):(K w.params).In s₁.heap:=
 InK.keeps w s₀.heap s₁.heap (InK.of e w s₀ y) k
end L2
namespace K19
open PySem L2
noncomputable def ζw:List Str->Nat->List YB
 | [],_=>[]
 |x::r,n=>.str x n::ζw r (n+1)
noncomputable abbrev fW(l:List Str)(n:Nat):Array YB:=⟨ζw l n⟩
noncomputable abbrev dN(x:Array YB)(n:Nat):Obj:=⟨.type "tuple",none,.seq x n,#[]⟩
noncomputable abbrev de(a b:Str)(s:Rt):Obj:=⟨.none,none,.func (L2.Ow a b (gq s) (eU s) (am s) 0 [] .none .none .none .none none .none .none 0),#[]⟩
noncomputable abbrev gc(a b:Str)(n m l:Nat)(i j k o:Int)(r:Nat)(f:Bool)(p:Int)(q x y z:Nat)(u v:Int)(e:Nat):Obj:=⟨.type "code",none,.fields #[.str a n,.str b m,.str "/claim/cut.py" l,.int i 0,.int j 0,.int 0 0,.int k 0,.int o 0,.ref r,.bool f,.int p 0,.ref q,.none,.ref x,.ref y,.ref z,.int u 0,.int v 0,.str "/claim/cut.py" e],#[]⟩
noncomputable abbrev CY(a b:Str)(n m l:Nat)(i j k o:Int)(r:Nat)(f:Bool)(p:Int)(q:Nat)(u v:Int)(e:Nat):Obj:=⟨.type "code",none,.fields #[.str a n,.str b m,.str "/claim/cut.py" l,.int i 0,.int j 0,.int 0 0,.int k 0,.int o 0,.ref r,.bool f,.int p 0,.ref q,.none,.none,.none,.none,.int u 0,.int v 0,.str "/claim/cut.py" e],#[]⟩
noncomputable abbrev df(a b:Str)(s:Rt)(m:Str)(n c:Nat):Obj:=⟨.type "function",none,.func (X7 a b (gq s) (eU s) (am s) .none .none .none (.str m n) none (.ref c) .none),#[]⟩
noncomputable abbrev LI(x:Array YB):Obj:=⟨.none,none,.fields x,#[]⟩
noncomputable abbrev sR(x:Array YB):Obj:=⟨.type "code",none,.fields x,#[]⟩
noncomputable abbrev aQ(P:TV)(x:Str)(n:Nat)(v:YB):DictEntry:=⟨PyData.keyHash P x,.str x n,v⟩
noncomputable abbrev aI(x:Obj):PySem.W.BT:=.node x .nil .nil
noncomputable abbrev aD(x:Obj)(a b:PySem.W.BT):PySem.W.BT:=.node x a b
noncomputable abbrev bW:YB:=.int 0 0
noncomputable abbrev iU(n:Nat):YB:=.str "/claim/cut.py" n
noncomputable abbrev aP(n:Int):YB:=.int n 0
noncomputable abbrev hP:Rg:=PySem.Challenge.pw_playboard_k19_whole_webs
noncomputable def hQ:Rg:={hP with main:={hP.main with body:=bn 1::bn 2::bn 3::bn 4::bn 5::bn 7::bn 8::bn 9::bn 11::bn 12::bn 13::bn 14::bn 15::bn 16::bn 17::bn 18::bn 19::bn 20::bn 21::bn 22::bn 23::bn 24::bn 25::bn 26::bn 27::bn 28::bn 30::bn 31::bn 32::bn 33::bn 34::bn 35::bn 36::bn 37::bn 38::bn 39::bn 41::bn 43::bn 44::bn 45::bn 46::bn 47::bn 49::bn 50::bn 51::bn 53::bn 54::bn 55::bn 57::bn 58::bn 59::bn 60::bn 61::bn 62::bn 64::bn 66::bn 67::bn 68::bn 70::bn 72::bn 73::bn 74::bn 75::bn 76::bn 77::bn 78::bn 79::bn 80::bn 81::bn 82::bn 83::bn 84::bn 85::[]}}
noncomputable section
variable(P:TV)
def zo3:Obj:=⟨(.type "dict"),none,(.dict #[aQ P "__name__" 165 (.str "law_playboard_k19_whole_webs" 847),aQ P "__doc__" 166 .none,aQ P "__package__" 167 .none,aQ P "__loader__" 168 (.builtin "__main__.__loader__#opaque"),aQ P "__spec__" 169 .none,aQ P "__annotations__" 170 (.ref 6),aQ P "__builtins__" 171 (.ref 4),aQ P "__file__" 173 (iU 172),aQ P "__cached__" 174 .none,aQ P "PlayError" 206 (.ref 24),aQ P "BadBoard" 222 (.ref 37),aQ P "BadGame" 238 (.ref 49),aQ P "BadPlace" 254 (.ref 61),aQ P "TooWide" 270 (.ref 73),aQ P "is_whole" 279 (.ref 82),aQ P "is_letter" 286 (.ref 89),aQ P "is_among" 295 (.ref 96),aQ P "SORTS" 301 (.ref 97),aQ P "AIMS" 305 (.ref 98),aQ P "END_WORDS" 308 (.ref 99),aQ P "STUCK_WORDS" 312 (.ref 100),aQ P "MOST_KINDS" 314 (.int 6 313),aQ P "MOST_RULES" 316 (.int 24 315),aQ P "MOST_PAIRS" 318 (.int 6 317),aQ P "is_word" 326 (.ref 107),aQ P "is_tuple_of" 334 (.ref 114),aQ P "is_list_of" 343 (.ref 121),aQ P "is_step" 353 (.ref 128),aQ P "is_rule" 363 (.ref 135),aQ P "is_pair" 372 (.ref 142),aQ P "are_pairs" 378 (.ref 147),aQ P "is_turns" 384 (.ref 152),aQ P "is_ends" 392 (.ref 159),aQ P "are_kinds" 398 (.ref 164),aQ P "are_rules" 404 (.ref 169),aQ P "EMPTY" 408 (.str "." 407),aQ P "HOLE" 410 (.str "#" 409),aQ P "sign_of" 418 (.ref 176),aQ P "kind_of" 425 (.ref 183),aQ P "side_of" 432 (.ref 190),aQ P "empty_row" 438 (.ref 195),aQ P "put" 447 (.ref 202),aQ P "squares_of" 453 (.ref 207),aQ P "is_row" 459 (.ref 212),aQ P "is_place" 467 (.ref 219),aQ P "ray" 481 (.ref 226),aQ P "NOTHING" 486 (.int (-1) 485),aQ P "slid" 499 (.ref 233),aQ P "jumped" 508 (.ref 240),aQ P "by_rule" 520 (.ref 247),aQ P "goals" 531 (.ref 254),aQ P "column_of" 541 (.ref 261),aQ P "row_of" 549 (.ref 268),aQ P "square_at" 558 (.ref 275),aQ P "moves" 566 (.ref 280),aQ P "arrived" 576 (.ref 287),aQ P "behind" 591 (.ref 294),aQ P "has_kind" 602 (.ref 301),aQ P "is_home" 613 (.ref 308),aQ P "by_end" 627 (.ref 315),aQ P "by_ends" 637 (.ref 322),aQ P "ending" 646 (.ref 329),aQ P "followers" 652 (.ref 334),aQ P "Web" 716 (.ref 375),aQ P "LONGEST" 720 (.int 8 719),aQ P "are_holes" 726 (.ref 384),aQ P "Board" 791 (.ref 425),aQ P "Game" 846 (.ref 458),aQ P "_law_cell_at" 856 (.ref 469),aQ P "_law_mixed" 864 (.ref 476),aQ P "_law_kinds" 874 (.ref 483),aQ P "_law_rule" 887 (.ref 490),aQ P "_law_board" 897 (.ref 497),aQ P "_law_game" 915 (.ref 504),aQ P "_law_place" 931 (.ref 511),aQ P "_law_starts" 941 (.ref 518),aQ P "_law_going" 953 (.ref 525),aQ P "_law_word" 962 (.ref 532),aQ P "_law_same" 970 (.ref 539),aQ P "_law_told" 976 (.ref 544),aQ P "_law_numbered" 986 (.ref 551),aQ P "law" 992 (.ref 556)] 82),#[]⟩
def ar:Obj:=dN #[] 0
def P9:Obj:=LI #[(aP 2),bW,(.ref 20),(aP 4),bW,(.ref 33),(aP 6),bW,(.ref 45),(aP 8),bW,(.ref 57),(aP 10),bW,(.ref 69),(aP 13),bW,(.ref 81),(aP 15),bW,(.ref 88),(aP 17),bW,(.ref 95),(aP 27),bW,(.ref 106),(aP 29),bW,(.ref 113),(aP 31),bW,(.ref 120),(aP 33),bW,(.ref 127),(aP 38),bW,(.ref 134),(aP 48),bW,(.ref 141),(aP 50),bW,(.ref 146),(aP 52),bW,(.ref 151),(aP 59),bW,(.ref 158),(aP 61),bW,(.ref 163),(aP 65),bW,(.ref 168),(aP 70),bW,(.ref 175),(aP 72),bW,(.ref 182),(aP 74),bW,(.ref 189),(aP 78),bW,(.ref 194),(aP 80),bW,(.ref 201),(aP 82),bW,(.ref 206),(aP 84),bW,(.ref 211),(aP 90),bW,(.ref 218),(aP 93),bW,(.ref 225),(aP 104),bW,(.ref 232),(aP 115),bW,(.ref 239),(aP 119),bW,(.ref 246),(aP 125),bW,(.ref 253),(aP 131),bW,(.ref 260),(aP 133),bW,(.ref 267),(aP 135),bW,(.ref 274),(aP 138),bW,(.ref 279),(aP 144),bW,(.ref 286),(aP 148),bW,(.ref 293),(aP 159),bW,(.ref 300),(aP 161),bW,(.ref 307),(aP 164),bW,(.ref 314),(aP 177),bW,(.ref 321),(aP 183),bW,(.ref 328),(aP 188),bW,(.ref 333),(aP 193),bW,(.ref 340),(aP 229),bW,(.ref 383),(aP 235),bW,(.ref 390),(aP 264),bW,(.ref 435),(aP 290),bW,(.ref 468),(aP 294),bW,(.ref 475),(aP 296),bW,(.ref 482),(aP 301),bW,(.ref 489),(aP 315),bW,(.ref 496),(aP 327),bW,(.ref 503),(aP 345),bW,(.ref 510),(aP 360),bW,(.ref 517),(aP 366),bW,(.ref 524),(aP 380),bW,(.ref 531),(aP 385),bW,(.ref 538),(aP 387),bW,(.ref 543),(aP 403),bW,(.ref 550),(aP 409),bW,(.ref 555)]
def P8:Obj:=CY "<module>" "<module>" 182 183 184 1 0 0 0 11 false 181 12 185 1 186
noncomputable def P7:Obj:=⟨(.type "frame"),none,.plain,#[(some (.ref 13)),(some (.ref 3)),(some (.ref 3)),none,(some (.str "__main__" 164)),none,(some (.ref 0))]⟩
def Nv:Obj:=dN #[(.type "ValueError")] 0
noncomputable def sT:Obj:=⟨(.type "builtin_function_or_method"),none,(.fields #[(.builtin "type.__prepare__"),(.type "type")]),#[]⟩
def P6:Obj:=⟨(.type "dict"),none,(.dict #[aQ P "__module__" 196 (.str "playboard.errors" 187),aQ P "__qualname__" 198 (.str "PlayError" 197),aQ P "__firstlineno__" 200 (.int 2 199),aQ P "__static_attributes__" 201 (.ref 22)] 4),#[]⟩
def bi:Obj:=LI #[]
def P5:Obj:=CY "PlayError" "PlayError" 191 192 193 2 0 0 0 18 false 181 19 194 2 195
noncomputable def P4:Obj:=⟨(.type "frame"),none,.plain,#[(some (.ref 20)),(some (.ref 3)),(some (.ref 17)),none,(some (.str "playboard.errors" 187)),none,(some (.ref 0))]⟩
def Ng:Obj:=⟨(.type "dict"),none,(.dict #[aQ P "__module__" 196 (.str "playboard.errors" 187),aQ P "__firstlineno__" 200 (.int 2 199),aQ P "__static_attributes__" 201 (.ref 22),aQ P "__weakref__" 203 (.ref 25),aQ P "__doc__" 204 .none] 3),#[]⟩
noncomputable def Nc:Obj:=⟨(.type "type"),none,(.cls ⟨"PlayError",[(.type "ValueError")],[(.ref 24),(.type "ValueError"),(.type "Exception"),(.type "BaseException"),(.type "object")],23,"PlayError",true,[],[(.ref 37),(.ref 49),(.ref 61),(.ref 73)],false,none,false⟩),#[(some (.ref 15)),none,(some (.str "PlayError" 189)),(some (.str "PlayError" 197)),(some (.builtin "ValueError.__new__")),(some (.bool true))]⟩
noncomputable def Na:Obj:=⟨(.type "getset_descriptor"),none,(.fields #[(.str "__weakref__" 202),(.ref 24),(.builtin "ExceptionGroup.__weakref__"),.none]),#[]⟩
noncomputable def P3:Obj:=⟨(.type "super"),none,(.fields #[(.ref 24),(.ref 24),(.ref 24)]),#[]⟩
noncomputable def P0:Obj:=⟨(.type "builtin_function_or_method"),none,(.fields #[(.builtin "object.__init_subclass__"),(.ref 24)]),#[]⟩
def sS:Obj:=dN #[(.ref 24)] 0
def PZ:Obj:=⟨(.type "dict"),none,(.dict #[aQ P "__module__" 214 (.str "playboard.errors" 187),aQ P "__qualname__" 216 (.str "BadBoard" 215),aQ P "__firstlineno__" 218 (.int 4 217),aQ P "__static_attributes__" 219 (.ref 35)] 4),#[]⟩
def PY:Obj:=CY "BadBoard" "BadBoard" 209 210 211 4 0 0 0 31 false 181 32 212 4 213
noncomputable def PX:Obj:=⟨(.type "frame"),none,.plain,#[(some (.ref 33)),(some (.ref 3)),(some (.ref 30)),none,(some (.str "playboard.errors" 187)),none,(some (.ref 0))]⟩
def MO:Obj:=⟨(.type "dict"),none,(.dict #[aQ P "__module__" 214 (.str "playboard.errors" 187),aQ P "__firstlineno__" 218 (.int 4 217),aQ P "__static_attributes__" 219 (.ref 35),aQ P "__doc__" 220 .none] 2),#[]⟩
noncomputable def MM:Obj:=⟨(.type "type"),none,(.cls ⟨"BadBoard",[(.ref 24)],[(.ref 37),(.ref 24),(.type "ValueError"),(.type "Exception"),(.type "BaseException"),(.type "object")],36,"BadBoard",true,[],[],false,none,false⟩),#[(some (.ref 28)),none,(some (.str "BadBoard" 207)),(some (.str "BadBoard" 215)),(some (.builtin "ValueError.__new__")),(some (.bool true))]⟩
noncomputable def PV:Obj:=⟨(.type "super"),none,(.fields #[(.ref 37),(.ref 37),(.ref 37)]),#[]⟩
noncomputable def PU:Obj:=⟨(.type "builtin_function_or_method"),none,(.fields #[(.builtin "object.__init_subclass__"),(.ref 37)]),#[]⟩
def PQ:Obj:=⟨(.type "dict"),none,(.dict #[aQ P "__module__" 230 (.str "playboard.errors" 187),aQ P "__qualname__" 232 (.str "BadGame" 231),aQ P "__firstlineno__" 234 (.int 6 233),aQ P "__static_attributes__" 235 (.ref 47)] 4),#[]⟩
def PP:Obj:=CY "BadGame" "BadGame" 225 226 227 6 0 0 0 43 false 181 44 228 6 229
noncomputable def PN:Obj:=⟨(.type "frame"),none,.plain,#[(some (.ref 45)),(some (.ref 3)),(some (.ref 42)),none,(some (.str "playboard.errors" 187)),none,(some (.ref 0))]⟩
def Mj:Obj:=⟨(.type "dict"),none,(.dict #[aQ P "__module__" 230 (.str "playboard.errors" 187),aQ P "__firstlineno__" 234 (.int 6 233),aQ P "__static_attributes__" 235 (.ref 47),aQ P "__doc__" 236 .none] 2),#[]⟩
noncomputable def Mg:Obj:=⟨(.type "type"),none,(.cls ⟨"BadGame",[(.ref 24)],[(.ref 49),(.ref 24),(.type "ValueError"),(.type "Exception"),(.type "BaseException"),(.type "object")],48,"BadGame",true,[],[],false,none,false⟩),#[(some (.ref 40)),none,(some (.str "BadGame" 223)),(some (.str "BadGame" 231)),(some (.builtin "ValueError.__new__")),(some (.bool true))]⟩
noncomputable def PM:Obj:=⟨(.type "super"),none,(.fields #[(.ref 49),(.ref 49),(.ref 49)]),#[]⟩
noncomputable def PL:Obj:=⟨(.type "builtin_function_or_method"),none,(.fields #[(.builtin "object.__init_subclass__"),(.ref 49)]),#[]⟩
def PK:Obj:=⟨(.type "dict"),none,(.dict #[aQ P "__module__" 246 (.str "playboard.errors" 187),aQ P "__qualname__" 248 (.str "BadPlace" 247),aQ P "__firstlineno__" 250 (.int 8 249),aQ P "__static_attributes__" 251 (.ref 59)] 4),#[]⟩
def PJ:Obj:=CY "BadPlace" "BadPlace" 241 242 243 8 0 0 0 55 false 181 56 244 8 245
noncomputable def PH:Obj:=⟨(.type "frame"),none,.plain,#[(some (.ref 57)),(some (.ref 3)),(some (.ref 54)),none,(some (.str "playboard.errors" 187)),none,(some (.ref 0))]⟩
def LZ:Obj:=⟨(.type "dict"),none,(.dict #[aQ P "__module__" 246 (.str "playboard.errors" 187),aQ P "__firstlineno__" 250 (.int 8 249),aQ P "__static_attributes__" 251 (.ref 59),aQ P "__doc__" 252 .none] 2),#[]⟩
noncomputable def LY:Obj:=⟨(.type "type"),none,(.cls ⟨"BadPlace",[(.ref 24)],[(.ref 61),(.ref 24),(.type "ValueError"),(.type "Exception"),(.type "BaseException"),(.type "object")],60,"BadPlace",true,[],[],false,none,false⟩),#[(some (.ref 52)),none,(some (.str "BadPlace" 239)),(some (.str "BadPlace" 247)),(some (.builtin "ValueError.__new__")),(some (.bool true))]⟩
noncomputable def PF:Obj:=⟨(.type "super"),none,(.fields #[(.ref 61),(.ref 61),(.ref 61)]),#[]⟩
noncomputable def PD:Obj:=⟨(.type "builtin_function_or_method"),none,(.fields #[(.builtin "object.__init_subclass__"),(.ref 61)]),#[]⟩
def PB:Obj:=⟨(.type "dict"),none,(.dict #[aQ P "__module__" 262 (.str "playboard.errors" 187),aQ P "__qualname__" 264 (.str "TooWide" 263),aQ P "__firstlineno__" 266 (.int 10 265),aQ P "__static_attributes__" 267 (.ref 71)] 4),#[]⟩
def Py:Obj:=CY "TooWide" "TooWide" 257 258 259 10 0 0 0 67 false 181 68 260 10 261
noncomputable def Px:Obj:=⟨(.type "frame"),none,.plain,#[(some (.ref 69)),(some (.ref 3)),(some (.ref 66)),none,(some (.str "playboard.errors" 187)),none,(some (.ref 0))]⟩
def LX:Obj:=⟨(.type "dict"),none,(.dict #[aQ P "__module__" 262 (.str "playboard.errors" 187),aQ P "__firstlineno__" 266 (.int 10 265),aQ P "__static_attributes__" 267 (.ref 71),aQ P "__doc__" 268 .none] 2),#[]⟩
noncomputable def LW:Obj:=⟨(.type "type"),none,(.cls ⟨"TooWide",[(.ref 24)],[(.ref 73),(.ref 24),(.type "ValueError"),(.type "Exception"),(.type "BaseException"),(.type "object")],72,"TooWide",true,[],[],false,none,false⟩),#[(some (.ref 64)),none,(some (.str "TooWide" 255)),(some (.str "TooWide" 263)),(some (.builtin "ValueError.__new__")),(some (.bool true))]⟩
noncomputable def Pw:Obj:=⟨(.type "super"),none,(.fields #[(.ref 73),(.ref 73),(.ref 73)]),#[]⟩
noncomputable def Pu:Obj:=⟨(.type "builtin_function_or_method"),none,(.fields #[(.builtin "object.__init_subclass__"),(.ref 73)]),#[]⟩
def LV:Obj:=dN #[(.str "thing" 276)] 0
def Ps:Obj:=de "is_whole" "is_whole" gB
def LU:Obj:=gc "is_whole" "is_whole" 273 274 275 13 1 0 3 76 true 181 77 78 79 80 277 13 278
def LS:Obj:=df "is_whole" "is_whole" gB "playboard.words" 271 81
def LR:Obj:=dN #[(.str "thing" 283)] 0
def Pr:Obj:=de "is_letter" "is_letter" fI
def LQ:Obj:=gc "is_letter" "is_letter" 280 281 282 15 1 0 3 83 true 181 84 85 86 87 284 15 285
def LP:Obj:=df "is_letter" "is_letter" fI "playboard.words" 271 88
def LO:Obj:=dN (fW ["thing","least","most"] 290) 0
def Pq:Obj:=de "is_among" "is_among" gE
def LN:Obj:=gc "is_among" "is_among" 287 288 289 17 3 0 3 90 true 181 91 92 93 94 293 17 294
def LM:Obj:=df "is_among" "is_among" gE "playboard.words" 271 95
def LL:Obj:=dN (fW ["leap","slide","jump"] 298) 0
def LK:Obj:=dN (fW ["go","hit","any"] 302) 0
def LJ:Obj:=dN (fW ["without","home"] 306) 0
def IH:Obj:=dN (fW ["lost","even","won"] 309) 0
def IG:Obj:=dN (fW ["thing","words"] 322) 0
def NC:Obj:=de "is_word" "is_word" ig
def IF:Obj:=gc "is_word" "is_word" 319 320 321 27 2 0 3 101 true 181 102 103 104 105 324 27 325
def IE:Obj:=df "is_word" "is_word" ig "playboard.rules" 296 106
def ID:Obj:=dN (fW ["thing","many"] 330) 0
def NB:Obj:=de "is_tuple_of" "is_tuple_of" dj
def IC:Obj:=gc "is_tuple_of" "is_tuple_of" 327 328 329 29 2 0 3 108 true 181 109 110 111 112 332 29 333
def IB:Obj:=df "is_tuple_of" "is_tuple_of" dj "playboard.rules" 296 113
def IA:Obj:=dN (fW ["thing","least","most"] 338) 0
def NA:Obj:=de "is_list_of" "is_list_of" dR
def Iz:Obj:=gc "is_list_of" "is_list_of" 335 336 337 31 3 0 3 115 true 181 116 117 118 119 341 31 342
def Iy:Obj:=df "is_list_of" "is_list_of" dR "playboard.rules" 296 120
def Ix:Obj:=dN (fW ["sort","across","up","longest"] 347) 0
def Nz:Obj:=de "is_step" "is_step" ii
def Iw:Obj:=gc "is_step" "is_step" 344 345 346 33 3 0 3 122 true 181 123 124 125 126 351 33 352
def Iv:Obj:=df "is_step" "is_step" ii "playboard.rules" 296 127
def Iu:Obj:=dN (fW ["thing","kinds","sort","aim"] 357) 0
def Ny:Obj:=de "is_rule" "is_rule" ij
def Ir:Obj:=gc "is_rule" "is_rule" 354 355 356 38 2 0 3 129 true 181 130 131 132 133 361 38 362
def Iq:Obj:=df "is_rule" "is_rule" ij "playboard.rules" 296 134
def Ip:Obj:=dN (fW ["thing","firsts","seconds"] 367) 0
def Nx:Obj:=de "is_pair" "is_pair" ik
def Io:Obj:=gc "is_pair" "is_pair" 364 365 366 48 3 0 3 136 true 181 137 138 139 140 370 48 371
def Im:Obj:=df "is_pair" "is_pair" ik "playboard.rules" 296 141
def Nw:Obj:=de "are_pairs" "are_pairs" dE
def Il:Obj:=sR #[(.str "are_pairs" 373),(.str "are_pairs" 374),(iU 375),(aP 50),(aP 3),bW,bW,(aP 3),(.ref 143),(.bool true),(aP 181),(.ref 144),.none,.none,.none,(.ref 145),(aP 376),(aP 50),(iU 377)]
def Ik:Obj:=df "are_pairs" "are_pairs" dE "playboard.rules" 296 146
def Nu:Obj:=de "is_turns" "is_turns" dv
def Ij:Obj:=sR #[(.str "is_turns" 379),(.str "is_turns" 380),(iU 381),(aP 52),(aP 2),bW,bW,(aP 3),(.ref 148),(.bool true),(aP 181),(.ref 149),.none,.none,.none,(.ref 150),(aP 382),(aP 52),(iU 383)]
def Ii:Obj:=df "is_turns" "is_turns" dv "playboard.rules" 296 151
def Ih:Obj:=dN (fW ["thing","kinds"] 388) 0
def Nt:Obj:=de "is_ends" "is_ends" im
def Ig:Obj:=gc "is_ends" "is_ends" 385 386 387 59 2 0 3 153 true 181 154 155 156 157 390 59 391
def Ie:Obj:=df "is_ends" "is_ends" im "playboard.rules" 296 158
def Nr:Obj:=de "are_kinds" "are_kinds" dF
def Ic:Obj:=sR #[(.str "are_kinds" 393),(.str "are_kinds" 394),(iU 395),(aP 61),(aP 1),bW,bW,(aP 3),(.ref 160),(.bool true),(aP 181),(.ref 161),.none,.none,.none,(.ref 162),(aP 396),(aP 61),(iU 397)]
def Ib:Obj:=df "are_kinds" "are_kinds" dF "playboard.rules" 296 163
def Nq:Obj:=de "are_rules" "are_rules" dD
def Ia:Obj:=sR #[(.str "are_rules" 399),(.str "are_rules" 400),(iU 401),(aP 65),(aP 2),bW,bW,(aP 3),(.ref 165),(.bool true),(aP 181),(.ref 166),.none,.none,.none,(.ref 167),(aP 402),(aP 65),(iU 403)]
def HZ:Obj:=df "are_rules" "are_rules" dD "playboard.rules" 296 168
def HY:Obj:=dN (fW ["kind","side"] 414) 0
def Np:Obj:=de "sign_of" "sign_of" ib
def HX:Obj:=gc "sign_of" "sign_of" 411 412 413 70 2 0 3 170 true 181 171 172 173 174 416 70 417
def HW:Obj:=df "sign_of" "sign_of" ib "playboard.places" 405 175
def HV:Obj:=dN #[(.str "sign" 422)] 0
def No:Obj:=de "kind_of" "kind_of" ie
def HU:Obj:=gc "kind_of" "kind_of" 419 420 421 72 1 0 3 177 true 181 178 179 180 181 423 72 424
def HS:Obj:=df "kind_of" "kind_of" ie "playboard.places" 405 182
def HR:Obj:=dN #[(.str "sign" 429)] 0
def Nn:Obj:=de "side_of" "side_of" ic
def HQ:Obj:=gc "side_of" "side_of" 426 427 428 74 1 0 3 184 true 181 185 186 187 188 430 74 431
def HP:Obj:=df "side_of" "side_of" ic "playboard.places" 405 189
def Nm:Obj:=de "empty_row" "empty_row" dC
def HN:Obj:=sR #[(.str "empty_row" 433),(.str "empty_row" 434),(iU 435),(aP 78),(aP 1),bW,bW,(aP 3),(.ref 191),(.bool true),(aP 181),(.ref 192),.none,.none,.none,(.ref 193),(aP 436),(aP 78),(iU 437)]
def HM:Obj:=df "empty_row" "empty_row" dC "playboard.places" 405 194
def HL:Obj:=dN (fW ["row","square","sign"] 442) 0
def Nl:Obj:=de "put" "put" tT
def HK:Obj:=gc "put" "put" 439 440 441 80 3 0 3 196 true 181 197 198 199 200 445 80 446
def HJ:Obj:=df "put" "put" tT "playboard.places" 405 201
def Nk:Obj:=de "squares_of" "squares_of" c7
def HI:Obj:=sR #[(.str "squares_of" 448),(.str "squares_of" 449),(iU 450),(aP 82),(aP 2),bW,bW,(aP 3),(.ref 203),(.bool true),(aP 181),(.ref 204),.none,.none,.none,(.ref 205),(aP 451),(aP 82),(iU 452)]
def HH:Obj:=df "squares_of" "squares_of" c7 "playboard.places" 405 206
def Nj:Obj:=de "is_row" "is_row" gC
def Hz:Obj:=sR #[(.str "is_row" 454),(.str "is_row" 455),(iU 456),(aP 84),(aP 2),bW,bW,(aP 3),(.ref 208),(.bool true),(aP 181),(.ref 209),.none,.none,.none,(.ref 210),(aP 457),(aP 84),(iU 458)]
def Hy:Obj:=df "is_row" "is_row" gC "playboard.places" 405 211
def Hx:Obj:=dN (fW ["game","thing"] 463) 0
def Ni:Obj:=de "is_place" "is_place" gD
def Hw:Obj:=gc "is_place" "is_place" 460 461 462 90 2 0 3 213 true 181 214 215 216 217 465 90 466
def Hv:Obj:=df "is_place" "is_place" gD "playboard.places" 405 218
def Hu:Obj:=dN (fW ["board","square","across","up","come_to","here"] 473) 0
def Nh:Obj:=de "ray" "ray" tS
def Ht:Obj:=gc "ray" "ray" 470 471 472 93 4 0 3 220 true 181 221 222 223 224 479 93 480
def Hs:Obj:=df "ray" "ray" tS "playboard.rays" 468 225
def Hr:Obj:=dN (fW ["row","side","aim","path","found","goal","owner"] 490) 0
def Nf:Obj:=de "slid" "slid" nc
def Hq:Obj:=gc "slid" "slid" 487 488 489 104 4 0 3 227 true 181 228 229 230 231 497 104 498
def Ho:Obj:=df "slid" "slid" nc "playboard.reach" 482 232
def Hn:Obj:=dN (fW ["row","side","path"] 503) 0
def Nd:Obj:=de "jumped" "jumped" jb
def Hm:Obj:=gc "jumped" "jumped" 500 501 502 115 3 0 3 234 true 181 235 236 237 238 506 115 507
def Hl:Obj:=df "jumped" "jumped" jb "playboard.reach" 482 239
def Hk:Obj:=dN (fW ["board","row","square","rule","side","path"] 512) 0
def Nb:Obj:=de "by_rule" "by_rule" io
def Hj:Obj:=gc "by_rule" "by_rule" 509 510 511 119 4 0 3 241 true 181 242 243 244 245 518 119 519
def Hi:Obj:=df "by_rule" "by_rule" io "playboard.reach" 482 246
def Hh:Obj:=dN (fW ["game","row","square","found","rule"] 524) 0
def M9:Obj:=de "goals" "goals" kh
def Hg:Obj:=gc "goals" "goals" 521 522 523 125 3 0 3 248 true 181 249 250 251 252 529 125 530
def Hf:Obj:=df "goals" "goals" kh "playboard.reach" 482 253
def He:Obj:=dN (fW ["wide","square"] 537) 0
def M8:Obj:=de "column_of" "column_of" fJ
def Hd:Obj:=gc "column_of" "column_of" 534 535 536 131 2 0 3 255 true 181 256 257 258 259 539 131 540
def Hc:Obj:=df "column_of" "column_of" fJ "playboard.squares" 532 260
def Hb:Obj:=dN (fW ["wide","square"] 545) 0
def M7:Obj:=de "row_of" "row_of" ja
def Ha:Obj:=gc "row_of" "row_of" 542 543 544 133 2 0 3 262 true 181 263 264 265 266 547 133 548
def G4:Obj:=df "row_of" "row_of" ja "playboard.squares" 532 267
def G0:Obj:=dN (fW ["wide","column","row"] 553) 0
def M6:Obj:=de "square_at" "square_at" fH
def GZ:Obj:=gc "square_at" "square_at" 550 551 552 135 3 0 3 269 true 181 270 271 272 273 556 135 557
def GY:Obj:=df "square_at" "square_at" fH "playboard.squares" 532 274
def M5:Obj:=de "moves" "moves" jA
def GX:Obj:=sR #[(.str "moves" 561),(.str "moves" 562),(iU 563),(aP 138),(aP 2),bW,bW,(aP 3),(.ref 276),(.bool true),(aP 181),(.ref 277),.none,.none,.none,(.ref 278),(aP 564),(aP 138),(iU 565)]
def GW:Obj:=df "moves" "moves" jA "playboard.moves" 559 279
def GV:Obj:=dN (fW ["game","sign","side","goal"] 570) 0
def M4:Obj:=de "arrived" "arrived" iq
def GU:Obj:=gc "arrived" "arrived" 567 568 569 144 4 0 3 281 true 181 282 283 284 285 574 144 575
def GT:Obj:=df "arrived" "arrived" iq "playboard.moves" 559 286
def GS:Obj:=dN (fW ["game","place","move","side","start","goal","taken","sign","row"] 580) 0
def M3:Obj:=de "behind" "behind" je
def GR:Obj:=gc "behind" "behind" 577 578 579 148 3 0 3 288 true 181 289 290 291 292 589 148 590
def GQ:Obj:=df "behind" "behind" je "playboard.moves" 559 293
def GP:Obj:=dN (fW ["row","kind","side"] 597) 0
def M2:Obj:=de "has_kind" "has_kind" gF
def GO:Obj:=gc "has_kind" "has_kind" 594 595 596 159 3 0 3 295 true 181 296 297 298 299 600 159 601
def GN:Obj:=df "has_kind" "has_kind" gF "playboard.ends" 592 300
def GM:Obj:=dN (fW ["board","row","kind","side","start"] 606) 0
def M0:Obj:=de "is_home" "is_home" il
def GL:Obj:=gc "is_home" "is_home" 603 604 605 161 4 0 3 302 true 181 303 304 305 306 611 161 612
def GK:Obj:=df "is_home" "is_home" il "playboard.ends" 592 307
def GJ:Obj:=dN (fW ["board","place","end","row","side","kind","lost","won"] 617) 0
def MZ:Obj:=de "by_end" "by_end" jd
def GI:Obj:=gc "by_end" "by_end" 614 615 616 164 3 0 3 309 true 181 310 311 312 313 625 164 626
def GH:Obj:=df "by_end" "by_end" jd "playboard.ends" 592 314
def GG:Obj:=dN (fW ["game","place","end","word"] 631) 0
def MY:Obj:=de "by_ends" "by_ends" ip
def GF:Obj:=gc "by_ends" "by_ends" 628 629 630 177 2 0 3 316 true 181 317 318 319 320 635 177 636
def GE:Obj:=df "by_ends" "by_ends" ip "playboard.ends" 592 321
def GD:Obj:=dN (fW ["game","place","word"] 641) 0
def MX:Obj:=de "ending" "ending" jc
def GB:Obj:=gc "ending" "ending" 638 639 640 183 2 0 3 323 true 181 324 325 326 327 644 183 645
def GA:Obj:=df "ending" "ending" jc "playboard.ends" 592 328
def MW:Obj:=de "followers" "followers" dB
def Gy:Obj:=sR #[(.str "followers" 647),(.str "followers" 648),(iU 649),(aP 188),(aP 2),bW,bW,(aP 3),(.ref 330),(.bool true),(aP 181),(.ref 331),.none,.none,.none,(.ref 332),(aP 650),(aP 188),(iU 651)]
def Gx:Obj:=df "followers" "followers" dB "playboard.ends" 592 333
def MV:Obj:=⟨(.type "dict"),none,(.dict #[aQ P "__module__" 662 (.str "playboard.webs" 653),aQ P "__qualname__" 664 (.str "Web" 663),aQ P "__firstlineno__" 666 (.int 193 665),aQ P "__init__" 672 (.ref 346),aQ P "gather" 682 (.ref 353),aQ P "number" 690 (.ref 360),aQ P "nexts" 696 (.ref 365),aQ P "known" 703 (.ref 372),aQ P "__static_attributes__" 709 (.ref 373)] 9),#[]⟩
def MU:Obj:=LI #[(aP 195),(aP 4),(.ref 345),(aP 211),(aP 4),(.ref 352),(aP 219),(aP 4),(.ref 359),(aP 222),(aP 4),(.ref 364),(aP 225),(aP 4),(.ref 371)]
def MT:Obj:=CY "Web" "Web" 657 658 659 193 0 0 0 338 false 181 339 660 193 661
noncomputable def MS:Obj:=⟨(.type "frame"),none,.plain,#[(some (.ref 340)),(some (.ref 3)),(some (.ref 337)),none,(some (.str "playboard.webs" 653)),none,(some (.ref 0))]⟩
def MR:Obj:=de "__init__" "Web.__init__" bX
def Gw:Obj:=sR #[(.str "__init__" 667),(.str "Web.__init__" 668),(iU 669),(aP 195),(aP 4),bW,bW,(aP 3),(.ref 342),(.bool true),(aP 181),(.ref 343),.none,.none,.none,(.ref 344),(aP 670),(aP 195),(iU 671)]
def Gv:Obj:=df "__init__" "Web.__init__" bX "playboard.webs" 653 345
def Gu:Obj:=dN (fW ["self","found","most","place"] 676) 0
def MQ:Obj:=de "gather" "Web.gather" ef
def Gs:Obj:=gc "gather" "Web.gather" 673 674 675 211 3 0 3 347 true 181 348 349 350 351 680 211 681
def Gr:Obj:=df "gather" "Web.gather" ef "playboard.webs" 653 352
def Gq:Obj:=dN (fW ["self","place"] 686) 0
def MP:Obj:=de "number" "Web.number" dZ
def Go:Obj:=gc "number" "Web.number" 683 684 685 219 2 0 3 354 true 181 355 356 357 358 688 219 689
def Gn:Obj:=df "number" "Web.number" dZ "playboard.webs" 653 359
def MN:Obj:=de "nexts" "Web.nexts" dJ
def Gm:Obj:=sR #[(.str "nexts" 691),(.str "Web.nexts" 692),(iU 693),(aP 222),(aP 1),bW,bW,(aP 3),(.ref 361),(.bool true),(aP 181),(.ref 362),.none,.none,.none,(.ref 363),(aP 694),(aP 222),(iU 695)]
def Gk:Obj:=df "nexts" "Web.nexts" dJ "playboard.webs" 653 364
def Gj:Obj:=dN #[(.str "self" 700)] 0
def ML:Obj:=de "known" "Web.known" fO
def Gi:Obj:=gc "known" "Web.known" 697 698 699 225 1 0 3 366 true 181 367 368 369 370 701 225 702
def Gh:Obj:=df "known" "Web.known" fO "playboard.webs" 653 371
def Gg:Obj:=dN (fW ["game","numbers","overs","places","ways"] 704) 0
def Ge:Obj:=⟨(.type "dict"),none,(.dict #[aQ P "__module__" 662 (.str "playboard.webs" 653),aQ P "__firstlineno__" 666 (.int 193 665),aQ P "__init__" 672 (.ref 346),aQ P "gather" 682 (.ref 353),aQ P "number" 690 (.ref 360),aQ P "nexts" 696 (.ref 365),aQ P "known" 703 (.ref 372),aQ P "__static_attributes__" 709 (.ref 373),aQ P "__dict__" 711 (.ref 376),aQ P "__weakref__" 713 (.ref 377),aQ P "__doc__" 714 .none] 4),#[]⟩
noncomputable def Gd:Obj:=⟨(.type "type"),none,(.cls ⟨"Web",[(.type "object")],[(.ref 375),(.type "object")],374,"Web",true,[],[],false,none,false⟩),#[none,none,(some (.str "Web" 655)),(some (.str "Web" 663)),(some (.builtin "object.__new__")),(some (.bool true))]⟩
noncomputable def Gc:Obj:=⟨(.type "getset_descriptor"),none,(.fields #[(.str "__dict__" 710),(.ref 375),(.builtin "function.__dict__"),(.builtin "function.__dict__#set")]),#[]⟩
noncomputable def Gb:Obj:=⟨(.type "getset_descriptor"),none,(.fields #[(.str "__weakref__" 712),(.ref 375),(.builtin "ExceptionGroup.__weakref__"),.none]),#[]⟩
noncomputable def MJ:Obj:=⟨(.type "super"),none,(.fields #[(.ref 375),(.ref 375),(.ref 375)]),#[]⟩
noncomputable def MI:Obj:=⟨(.type "builtin_function_or_method"),none,(.fields #[(.builtin "object.__init_subclass__"),(.ref 375)]),#[]⟩
def MH:Obj:=de "are_holes" "are_holes" dG
def Ga:Obj:=sR #[(.str "are_holes" 721),(.str "are_holes" 722),(iU 723),(aP 229),(aP 2),bW,bW,(aP 3),(.ref 380),(.bool true),(aP 181),(.ref 381),.none,.none,.none,(.ref 382),(aP 724),(aP 229),(iU 725)]
def F0:Obj:=df "are_holes" "are_holes" dG "playboard.boards" 717 383
def MG:Obj:=⟨(.type "dict"),none,(.dict #[aQ P "__module__" 734 (.str "playboard.boards" 717),aQ P "__qualname__" 736 (.str "Board" 735),aQ P "__firstlineno__" 738 (.int 235 737),aQ P "__init__" 744 (.ref 396),aQ P "has" 752 (.ref 403),aQ P "squares" 758 (.ref 408),aQ P "moved" 771 (.ref 415),aQ P "far_row" 779 (.ref 422),aQ P "__static_attributes__" 784 (.ref 423)] 9),#[]⟩
def MF:Obj:=LI #[(aP 237),(aP 4),(.ref 395),(aP 247),(aP 4),(.ref 402),(aP 250),(aP 4),(.ref 407),(aP 253),(aP 4),(.ref 414),(aP 261),(aP 4),(.ref 421)]
def ME:Obj:=CY "Board" "Board" 729 730 731 235 0 0 0 388 false 181 389 732 235 733
noncomputable def MD:Obj:=⟨(.type "frame"),none,.plain,#[(some (.ref 390)),(some (.ref 3)),(some (.ref 387)),none,(some (.str "playboard.boards" 717)),none,(some (.ref 0))]⟩
def MC:Obj:=de "__init__" "Board.__init__" bU
def FZ:Obj:=sR #[(.str "__init__" 739),(.str "Board.__init__" 740),(iU 741),(aP 237),(aP 4),bW,bW,(aP 3),(.ref 392),(.bool true),(aP 181),(.ref 393),.none,.none,.none,(.ref 394),(aP 742),(aP 237),(iU 743)]
def FY:Obj:=df "__init__" "Board.__init__" bU "playboard.boards" 717 395
def FX:Obj:=dN (fW ["self","square"] 748) 0
def MB:Obj:=de "has" "Board.has" fP
def FW:Obj:=gc "has" "Board.has" 745 746 747 247 2 0 3 397 true 181 398 399 400 401 750 247 751
def FV:Obj:=df "has" "Board.has" fP "playboard.boards" 717 402
def MA:Obj:=de "squares" "Board.squares" ce
def FU:Obj:=sR #[(.str "squares" 753),(.str "Board.squares" 754),(iU 755),(aP 250),(aP 1),bW,bW,(aP 3),(.ref 404),(.bool true),(aP 181),(.ref 405),.none,.none,.none,(.ref 406),(aP 756),(aP 250),(iU 757)]
def FT:Obj:=df "squares" "Board.squares" ce "playboard.boards" 717 407
def FS:Obj:=dN (fW ["self","square","across","up","column","row","goal"] 762) 0
def Mz:Obj:=de "moved" "Board.moved" dt
def FR:Obj:=gc "moved" "Board.moved" 759 760 761 253 4 0 3 409 true 181 410 411 412 413 769 253 770
def FQ:Obj:=df "moved" "Board.moved" dt "playboard.boards" 717 414
def FP:Obj:=dN (fW ["self","side"] 775) 0
def My:Obj:=de "far_row" "Board.far_row" cM
def FO:Obj:=gc "far_row" "Board.far_row" 772 773 774 261 2 0 3 416 true 181 417 418 419 420 777 261 778
def FN:Obj:=df "far_row" "Board.far_row" cM "playboard.boards" 717 421
def FM:Obj:=dN (fW ["firm","high","holes","wide"] 780) 0
def FL:Obj:=⟨(.type "dict"),none,(.dict #[aQ P "__module__" 734 (.str "playboard.boards" 717),aQ P "__firstlineno__" 738 (.int 235 737),aQ P "__init__" 744 (.ref 396),aQ P "has" 752 (.ref 403),aQ P "squares" 758 (.ref 408),aQ P "moved" 771 (.ref 415),aQ P "far_row" 779 (.ref 422),aQ P "__static_attributes__" 784 (.ref 423),aQ P "__dict__" 786 (.ref 426),aQ P "__weakref__" 788 (.ref 427),aQ P "__doc__" 789 .none] 4),#[]⟩
noncomputable def FK:Obj:=⟨(.type "type"),none,(.cls ⟨"Board",[(.type "object")],[(.ref 425),(.type "object")],424,"Board",true,[],[],false,none,false⟩),#[none,none,(some (.str "Board" 727)),(some (.str "Board" 735)),(some (.builtin "object.__new__")),(some (.bool true))]⟩
noncomputable def FJ:Obj:=⟨(.type "getset_descriptor"),none,(.fields #[(.str "__dict__" 785),(.ref 425),(.builtin "function.__dict__"),(.builtin "function.__dict__#set")]),#[]⟩
noncomputable def FI:Obj:=⟨(.type "getset_descriptor"),none,(.fields #[(.str "__weakref__" 787),(.ref 425),(.builtin "ExceptionGroup.__weakref__"),.none]),#[]⟩
noncomputable def Mx:Obj:=⟨(.type "super"),none,(.fields #[(.ref 425),(.ref 425),(.ref 425)]),#[]⟩
noncomputable def Mw:Obj:=⟨(.type "builtin_function_or_method"),none,(.fields #[(.builtin "object.__init_subclass__"),(.ref 425)]),#[]⟩
def Mv:Obj:=⟨(.type "dict"),none,(.dict #[aQ P "__module__" 801 (.str "playboard.games" 792),aQ P "__qualname__" 803 (.str "Game" 802),aQ P "__firstlineno__" 805 (.int 264 804),aQ P "__init__" 818 (.ref 443),aQ P "rules_of" 824 (.ref 448),aQ P "turned" 832 (.ref 455),aQ P "__static_attributes__" 839 (.ref 456)] 7),#[]⟩
def Mu:Obj:=LI #[(aP 266),(aP 4),(.ref 442),(aP 284),(aP 4),(.ref 447),(aP 287),(aP 4),(.ref 454)]
def Mt:Obj:=CY "Game" "Game" 796 797 798 264 0 0 0 433 false 181 434 799 264 800
noncomputable def Ms:Obj:=⟨(.type "frame"),none,.plain,#[(some (.ref 435)),(some (.ref 3)),(some (.ref 432)),none,(some (.str "playboard.games" 792)),none,(some (.ref 0))]⟩
def FH:Obj:=dN (fW ["self","board","kinds","rules","turns","ends","stuck"] 809) 0
def Mr:Obj:=de "__init__" "Game.__init__" cL
def FG:Obj:=gc "__init__" "Game.__init__" 806 807 808 266 7 0 3 437 true 181 438 439 440 441 816 266 817
def FE:Obj:=df "__init__" "Game.__init__" cL "playboard.games" 792 442
def Mq:Obj:=de "rules_of" "Game.rules_of" cb
def FD:Obj:=sR #[(.str "rules_of" 819),(.str "Game.rules_of" 820),(iU 821),(aP 284),(aP 2),bW,bW,(aP 3),(.ref 444),(.bool true),(aP 181),(.ref 445),.none,.none,.none,(.ref 446),(aP 822),(aP 284),(iU 823)]
def FC:Obj:=df "rules_of" "Game.rules_of" cb "playboard.games" 792 447
def FB:Obj:=dN (fW ["self","kind"] 828) 0
def Mp:Obj:=de "turned" "Game.turned" dm
def FA:Obj:=gc "turned" "Game.turned" 825 826 827 287 2 0 3 449 true 181 450 451 452 453 830 287 831
def Fz:Obj:=df "turned" "Game.turned" dm "playboard.games" 792 454
def Fy:Obj:=dN (fW ["board","ends","kinds","rules","stuck","turns"] 833) 0
def Fx:Obj:=⟨(.type "dict"),none,(.dict #[aQ P "__module__" 801 (.str "playboard.games" 792),aQ P "__firstlineno__" 805 (.int 264 804),aQ P "__init__" 818 (.ref 443),aQ P "rules_of" 824 (.ref 448),aQ P "turned" 832 (.ref 455),aQ P "__static_attributes__" 839 (.ref 456),aQ P "__dict__" 841 (.ref 459),aQ P "__weakref__" 843 (.ref 460),aQ P "__doc__" 844 .none] 4),#[]⟩
noncomputable def Fw:Obj:=⟨(.type "type"),none,(.cls ⟨"Game",[(.type "object")],[(.ref 458),(.type "object")],457,"Game",true,[],[],false,none,false⟩),#[none,none,(some (.str "Game" 794)),(some (.str "Game" 802)),(some (.builtin "object.__new__")),(some (.bool true))]⟩
noncomputable def Fv:Obj:=⟨(.type "getset_descriptor"),none,(.fields #[(.str "__dict__" 840),(.ref 458),(.builtin "function.__dict__"),(.builtin "function.__dict__#set")]),#[]⟩
noncomputable def Fu:Obj:=⟨(.type "getset_descriptor"),none,(.fields #[(.str "__weakref__" 842),(.ref 458),(.builtin "ExceptionGroup.__weakref__"),.none]),#[]⟩
noncomputable def Mo:Obj:=⟨(.type "super"),none,(.fields #[(.ref 458),(.ref 458),(.ref 458)]),#[]⟩
noncomputable def Mn:Obj:=⟨(.type "builtin_function_or_method"),none,(.fields #[(.builtin "object.__init_subclass__"),(.ref 458)]),#[]⟩
def Ft:Obj:=dN (fW ["_law_script","_law_k"] 852) 0
def Mm:Obj:=de "_law_cell_at" "_law_cell_at" cT
def Fs:Obj:=gc "_law_cell_at" "_law_cell_at" 849 850 851 290 2 0 3 463 true 181 464 465 466 467 854 290 855
def Fq:Obj:=df "_law_cell_at" "_law_cell_at" cT "law_playboard_k19_whole_webs" 847 468
def Fp:Obj:=dN (fW ["_law_script","_law_k"] 860) 0
def Ml:Obj:=de "_law_mixed" "_law_mixed" dU
def Fo:Obj:=gc "_law_mixed" "_law_mixed" 857 858 859 294 2 0 3 470 true 181 471 472 473 474 862 294 863
def Fn:Obj:=df "_law_mixed" "_law_mixed" dU "law_playboard_k19_whole_webs" 847 475
def Fm:Obj:=dN (fW ["_law_cell","_law_letters","_law_first","_law_found"] 868) 0
def Mi:Obj:=de "_law_kinds" "_law_kinds" dW
def Fk:Obj:=gc "_law_kinds" "_law_kinds" 865 866 867 296 1 0 3 477 true 181 478 479 480 481 872 296 873
def Fj:Obj:=df "_law_kinds" "_law_kinds" dW "law_playboard_k19_whole_webs" 847 482
def Fi:Obj:=dN (fW ["_law_cell","_law_kinds_here","_law_kind","_law_sort","_law_aim","_law_across","_law_up"] 878) 0
def Mh:Obj:=de "_law_rule" "_law_rule" fM
def Fh:Obj:=gc "_law_rule" "_law_rule" 875 876 877 301 2 0 3 484 true 181 485 486 487 488 885 301 886
def Fg:Obj:=df "_law_rule" "_law_rule" fM "law_playboard_k19_whole_webs" 847 489
def Ff:Obj:=dN (fW ["_law_cell","_law_wide","_law_high","_law_holes"] 891) 0
def Mf:Obj:=de "_law_board" "_law_board" dY
def Fe:Obj:=gc "_law_board" "_law_board" 888 889 890 315 1 0 3 491 true 181 492 493 494 495 895 315 896
def Fd:Obj:=df "_law_board" "_law_board" dY "law_playboard_k19_whole_webs" 847 496
def Fc:Obj:=dN (fW ["_law_script","_law_cell","_law_kinds_here","_law_many","_law_rules","_law_k","_law_rule_here","_law_more","_law_turns","_law_some","_law_ends","_law_stuck"] 901) 0
def Me:Obj:=de "_law_game" "_law_game" fN
def Fb:Obj:=gc "_law_game" "_law_game" 898 899 900 327 1 0 3 498 true 181 499 500 501 502 913 327 914
def Fa:Obj:=df "_law_game" "_law_game" fN "law_playboard_k19_whole_webs" 847 503
def E9:Obj:=dN (fW ["_law_game_here","_law_cell","_law_signs","_law_hole","_law_squares","_law_many","_law_side","_law_k","_law_at","_law_kind"] 919) 0
def Md:Obj:=de "_law_place" "_law_place" dS
def E8:Obj:=gc "_law_place" "_law_place" 916 917 918 345 2 0 3 505 true 181 506 507 508 509 929 345 930
def E7:Obj:=df "_law_place" "_law_place" dS "law_playboard_k19_whole_webs" 847 510
def E6:Obj:=dN (fW ["_law_script","_law_game_here","_law_cell","_law_starts_here"] 935) 0
def Mc:Obj:=de "_law_starts" "_law_starts" dk
def E5:Obj:=gc "_law_starts" "_law_starts" 932 933 934 360 2 0 3 512 true 181 513 514 515 516 939 360 940
def E4:Obj:=df "_law_starts" "_law_starts" dk "law_playboard_k19_whole_webs" 847 517
def E3:Obj:=dN (fW ["_law_game_here","_law_starts_here","_law_places","_law_place_here","_law_led","_law_numbers"] 945) 0
def Mb:Obj:=de "_law_going" "_law_going" dX
def E2:Obj:=gc "_law_going" "_law_going" 942 943 944 366 2 0 3 519 true 181 520 521 522 523 951 366 952
def E1:Obj:=df "_law_going" "_law_going" dX "law_playboard_k19_whole_webs" 847 524
def EZ:Obj:=dN (fW ["_law_game_here","_law_place_here","_law_word_here"] 957) 0
def Ma:Obj:=de "_law_word" "_law_word" fK
def EY:Obj:=gc "_law_word" "_law_word" 954 955 956 380 2 0 3 526 true 181 527 528 529 530 960 380 961
def EX:Obj:=df "_law_word" "_law_word" fK "law_playboard_k19_whole_webs" 847 531
def EW:Obj:=dN (fW ["_law_found","_law_due"] 966) 0
def L6:Obj:=de "_law_same" "_law_same" fL
def EV:Obj:=gc "_law_same" "_law_same" 963 964 965 385 2 0 3 533 true 181 534 535 536 537 968 385 969
def EU:Obj:=df "_law_same" "_law_same" fL "law_playboard_k19_whole_webs" 847 538
def L5:Obj:=de "_law_told" "_law_told" dI
def ET:Obj:=sR #[(.str "_law_told" 971),(.str "_law_told" 972),(iU 973),(aP 387),(aP 5),bW,bW,(aP 3),(.ref 540),(.bool true),(aP 181),(.ref 541),.none,.none,.none,(.ref 542),(aP 974),(aP 387),(iU 975)]
def ES:Obj:=df "_law_told" "_law_told" dI "law_playboard_k19_whole_webs" 847 543
def ER:Obj:=dN (fW ["_law_web","_law_places","_law_at","_law_found"] 980) 0
def L4:Obj:=de "_law_numbered" "_law_numbered" cK
def EQ:Obj:=gc "_law_numbered" "_law_numbered" 977 978 979 403 2 0 3 545 true 181 546 547 548 549 984 403 985
def EO:Obj:=df "_law_numbered" "_law_numbered" cK "law_playboard_k19_whole_webs" 847 550
def L3:Obj:=de "law" "law" jM
def EN:Obj:=sR #[(.str "law" 987),(.str "law" 988),(iU 989),(aP 409),(aP 1),bW,bW,(aP 3),(.ref 552),(.bool true),(aP 181),(.ref 553),.none,.none,.none,(.ref 554),(aP 990),(aP 409),(iU 991)]
def EM:Obj:=df "law" "law" jM "law_playboard_k19_whole_webs" 847 555
end
noncomputable def hK(P:TV):Frag:=(nat_lit 2,Yw P)::(nat_lit 3,zo3 P)::(nat_lit 15,Nv)::(nat_lit 22,ar)::(nat_lit 23,Ng P)::(nat_lit 24,Nc)::(nat_lit 25,Na)::(nat_lit 28,sS)::(nat_lit 35,ar)::(nat_lit 36,MO P)::(nat_lit 37,MM)::(nat_lit 40,sS)::(nat_lit 47,ar)::(nat_lit 48,Mj P)::(nat_lit 49,Mg)::(nat_lit 52,sS)::(nat_lit 59,ar)::(nat_lit 60,LZ P)::(nat_lit 61,LY)::(nat_lit 64,sS)::(nat_lit 71,ar)::(nat_lit 72,LX P)::(nat_lit 73,LW)::(nat_lit 76,ar)::(nat_lit 78,LV)::(nat_lit 79,ar)::(nat_lit 81,LU)::(nat_lit 82,LS)::(nat_lit 83,ar)::(nat_lit 85,LR)::(nat_lit 86,ar)::(nat_lit 88,LQ)::(nat_lit 89,LP)::(nat_lit 90,ar)::(nat_lit 92,LO)::(nat_lit 93,ar)::(nat_lit 95,LN)::(nat_lit 96,LM)::(nat_lit 97,LL)::(nat_lit 98,LK)::(nat_lit 99,LJ)::(nat_lit 100,IH)::(nat_lit 101,ar)::(nat_lit 103,IG)::(nat_lit 104,ar)::(nat_lit 106,IF)::(nat_lit 107,IE)::(nat_lit 108,ar)::(nat_lit 110,ID)::(nat_lit 111,ar)::(nat_lit 113,IC)::(nat_lit 114,IB)::(nat_lit 115,ar)::(nat_lit 117,IA)::(nat_lit 118,ar)::(nat_lit 120,Iz)::(nat_lit 121,Iy)::(nat_lit 122,ar)::(nat_lit 124,Ix)::(nat_lit 125,ar)::(nat_lit 127,Iw)::(nat_lit 128,Iv)::(nat_lit 129,ar)::(nat_lit 131,Iu)::(nat_lit 132,ar)::(nat_lit 134,Ir)::(nat_lit 135,Iq)::(nat_lit 136,ar)::(nat_lit 138,Ip)::(nat_lit 139,ar)::(nat_lit 141,Io)::(nat_lit 142,Im)::(nat_lit 143,ar)::(nat_lit 146,Il)::(nat_lit 147,Ik)::(nat_lit 148,ar)::(nat_lit 151,Ij)::(nat_lit 152,Ii)::(nat_lit 153,ar)::(nat_lit 155,Ih)::(nat_lit 156,ar)::(nat_lit 158,Ig)::(nat_lit 159,Ie)::(nat_lit 160,ar)::(nat_lit 163,Ic)::(nat_lit 164,Ib)::(nat_lit 165,ar)::(nat_lit 168,Ia)::(nat_lit 169,HZ)::(nat_lit 170,ar)::(nat_lit 172,HY)::(nat_lit 173,ar)::(nat_lit 175,HX)::(nat_lit 176,HW)::(nat_lit 177,ar)::(nat_lit 179,HV)::(nat_lit 180,ar)::(nat_lit 182,HU)::(nat_lit 183,HS)::(nat_lit 184,ar)::(nat_lit 186,HR)::(nat_lit 187,ar)::(nat_lit 189,HQ)::(nat_lit 190,HP)::(nat_lit 191,ar)::(nat_lit 194,HN)::(nat_lit 195,HM)::(nat_lit 196,ar)::(nat_lit 198,HL)::(nat_lit 199,ar)::(nat_lit 201,HK)::(nat_lit 202,HJ)::(nat_lit 203,ar)::(nat_lit 206,HI)::(nat_lit 207,HH)::(nat_lit 208,ar)::(nat_lit 211,Hz)::(nat_lit 212,Hy)::(nat_lit 213,ar)::(nat_lit 215,Hx)::(nat_lit 216,ar)::(nat_lit 218,Hw)::(nat_lit 219,Hv)::(nat_lit 220,ar)::(nat_lit 222,Hu)::(nat_lit 223,ar)::(nat_lit 225,Ht)::(nat_lit 226,Hs)::(nat_lit 227,ar)::(nat_lit 229,Hr)::(nat_lit 230,ar)::(nat_lit 232,Hq)::(nat_lit 233,Ho)::(nat_lit 234,ar)::(nat_lit 236,Hn)::(nat_lit 237,ar)::(nat_lit 239,Hm)::(nat_lit 240,Hl)::(nat_lit 241,ar)::(nat_lit 243,Hk)::(nat_lit 244,ar)::(nat_lit 246,Hj)::(nat_lit 247,Hi)::(nat_lit 248,ar)::(nat_lit 250,Hh)::(nat_lit 251,ar)::(nat_lit 253,Hg)::(nat_lit 254,Hf)::(nat_lit 255,ar)::(nat_lit 257,He)::(nat_lit 258,ar)::(nat_lit 260,Hd)::(nat_lit 261,Hc)::(nat_lit 262,ar)::(nat_lit 264,Hb)::(nat_lit 265,ar)::(nat_lit 267,Ha)::(nat_lit 268,G4)::(nat_lit 269,ar)::(nat_lit 271,G0)::(nat_lit 272,ar)::(nat_lit 274,GZ)::(nat_lit 275,GY)::(nat_lit 276,ar)::(nat_lit 279,GX)::(nat_lit 280,GW)::(nat_lit 281,ar)::(nat_lit 283,GV)::(nat_lit 284,ar)::(nat_lit 286,GU)::(nat_lit 287,GT)::(nat_lit 288,ar)::(nat_lit 290,GS)::(nat_lit 291,ar)::(nat_lit 293,GR)::(nat_lit 294,GQ)::(nat_lit 295,ar)::(nat_lit 297,GP)::(nat_lit 298,ar)::(nat_lit 300,GO)::(nat_lit 301,GN)::(nat_lit 302,ar)::(nat_lit 304,GM)::(nat_lit 305,ar)::(nat_lit 307,GL)::(nat_lit 308,GK)::(nat_lit 309,ar)::(nat_lit 311,GJ)::(nat_lit 312,ar)::(nat_lit 314,GI)::(nat_lit 315,GH)::(nat_lit 316,ar)::(nat_lit 318,GG)::(nat_lit 319,ar)::(nat_lit 321,GF)::(nat_lit 322,GE)::(nat_lit 323,ar)::(nat_lit 325,GD)::(nat_lit 326,ar)::(nat_lit 328,GB)::(nat_lit 329,GA)::(nat_lit 330,ar)::(nat_lit 333,Gy)::(nat_lit 334,Gx)::(nat_lit 342,ar)::(nat_lit 345,Gw)::(nat_lit 346,Gv)::(nat_lit 347,ar)::(nat_lit 349,Gu)::(nat_lit 350,ar)::(nat_lit 352,Gs)::(nat_lit 353,Gr)::(nat_lit 354,ar)::(nat_lit 356,Gq)::(nat_lit 357,ar)::(nat_lit 359,Go)::(nat_lit 360,Gn)::(nat_lit 361,ar)::(nat_lit 364,Gm)::(nat_lit 365,Gk)::(nat_lit 366,ar)::(nat_lit 368,Gj)::(nat_lit 369,ar)::(nat_lit 371,Gi)::(nat_lit 372,Gh)::(nat_lit 373,Gg)::(nat_lit 374,Ge P)::(nat_lit 375,Gd)::(nat_lit 376,Gc)::(nat_lit 377,Gb)::(nat_lit 380,ar)::(nat_lit 383,Ga)::(nat_lit 384,F0)::(nat_lit 392,ar)::(nat_lit 395,FZ)::(nat_lit 396,FY)::(nat_lit 397,ar)::(nat_lit 399,FX)::(nat_lit 400,ar)::(nat_lit 402,FW)::(nat_lit 403,FV)::(nat_lit 404,ar)::(nat_lit 407,FU)::(nat_lit 408,FT)::(nat_lit 409,ar)::(nat_lit 411,FS)::(nat_lit 412,ar)::(nat_lit 414,FR)::(nat_lit 415,FQ)::(nat_lit 416,ar)::(nat_lit 418,FP)::(nat_lit 419,ar)::(nat_lit 421,FO)::(nat_lit 422,FN)::(nat_lit 423,FM)::(nat_lit 424,FL P)::(nat_lit 425,FK)::(nat_lit 426,FJ)::(nat_lit 427,FI)::(nat_lit 437,ar)::(nat_lit 439,FH)::(nat_lit 440,ar)::(nat_lit 442,FG)::(nat_lit 443,FE)::(nat_lit 444,ar)::(nat_lit 447,FD)::(nat_lit 448,FC)::(nat_lit 449,ar)::(nat_lit 451,FB)::(nat_lit 452,ar)::(nat_lit 454,FA)::(nat_lit 455,Fz)::(nat_lit 456,Fy)::(nat_lit 457,Fx P)::(nat_lit 458,Fw)::(nat_lit 459,Fv)::(nat_lit 460,Fu)::(nat_lit 463,ar)::(nat_lit 465,Ft)::(nat_lit 466,ar)::(nat_lit 468,Fs)::(nat_lit 469,Fq)::(nat_lit 470,ar)::(nat_lit 472,Fp)::(nat_lit 473,ar)::(nat_lit 475,Fo)::(nat_lit 476,Fn)::(nat_lit 477,ar)::(nat_lit 479,Fm)::(nat_lit 480,ar)::(nat_lit 482,Fk)::(nat_lit 483,Fj)::(nat_lit 484,ar)::(nat_lit 486,Fi)::(nat_lit 487,ar)::(nat_lit 489,Fh)::(nat_lit 490,Fg)::(nat_lit 491,ar)::(nat_lit 493,Ff)::(nat_lit 494,ar)::(nat_lit 496,Fe)::(nat_lit 497,Fd)::(nat_lit 498,ar)::(nat_lit 500,Fc)::(nat_lit 501,ar)::(nat_lit 503,Fb)::(nat_lit 504,Fa)::(nat_lit 505,ar)::(nat_lit 507,E9)::(nat_lit 508,ar)::(nat_lit 510,E8)::(nat_lit 511,E7)::(nat_lit 512,ar)::(nat_lit 514,E6)::(nat_lit 515,ar)::(nat_lit 517,E5)::(nat_lit 518,E4)::(nat_lit 519,ar)::(nat_lit 521,E3)::(nat_lit 522,ar)::(nat_lit 524,E2)::(nat_lit 525,E1)::(nat_lit 526,ar)::(nat_lit 528,EZ)::(nat_lit 529,ar)::(nat_lit 531,EY)::(nat_lit 532,EX)::(nat_lit 533,ar)::(nat_lit 535,EW)::(nat_lit 536,ar)::(nat_lit 538,EV)::(nat_lit 539,EU)::(nat_lit 540,ar)::(nat_lit 543,ET)::(nat_lit 544,ES)::(nat_lit 545,ar)::(nat_lit 547,ER)::(nat_lit 548,ar)::(nat_lit 550,EQ)::(nat_lit 551,EO)::(nat_lit 552,ar)::(nat_lit 555,EN)::(nat_lit 556,EM)::[]
noncomputable def hA:List YC:=(hK {strHash:=λ_=>0,shareClass:=λ_=>0,mergeTok:=id,idOf:=λ_=>0,idOfShared:=λ_ _=>0,followText:=λ_=>true,idOfImm:=λ_=>0}).map (·.1)
noncomputable def hE:U4:={scope:=hP.main.scope,locals:=mainNs,globals:=mainNs,cells:=[],code:=(.ref 13),frame:=some 14}
noncomputable def hB:List Rt:=PySem.W.behindTheImports hP
noncomputable abbrev hC:Code:=.body hB hE
noncomputable abbrev hN:Option YB:=(some (.ref 6))
noncomputable abbrev hF:List Frame:=[PySem.W.topFrame ⟨0,0,0,0⟩]
noncomputable def hS(w:Rk)(os:SW):Rb:=⟨Yj w.params,Array.mk [],PySem.W.boot_drawn,PySem.W.boot_toks,os⟩
noncomputable def Os(w:Rk)(os:SW):Rb:=(PySem.W.topGo RB hP w 11 hN 12 (hS w os) (Yx hP)).elim (hS w os) λx=>x.1
noncomputable def Oq(w:Rk)(os:SW):PySem.W.SharedT:=toT ((Yy RB hP w 11 hN 1 1 (Os w os) (Yz hB hE hC ⟨0,0,0,0⟩ hF)).elim (Os w os) λx=>x.2.1)
def hpre(w:Rk)(os:SW):PySem.W.topGo RB hP w 11 hN 12 (hS w os) (Yx hP)=some (Os w os,⟨denote RB hC,hC,⟨0,0,0,0⟩,hF⟩):=by kernel_rfl
def Qt(w:Rk)(os:SW):Yy RB hP w 11 hN 1 1 (Os w os) (Yz hB hE hC ⟨0,0,0,0⟩ hF)=some (.next,(Oq w os).abs,hC,⟨0,0,0,0⟩):=by kernel_rfl
noncomputable def hL1(P:TV):PySem.W.BT:=aD (PySem.W.boot_o_0 P) (aD (PySem.W.boot_o_1 P) (aD (zo3 P) (aD (PySem.W.boot_o_7 P) (aD Nv (aD ar (aD PD (aD Iw (aD ar (aI E7) .nil) (aI Ga)) (aD ar (aI ar) (aI FD))) (aD LN (aD Ie (aD GT (aI ET) .nil) (aI FQ)) (aD ar (aI MQ) (aI Fm)))) (aD ar (aD ar (aD ar (aD G0 (aI bi) .nil) (aI FX)) (aD HH (aI ar) (aI ar))) (aD ar (aD HX (aI bi) (aI sT)) (aD Hm (aI bi) (aI Mf))))) (aD (Ng P) (aD PU (aD ar (aD Iq (aD bi (aI ar) .nil) (aI MD)) (aD ar (aI MX) (aI Fz))) (aD IG (aD Nq (aD ar (aI EO) .nil) (aI FM)) (aD Nf (aI Go) (aI ar)))) (aD ar (aD Pr (aD Ij (aD GX (aI EW) .nil) (aI FU)) (aD Hx (aI bi) (aI bi))) (aD NA (aD HS (aI GJ) (aI FH)) (aD Hi (aI Gd) (aI Fb)))))) (aD ar (aD bi (aD ar (aD ar (aD Iu (aD M8 (aI ar) .nil) (aI (MG P))) (aD HM (aI ar) (aI FB))) (aD LJ (aD Ic (aD ar (aI ER) .nil) (aI ar)) (aD ar (aI bi) (aI Fj)))) (aD PL (aD ar (aD Ik (aD GY (aI EY) .nil) (aI FV)) (aD Hz (aI MU) (aI Mm))) (aD ar (aD HV (aI GL) (aI Mt)) (aD Hk (aI Gi) (aI bi))))) (aD P0 (aD ar (aD Pu (aD ar (aD Ha (aI Mb) .nil) (aI FZ)) (aD ar (aI bi) (aI Fv))) (aD IE (aD bi (aD M2 (aI EN) .nil) (aI FI)) (aD bi (aI MN) (aI ar)))) (aD ar (aD bi (aD Ih (aD GV (aI EU) .nil) (aI FS)) (aD Hv (aI ar) (aI Fo))) (aD bi (aD ar (aI GH) (aI FE)) (aD ar (aI MI) (aI E9))))))) (aD (PySem.W.boot_o_5 P) (aD (PySem.W.boot_o_9 P) (aD (P6 P) (aD PY (aD sT (aD ar (aD He (aI bi) .nil) (aI ar)) (aD Nm (aI GF) (aI ar))) (aD LL (aD bi (aD bi (aI ar) .nil) (aI bi)) (aD Ht (aI Gr) (aI Mi)))) (aD Mg (aD LU (aD Nw (aD M6 (aI ar) .nil) (aI MB)) (aD bi (aI (MV P)) (aI Ft))) (aD IC (aD ar (aI ar) (aI ar)) (aD ar (aI ar) (aI Fd))))) (aD Na (aD sT (aD LW (aD bi (aD ar (aI E3) .nil) (aI bi)) (aD HK (aI GA) (aI (Fx P)))) (aD NC (aD HZ (aD GP (aI bi) .nil) (aI FK)) (aD Ho (aI ar) (aI Fh)))) (aD PJ (aD LP (aD ar (aD ar (aI L6) .nil) (aI ar)) (aD Ni (aI Gw) (aI ar))) (aD Iy (aD bi (aI MZ) (aI Mr)) (aD bi (aI Gb) (aI ar)))))) (aD P8 (aD P4 (aD MM (aD Py (aD Ny (aD Hc (aI E5) .nil) (aI MF)) (aD bi (aI GD) (aI Mp))) (aD ar (aD ar (aD GR (aI L4) .nil) (aI FO)) (aD Hr (aI ar) (aI bi)))) (aD sT (aD LR (aD bi (aD bi (aI ar) .nil) (aI bi)) (aD ar (aI MS) (aI Fq))) (aD IA (aD No (aI ar) (aI ar)) (aD Nb (aI Gg) (aI ar))))) (aD sT (aD PP (aD bi (aD Io (aD ar (aI E1) .nil) (aI ar)) (aD Nk (aI Gy) (aI Mo))) (aD bi (aD ar (aI GN) (aI Mw)) (aD ar (aI Gk) (aI Ff)))) (aD LY (aD ar (aD Nt (aD M4 (aI bi) .nil) (aI Mz)) (aD bi (aI Gu) (aI ar))) (aD ar (aD HQ (aI bi) (aI bi)) (aD Hg (aI bi) (aI Md)))))))) (aD (Yw P) (aD (PySem.W.boot_o_4 P) (aD (PySem.W.boot_o_8 P) (aD sT (aD bi (aD sS (aD Iv (aD bi (aI ar) .nil) (aI F0)) (aD bi (aI MY) (aI FC))) (aD LM (aD ar (aD ar (aI ES) .nil) (aI ar)) (aD Nh (aI Gs) (aI ar)))) (aD (Mj P) (aD Ps (aD bi (aD ar (aI EZ) .nil) (aI ar)) (aD ar (aI sT) (aI bi))) (aD NB (aD HW (aI GM) (aI (Mv P))) (aD Hl (aI Gj) (aI Fe))))) (aD Nc (aD sS (aD (LX P) (aD ar (aD Hb (aI bi) .nil) (aI ar)) (aD Nl (aI GB) (aI Fy))) (aD ar (aD Ia (aD bi (aI ar) .nil) (aI (FL P))) (aD Hq (aI Gn) (aI Mh)))) (aD bi (aD LQ (aD Ii (aD GW (aI ar) .nil) (aI FT)) (aD ar (aI MR) (aI Fp))) (aD Iz (aD ar (aI ar) (aI ar)) (aD ar (aI Gc) (aI Fa)))))) (aD P9 (aD P5 (aD (MO P) (aD bi (aD ar (aD Hd (aI Mc) .nil) (aI ar)) (aD ar (aI bi) (aI ar))) (aD IH (aD Ib (aD M3 (aI ar) .nil) (aI My)) (aD bi (aI Gq) (aI ar)))) (aD sS (aD bi (aD ar (aD ar (aI EX) .nil) (aI ar)) (aD Hy (aI MT) (aI Fs))) (aD bi (aD ar (aI GK) (aI Ms)) (aD ar (aI Gh) (aI Fc))))) (aD sS (aD bi (aD ar (aD Nx (aD G4 (aI E2) .nil) (aI FY)) (aD bi (aI MW) (aI Fu))) (aD ar (aD HY (aD GO (aI EM) .nil) (aI Mx)) (aD Hn (aI Gm) (aI bi)))) (aD (LZ P) (aD LO (aD ar (aD ar (aI ar) .nil) (aI ar)) (aD ar (aI bi) (aI Fn))) (aD Ix (aD Nn (aI ar) (aI ar)) (aD M9 (aI ar) (aI ar))))))) (aD (PySem.W.boot_o_6 P) (aD (PySem.W.boot_o_10 P) (aD ar (aD PX (aD (PB P) (aD bi (aD ar (aI E6) .nil) (aI sT)) (aD HN (aI GE) (aI bi))) (aD LK (aD Nr (aD GS (aI bi) .nil) (aI FP)) (aD Hs (aI ar) (aI Fk)))) (aD PM (aD LS (aD Il (aD GZ (aI Ma) .nil) (aI FW)) (aD Nj (aI ar) (aI ar))) (aD IB (aD bi (aI M0) (aI Mu)) (aD bi (aI ML) (aI ar))))) (aD P3 (aD (PQ P) (aD Pw (aD Ip (aD M7 (aI ar) .nil) (aI MC)) (aD HJ (aI ar) (aI Fw))) (aD IF (aD ar (aD ar (aI L3) .nil) (aI FJ)) (aD ar (aI bi) (aI Fg)))) (aD PH (aD ar (aD bi (aD bi (aI EV) .nil) (aI bi)) (aD Hw (aI Gv) (aI Ml))) (aD ar (aD HR (aI GI) (aI FG)) (aD Hh (aI MJ) (aI bi)))))) (aD P7 (aD ar (aD PV (aD Px (aD Ir (aD ar (aI E4) .nil) (aI ME)) (aD HL (aI ar) (aI FA))) (aD bi (aD bi (aD GQ (aI EQ) .nil) (aI FN)) (aD ar (aI MP) (aI Fi)))) (aD (PK P) (aD ar (aD Nu (aD M5 (aI bi) .nil) (aI MA)) (aD bi (aI ar) (aI ar))) (aD ar (aD HU (aI bi) (aI bi)) (aD Hj (aI (Ge P)) (aI Me))))) (aD (PZ P) (aD PN (aD LV (aD Im (aD bi (aI ar) .nil) (aI bi)) (aD HI (aI Gx) (aI Mn))) (aD ID (aD Np (aI ar) (aI ar)) (aD Nd (aI ar) (aI ar)))) (aD PF (aD Pq (aD Ig (aD GU (aI L5) .nil) (aI FR)) (aD Hu (aI ar) (aI bi))) (aD Nz (aD HP (aI GG) (aI Mq)) (aD Hf (aI MH) (aI E8))))))))
noncomputable def Qu(w:Rk)(os:SW):PySem.W.SharedT:=stT (hL1 w.params) 557 993 w.params os
noncomputable def hT1:List Rt:=(hB.drop 0).take 86
def On(w:Rk):(λos=>PySem.W.segRunT RB hP w 11 hN 1 3916 (Oq w os) ⟨(execs hT1 hE).wrap Yo PySem.W.deadEnd id id,hC,⟨0,0,0,0⟩,hF⟩)=λos=>some (Flow.next,(Qu w os),hC,⟨409,0,433,138⟩):=by
 rw[PySem.W.Fast.te10110043849684766642,PySem.W.Fast.te12563942051412417395,PySem.W.Fast.te14364793385576792824]
 kernel_rfl
noncomputable def D7(tr:(String->Option Sr)->Rg->Rk->Nat->Option YB->Nat->Rb->Thread->Option Rb)(tb:String->Option Sr)(w:Rk)(os:SW):Rb:=
 (tr tb hP w 11 hN 2 (Qu w os).abs ⟨Yo .next,hC,⟨409,0,433,138⟩,hF⟩).elim (hS w os) id
noncomputable def hX(s:Rb):Bool:=PySem.W.xlAt hQ [] s&&PySem.W.recOk (PySem.W.RowW.records PySem.Challenge.rw_playboard_k19_whole_webs.row.toRowW) s
def Qs(w:Rk):(λos=>X4 RB hP w 11 hN 2 (Qu w os).abs ⟨Yo .next,hC,⟨409,0,433,138⟩,hF⟩)=λos=>some (D7 X4 RB w os):=by
 rw[PySem.W.Fast.te14364793385576792824,PySem.W.Fast.te14082659384304107361]
 kernel_rfl
def KW(w:Rk):(λos=>(PySem.W.staticsOk (SU hP.main.body) (Yj w.params) (D7 X4 RB w os).heap&&PySem.W.namesBound hP (D7 X4 RB w os).heap&&PySem.W.gensDone (D7 X4 RB w os)&&PySem.W.laidKept (Yj w.params) (D7 X4 RB w os).heap))=λos=>true:=by
 rw[PySem.W.Fast.te14364793385576792824,PySem.W.Fast.te14082659384304107361,PySem.W.Fast.te5923862056798008813]
 kernel_rfl
def KU(w:Rk):(λos=>PySem.W.openSeen hQ [] (SU hP.main.body) hX true (D7 X4 RB w os))=λos=>PySem.W.openGood hQ []:=by
 rw[PySem.W.Fast.te14364793385576792824,PySem.W.Fast.te14082659384304107361,PySem.W.Fast.te4187177175401517315,PySem.W.Fast.te5923862056798008813]
 kernel_rfl
def KS(w:Rk):(λos=>xZ hA (D7 X4 RB w os))=λos=>xY hK w:=by
 rw[PySem.W.Fast.te14364793385576792824,PySem.W.Fast.te14082659384304107361]
 kernel_rfl
def hBe:hB=(hT1++[]):=by kernel_rfl
def Op(w:Rk)(os:SW):X4 RB hP w 11 hN (3916+2) (Oq w os).abs (YA hB hE hC ⟨0,0,0,0⟩ hF)=some (D7 X4 RB w os):=by have r:=PySem.W.piece_nil (env:=hE) (congrFun (Qs w) os);have r:=PySem.W.piece_app (PySem.W.segRun_of (congrFun (On w) os)) r;exact(Q2 (λl=>X4 RB hP w 11 hN (3916+2) (Oq w os).abs (YA l hE hC ⟨0,0,0,0⟩ hF)) hBe).trans r
def hleft:PySem.W.LeftO hP hQ [] hX (xZ hA) (xY hK) 7956:=
 zG (n0:=12) (nb:=1) (n:=(3916+2)) (qp:=⟨0,0,0,0⟩) (p0:=⟨0,0,0,0⟩) (p1:=⟨0,0,0,0⟩) (H₀:=Yj) (m₀:=11) (ann:=hN) (b:=hB) (env:=hE) (sa:=Os) (sb:=Oq) (sf:=λw os=>(D7 X4 RB w os))
  (PySem.W.boot_open (by kernel_rfl) (by decide+kernel) (λs=>by kernel_rfl)) (λw=>by kernel_rfl) hpre Qt Op (by decide+kernel) (λw os=>by rw[congrFun (KW w) os,congrFun (KU w) os,congrFun (KS w) os])
abbrev bL(K:Frag)(x:Str)(st:Rt)(f:YC)(fd:Rn):Prop:=X0 K Ri x=some (some (.ref f))/\ci K x x st f fd
def mD(P:Rg)(w:Rk)(QR:Rq){K:Frag}{h:Rq}{mg:Q3}(X:K.In h)(G:h.Ns Ri mg){x:Str}{st:Rt}{ps:List Str}{k:Nat}{sp:Sp}{f:YC}{fd:Rn}(F:bL K x st f fd)(o:aX P w K mg QR cI k f fd ps sp)(b:∀kV doc pm an cdv ct us,us.length=ps.length->bindArgs (X7 x x (gq st) (eU st) (am st) .none kV doc pm an cdv ct) ⟨us,[]⟩=pure (ps.zip us):=by intro _ _ _ _ _ _;first|exact L2.ln1 (λ_=>rfl)|exact L2.LB (λ_ _=>rfl)|exact L2.ln3 (λ_ _ _=>rfl)|exact L2.Pg (λ_ _ _ _=>rfl)|exact L2.ln5 (λ_ _ _ _ _=>rfl)|exact L2.ln6 (λ_ _ _ _ _ _=>rfl)):cC P w K mg QR x ps k sp:=⟨f,_,o,X2 X G F.1,F.2.kp,F.2.binds b⟩
noncomputable abbrev ζL(o:YB)(d:Option YC)(a b:Str)(s:Rt)(k c p:YB)(n:Option YC)(e t:YB)(l:Array (Option YB)):Obj:=⟨o,d,.func (X7 a b (gq s) (eU s) (am s) .none k c p n e t),l⟩
def all_mk{l:PySem.W.OpenLaw}{w:Rk}{K:Frag}{h:Rq}{mg:Q3}{fa f1 f2 f3 f4 f5 f6 f7 f8 f9 f10 f11 f12 f13 f14 f15 f16 f17 f18 f19 f20 f21 f22 f23 f24 f25 f26 f27 f28 f29 f30 f31 f32 f33 f34 f35 f36 f37 f38 f39 f40 f41 f42 f43 f44 f45 f46 f47 f48 f49 f50 f51 f52 f53 f54 f55 f56 f57 f58 f59 f60 f61 f62 f63 f64 f65 f66 f67 cBoard cGame cWeb aS aA aE aW:YC}(X:K.In h)(G:h.Ns Ri mg)(hfa:mg "law"=some (.ref fa)){od67 an67:Option YC}{sl67:Array (Option YB)}{oc67 kV67 dc67 pm67 cd67 ct67:YB}{d1 d2 d3 d4 d5 d6 d7 d8 d9 d10 d11 d12 d13 d14 d15 d16 d17 d18 d19 d20 d21 d22 d23 d24 d25 d26 d27 d28 d29 d30 d31 d32 d33 d34 d35 d36 d37 d38 d39 d40 d41 d42 d43 d44 d45 d46 d47 d48 d49 d50 d51 d52 d53 d54 d55 d56 d57 d58 d59 d60 d61 d62 d63 d64 d65 d66:Rn}{u0 u1 u2 u3 u4 u5 u6:YB}(aCBoard:X0 K Ri "Board"=some (some (.ref cBoard)))(aCGame:X0 K Ri "Game"=some (some (.ref cGame)))(aCWeb:X0 K Ri "Web"=some (some (.ref cWeb)))(F1:bL K "is_whole" gB f1 d1)(F2:bL K "is_letter" fI f2 d2)(F3:bL K "is_among" gE f3 d3)(F4:bL K "is_word" ig f4 d4)(F5:bL K "is_tuple_of" dj f5 d5)(F6:bL K "is_list_of" dR f6 d6)(F7:bL K "is_step" ii f7 d7)(F8:bL K "is_rule" ij f8 d8)(F9:bL K "is_pair" ik f9 d9)(F10:bL K "are_pairs" dE f10 d10)(F11:bL K "is_turns" dv f11 d11)(F12:bL K "is_ends" im f12 d12)(F13:bL K "are_kinds" dF f13 d13)(F14:bL K "are_rules" dD f14 d14)(F15:bL K "sign_of" ib f15 d15)(F16:bL K "kind_of" ie f16 d16)(F17:bL K "side_of" ic f17 d17)(F18:bL K "put" tT f18 d18)(F19:bL K "squares_of" c7 f19 d19)(F20:bL K "empty_row" dC f20 d20)(F21:bL K "is_row" gC f21 d21)(F22:bL K "is_place" gD f22 d22)(F23:bL K "ray" tS f23 d23)(F24:bL K "slid" nc f24 d24)(F25:bL K "jumped" jb f25 d25)(F26:bL K "by_rule" io f26 d26)(F27:bL K "goals" kh f27 d27)(F28:bL K "column_of" fJ f28 d28)(F29:bL K "row_of" ja f29 d29)(F30:bL K "square_at" fH f30 d30)(F31:bL K "moves" jA f31 d31)(F32:bL K "arrived" iq f32 d32)(F33:bL K "behind" je f33 d33)(F34:bL K "has_kind" gF f34 d34)(F35:bL K "is_home" il f35 d35)(F36:bL K "by_end" jd f36 d36)(F37:bL K "by_ends" ip f37 d37)(F38:bL K "ending" jc f38 d38)(F39:bL K "followers" dB f39 d39)(a40:XZ K (.ref cWeb) "__init__"=some (some (.ref f40)))(iF40:X1 K (.ref f40)=true)(F40:ci K "__init__" "Web.__init__" bX f40 d40)(a41:XZ K (.ref cWeb) "gather"=some (some (.ref f41)))(iF41:X1 K (.ref f41)=true)(F41:ci K "gather" "Web.gather" ef f41 d41)(a42:XZ K (.ref cWeb) "number"=some (some (.ref f42)))(iF42:X1 K (.ref f42)=true)(F42:ci K "number" "Web.number" dZ f42 d42)(a43:XZ K (.ref cWeb) "nexts"=some (some (.ref f43)))(iF43:X1 K (.ref f43)=true)(F43:ci K "nexts" "Web.nexts" dJ f43 d43)(a44:XZ K (.ref cWeb) "known"=some (some (.ref f44)))(iF44:X1 K (.ref f44)=true)(F44:ci K "known" "Web.known" fO f44 d44)(F45:bL K "are_holes" dG f45 d45)(a46:XZ K (.ref cBoard) "__init__"=some (some (.ref f46)))(iF46:X1 K (.ref f46)=true)(F46:ci K "__init__" "Board.__init__" bU f46 d46)(a47:XZ K (.ref cBoard) "has"=some (some (.ref f47)))(iF47:X1 K (.ref f47)=true)(F47:ci K "has" "Board.has" fP f47 d47)(a48:XZ K (.ref cBoard) "squares"=some (some (.ref f48)))(iF48:X1 K (.ref f48)=true)(F48:ci K "squares" "Board.squares" ce f48 d48)(a49:XZ K (.ref cBoard) "moved"=some (some (.ref f49)))(iF49:X1 K (.ref f49)=true)(F49:ci K "moved" "Board.moved" dt f49 d49)(a50:XZ K (.ref cBoard) "far_row"=some (some (.ref f50)))(iF50:X1 K (.ref f50)=true)(F50:ci K "far_row" "Board.far_row" cM f50 d50)(a51:XZ K (.ref cGame) "__init__"=some (some (.ref f51)))(iF51:X1 K (.ref f51)=true)(F51:ci K "__init__" "Game.__init__" cL f51 d51)(a52:XZ K (.ref cGame) "rules_of"=some (some (.ref f52)))(iF52:X1 K (.ref f52)=true)(F52:ci K "rules_of" "Game.rules_of" cb f52 d52)(a53:XZ K (.ref cGame) "turned"=some (some (.ref f53)))(iF53:X1 K (.ref f53)=true)(F53:ci K "turned" "Game.turned" dm f53 d53)(F54:bL K "_law_cell_at" cT f54 d54)(F55:bL K "_law_mixed" dU f55 d55)(F56:bL K "_law_kinds" dW f56 d56)(F57:bL K "_law_rule" fM f57 d57)(F58:bL K "_law_board" dY f58 d58)(F59:bL K "_law_game" fN f59 d59)(F60:bL K "_law_place" dS f60 d60)(F61:bL K "_law_starts" dk f61 d61)(F62:bL K "_law_going" dX f62 d62)(F63:bL K "_law_word" fK f63 d63)(F64:bL K "_law_same" fL f64 d64)(F65:bL K "_law_told" dI f65 d65)(F66:bL K "_law_numbered" cK f66 d66)(a67:X0 K Ri "law"=some (some (.ref f67)))(l67:K.lookup f67=some (ζL oc67 od67 "law" "law" jM kV67 dc67 pm67 an67 cd67 ct67 sl67))(c67:Yi K cd67 "law"=true)(k67:X6 K (.ref f67)=true)(pgXBoard:Yb K cBoard Ss=true)(hdXBoard:Yc K cBoard=true)(poXBoard:Yd K cBoard=true)(saXBoard:XZ K (.ref cBoard) "__setattr__"=some (some (.builtin "object.__setattr__")))(mkXBoard:Ye K cBoard=true)(kcXBoard:X6 K (.ref cBoard)=true)(naBoardwide:XZ K (.ref cBoard) "wide"=some none)(naBoardhigh:XZ K (.ref cBoard) "high"=some none)(naBoardholes:XZ K (.ref cBoard) "holes"=some none)(naBoardfirm:XZ K (.ref cBoard) "firm"=some none)(pgXGame:Yb K cGame Ss=true)(hdXGame:Yc K cGame=true)(poXGame:Yd K cGame=true)(saXGame:XZ K (.ref cGame) "__setattr__"=some (some (.builtin "object.__setattr__")))(mkXGame:Ye K cGame=true)(kcXGame:X6 K (.ref cGame)=true)(naGameboard:XZ K (.ref cGame) "board"=some none)(naGamekinds:XZ K (.ref cGame) "kinds"=some none)(naGamerules:XZ K (.ref cGame) "rules"=some none)(naGameturns:XZ K (.ref cGame) "turns"=some none)(naGameends:XZ K (.ref cGame) "ends"=some none)(naGamestuck:XZ K (.ref cGame) "stuck"=some none)(pgXWeb:Yb K cWeb Ss=true)(hdXWeb:Yc K cWeb=true)(poXWeb:Yd K cWeb=true)(saXWeb:XZ K (.ref cWeb) "__setattr__"=some (some (.builtin "object.__setattr__")))(mkXWeb:Ye K cWeb=true)(kcXWeb:X6 K (.ref cWeb)=true)(naWebgame:XZ K (.ref cWeb) "game"=some none)(naWebplaces:XZ K (.ref cWeb) "places"=some none)(naWebnumbers:XZ K (.ref cWeb) "numbers"=some none)(naWebways:XZ K (.ref cWeb) "ways"=some none)(naWebovers:XZ K (.ref cWeb) "overs"=some none)(geq:XZ K (.ref cGame) "__eq__"=some (some (.builtin "object.__eq__")))(z0:X0 K Ri "isinstance"=some none)(z1:X0 K Ri "int"=some none)(z2:X0 K Ri "bool"=some none)(z3:X0 K Ri "str"=some none)(z4:X0 K Ri "list"=some none)(z5:X0 K Ri "tuple"=some none)(z6:X0 K Ri "len"=some none)(z7:X0 K Ri "range"=some none)(z8:X0 K Ri "all"=some none)(z9:X0 K Ri "any"=some none)(z10:X0 K Ri "set"=some none)(z11:X0 K Ri "dict"=some none)(z12:X0 K Ri "sorted"=some none)(z13:X0 K Ri "min"=some none)(z14:X0 K Ri "enumerate"=some none)(z15:X0 K Ri "zip"=some none)(kg0:X0 K Ri "NOTHING"=some (some u0))(rv0:aU (.int (-1)) u0)(kg1:X0 K Ri "EMPTY"=some (some u1))(rv1:aU (.str ".") u1)(kg2:X0 K Ri "HOLE"=some (some u2))(rv2:aU (.str "#") u2)(kg3:X0 K Ri "MOST_PAIRS"=some (some u3))(rv3:aU (.int 6) u3)(kg4:X0 K Ri "MOST_KINDS"=some (some u4))(rv4:aU (.int 6) u4)(kg5:X0 K Ri "MOST_RULES"=some (some u5))(rv5:aU (.int 24) u5)(kg6:X0 K Ri "LONGEST"=some (some u6))(rv6:aU (.int 8) u6){tO0:YB}{tD0:Option YC}{tI0:Array YB}{tN0:Nat}{tS0:Array (Option YB)}(kt0:X0 K Ri "SORTS"=some (some (.ref aS)))(lt0:K.lookup aS=some ⟨tO0,tD0,.seq tI0 tN0,tS0⟩)(ctp0:tO0=.type "tuple")(zt0:tI0.size<=v1)(vt0:iP ([V.str "leap",V.str "slide",V.str "jump"]) tI0.toList){tO1:YB}{tD1:Option YC}{tI1:Array YB}{tN1:Nat}{tS1:Array (Option YB)}(kt1:X0 K Ri "AIMS"=some (some (.ref aA)))(lt1:K.lookup aA=some ⟨tO1,tD1,.seq tI1 tN1,tS1⟩)(ctp1:tO1=.type "tuple")(zt1:tI1.size<=v1)(vt1:iP ([V.str "go",V.str "hit",V.str "any"]) tI1.toList){tO2:YB}{tD2:Option YC}{tI2:Array YB}{tN2:Nat}{tS2:Array (Option YB)}(kt2:X0 K Ri "END_WORDS"=some (some (.ref aE)))(lt2:K.lookup aE=some ⟨tO2,tD2,.seq tI2 tN2,tS2⟩)(ctp2:tO2=.type "tuple")(zt2:tI2.size<=v1)(vt2:iP ([V.str "without",V.str "home"]) tI2.toList){tO3:YB}{tD3:Option YC}{tI3:Array YB}{tN3:Nat}{tS3:Array (Option YB)}(kt3:X0 K Ri "STUCK_WORDS"=some (some (.ref aW)))(lt3:K.lookup aW=some ⟨tO3,tD3,.seq tI3 tN3,tS3⟩)(ctp3:tO3=.type "tuple")(zt3:tI3.size<=v1)(vt3:iP ([V.str "lost",V.str "even",V.str "won"]) tI3.toList):∃fd:Rn,(∀s v,UQ s fd ⟨[v],[]⟩ [("_law_script",v)])/\∀QR:Rq,K.In QR->QR.Ns Ri mg->aX l.prog w K mg QR cI 10 fa fd ["_law_script"] (xr K):=by have e:=hfa.symm.trans (X2 X G a67);cases e;have T:Txt mg aS aA aE aW:=⟨X3 X G z0,X3 X G z1,X3 X G z2,X3 X G z3,X3 X G z4,X3 X G z5,X3 X G z6,X3 X G z7,X3 X G z8,X3 X G z9,X3 X G z10,X3 X G z11,X3 X G z12,X3 X G z13,X3 X G z14,X3 X G z15,⟨_,X2 X G kg0,rv0⟩,⟨_,X2 X G kg1,rv1⟩,⟨_,X2 X G kg2,rv2⟩,⟨_,X2 X G kg3,rv3⟩,⟨_,X2 X G kg4,rv4⟩,⟨_,X2 X G kg5,rv5⟩,⟨_,X2 X G kg6,rv6⟩,⟨_,X2 X G kt0,rfl⟩,⟨_,X2 X G kt1,rfl⟩,⟨_,X2 X G kt2,rfl⟩,⟨_,X2 X G kt3,rfl⟩⟩;have hT_SORTS:∀H,iO K H aS ["leap","slide","jump"]:=λH=>.inr (.inr ⟨_,tI0,tN0,lt0,ctp0,rfl,zt0,vt0⟩);have hT_AIMS:∀H,iO K H aA ["go","hit","any"]:=λH=>.inr (.inr ⟨_,tI1,tN1,lt1,ctp1,rfl,zt1,vt1⟩);have hT_END_WORDS:∀H,iO K H aE ["without","home"]:=λH=>.inr (.inr ⟨_,tI2,tN2,lt2,ctp2,rfl,zt2,vt2⟩);have hT_STUCK_WORDS:∀H,iO K H aW ["lost","even","won"]:=λH=>.inr (.inr ⟨_,tI3,tN3,lt3,ctp3,rfl,zt3,vt3⟩);have b40:=F40.binds (ps:=["self","game","starts","most"]) λ_ _ _ _ _ _=>L2.Pg (λ_ _ _ _=>rfl);have b41:=F41.binds (ps:=["self","found","most"]) λ_ _ _ _ _ _=>L2.ln3 (λ_ _ _=>rfl);have b42:=F42.binds (ps:=["self","place"]) λ_ _ _ _ _ _=>L2.LB (λ_ _=>rfl);have b43:=F43.binds (ps:=["self"]) λ_ _ _ _ _ _=>L2.ln1 (λ_=>rfl);have b44:=F44.binds (ps:=["self"]) λ_ _ _ _ _ _=>L2.ln1 (λ_=>rfl);have b46:=F46.binds (ps:=["self","wide","high","holes"]) λ_ _ _ _ _ _=>L2.Pg (λ_ _ _ _=>rfl);have b47:=F47.binds (ps:=["self","square"]) λ_ _ _ _ _ _=>L2.LB (λ_ _=>rfl);have b48:=F48.binds (ps:=["self"]) λ_ _ _ _ _ _=>L2.ln1 (λ_=>rfl);have b49:=F49.binds (ps:=["self","square","across","up"]) λ_ _ _ _ _ _=>L2.Pg (λ_ _ _ _=>rfl);have b50:=F50.binds (ps:=["self","side"]) λ_ _ _ _ _ _=>L2.LB (λ_ _=>rfl);have b51:=F51.binds (ps:=["self","board","kinds","rules","turns","ends","stuck"]) λ_ _ _ _ _ _=>L2.ln7 (λ_ _ _ _ _ _ _=>rfl);have b52:=F52.binds (ps:=["self","kind"]) λ_ _ _ _ _ _=>L2.LB (λ_ _=>rfl);have b53:=F53.binds (ps:=["self","kind"]) λ_ _ _ _ _ _=>L2.LB (λ_ _=>rfl);have F67:=wv (st:=jM) l67 c67 k67;have b67:=F67.binds (ps:=["_law_script"]) λ_ _ _ _ _ _=>L2.ln1 (λ_=>rfl);have cl_Board:oA K cBoard:=⟨pgXBoard,hdXBoard,poXBoard,saXBoard⟩;have cl_Game:oA K cGame:=⟨pgXGame,hdXGame,poXGame,saXGame⟩;have cl_Web:oA K cWeb:=⟨pgXWeb,hdXWeb,poXWeb,saXWeb⟩;refine⟨X7 "law" "law" (gq jM) (eU jM) (am jM) .none kV67 dc67 pm67 an67 cd67 ct67,λs v=>.of_eq rfl,λQR _ _=>?_⟩;have M:= @mD l.prog w QR K h mg X G;have C_is_whole:=M F1 (t6 F1.2 T);have C_is_letter:=M F2 (rc F2.2 T);have C_is_among:=M F3 (ub F3.2 T ⟨C_is_whole⟩);have C_is_word:=M F4 (vX F4.2 T);have C_is_tuple_of:=M F5 (ny F5.2 T);have C_is_list_of:=M F6 (oK F6.2 T);have C_is_step:=M F7 (vY F7.2 T ⟨C_is_among⟩);have R2:RG2 l.prog w K mg QR:=⟨C_is_word,C_is_tuple_of⟩;have R3:RG3 l.prog w K mg QR:={toRG2:=R2,is_step:=C_is_step};have C_is_rule:=M F8 (vZ F8.2 T hT_SORTS hT_AIMS R3);have C_is_pair:=M F9 (v3 F9.2 T R2);have C_are_pairs:=M F10 (rk F10.2 T ⟨C_is_list_of,C_is_pair⟩);have C_is_ends:=M F12 (v5 F12.2 T hT_END_WORDS ⟨C_are_pairs⟩);have C_is_turns:=M F11 (t7 F11.2 T ⟨C_are_pairs⟩);have G1:QG l.prog w K mg QR:=⟨C_is_list_of,C_is_letter,C_is_rule⟩;have C_are_kinds:=M F13 (rp F13.2 T G1);have C_are_rules:=M F14 (rj F14.2 T G1);have G2:GG2 l.prog w K mg QR:=⟨C_are_kinds,C_are_rules,C_is_turns,C_is_ends,C_is_word⟩;have GC:uZ K cGame:=⟨cl_Game,naGameboard,naGamekinds,naGamerules,naGameturns,naGameends,naGamestuck⟩;have C_Game:lY l.prog w K mg QR "Game" cGame _ _ _:=⟨f51,_,⟨mkXGame,a51,iF51,kcXGame⟩,rH F51 T hT_STUCK_WORDS GC G2,X2 X G aCGame,b51⟩;have DA:CA l.prog w K mg QR:=⟨Lp C_is_among⟩;have C_are_holes:=M F45 (rz F45.2 T DA);have DB2:CB2 l.prog w K mg QR:={toCA:=DA,are_holes:=C_are_holes};have BC:jK K cBoard:=⟨cl_Board,naBoardwide,naBoardhigh,naBoardholes,naBoardfirm⟩;have C_Board:lY l.prog w K mg QR "Board" cBoard _ _ _:=⟨f46,_,⟨mkXBoard,a46,iF46,kcXBoard⟩,oV F46 T BC DB2,X2 X G aCBoard,b46⟩;have C_column_of:=M F28 (rh F28.2 T);have C_row_of:=M F29 (zn F29.2 T);have C_square_at:=M F30 (ra F30.2 T);have C_Board_moved:fV l.prog w K mg QR cBoard "moved" _ _ _:=⟨⟨f49,_,nB F49 T BC ⟨C_column_of,C_row_of,C_square_at⟩,⟨a49,iF49,F49.kp⟩,b49⟩,cl_Board⟩;have DB3:CB3 l.prog w K mg QR cBoard:={toCB2:=DB2,Board:=C_Board,Board_moved:=C_Board_moved};have C_ray:=M F23 (Ku F23.2 T BC DB3);have C_kind_of:=M F16 (vW F16.2 T);have C_side_of:=M F17 (vV F17.2 T);have C_sign_of:=M F15 (vU F15.2 T);have C_squares_of:=M F19 (oH F19.2 T ⟨C_side_of⟩);have C_put:=M F18 (Kv F18.2 T);have C_Board_has:fV l.prog w K mg QR cBoard "has" _ _ _:=⟨⟨f47,_,rJ F47 T BC DA,⟨a47,iF47,F47.kp⟩,b47⟩,cl_Board⟩;have C_empty_row:=M F20 (rf F20.2 T BC ⟨C_Board_has⟩);have C_is_row:=M F21 (zp F21.2 T BC GC ⟨C_sign_of,C_empty_row⟩);have C_is_place:=M F22 (ua F22.2 T ⟨C_is_tuple_of,C_is_among,C_is_row⟩);have C_Game_turned:fV l.prog w K mg QR cGame "turned" _ _ _:=⟨⟨f53,_,nA F53 T GC,⟨a53,iF53,F53.kp⟩,b53⟩,cl_Game⟩;have S1:CRs l.prog w K mg QR:=⟨C_side_of⟩;have C_slid:=M F24 (DN F24.2 T S1);have C_jumped:=M F25 (zo F25.2 T S1);have S2:CRb l.prog w K mg QR cBoard:={toCRs:=S1,ray:=C_ray,jumped:=C_jumped,slid:=C_slid};have C_by_rule:=M F26 (v6 F26.2 T S2);have C_Game_rules_of:fV l.prog w K mg QR cGame "rules_of" _ _ _:=⟨⟨f52,_,lu F52 T GC,⟨a52,iF52,F52.kp⟩,b52⟩,cl_Game⟩;have C_goals:=M F27 (Bs F27.2 T GC ⟨C_kind_of,C_by_rule,C_Game_rules_of⟩);have C_moves:=M F31 (Br F31.2 T ⟨C_squares_of,C_goals⟩);have C_has_kind:=M F34 (uc F34.2 T ⟨C_sign_of⟩);have C_Board_far_row:fV l.prog w K mg QR cBoard "far_row" _ _ _:=⟨⟨f50,_,lx F50 T BC,⟨a50,iF50,F50.kp⟩,b50⟩,cl_Board⟩;have C_is_home:=M F35 (v4 F35.2 T BC ⟨C_has_kind,C_Board_far_row⟩);have C_by_end:=M F36 (zr F36.2 T ⟨C_has_kind,C_is_home⟩);have C_by_ends:=M F37 (v7 F37.2 T GC ⟨C_by_end⟩);have C_ending:=M F38 (zq F38.2 T GC ⟨C_by_ends,C_moves⟩);have C_arrived:=M F32 (v8 F32.2 T BC GC ⟨C_kind_of,C_sign_of,C_row_of,C_Board_far_row,C_Game_turned⟩);have C_behind:=M F33 (zt F33.2 T ⟨C_arrived,C_put⟩);have C_followers:=M F39 (re F39.2 T ⟨C_by_ends,C_moves,C_behind⟩);have WC:u7 K cWeb:=⟨cl_Web,naWebgame,naWebplaces,naWebnumbers,naWebways,naWebovers⟩;have C_Web_gather:fV l.prog w K mg QR cWeb "gather" _ _ _:=⟨⟨f41,_,oU F41 T WC,⟨a41,iF41,F41.kp⟩,b41⟩,cl_Web⟩;have C_Web_number:fV l.prog w K mg QR cWeb "number" _ _ _:=⟨⟨f42,_,oS F42 T WC ⟨C_is_place⟩,⟨a42,iF42,F42.kp⟩,b42⟩,cl_Web⟩;have C_Web_nexts:fV l.prog w K mg QR cWeb "nexts" _ _ _:=⟨⟨f43,_,rF F43 T WC,⟨a43,iF43,F43.kp⟩,b43⟩,cl_Web⟩;have C_Web_known:fV l.prog w K mg QR cWeb "known" _ _ _:=⟨⟨f44,_,rG F44 T WC,⟨a44,iF44,F44.kp⟩,b44⟩,cl_Web⟩;have C_Web:lY l.prog w K mg QR "Web" cWeb _ _ _:=⟨f40,_,⟨mkXWeb,a40,iF40,kcXWeb⟩,ud F40 T WC ⟨C_is_place,C_followers,C_ending,C_Web_gather⟩,X2 X G aCWeb,b40⟩;have C_Board_squares:fV l.prog w K mg QR cBoard "squares" _ _ _:=⟨⟨f48,_,lv F48 T BC,⟨a48,iF48,F48.kp⟩,b48⟩,cl_Board⟩;have C__law_cell_at:=M F54 (me F54.2 T);have C__law_mixed:=M F55 (oN F55.2 T ⟨C__law_cell_at⟩);have C__law_kinds:=M F56 (oO F56.2 T);have C__law_rule:=M F57 (rD F57.2 T);have C__law_board:=M F58 (oQ F58.2 T ⟨C_Board⟩);have C__law_game:=M F59 (rE F59.2 T ⟨C__law_cell_at,C__law_mixed,C__law_kinds,C__law_rule,C__law_board,C_Game⟩);have C__law_place:=M F60 (oM F60.2 T BC GC ⟨C_Board_squares⟩);have C__law_starts:=M F61 (nz F61.2 T ⟨C__law_mixed,C__law_place⟩);have C__law_going:=M F62 (oP F62.2 T ⟨C_followers⟩);have C__law_word:=M F63 (rA F63.2 T ⟨C_ending⟩);have C__law_same:=M F64 (rC F64.2 T);have C__law_told:=M F65 (rB F65.2 T WC ⟨C_Web_known,C_Web_nexts,C__law_same⟩);have C__law_numbered:=M F66 (lq F66.2 T WC ⟨C_Web_number⟩);have C:CL l.prog w K mg QR cBoard cGame cWeb:=⟨C__law_cell_at,C__law_mixed,C__law_game,C__law_place,C__law_starts,C_Web,C__law_going,C__law_word,C__law_told,C__law_numbered,C_Web_known,C_Web_nexts,C_Web_number⟩;exact Kw F67 T WC GC geq C
def walk{l:PySem.W.OpenLaw}{q:Rg}{loose:List Str}{XP:(Q3)->Rq->Prop}{YP:Rk->Rq->Prop}{d:DefRec}{K:TV->Frag}(hn:l.most=some 63)(hdf:d.params.defaults=[])(hY:∀w h,YP w h->(K w.params).In h)(F:∀w mg fa h,(K w.params).In h->h.Ns Ri mg->mg d.name=some (.ref fa)->
   ∃fd:Rn,(∀s u,UQ s fd ⟨[u],[]⟩ [("_law_script",u)])/\∀QR:Rq,(K w.params).In QR->QR.Ns Ri mg->aX l.prog w (K w.params) mg QR cI 10 fa fd ["_law_script"] (xr (K w.params))):PySem.W.WalkO q loose XP YP l.row.toRowW d [] (λf vs=>PySem.call f vs):=
 L2.C9 (n:=63) (k:=10) (x:="_law_script") (CX:=λ_=>cI) (sp:=λw=>xr (K w.params)) hn (by decide) hdf ⟨rfl,by decide,by decide⟩ hY F (λ_ _ a ns hl _ hS=>⟨a,ns,rfl,hS,hl,λ_=>rfl⟩) λ_ _ _ _ _ z=>z
end K19
namespace PySem.W
open Fast in
set_option maxRecDepth 100000 in
set_option maxHeartbeats 0 in
def wsaid:PySem.Challenge.rw_playboard_k19_whole_webs.wellSaid=true:=by
 unfold OpenLaw.wellSaid
 (repeat' (with_reducible first|refine look_both ?_ ?_|(unfold OpenRow.wellSaid)|(unfold OpenRow.partSaid)|(unfold OpenScript.wellSaid)|(unfold OpenRowC.wellSaid)|(unfold looksOpen)))<;>as_aux_lemma=>
  (repeat (first|rw[te10501279942588096481]|rw[te10792542408131684335]|rw[te11788848310118352699]|rw[te12749700546528644094]|rw[te12862048085361865435]|rw[te12879404354523853263]|rw[te13343964577679436407]|rw[te13582783067957832011]|rw[te14412699480532031325]|rw[te16286561074155671207]|rw[te17095254045102204799]|rw[te17119622794617984870]|rw[te17691160309236699985]|rw[te17868728402115742887]|rw[te18344453789297297638]|rw[te2357444279172408678]|rw[te2368527892694137696]|rw[te3471404346716756564]|rw[te4274047373036748609]|rw[te4579403493507170074]|rw[te482687673346738481]|rw[te4857012375875476094]|rw[te5318747976498570220]|rw[te5923862056798008813]|rw[te6984425678791042302]|rw[te7723801398212525404]|rw[te797321630700447069]|rw[te8179353310426384613]|rw[te8326940854005059898]|rw[te8377067652309620493]|rw[te9558739934217749035]|rw[te9572597257264208301]|rw[te9706382859710513879]|rw[te9807087744658564304]))
  kernel_rfl
end PySem.W
open PySem PySem.W PyProof.Rows
set_option maxRecDepth 100000 in
set_option maxHeartbeats 0 in
theorem PySem.Challenge.cw_playboard_k19_whole_webs_holds : PySem.Challenge.rw_playboard_k19_whole_webs.Holds := by
 w_on
 refine PySem.W.holds_law PySem.W.wsaid λsaid=>?_;refine PySem.W.holds_openX (q:=K19.hQ) (loose:=[]) (Xt:=K19.hX) (XP:=PySem.W.XL K19.hQ []) (Yf:=L2.xZ K19.hA) (Ya:=L2.xY K19.hK) K19.hleft (λs e=>PySem.W.xl_of s (XD.mp e).1) PySem.W.XL.keeps (by rfl) (by rfl) (by rfl) (λs e=>PySem.W.recFacts_of (XD.mp e).2) (by rfl) (by first|assumption|decide+kernel) (by decide+kernel) ⟨rfl,rfl,rfl,rfl,rfl,by decide+kernel⟩ ?hw ?hc
 (case hw=>w_witness2)
 k_fill
 refine L2.Au (L2.Oo (λ_=>by kernel_rfl)) ?_;refine K19.walk (l:=PySem.Challenge.rw_playboard_k19_whole_webs) rfl rfl (λw h Y=>Y) ?F
 case F=>
  intro w mg fa h KX G hmg;apply K19.all_mk KX G hmg
  any_goals first|exact⟨by k_is,L2.wv (by k_is) (by k_is) (by k_is)⟩|exact L2.wv (by k_is) (by k_is) (by k_is)|k_is|exact⟨_,rfl⟩|kernel_rfl|decide|exact .cons ⟨_,rfl⟩ (.cons ⟨_,rfl⟩ .nil)|exact .cons ⟨_,rfl⟩ (.cons ⟨_,rfl⟩ (.cons ⟨_,rfl⟩ .nil))|skip
