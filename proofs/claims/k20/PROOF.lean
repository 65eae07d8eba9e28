import PyProof.Rows.All
import Wide.All
import OpenK.AllK
import PySem.Challenge.RW_playboard_k20_webs_refused
set_option Elab.async false
set_option linter.all false
set_option maxRecDepth 100000
set_option maxHeartbeats 4000000
set_option compiler.extract_closed false
open List renaming length_map->VN,mem_cons->VO,mem_map->VP,getElem?_eq_getElem->VQ,mem_singleton->VR,size_toArray->VS,getElem?_map->VT,mem_cons_of_mem->VU,length_append->VV,mem_cons_self->VW,getD_eq_getElem?_getD->VX,mem_append->VY,map_append->VZ,map_map->V0,length_cons->V1,map_cons->V2,not_mem_nil->V3,mem_range->V4,getElem?_eq_some_iff->V5,mem_append_right->V6,getElem_mem->V7,length_take->V8,append_nil->V9,mem_of_getElem?->Wa,all_cons->Wb,all_eq_true->Wc,mem_filterMap->Wd,length_range->We,getElem?_eq_none->Wf,mem_filter->Wg,mem_append_left->Wh,append_assoc->Wi,filter_eq_self->Wj,nodup_cons->Wk,pairwise_map->Wl,getElem?_range->Wm,lookup_cons->Wn,map_congr_left->Wo,length_filter_le->Wp,length_drop->Wq,any_cons->Wr,replicate_succ->Ws,find?_cons->Wt,getElem_of_mem->Wu,any_eq_true->Wv,take_length->Ww,filterMap_cons->Wx,nodup_nil->Wy,ext_getElem?->Wz,range_succ->WA,set_cons_zero->WB,any_eq_false->WD,getElem?_append_left->WE,flatten_cons->WF,pairwise_cons->WG,take_add_one->WH,of_mem_zip->WI,map_nil->WJ,drop_eq_getElem_cons->WK,take_of_length_le->WL,nodup_append->WM,nodup_iff_pairwise_ne->WN,filter_cons->WO,all_map->WP,getElem?_set_self->WQ,getElem?_append_right->WR,getElem?_replicate->WS,length_set->WT,foldl_cons->WU,length_singleton->WV,length_nil->WW,forIn_cons->WX,length_eq_zero_iff->WY,drop_zero->WZ,pairwise_iff_getElem->W1,take_append_drop->W2,length_eraseIdx_of_lt->W9,length_erase_of_mem->Xa,length_pos_of_mem->Xb,mem_erase_of_ne->Xc,getElem_append_left->Xd,getElem_append_right->Xe,any_map->Xf,getElem?_toArray->Xg,getElem?_of_mem->Xh,mem_of_mem_take->Xi,sum_cons->Xj,set_cons_succ->Xk,take_succ_eq_append_getElem->Xl,all_eq_false->Xm,getElem?_set_ne->Xn,getElem?_take_of_lt->Xo,take_sublist->Xp,length_replicate->Xq,mem_iff_getElem->Xr,pairwise_append->Xs,mem_drop_iff_getElem->Xu,perm_cons_erase->Xv,filter_append->Xw,pairwise_singleton->Xx,filter_congr->Xy,getElem?_zipWith->Xz,getElem_range->XA,length_flatMap->XB,getElem?_set->XC
open Nat renaming le_refl->XD,ne_of_lt->XE,zero_le->XF,le_trans->XG,lt_of_lt_of_le->XH,le_succ->XI,ne_of_gt->XJ,lt_irrefl->XM,lt_trans->XO,lt_succ_self->XQ,le_add_right->XR,le_of_eq->XS,lt_succ_of_lt->XT,zero_add->XU,le_of_lt->XV,succ_ne_self->XW,lt_trichotomy->XX,mod_lt->XY,succ_pos->XZ,add_comm->X0,eq_zero_or_pos->X1
open Int renaming toNat_natCast->X2,emod_nonneg->X3,emod_lt_of_pos->X4,mul_le_mul->X5,mul_comm->X6,mul_le_mul_of_nonneg_left->X7,one_mul->X8,mul_nonneg->X9,toNat_of_nonneg->Yb,mul_le_mul_of_nonneg_right->Yc
open Bool renaming false_ne_true->Yd,and_eq_true->Ye,eq_iff_iff->Yg,false_eq_true->Yh,not_eq_true'->Yi,true_and->Yj,and_eq_true_iff->Yk,not_eq_false'->Yl,or_false->Ym,and_false->Yn,or_eq_true->Yo,not_true->Yp,eq_false_iff->Yq
open Array renaming getElem?_eq_getElem->Yr,getElem?_toList->Ys,length_toList->Yt,getElem?_eq_none->Yu,size_map->Yv,toList_inj->Yw,toList_push->Yx,getElem_toList->Yy,forIn_toList->Yz
open Option renaming map_eq_some_iff->YA,isSome_iff_exists->YB,getD_none->YC,isSome_map->YD
open PySem.W renaming findIn->YE,nsIn->YF,kitOne->YG,mg_of->YH,mg_none_of->YI,isFn->YJ,kia_one->YK,topRun->YL,keepIn->YM,fnOf->YN,emptyDict->YO,instObj->YQ,plainGet->YR,mroIn->YS,excIn->YT,exmOne->YU,hideAll_get->YV,hasDictIn->YW,callWith_K->YX,plainOver->YY,makesIn->YZ,lookIn->Y0,codeIn->Y1,boot_heap->Y2,methodObj->Y3,plainGet_of->Y4,takerIn->Y5,cellsFrom_some->Y6,methodCall_KW->Y7,doneF->Y8,hideAll->Y9,of_hideAll->Za,handedIn->Zb,specialIn->Zc,takesIn->Zd,kitx_list->Ze,kitx_dict->Zf,codeRec_of->Zg,kitAny->Zh,boot_o_2->Zi,topStub->Zj,segRun->Zk,blockOf->Zl,restOf->Zm
open PySem.W (Frag)
open PySem renaming wpAny_bind->RM,wpAny_pure->RN,Shared->RQ,wpAny->RR,starEach->RS,Program->RU,mainGlobals->RV,sizeLine_eq->RW,model->RX,World->RZ,FuncData->R7,bootBuiltins->R8,Heap->R9,wpAny_holding->Sa,Stmt->Sb,IsTupleKey->Sc,treeTable->Sf,wpAny_callSpecial?_slot->Sh,wpAny_truthy_bool->Si,backTo->Sj,codeAny_builtin->Sl,wpAny_call_entry->Sn,eval->Sr,wpAny_seqItems->Ss,compareOp->Sv,wpAny_mono->Sx,Expr->Sz,codeAny_mono->SB,attributeBase->SE,wpAny_newObj_type->SF,wpAny_Call_method_late->SH,Around->SJ,cLine->SK,wpAny_Call_Name_kw->SL,wpAny_field->SO,Builtin->SS,wpAny_attempt->SZ,wpAny_passesOwn->S4,wpAny_pyIter_list->S5,keywordEach->S6,pyNext->S7,strIterType->Td,sliceBounds->Te,wpAny_setField_rec->Tf,wpAny_execs_nil->Th,plainId_quiet->Ti,builtinLookup_eq_fast->Tj,IsPair->Tk,codeAny->Tl,wpAny_setField->Tn,wpAny_call->To,setEntries->Tp,codeAny_call_builtin->Tq,wpAny_typeOf->Tr,wpAny_isInstance->Ts,Keyword->Tw,binaryOp->TC,importedModules->TD,holding->TF,call_meets->TJ,assignEach->TL,pickOrder->TM,wpAny_pyIter_enum->TN,backToKw->TQ,Scope->TV,OsState->TW,swapsWith->TX,wpAny_specialOf->T3,typeLookup_type->T4,rawInt->T5,letOwnedTupleGo->T6,wpAny_newFunctionEnv_cells->Uc,wpAny_letOwnedTupleGo_enum->Ud,wpAny_fieldsOf->Ue,typeIs_str->Uf,tupleKind_room_in1->Ug,recursionLimit->Uh,isSubtype_stop->Ui,firstArgMember->Uj,wpAny_of_eq->Ur,ofAClassStatement->Us,foldedSetIterable->Ut,IsZip->Uv,Params->Uz,wpAny_pyNext_enum_itemD->UD,wpAny_forIn_list->UE,wpAny_execs_cons->UF,wpAny_askSetting->UG,checkBuiltinCall->UH,wpAny_rule->UJ,wpAny_pyNext_list_item->UK,typeLookup->UL,setNext->UN,wpAny_updateSeq->UP,wpAny_ite_split->UQ,codeAny_of_tree->UR,wpAny_pyNext_list_end->UT,wpAny_isTrue_Compare1->UU,wpAny_eqIsQuiet_tuple->UV,weight_type_call_type->UW,codeAny_call_function->UX,wpAny_runValue->UZ,wpAny_listPart->U0,subscripted->U1,isSubtype_type->U2,fitsIndex_both->U3,GenState->U5,valueAt->U6,tupleKind->U7,standAt->U8,getMethod->U9,callerA->Va,Pos->Vb,BindsTo->Vd,wpAny_onRaise->Ve,setSearchFrom->Vg,sliceRange->Vk,seqIndex_neg->Vn,relabel->Vo,getItem->Vr,typeOf->Vw,lastMarks->Vx,isTrue->Vz,cellsFrom->VA,Paired->VB,atKey->VC,setItem->VD,Env->VE,stored->VF,bindL->VG,bindC->VH,IsPart->VI,CmpOp->VJ,Tok->VL,sizeLine->v1,Value->Zn,Addr->Zo
open PySem.Heap renaming get?_push_of_some->RO,lt_size->RP,get?_push_size->RT,size_push->Se,SameBut->So,get?_update_other->SY,get?_update_self->S3,get?_none_of_le->T2
open PySem.Value renaming ref->RY,none->SV,str->Tt,int->Tu,type->Uk,isInt->Uu,isStrOf->Vh,builtin->Vi,bool->Vm
open PySem.SetTable renaming below->R0,insertAt->Sd,runEnd->Sm,bits->Su,sizeAbove->SM,turns->S0,insertAt_perm->TR,advance->TY,grown->Ul,toList_insertAt->Ux,slot->Uy,Probe->U4,fits->Vj,has->Vt
open PySem.Around renaming under_plainId->Sk,under->Vv
open PySem.Builtin.Str renaming strSliceIndices->Sq,occurrences->SR,tooLong->Tz
open PySem.Calls renaming callWith_builtin->Sw,evalArgs_plain->SD,Name_function_global->Uo
open PySem.Heap.SameBut renaming update->Sy
open PySem.Builtin.SmallTypes renaming ownedTupleIsFree->SA,nextOf->Tx,ownedTupleHandOut->TB
open PyProof.Rows.F renaming plain_set_update_loop->SC,entry_set_update_loop->Tc
open PySem.SetTable.layClean renaming free->SI
open PySem.Obj renaming mapSeq->SN,putSet->UO
open PySem.SetTable.probe renaming go->SQ
open PyProof.Rows renaming envOfC->SU,seqObj->Tg,AllBare->T0,subscriptTail_builtinR->UM,IntsAre->Vc,subscriptTail->Vf,lo1->VM
open PySem.PassesOwn renaming never->SW
open PySem.Str renaming ofString->SX,empty->Tb
open PySem.NameKind renaming free->S8,cell->UB
open PySem.Builtin.List renaming listTooLong->S9,listSameRef->Ta,listSubscript?->T9,listLengthHint->Ua,listExtendWith->Ub,listAllItems->Uq
open PySem.W.KasT renaming kasWp_bind->TH
open PySem.SetTable.below renaming go->TU
open PySem.Shared renaming TypeIs->TZ
open PySem.F renaming slot_zip_next->T7,slot_enumerate_next->UY
open PySem.Builtin.Frozenset renaming updateFrom->T8,sizeOf->UC
open PySem.Code renaming quiet_builtin->Um,isFrame->Vu
open PySem.EqBoolInt renaming of_rcne->Uw
open PySem.Paired renaming length->UA
open PySem.Builtin.Dict renaming updateFrom->UI
open PySem.Unicode renaming lowerAt->US
open PySem.Walks renaming list->Vl
open PySem.pickOrder renaming go->Vp
open PySem.W renaming looks_findIn->Vq,kas_place->Vy
open PySem.Txt renaming join->Vs
abbrev Ry:=@decide_eq_true
abbrev RA:=@decide_eq_false
abbrev RB:=@if_neg
abbrev RC:=@if_pos
abbrev RD:=@of_decide_eq_true
abbrev RE:=@of_decide_eq_false
abbrev RF:=@absurd
abbrev RH:=@Option.some.inj
abbrev RI:=@congrArg
abbrev RJ:=PySem.Str->Option PySem.Value
abbrev RK:=PySem.Value->PySem.Shared->Prop
abbrev RL:=List (PySem.Addr×PySem.Obj)
noncomputable section
namespace L2
open PySem PySem.Spec PyProof.Rows
abbrev Key:=Sum Int Str
noncomputable def pN:Key->Zn->Bool
 | .inl k,v=>Uu k v
 | .inr x,v=>Vh x v
noncomputable def Q2(w:RZ):Key->Int
 | .inl k=>hashInt k
 | .inr x=>hashStr w x
def ce:∀{k:Key}{v:Zn},pN k v=true->(∃i t,k=Sum.inl i/\v=Tu i t)\/(∃x t,k=Sum.inr x/\v=Tt x t)
 | .inl i,v,h=>by obtain⟨t,e⟩:=Value.isInt_shape (k:=i) (v:=v) h;exact .inl ⟨i,t,rfl,e⟩
 | .inr x,v,h=>by obtain⟨t,e⟩:=Value.isStrOf_shape (x:=x) (v:=v) h;exact .inr ⟨x,t,rfl,e⟩
def zL(i:Int)(t:VL):pN (.inl i) (.int i t)=true:=by simp[pN,Uu]
def zK(x:Str)(t:VL):pN (.inr x) (.str x t)=true:=by simp[pN,Vh]
def Ld(a b:Int):decide ((Sum.inl a:Key)=Sum.inl b)=(a == b):=by
 by_cases e:a=b
 .subst e;simp
 .have h:¬(Sum.inl a:Key)=Sum.inl b:=λq=>e (Sum.inl.inj q);rw[RA h];exact(beq_eq_false_iff_ne.mpr e).symm
def La(a b:Str):decide ((Sum.inr a:Key)=Sum.inr b)=decide (a=b):=by
 by_cases e:a=b
 .subst e;simp
 .have h:¬(Sum.inr a:Key)=Sum.inr b:=λq=>e (Sum.inr.inj q);rw[RA h,RA e]
def Lc(a:Int)(b:Str):decide ((Sum.inl a:Key)=Sum.inr b)=false:=RA (λq=>nomatch q)
def Lb(a:Str)(b:Int):decide ((Sum.inr a:Key)=Sum.inl b)=false:=RA (λq=>nomatch q)
noncomputable def mixKind(prog:RU)(w:RZ):PySem.KeyKind prog w Key where
 is:=pN
 hash:=Q2 w
 inj:=λv a b ha hb=>by
  rcases ce ha with⟨i,t,rfl,rfl⟩|⟨x,t,rfl,rfl⟩
  .rcases ce hb with⟨j,u,rfl,e⟩|⟨y,u,rfl,e⟩
   .injection e with e1 _;rw[e1]
   .exact nomatch e
  .rcases ce hb with⟨j,u,rfl,e⟩|⟨y,u,rfl,e⟩
   .exact nomatch e
   .injection e with e1 _;rw[e1]
 byValue:=λk v h=>by
   rcases ce h with⟨i,t,rfl,rfl⟩|⟨x,t,rfl,rfl⟩<;>rfl
 pyHash:=λhv h=>by
  rcases ce hv with⟨i,t,rfl,rfl⟩|⟨x,t,rfl,rfl⟩
  .exact wpAny_pyHash_int h
  .exact wpAny_pyHash_str h
 eqBool:=λhu hv h=>by
  rcases ce hu with⟨i,t,rfl,rfl⟩|⟨x,t,rfl,rfl⟩
  .rcases ce hv with⟨j,u,rfl,rfl⟩|⟨y,u,rfl,rfl⟩
   .rw[Ld]at h;exact wpAny_eqBool_int h
   .rw[Lc]at h;exact SeqAt.EqAt.int_str i t y u _ _ _ _ h
  .rcases ce hv with⟨j,u,rfl,rfl⟩|⟨y,u,rfl,rfl⟩
   .rw[Lb]at h;exact SeqAt.EqAt.str_int x t j u _ _ _ _ h
   .rw[La]at h;exact wpAny_eqBool_str h
 «strs» :=λk x t v h=>by
  rcases ce h with⟨i,u,rfl,e⟩|⟨y,u,rfl,e⟩
  .exact nomatch e
  .injection e with e1 _;subst e1;cases v<;>rfl
def t7(prog:RU)(w:RZ)(i:Int)(t:VL):(mixKind prog w).is (.inl i) (.int i t)=true:=zL i t
def t6(prog:RU)(w:RZ)(x:Str)(t:VL):(mixKind prog w).is (.inr x) (.str x t)=true:=zK x t
inductive V where
 |non|bl (b:Bool)|int (i:Int)|str (x:Str)|byt (b:Array UInt8)|flt (b:UInt64)|ref (a:Zo)|ty (n:String)|tok (x:Str) (t:Nat)
 deriving DecidableEq
def aQ:V->Zn->Prop
 | .non,u=>u=SV
 | .bl b,u=>u=Vm b
 | .int i,u=>∃t,u=Tu i t
 | .str x,u=>∃t,u=Tt x t
 | .byt b,u=>∃t,u=Value.bytes b t
 | .flt b,u=>∃t,u=Value.float b t
 | .ref a,u=>u=RY a
 | .ty n,u=>u=Uk n
 | .tok x t,u=>u=Tt x t
abbrev aT:List V->List Zn->Prop:=VB aQ
theorem aT.length(r:aT xs us):xs.length=us.length:=UA r
theorem aT.get:∀{xs:List V}{us:List Zn}{i:Nat}{x:V},aT xs us->xs[i]? =some x->∃u,us[i]? =some u/\aQ x u
 |_,_,_,_,.nil,e=>by simp at e
 |_,_,0,_,.cons r _,e=>by simp at e;subst e;exact⟨_,rfl,r⟩
 |_,_,i+1,x,.cons _ t,e=>by obtain⟨u,h1,h2⟩:=aT.get (i:=i) (x:=x) t (by simpa using e);exact⟨u,by simpa using h1,h2⟩
theorem aT.set(r:aQ x u):∀{xs:List V}{us:List Zn}(i:Nat),aT xs us->aT (xs.set i x) (us.set i u)
 |_,_,_,.nil=>.nil
 |_,_,0,.cons _ t=>.cons r t
 |_,_,i+1,.cons q t=>.cons q (aT.set r i t)
theorem aT.append:∀{xs ys:List V}{us ws:List Zn},aT xs us->aT ys ws->aT (xs++ys) (us++ws)
 |_,_,_,_,.nil,s=>s
 |_,_,_,_,.cons r t,s=>.cons r (aT.append t s)
theorem aT.take:∀{xs:List V}{us:List Zn}(n:Nat),aT xs us->aT (xs.take n) (us.take n)
 |_,_,0,_=>.nil
 |_,_,_+1,.nil=>.nil
 |_,_,n+1,.cons r t=>.cons r (aT.take n t)
theorem aT.drop:∀{xs:List V}{us:List Zn}(n:Nat),aT xs us->aT (xs.drop n) (us.drop n)
 |_,_,0,r=>r
 |_,_,_+1,.nil=>.nil
 |_,_,n+1,.cons _ t=>aT.drop n t
def iX:Option V->Option Zn->Prop
 |some v,some u=>aQ v u
 |none,none=>True
 |_,_=>False
def KV{κ:Type}:List (κ×V)->List (κ×Zn)->Prop:=VB λ(p:κ×V)(q:κ×Zn)=>p.1=q.1/\aQ p.2 q.2
noncomputable def kV:Key->V
 | .inl i=>.int i
 | .inr x=>.str x
inductive HO where
 |lst (xs:List V)
 |tup (xs:List V)
 |dK (kvs:List (Key×V))|dT (kvs:List (List Key×V))
 |set (S:Int->Bool) (n:Nat)
 |ins (C dx:Zo) (fs:List (Str×V))
 |own (x:Zo)
 |xd (fs:List (Str×V))
 |met (f x:Zo)
 |rng (lo hi:Int)
 |frz (o:Obj) (u:HO)
 |tbl (ps:Array Zn)
 |ext (φ:R9->Prop)
abbrev Hp:=Zo->Option HO
noncomputable def upd(H:Hp)(a:Zo)(o:HO):Hp:=λb=>if b=a then some o else H b
def ag:upd H a o a=some o:=by unfold upd;rw[RC rfl]
def aq(h:b≠a):upd H a o b=H b:=by unfold upd;rw[RB h]
def OH{H:Hp}{a b:Zo}{o u:HO}(h:H a=some o)(h':H b=some u)(d:o≠u):a≠b:=by intro e;subst e;rw[h]at h';exact d (RH h')
def aB{H:Hp}{a b:Zo}{o:HO}(h:H a=some o)(h':H b=none):a≠b:=by intro e;subst e;rw[h]at h';cases h'
section
variable(P:RU)(w:RZ)
def bp(H:Hp)(h:R9)(a:Zo):HO->Prop
 | .lst xs=>xs.length<=v1/\∃its n,aT xs its/\h.get? a=some {cls:=.type "list",data:=.seq its.toArray n}
 | .tup xs=>xs.length<=v1/\∃its:List Zn,aT xs its/\IsTup h a its.toArray
 | .dK kvs=>kvs.length<=v1/\(a == sysModules)=false/\∃vs,KV kvs vs/\h.DictOf (mixKind P w) a vs
 | .dT kvs=>kvs.length<=v1/\(a == sysModules)=false/\∃xs:List (List Key×Zo×Zn),
   VB (λ(p:List Key×V)(q:List Key×Zo×Zn)=>p.1=q.1/\H q.2.1=some (.tup (p.1.map kV))/\aQ p.2 q.2.2) kvs xs/\
   ∃o es ep,h.get? a=some o/\o.ExactDict/\o.data=.dict es ep/\es.toList=xs.map (entryOfKey (U7 (mixKind P w)))/\(xs.map (·.1)).Nodup
 | .set S n=>h.SetOf (intKind P w) a S n
 | .ins C dx fs=>H dx=some (.own a)/\fs.length<=1000/\dx≠a/\h.get? a=some (YQ C dx)/\
   ∃mA,h.Ns1 dx mA/\(∀f,iX (fs.lookup f) (mA f))/\PySem.Within mA (fs.map (·.1))
 | .own _=>∃o,h.get? a=some o
 | .xd fs=>∃mA,h.Ns1 a mA/\∀f,iX (fs.lookup f) (mA f)
 | .rng lo hi=>∃t u v,h.get? a=some {cls:=.type "range",data:=.fields #[.int lo t,.int hi u,.int 1 v]}
 | .frz o u=>h.get? a=some o/\bp H h a u
 | .tbl ps=>h.get? a=some {cls:=.none,data:=.fields ps}
 | .met f x=>h.get? a=some (Y3 (.ref f) (.ref x))
 | .ext φ=>φ h/\(∃o,h.get? a=some o)/\∀h1 h2:R9,φ h1->(∀o,h1.get? a=some o->h2.get? a=some o)->φ h2
def jM(H:Hp)(h:R9):Prop:= ∀a o,H a=some o->bp P w H h a o
end
section
variable{P:RU}{w:RZ}{H H':Hp}{h h':R9}{a:Zo}{o:HO}
theorem bp.lt(x:bp P w H h a o):a<h.objs.size:=by
 cases o with
 |lst xs=>obtain⟨_,_,_,_,e⟩:=x;exact RP e
 |tup xs=>obtain⟨_,_,_,p⟩:=x;exact p.lt
 |dK kvs=>obtain⟨_,_,_,_,o,_,_,e,_⟩:=x;exact RP e
 |dT kvs=>obtain⟨_,_,_,_,o,_,_,e,_⟩:=x;exact RP e
 |set S n=>obtain⟨o,_,_,_,e,_⟩:=x;exact RP e
 |ins C dx fs=>obtain⟨_,_,_,e,_⟩:=x;exact RP e
 |own y=>obtain⟨_,e⟩:=x;exact RP e
 |xd fs=>obtain⟨_,⟨_,_,_,e,_⟩,_⟩:=x;exact RP e
 |rng lo hi=>obtain⟨_,_,_,e⟩:=x;exact RP e
 |frz ob u=>obtain⟨e,_⟩:=x;exact RP e
 |tbl ps=>exact RP (show h.get? a=some _ from x)
 |met f y=>exact RP (show h.get? a=some _ from x)
 |ext φ=>obtain⟨_,⟨_,e⟩,_⟩:=x;exact RP e
theorem Paired.mapP:∀{l₁:List α}{l₂:List β},VB F l₁ l₂->(∀a b,F a b->G a b)->VB G l₁ l₂
 |_,_,.nil,_=>.nil
 |_,_,.cons r t,f=>.cons (f _ _ r) (Paired.mapP t f)
def bp.stay(x:bp P w H h a o)(k:∀b u,(b=a\/H b=some (.own a))->h.get? b=some u->h'.get? b=some u)(ho:∀b,H b=some (.own a)->H' b=some (.own a))(ht:∀b xs,H b=some (.tup xs)->H' b=some (.tup xs)):bp P w H' h' a o:=by
 induction o with
 |lst xs=>obtain⟨z,its,n,r,e⟩:=x;exact⟨z,its,n,r,k _ _ (.inl rfl) e⟩
 |tup xs=>obtain⟨z,its,r,ob,e,c⟩:=x;exact⟨z,its,r,ob,k _ _ (.inl rfl) e,c⟩
 |dK kvs=>obtain⟨z,y,vs,r,ob,es,ep,e,c⟩:=x;exact⟨z,y,vs,r,ob,es,ep,k _ _ (.inl rfl) e,c⟩
 |dT kvs=>
  obtain⟨z,y,xs,r,ob,es,ep,e,c⟩:=x;exact⟨z,y,xs,Paired.mapP r λp q z=>⟨z.1,ht _ _ z.2.1,z.2.2⟩,ob,es,ep,k _ _ (.inl rfl) e,c⟩
 |set S n=>obtain⟨ob,es,ep,t,e,c⟩:=x;exact⟨ob,es,ep,t,k _ _ (.inl rfl) e,c⟩
 |ins C dx fs=>
  obtain⟨d,z,ne,e,mA,⟨od,es,ep,e2,c⟩,r⟩:=x;exact⟨ho _ d,z,ne,k _ _ (.inl rfl) e,mA,⟨od,es,ep,k _ _ (.inr d) e2,c⟩,r⟩
 |own y=>obtain⟨ob,e⟩:=x;exact⟨ob,k _ _ (.inl rfl) e⟩
 |xd fs=>obtain⟨mA,⟨od,es,ep,e,c⟩,r⟩:=x;exact⟨mA,⟨od,es,ep,k _ _ (.inl rfl) e,c⟩,r⟩
 |rng lo hi=>obtain⟨t,u,v,e⟩:=x;exact⟨t,u,v,k _ _ (.inl rfl) e⟩
 |frz ob u ih=>obtain⟨e,q⟩:=x;exact⟨k _ _ (.inl rfl) e,ih q⟩
 |tbl ps=>
  have e:h.get? a=some {cls:=.none,data:=.fields ps}:=x;show h'.get? a=some {cls:=.none,data:=.fields ps};exact k a _ (.inl rfl) e
 |met f y=>
  have e:h.get? a=some (Y3 (.ref f) (.ref y)):=x;show h'.get? a=some (Y3 (.ref f) (.ref y));exact k a _ (.inl rfl) e
 |ext φ=>obtain⟨p,⟨o,e⟩,st⟩:=x;exact⟨st _ _ p λo q=>k _ _ (.inl rfl) q,⟨o,k _ _ (.inl rfl) e⟩,st⟩
theorem jM.lt(x:jM P w H h)(e:H a=some o):a<h.objs.size:=(x a o e).lt
def jM.fresh(x:jM P w H h)(e:h.objs.size<=a):H a=none:=by
 cases q:H a with
 |none=>rfl
 |some u=>exact RF (XH (x.lt q) e) (XM _)
def jM.kept(x:jM P w H h)(k:∀b u,h.get? b=some u->h'.get? b=some u):jM P w H h':=λa o e=>
 (x a o e).stay (λb u _ q=>k b u q) (λ_ q=>q) λ_ _ q=>q
def jM.laid(x:jM P w H h)(k:∀b u,h.get? b=some u->h'.get? b=some u)(hp:h.objs.size<=a)(new:bp P w (upd H a o) h' a o):jM P w (upd H a o) h':=λb u e=>by
 have hn:=x.fresh hp
 by_cases hb:b=a
 .subst hb;rw[ag]at e;cases e;exact new
 .rw[aq hb]at e;exact(x b u e).stay (λc v _ q=>k c v q) (λc q=>by rw[aq (aB q hn)];exact q) λc xs q=>by rw[aq (aB q hn)];exact q
end
def Rd(H:Hp)(a:Zo)(u:HO):Prop:=H a=some u\/∃o,H a=some (.frz o u)
def Rd.ok(r:Rd H a u)(x:jM P w H h):bp P w H h a u:=by
 rcases r with r|⟨o,r⟩
 .exact x a u r
 .obtain⟨_,q⟩:=x a _ r;exact q
def PQ:Option HO->Prop
 |some (.lst _)=>True
 |some (.dK _)=>True
 |some (.dT _)=>True
 |some (.set _ _)=>True
 |some (.ins _ _ _)=>True
 |some (.ext _)=>True
 |_=>False
section
def jM.write(ok:jM P w H h)(mu:PQ (H x))(he:e=x\/H e=some (.own x))(k:∀b u,b≠e->h.get? b=some u->h'.get? b=some u)(heo:∃u,h'.get? e=some u)(new:bp P w (upd H x o') h' x o'):jM P w (upd H x o') h':=λb u q=>by
 have nown:∀c y,H c=some (.own y)->c≠x:=λc y r z=>by subst z;rw[r]at mu;exact mu
 have ntup:∀c xs,H c=some (.tup xs)->c≠x:=λc xs r z=>by subst z;rw[r]at mu;exact mu
 by_cases hb:b=x
 .subst hb;rw[ag]at q;cases q;exact new
 .rw[aq hb]at q
  by_cases hbe:b=e
  .have q':H b=some (.own x):=by
    rcases he with z|z
    .exact RF (hbe.trans z) hb
    .rw[hbe];exact z
   rw[q]at q';cases q';obtain⟨v,hv⟩:=heo;exact⟨v,by rw[hbe];exact hv⟩
  .refine(ok b u q).stay (λc v hc r=>k c v ?_ r) (λc r=>by rw[aq (nown c b r)];exact r) λc xs r=>by rw[aq (ntup c xs r)];exact r
   rcases hc with rfl|hc
   .exact hbe
   .rintro rfl
    rcases he with z|z
    .exact nown c b hc z
    .rw[hc]at z;cases z;exact hb rfl
end
structure Un(fs ex:List Zo)(H H':Hp)(h h':R9):Prop where
 keep:∀b o,h.get? b=some o->H b=none->b∉fs->b∉ex->h'.get? b=some o
 slot:∀b o,h.get? b=some o->H b=none->b∈fs->b∉ex->∃sl,h'.get? b=some {o with slots:=sl}
 free:∀b o,h.get? b=some o->H b=none->b∉ex->H' b=none
 there:∀b o,h.get? b=some o->b∉ex->∃o',h'.get? b=some o'
 tups:∀b xs,H b=some (.tup xs)->H' b=some (.tup xs)
 frzs:∀b o u,H b=some (.frz o u)->H' b=some (.frz o u)
 tbls:∀b ps,H b=some (.tbl ps)->∃more,H' b=some (.tbl (ps++more))
section
def Un.any(u:Un fs ex H H1 h h1)(q:h.get? b=some ob)(n:H b=none)(hx:b∉ex):∃sl,h1.get? b=some {ob with slots:=sl}:=by
 by_cases hb:b∈fs
 .exact u.slot b ob q n hb hx
 .exact⟨ob.slots,u.keep b ob q n hb hx⟩
def Un.kept(k:∀b u,h.get? b=some u->h'.get? b=some u):Un fs ex H H h h':=
 ⟨λb ob q _ _ _=>k b ob q,λb ob q _ _ _=>⟨ob.slots,k b ob q⟩,λ_ _ _ n _=>n,λb ob q _=>⟨ob,k b ob q⟩,λ_ _ q=>q,λ_ _ _ q=>q,λ_ ps q=>⟨#[],by rw[q];simp⟩⟩
def Un.refl:Un fs ex H H h h:=Un.kept λ_ _ q=>q
def Un.laid(k:∀b u,h.get? b=some u->h'.get? b=some u)(hp:h.objs.size<=a)(hn:H a=none):Un fs ex H (upd H a o) h h' where
 keep:=λb u q _ _ _=>k b u q
 slot:=λb u q _ _ _=>⟨u.slots,k b u q⟩
 free:=λb u q n _=>by rw[aq (XE (XH (RP q) hp))];exact n
 there:=λb u q _=>⟨u,k b u q⟩
 tups:=λb xs q=>by rw[aq (aB q hn)];exact q
 frzs:=λb u xs q=>by rw[aq (aB q hn)];exact q
 tbls:=λb ps q=>⟨#[],by rw[aq (aB q hn),q];simp⟩
def Un.write(mu:PQ (H x))(he:e=x\/H e=some (.own x))(k:∀b u,b≠e->h.get? b=some u->h'.get? b=some u)(heo:∃u,h'.get? e=some u):Un fs ex H (upd H x o) h h':=by
 have hx:∀b,H b=none->b≠x:=λb n z=>by subst z;rw[n]at mu;exact mu
 have hb:∀b,H b=none->b≠e:=λb n z=>by
  subst z
  rcases he with r|r
  .exact hx b n r
  .rw[n]at r;cases r
 have hm:∀b u,H b=some u->¬PQ (some u)->b≠x:=λb u q nm z=>by subst z;rw[q]at mu;exact nm mu
 refine⟨λb u q n _ _=>k b u (hb b n) q,λb u q n _ _=>⟨u.slots,k b u (hb b n) q⟩,λb u q n _=>by rw[aq (hx b n)];exact n,λb u q _=>?_,
  λb xs q=>by rw[aq (hm b _ q λz=>z)];exact q,λb u xs q=>by rw[aq (hm b _ q λz=>z)];exact q,λb ps q=>⟨#[],by rw[aq (hm b _ q λz=>z),q];simp⟩⟩
 by_cases hbe:b=e
 .subst hbe;exact heo
 .exact⟨u,k b u hbe q⟩
end
noncomputable def PZ(h:R9)(H:Hp):List Zo:=(List.range h.objs.size).filter λa=>(H a).isSome
noncomputable def rH(h:R9)(H:Hp):R9:=Y9 h (PZ h H)
def zO(h:R9)(H:Hp):(rH h H).objs.size=h.objs.size:=PySem.W.hideAll_size _ _
def BJ(e:h.get? b=some o)(n:H b=none):(rH h H).get? b=some o:=
 YV _ e λhm=>by have q:(H b).isSome=true:=(Wg.mp hm).2;rw[n]at q;simp at q
def DN(e:(rH h H).get? b=some o):h.get? b=some o/\H b=none:=by
 have e':h.get? b=some o:=Za (PZ h H) e;refine⟨e',?_⟩;cases q:H b with
 |none=>rfl
 |some x=>
  have hm:b∈PZ h H:=Wg.mpr ⟨V4.mpr (RP e'),by simp[q]⟩;have z:(rH h H).get? b=none:=PySem.W.hideAll_none (PZ h H) hm;rw[z]at e;cases e
noncomputable def mI(g h:R9)(L:Zo):List (Zo×Obj):=(List.range h.objs.size).filterMap λa=>if a=L\/(g.get? a).isSome=true then none else(h.get? a).map λo=>(a,o)
def ua(h1:a≠L)(h2:g.get? a=none)(h3:h.get? a=some o):(a,o)∈mI g h L:=
 Wd.mpr ⟨a,V4.mpr (RP h3),by simp[h1,h2,h3]⟩
def nF(hp:p∈mI g h L):p.1≠L/\g.get? p.1=none/\h.get? p.1=some p.2:=by
 obtain⟨b,_,e⟩:=Wd.mp hp;split at e
 .cases e
 .rename_i hn;cases q:h.get? b with
  |none=>rw[q]at e;simp at e
  |some u=>
   rw[q]at e;simp only[Option.map_some,Option.some.injEq]at e;subst e;refine⟨λz=>hn (.inl z),?_,q⟩;show g.get? b=none;cases r:g.get? b with
   |none=>rfl
   |some v=>exact(hn (.inr (by simp[r]))).elim
noncomputable def rest(g h:R9)(L d:Zo):List (Zo×Obj):=(mI g h L).filter λp=>decide (p.1≠d)
def rest_ne:∀p∈rest g h L d,p.1≠d:=λp hp=>RD (Wg.mp hp).2
def Bt(h1:a≠L)(h2:g.get? a=none)(h3:h.get? a=some o)(h4:a≠d):(a,o)∈rest g h L d:=
 Wg.mpr ⟨ua h1 h2 h3,Ry h4⟩
def Bo:News g L h (mI g h L):=λp hp=>let ⟨a,b,c⟩:=nF hp;⟨c,a,b⟩
def DP(h1:d≠L)(h2:g.get? d=none)(h3:h.get? d=some o):News g L h ((d,o)::rest g h L d):=λp hp=>by
 rcases VO.mp hp with rfl|hp
 .exact⟨h3,h1,h2⟩
 .exact Bo p (Wg.mp hp).1
def kJ(k:∀b o,g.get? b=some o->h.get? b=some o)(F:Fr g L h' m)(N:News g L h' (rest g h L d)):∀b o,b≠L->b≠d->h.get? b=some o->h'.get? b=some o:=λb o h1 h2 e=>by
 cases q:g.get? b with
 |some u=>
  have:=k b u q;rw[e]at this;cases this;exact F.keep b _ q
 |none=>exact(N (b,o) (Bt h1 q e h2)).1
structure Mod(K:Frag)(mg:RJ)(Rw:R9):Prop where
 kin:K.In Rw
 glob:Rw.Ns RV mg
 blt:∃mb,Rw.Ns builtinsNs mb/\∀x:Str,x≠"__name__"->mb x=R8 x
 nolimit:Rw.NoLimit
structure Cx where
 prog:RU
 w:RZ
 K:Frag
 mg:Str->Option Zn
 Rw:R9
 A:SJ
 N:List Str
 s₀:RQ
 H₀:Hp
 env:VE
 Rx:List VE
 stack:List VE
 ex:List Zo
 fn:Str->Bool
 calm:Bool
 pn:List (Zo×Obj)
 xe:Zn->RQ->Prop
noncomputable def jK(l:List VE):List Zo:=l.filterMap (·.frame)
noncomputable abbrev Cx.fs(X:Cx):List Zo:=jK X.Rx
def Qf(sc:TV)(x:Str):Prop:=sc.names.lookup x=some .local\/sc.names.lookup x=some .cell\/sc.names.lookup x=some .free
def LV(sc:TV)(x:Str):Prop:=sc.names.lookup x=some .local\/sc.names.lookup x=some .cell
def Rn(env:VE)(h:R9)(m:RJ)(x:Str)(u:Zn):Prop:=
 (env.kindOf x=some .local/\m x=some u)\/((env.kindOf x=some .cell\/env.kindOf x=some .free)/\∃c,env.cells.lookup x=some c/\h.IsCell c (some u))
structure Cx.Ok(X:Cx):Prop where
 mod:Mod X.K X.mg X.Rw
 kind:X.env.scope.kind=.function
 glob:X.env.globals=RV
 blt:X.env.builtins=builtinsNs
 above:X.s₀.heap.objs.size<=X.env.locals
 inj:∀x y c,X.env.cells.lookup x=some c->X.env.cells.lookup y=some c->x=y
 has:∀x,(X.env.kindOf x=some .cell\/X.env.kindOf x=some .free)->∃c,X.env.cells.lookup x=some c
 cab:∀x c,X.fn x=true->X.env.cells.lookup x=some c->X.s₀.heap.objs.size<=c
 hd:X.calm=true->X.A.handled=none
 frames:X.A.frames=some X.stack
 stk:X.stack=X.Rx\/(X.stack=X.env::X.Rx/\X.env.frame=some X.env.locals)
 exf:∀b∈X.ex,b≠X.env.locals/\∀x c,X.env.cells.lookup x=some c->c≠b
 bs:∀b o,X.Rw.get? b=some o->X.s₀.heap.get? b=some o/\X.H₀ b=none
 bsz:X.Rw.objs.size<=X.s₀.heap.objs.size
 noex:∀b o,X.Rw.get? b=some o->b∉X.ex
 exfs:∀b∈X.ex,b∉X.fs
 funs:X.s₀.heap.FunFrames X.Rw X.Rx
 frf:∀b∈X.fs,X.H₀ b=none
structure aJ(X:Cx)(Rv:RL)(σ:List (Option V))(H:Hp)(s:RQ):Prop where
 ok:X.Ok
 os:s.os=X.s₀.os
 bare:T0 s.gens
 Rw:Un X.fs X.ex X.H₀ H X.s₀.heap s.heap
 loc:∃m,s.heap.Ns X.env.locals m/\∀(i:Nat)(x:Str)(v:V),X.N[i]? =some x->σ[i]? =some (some v)->Qf X.env.scope x->∃u,aQ v u/\Rn X.env s.heap m x u
 cell:∀x c,X.env.cells.lookup x=some c->∃v,s.heap.IsCell c v
 free:H X.env.locals=none
 freeC:∀x c,X.env.cells.lookup x=some c->H c=none
 pin:∀p∈X.pn++Rv,s.heap.get? p.1=some p.2/\H p.1=none/\p.1≠X.env.locals/\p.1∉X.fs/\∀v,p.2.data≠.cell v
 hok:jM X.prog X.w H s.heap
 len:σ.length=X.N.length
section
variable{X:Cx}
def Cx.Ok.nofr(ok:X.Ok)(e:X.Rw.get? b=some o):b∉X.fs:=λhb=>by have:=(ok.funs.mem hb).1;rw[e]at this;cases this
theorem aJ.bs(I:aJ X Rv σ H s):∀b o,X.Rw.get? b=some o->s.heap.get? b=some o/\H b=none:=λb o e=>
 ⟨I.Rw.keep b o (I.ok.bs b o e).1 (I.ok.bs b o e).2 (I.ok.nofr e) (I.ok.noex b o e),I.Rw.free b o (I.ok.bs b o e).1 (I.ok.bs b o e).2 (I.ok.noex b o e)⟩
def aJ.bk(I:aJ X Rv σ H s):∀b o,X.Rw.get? b=some o->s.heap.get? b=some o:=λb o e=>(I.bs b o e).1
theorem aJ.mod(I:aJ X Rv σ H s):Mod X.K X.mg X.Rw:=I.ok.mod
def aJ.kIn(I:aJ X Rv σ H s):X.K.In s.heap:=I.ok.mod.kin.keeps I.bk
def aJ.fr(I:aJ X Rv σ H s):∃m,Fr X.Rw X.env.locals s.heap m:=
 let ⟨m,hn,_⟩:=I.loc
 ⟨m,hn,I.bk,XG I.ok.bsz I.ok.above⟩
theorem aJ.lt(I:aJ X Rv σ H s):X.env.locals<s.heap.objs.size:=let ⟨_,hn,_⟩:=I.loc;hn.lt
def aJ.sz(I:aJ X Rv σ H s):X.s₀.heap.objs.size<=s.heap.objs.size:=XG I.ok.above (XV I.lt)
def aJ.nofs(I:aJ X Rv σ H s){a:Zo}(h:s.heap.objs.size<=a):a∉X.fs:=λhb=>by obtain⟨_,o,ho,_⟩:=I.ok.funs.mem hb;exact RF (XH (RP ho) (XG I.sz h)) (XM _)
def aJ.cne(I:aJ X Rv σ H s):∀x c,X.env.cells.lookup x=some c->c≠X.env.locals:=λx c e z=>by obtain⟨v,o,ho,hd⟩:=I.cell x c e;obtain⟨m,⟨o',es,ep,ho',hd',_⟩,_⟩:=I.loc;rw[z,ho']at ho;cases ho;rw[hd']at hd;cases hd
theorem aJ.funs(I:aJ X Rv σ H s):s.heap.FunFrames X.Rw X.Rx:=by
 have all:∀(l:List VE),(∀b∈jK l,b∈X.fs)->X.s₀.heap.FunFrames X.Rw l->s.heap.FunFrames X.Rw l:=by
  intro l
  induction l with
  |nil=>intro _ _;trivial
  |cons env r ih=>
   intro hs hl;obtain⟨hk,⟨L,o,hf,hn,ho,hd⟩,hr⟩:=hl;have hL:L∈X.fs:=hs L (by unfold jK;rw[Wx,hf];exact VW);obtain⟨sl,e⟩:=I.Rw.slot L o ho (I.ok.frf L hL) hL λz=>I.ok.exfs L z hL;exact⟨hk,⟨L,_,hf,hn,e,hd⟩,ih (λb hb=>hs b (by unfold jK;rw[Wx,hf];exact VU _ hb)) hr⟩
 exact all X.Rx (λ_ hb=>hb) I.ok.funs
theorem aJ.stack(I:aJ X Rv σ H s):s.heap.FunFrames X.Rw X.stack:=by
 rcases I.ok.stk with e|⟨e,hf⟩
 .rw[e];exact I.funs
 .rw[e];obtain⟨m,hn,_⟩:=I.loc;refine .cons (by rw[I.ok.kind];decide) hf hn ?_ I.funs;exact T2 (XG I.ok.bsz I.ok.above)
def aJ.stkSub(I:aJ X Rv σ H s):∀b∈jK X.stack,b∈X.env.locals::X.fs:=λb hb=>by
 rcases I.ok.stk with e|⟨e,hf⟩
 .rw[e]at hb;exact VU _ hb
 .rw[e]at hb;unfold jK at hb;rw[Wx,hf]at hb;exact hb
def aJ.stkFree(I:aJ X Rv σ H s):∀b∈jK X.stack,H b=none:=λb hb=>by
 rcases VO.mp (I.stkSub b hb)with e|hb
 .rw[e];exact I.free
 .obtain⟨_,o,ho,_⟩:=I.ok.funs.mem hb;exact I.Rw.free b o ho (I.ok.frf b hb) λz=>I.ok.exfs b z hb
def aJ.step{g':Array U5}{t':Nat}{ch:List Zo}(I:aJ X Rv σ H s)(hch:∀b∈ch,(b∈X.ex\/X.s₀.heap.objs.size<=b)/\b≠X.env.locals/\(∀x c,X.env.cells.lookup x=some c->c≠b)/\∀p∈X.pn++Rv,p.1≠b)(keep:∀b o,b≠X.env.locals->b∉X.fs->b∉ch->s.heap.get? b=some o->H b=none->h'.get? b=some o)(slot:∀b o,b≠X.env.locals->b∈X.fs->b∉ch->s.heap.get? b=some o->H b=none->∃sl,h'.get? b=some {o with slots:=sl})(free:∀b o,b∉ch->s.heap.get? b=some o->H b=none->H' b=none)(there:∀b o,b∉ch->s.heap.get? b=some o->∃o',h'.get? b=some o')(tups:∀b xs,H b=some (.tup xs)->H' b=some (.tup xs))(frzs:∀b o u,H b=some (.frz o u)->H' b=some (.frz o u))(tbls:∀b ps,H b=some (.tbl ps)->∃more,H' b=some (.tbl (ps++more)))(ns:∀m,s.heap.Ns X.env.locals m->h'.Ns X.env.locals m)(hok:jM X.prog X.w H' h')(hg:T0 g'):aJ X Rv σ H' {s with heap:=h',gens:=g',drawn:=d',toks:=t'}:=by
 have neL:∀b o,X.s₀.heap.get? b=some o->b≠X.env.locals:=λb o e=>XE (XH (RP e) I.ok.above);have neC:∀b o,X.s₀.heap.get? b=some o->b∉X.ex->b∉ch:=λb o e hx hb=>by
  rcases(hch b hb).1 with z|z
  .exact hx z
  .exact RF (XH (RP e) z) (XM _)
 have cellK:∀x c,X.env.cells.lookup x=some c->∀v,s.heap.IsCell c v->h'.IsCell c v:=λx c e v ⟨o,ho,hd⟩=>by
  have nch:c∉ch:=λz=>(hch c z).2.2.1 x c e rfl
  by_cases hc:c∈X.fs
  .obtain⟨sl,q⟩:=slot c o (I.cne x c e) hc nch ho (I.freeC x c e);exact⟨_,q,hd⟩
  .exact⟨o,keep c o (I.cne x c e) hc nch ho (I.freeC x c e),hd⟩
 refine⟨I.ok,I.os,hg,⟨λb o e n hb hx=>?_,λb o e n hb hx=>?_,λb o e n hx=>?_,λb o e hx=>?_,λb xs e=>tups b xs (I.Rw.tups b xs e),λb o xs e=>frzs b o xs (I.Rw.frzs b o xs e),λb ps e=>?_⟩,?_,λx c e=>?_,?_,λx c e=>?_,λp hp=>?_,hok,I.len⟩
 .exact keep b o (neL b o e) hb (neC b o e hx) (I.Rw.keep b o e n hb hx) (I.Rw.free b o e n hx)
 .obtain⟨sl,e1⟩:=I.Rw.slot b o e n hb hx;obtain⟨sl',e2⟩:=slot b _ (neL b o e) hb (neC b o e hx) e1 (I.Rw.free b o e n hx);exact⟨sl',e2⟩
 .obtain⟨o',e1⟩:=I.Rw.there b o e hx;exact free b o' (neC b o e hx) e1 (I.Rw.free b o e n hx)
 .obtain⟨o',e1⟩:=I.Rw.there b o e hx;exact there b o' (neC b o e hx) e1
 .obtain⟨m1,e1⟩:=I.Rw.tbls b ps e;obtain⟨m2,e2⟩:=tbls b _ e1;exact⟨m1++m2,by rw[e2,Array.append_assoc]⟩
 .obtain⟨m,hn,hl⟩:=I.loc;refine⟨m,ns m hn,λi x v e1 e2 e3=>?_⟩;obtain⟨u,r,l⟩:=hl i x v e1 e2 e3;refine⟨u,r,?_⟩
  rcases l with l|⟨k,c,e,z⟩
  .exact .inl l
  .exact .inr ⟨k,c,e,cellK x c e _ z⟩
 .obtain⟨v,z⟩:=I.cell x c e;exact⟨v,cellK x c e v z⟩
 .obtain⟨m,⟨o,_,_,ho,_⟩,_⟩:=I.loc;exact free _ o (λz=>(hch _ z).2.1 rfl) ho I.free
 .obtain⟨v,o,ho,hd⟩:=I.cell x c e;exact free c o (λz=>(hch c z).2.2.1 x c e rfl) ho (I.freeC x c e)
 .obtain⟨e,n,ne,nf,d⟩:=I.pin p hp;have nch:p.1∉ch:=λz=>(hch p.1 z).2.2.2 p hp rfl;exact⟨keep p.1 p.2 ne nf nch e n,free p.1 p.2 nch e n,ne,nf,d⟩
def aJ.un(I:aJ X Rv σ H s)(u:Un X.fs [] H H' s.heap h')(hok:jM X.prog X.w H' h'):aJ X Rv σ H' {s with heap:=h',toks:=t'}:=by
 obtain⟨m,⟨o,es,ep,ho,r⟩,_⟩:=id I.loc;obtain⟨sl,hL⟩:=u.any ho I.free (by simp);exact I.step (g':=s.gens) (d':=s.drawn) (ch:=[]) (λ_ z=>nomatch z) (λb o _ hb _ e n=>u.keep b o e n hb (by simp)) (λb o _ hb _ e n=>u.slot b o e n hb (by simp)) (λb o _ e n=>u.free b o e n (by simp)) (λb o _ e=>u.there b o e (by simp)) u.tups u.frzs u.tbls (λm' hm=>by
  obtain⟨o',es',ep',ho',r'⟩:=hm;rw[ho]at ho';cases ho';exact⟨_,es',ep',hL,r'⟩) hok I.bare
def aJ.call(I:aJ X Rv σ H s)(u:Un (jK X.stack) ch H H' s.heap h')(hok:jM X.prog X.w H' h')(hg:T0 g')(hch:∀b∈ch,(b∈X.ex\/X.s₀.heap.objs.size<=b)/\b≠X.env.locals/\(∀x c,X.env.cells.lookup x=some c->c≠b)/\∀p∈X.pn++Rv,p.1≠b):aJ X Rv σ H' {s with heap:=h',gens:=g',drawn:=d',toks:=t'}:=by
 obtain⟨m,⟨o,es,ep,ho,r⟩,_⟩:=id I.loc;obtain⟨sl,hL⟩:=u.any ho I.free λz=>(hch _ z).2.1 rfl;exact I.step (ch:=ch) hch (λb o hL hb hc e n=>u.keep b o e n (λz=>(VO.mp (I.stkSub b z)).elim hL hb) hc) (λb o _ _ hc e n=>u.any e n hc) (λb o hc e n=>u.free b o e n hc) (λb o hc e=>u.there b o e hc) u.tups u.frzs u.tbls (λm' hm=>by
  obtain⟨o',es',ep',ho',r'⟩:=hm;rw[ho]at ho';cases ho';exact⟨_,es',ep',hL,r'⟩) hok hg
def aJ.turned(I:aJ X Rv σ H s)(k:∀b o,b≠it->s.heap.get? b=some o->h'.get? b=some o)(hn:H it=none)(hL:it≠X.env.locals)(h1:it∈X.ex\/X.s₀.heap.objs.size<=it)(h2:∀x c,X.env.cells.lookup x=some c->c≠it)(h3:∀p∈X.pn++Rv,p.1≠it):aJ X Rv σ H {s with heap:=h',toks:=t'}:=by
 have nit:∀b u,H b=some u->b≠it:=λb u e z=>by rw[z,hn]at e;cases e
 refine I.step (g':=s.gens) (d':=s.drawn) (ch:=[it]) (λb hb=>?_) (λb o _ _ hc e _=>k b o (λz=>hc (by simp[z])) e) (λb o _ _ hc e _=>⟨o.slots,k b o (λz=>hc (by simp[z])) e⟩) (λ_ _ _ _ n=>n)
  (λb o hc e=>⟨o,k b o (λz=>hc (by simp[z])) e⟩) (λ_ _ e=>e) (λ_ _ _ e=>e) (λb ps e=>⟨#[],by rw[e];simp⟩) (λm hm=>?_) (λb u e=>?_) I.bare
 .have e:b=it:=by simpa using hb
  subst e;exact⟨h1,hL,h2,h3⟩
 .obtain⟨o,es,ep,ho,r⟩:=hm;exact⟨o,es,ep,k _ o (Ne.symm hL) ho,r⟩
 .refine(I.hok b u e).stay (λc v hc q=>k c v ?_ q) (λ_ q=>q) λ_ _ q=>q
  rcases hc with z|z
  .rw[z];exact nit b u e
  .exact nit c _ z
def aJ.tok(I:aJ X Rv σ H s)(t:Nat):aJ X Rv σ H {s with toks:=t}:=I.un (h':=s.heap) (t':=t) Un.refl I.hok
theorem aJ.kept(I:aJ X Rv σ H s)(k:∀b u,s.heap.get? b=some u->h'.get? b=some u):aJ X Rv σ H {s with heap:=h',toks:=t'}:=I.un (Un.kept k) (I.hok.kept k)
theorem aJ.laid{a:Zo}{o:HO}{t':Nat}(I:aJ X Rv σ H s)(k:∀b u,s.heap.get? b=some u->h'.get? b=some u)(hp:s.heap.objs.size<=a)(new:bp X.prog X.w (upd H a o) h' a o):aJ X Rv σ (upd H a o) {s with heap:=h',toks:=t'}:=I.un (Un.laid k hp (I.hok.fresh hp)) (I.hok.laid k hp new)
theorem aJ.write(I:aJ X Rv σ H s)(mu:PQ (H x))(he:e=x\/H e=some (.own x))(k:∀b u,b≠e->s.heap.get? b=some u->h'.get? b=some u)(heo:∃u,h'.get? e=some u)(new:bp X.prog X.w (upd H x o) h' x o):aJ X Rv σ (upd H x o) {s with heap:=h',toks:=t'}:=I.un (Un.write mu he k heo) (I.hok.write mu he k heo new)
def aJ.pins_of(I:aJ X Rv σ H s)(h:∀p∈pins',s.heap.get? p.1=some p.2/\H p.1=none/\p.1≠X.env.locals/\p.1∉X.fs/\∀v,p.2.data≠.cell v):aJ X pins' σ H s:=
 ⟨I.ok,I.os,I.bare,I.Rw,I.loc,I.cell,I.free,I.freeC,λp hp=>(VY.mp hp).elim (λz=>I.pin p (Wh _ z)) (h p),I.hok,I.len⟩
def tZ{N:List Str}(hN:N.Nodup){i j:Nat}{x:Str}(a:N[i]? =some x)(b:N[j]? =some x):i=j:=by obtain⟨h1,e1⟩:=V5.mp a;obtain⟨h2,e2⟩:=V5.mp b;exact(List.getElem_inj hN).mp (e1.trans e2.symm)
def yH(I:aJ X Rv σ H s)(hN:X.N.Nodup)(hi:X.N[i]? =some x)(hx:LV X.env.scope x)(r:aQ v u)(h:∀s',aJ X Rv (σ.set i (some v)) H s'->(∃a,So a s.heap s'.heap/\(a=X.env.locals\/X.env.cells.lookup x=some a))->Q () s')(hf:X.fn x=true\/X.env.scope.names.lookup x=some .local:=by first|exact .inl rfl|exact .inr rfl|assumption):RR M A (storeName X.env x u) Q E s:=by
 obtain⟨m,hn,hl⟩:=id I.loc;have hcls:(X.env.scope.kind == .class||(X.env.scope.kind == .module&&X.env.locals != X.env.globals))=false:=by rw[I.ok.kind];rfl
 have hiσ:i<σ.length:=by rw[I.len];exact(V5.mp hi).1
 have cne:=I.cne;have tracked:∀{a:Zo}{h':R9},(∃o,s.heap.get? a=some o/\H a=none)->So a s.heap h'->jM X.prog X.w H h':=λ{a h'} ha hs b ob e=>by
  obtain⟨_,_,hfree⟩:=ha;refine(I.hok b ob e).stay (λc w' hc q=>(hs.2 c ?_).trans q) (λ_ q=>q) λ_ _ q=>q;rintro rfl
  rcases hc with rfl|hc
  .rw[hfree]at e;cases e
  .rw[hfree]at hc;cases hc
 rcases hx with hk|hk
 .refine wpAny_storeName_local hk hn (λh' hn' hs=>?_) hcls;obtain⟨oL,_,_,hoL,_⟩:=id hn;refine h _ ⟨I.ok,I.os,I.bare,⟨λb o e n hb hx=>?_,λb o e n hb hx=>?_,I.Rw.free,λb o e hx=>?_,I.Rw.tups,I.Rw.frzs,I.Rw.tbls⟩,⟨_,hn',λj y v' e1 e2 e3=>?_⟩,λy c e=>?_,I.free,I.freeC,λp hp=>?_,tracked ⟨oL,hoL,I.free⟩ hs,by simpa using I.len⟩ ⟨_,hs,.inl rfl⟩
  .exact(hs.2 b (XE (XH (RP e) I.ok.above))).trans (I.Rw.keep b o e n hb hx)
  .obtain⟨sl,e1⟩:=I.Rw.slot b o e n hb hx;exact⟨sl,(hs.2 b (XE (XH (RP e) I.ok.above))).trans e1⟩
  .obtain⟨o',e1⟩:=I.Rw.there b o e hx;exact⟨o',(hs.2 b (XE (XH (RP e) I.ok.above))).trans e1⟩
  .by_cases hj:j=i
   .subst hj;rw[hi]at e1;cases e1;rw[WQ hiσ]at e2;cases e2;exact⟨u,r,.inl ⟨hk,by simp⟩⟩
   .rw[Xn (Ne.symm hj)]at e2;obtain⟨u',r',q⟩:=hl j y v' e1 e2 e3;refine⟨u',r',?_⟩
    rcases q with⟨k,e⟩|⟨k,c,e,z⟩
    .refine .inl ⟨k,?_⟩;have:y≠x:=λe=>hj (tZ hN e1 (e▸hi));simp[this,e]
    .exact .inr ⟨k,c,e,z.sameBut hs (cne y c e)⟩
  .obtain⟨w',z⟩:=I.cell y c e;exact⟨w',z.sameBut hs (cne y c e)⟩
  .obtain⟨e,n,ne,nf,d⟩:=I.pin p hp;exact⟨(hs.2 p.1 ne).trans e,n,ne,nf,d⟩
 .have hfn:X.fn x=true:=by
   rcases hf with z|z
   .exact z
   .rw[z]at hk;cases hk
  obtain⟨c,hc⟩:=I.ok.has x (.inl hk);obtain⟨w',z⟩:=I.cell x c hc;refine wpAny_storeName_cell I.ok.kind hk hc z (λh' hc' hs=>?_);obtain⟨oc,hoc,hocd⟩:=id z;refine h {s with heap:=h'} ⟨I.ok,I.os,I.bare,⟨λb o e n hb hx=>?_,λb o e n hb hx=>?_,I.Rw.free,λb o e hx=>?_,I.Rw.tups,I.Rw.frzs,I.Rw.tbls⟩,⟨m,hn.sameBut hs (Ne.symm (cne x c hc)),λj y v' e1 e2 e3=>?_⟩,λy c' e=>?_,I.free,I.freeC,λp hp=>?_,tracked ⟨oc,hoc,I.freeC x c hc⟩ hs,by simpa using I.len⟩ ⟨c,hs,.inr hc⟩
  .exact(hs.2 b (XE (XH (RP e) (I.ok.cab x c hfn hc)))).trans (I.Rw.keep b o e n hb hx)
  .obtain⟨sl,e1⟩:=I.Rw.slot b o e n hb hx;exact⟨sl,(hs.2 b (XE (XH (RP e) (I.ok.cab x c hfn hc)))).trans e1⟩
  .obtain⟨o',e1⟩:=I.Rw.there b o e hx;exact⟨o',(hs.2 b (XE (XH (RP e) (I.ok.cab x c hfn hc)))).trans e1⟩
  .by_cases hj:j=i
   .subst hj;rw[hi]at e1;cases e1;rw[WQ hiσ]at e2;cases e2;exact⟨u,r,.inr ⟨.inl hk,c,hc,hc'⟩⟩
   .rw[Xn (Ne.symm hj)]at e2;obtain⟨u',r',q⟩:=hl j y v' e1 e2 e3;refine⟨u',r',?_⟩
    rcases q with q|⟨k,c',e,z'⟩
    .exact .inl q
    .refine .inr ⟨k,c',e,z'.sameBut hs ?_⟩;rintro rfl;exact hj (tZ hN e1 (I.ok.inj _ _ _ e hc▸hi))
  .by_cases hcc:c'=c
   .subst hcc;exact⟨_,hc'⟩
   .obtain⟨w2,z2⟩:=I.cell y c' e;exact⟨w2,z2.sameBut hs hcc⟩
  .obtain⟨e,n,ne,nf,d⟩:=I.pin p hp;refine⟨(hs.2 p.1 ?_).trans e,n,ne,nf,d⟩;intro q;rw[q,hoc]at e;have q':oc=p.2:=RH e;exact d w' (by rw[<-q'];exact hocd)
def kb(I:aJ X Rv σ H s)(hN:X.N.Nodup)(hi:X.N[i]? =some x)(hx:LV X.env.scope x)(r:aQ v u)(h:∀s',aJ X Rv (σ.set i (some v)) H s'->Q () s')(hf:X.fn x=true\/X.env.scope.names.lookup x=some .local:=by first|exact .inl rfl|exact .inr rfl|assumption):RR M A (storeName X.env x u) Q E s:=
 yH I hN hi hx r (λs' I' _=>h s' I') hf
def aJ.call'(I:aJ X Rv σ H s)(ho:s'.os=s.os)(u:Un (jK X.stack) ch H H' s.heap s'.heap)(hok:jM X.prog X.w H' s'.heap)(hg:T0 s'.gens)(hch:∀b∈ch,(b∈X.ex\/X.s₀.heap.objs.size<=b)/\b≠X.env.locals/\(∀x c,X.env.cells.lookup x=some c->c≠b)/\∀p∈X.pn++Rv,p.1≠b):aJ X Rv σ H' s':=by obtain⟨h',g',d',t',o'⟩:=s';have e:o'=s.os:=ho;subst e;exact I.call (g':=g') (t':=t') (d':=d') u hok hg hch
end
abbrev XK:=Zn->Option Zo->Hp->Prop
abbrev St:=List (Option V)
abbrev oR(a:Zo):Option V:=some (.ref a)
abbrev oJ(a:Int):Option V:=some (.int a)
abbrev oT(a:Str):Option V:=some (.str a)
abbrev VK:=V->Hp->Prop
abbrev TE:=St->Hp->VK->Prop
abbrev TT:=St->Hp->(Bool->Hp->Prop)->Prop
abbrev TA:=St->Hp->(List V->Hp->Prop)->Prop
structure mq where
 nx:St->Hp->Prop
 rt:VK
 bk:St->Hp->Prop:=λ_ _=>False
 ct:St->Hp->Prop:=λ_ _=>False
abbrev TS:=mq->St->Hp->Prop
def EP(X:Cx)(Rv:RL)(σ:St)(Q:VK)(u:Zn)(s':RQ):Prop:= ∃v H',aJ X Rv σ H' s'/\aQ v u/\Q v H'
def TP(X:Cx)(Rv:RL)(σ:St)(Q:Bool->Hp->Prop)(b:Bool)(s':RQ):Prop:= ∃H',aJ X Rv σ H' s'/\Q b H'
def AP(X:Cx)(Rv:RL)(σ:St)(Q:List V->Hp->Prop)(us:List Zn)(s':RQ):Prop:= ∃vs H',aJ X Rv σ H' s'/\aT vs us/\Q vs H'
def SP(X:Cx)(Rv:RL)(D:mq)(f:Flow)(s':RQ):Prop:=
 match f with
 | .next=>∃σ' H',aJ X Rv σ' H' s'/\D.nx σ' H'
 | .brk=>∃σ' H',aJ X Rv σ' H' s'/\D.bk σ' H'
 | .cont=>∃σ' H',aJ X Rv σ' H' s'/\D.ct σ' H'
 | .ret u=>∃v σ' H',aJ X Rv σ' H' s'/\aQ v u/\D.rt v H'
def PE(X:Cx)(e:Sz)(t:TE):Prop:=
 ∀(Rv:RL)(s:RQ)(σ:St)(H:Hp)(Q:VK),aJ X Rv σ H s->t σ H Q->RR (RX X.prog X.w) X.A (Sr e X.env) (EP X Rv σ Q) X.xe s
def PT(X:Cx)(e:Sz)(t:TT):Prop:=
 ∀(Rv:RL)(s:RQ)(σ:St)(H:Hp)(Q:Bool->Hp->Prop),aJ X Rv σ H s->t σ H Q->RR (RX X.prog X.w) X.A (Vz e X.env (Sr e X.env)) (TP X Rv σ Q) X.xe s
def PW(X:Cx)(e:Sz)(t:TT):Prop:=
 ∀(whole:Sem Zn)(Rv:RL)(s:RQ)(σ:St)(H:Hp)(Q:Bool->Hp->Prop),aJ X Rv σ H s->t σ H Q->RR (RX X.prog X.w) X.A (Vz e X.env whole) (TP X Rv σ Q) X.xe s
def PW.pt(h:PW X e t):PT X e t:=h _
def PA(X:Cx)(es:List Sz)(t:TA):Prop:=
 ∀(pos:Vb)(Rv:RL)(s:RQ)(σ:St)(H:Hp)(Q:List V->Hp->Prop),aJ X Rv σ H s->t σ H Q->RR (RX X.prog X.w) X.A (spliced (Sj pos (RS es X.env))) (AP X Rv σ Q) X.xe s
def PS(X:Cx)(st:Sb)(t:TS):Prop:=
 ∀(Rv:RL)(s:RQ)(σ:St)(H:Hp)(D:mq),aJ X Rv σ H s->t D σ H->RR (RX X.prog X.w) X.A (exec st X.env) (SP X Rv D) X.xe s
def sj(X:Cx)(st:List Sb)(t:TS):Prop:=
 ∀(Rv:RL)(s:RQ)(σ:St)(H:Hp)(D:mq),aJ X Rv σ H s->t D σ H->RR (RX X.prog X.w) X.A (execs st X.env) (SP X Rv D) X.xe s
def bL{α:Type}{t:Sem α}{Q Q':α->RQ->Prop}{M:Model}{A:SJ}{E:RK}{s:RQ}(h:RR M A t Q E s)(hQ:∀a s,Q a s->Q' a s):RR M A t Q' E s:=Sx h hQ λ_ _ x=>x
section
variable{X:Cx}
def QO(i:Nat):TE:=λσ H Q=>∃v,σ[i]? =some (some v)/\Q v H
def tC(v:V):TE:=λ_ H Q=>Q v H
def KC{i:Nat}{x:Str}{pos:Vb}(hN:X.N[i]? =some x)(hv:Qf X.env.scope x)(hd:(x == ("__debug__":Str))=false:=by decide)(hcd:(x == ("__classdict__":Str))=false:=by decide):PE X (.Name x pos) (QO i):=by
 intro Rv s σ H Q I h;obtain⟨v,e,h⟩:=h;obtain⟨m,hn,hl⟩:=I.loc;obtain⟨u,r,l⟩:=hl i x v hN e hv;have fin:EP X Rv σ Q u s:=⟨v,H,I,r,h⟩
 rcases l with⟨hk,hm⟩|⟨hk,c,hc,hcell⟩
 .exact wpAny_Name (wpAny_loadName_local I.ok.kind hk hn hm fin) hd
 .rcases hk with hk|hk
  .exact wpAny_Name (wpAny_loadName_cell I.ok.kind hk hc hcell fin) hd
  .exact wpAny_Name (wpAny_loadName_free I.ok.kind hk hc hcell fin hcd) hd
def ah{i j pos}:PE X (.Constant (.int i) j pos) (tC (.int i)):=λ_ _ _ H _ I h=>wpAny_Constant_int ⟨.int i,H,I.tok _,⟨_,rfl⟩,h⟩
def gI{b j pos}:PE X (.Constant (.bool b) j pos) (tC (.bl b)):=λ_ _ _ H _ I h=>Constant_bool ⟨.bl b,H,I,rfl,h⟩
def dj{j pos}:PE X (.Constant .none j pos) (tC .non):=λ_ _ _ H _ I h=>Constant_none ⟨.non,H,I,rfl,h⟩
def aU{x j pos}:PE X (.Constant (.str x) j pos) (tC (.str x)):=λ_ _ _ H _ I h=>Calls.Constant_str ⟨.str x,H,I.tok _,⟨_,rfl⟩,h⟩
def Gl(X:Cx)(x:Str):Prop:=X.env.kindOf x=some .globalImplicit
def iJ{E:RK}{Rv:RL}{s:RQ}{σ:St}{H:Hp}{x:Str}{u:Zn}{pos:Vb}{Q:RK}(I:aJ X Rv σ H s)(hg:Gl X x)(hm:X.mg x=some u)(h:Q u s)(hd:(x == ("__debug__":Str))=false:=by decide):RR (RX X.prog X.w) X.A (Sr (.Name x pos) X.env) Q E s:=
 Uo I.ok.kind hg (Calls.loadGlobal_global (by rw[I.ok.glob];exact I.mod.glob.keeps I.bk) hm h) hd
def j3{E:RK}{Rv:RL}{s:RQ}{σ:St}{H:Hp}{x:Str}{u:Zn}{pos:Vb}{Q:RK}(I:aJ X Rv σ H s)(hg:Gl X x)(hm:X.mg x=none)(hv:R8 x=some u)(h:Q u s)(hn:x≠"__name__":=by decide)(hd:(x == ("__debug__":Str))=false:=by decide):RR (RX X.prog X.w) X.A (Sr (.Name x pos) X.env) Q E s:=by obtain⟨mb,h1,h2⟩:=I.mod.blt;exact Uo I.ok.kind hg (Calls.loadGlobal_builtin (by rw[I.ok.glob];exact I.mod.glob.keeps I.bk) hm (by rw[I.ok.blt];exact h1.keeps I.bk) ((h2 x hn).trans hv) h) hd
def DD(hg:Gl X x)(hm:X.mg x=some u)(r:aQ v u)(hd:(x == ("__debug__":Str))=false:=by decide):PE X (.Name x pos) (tC v):=
 λ_ _ _ H _ I h=>iJ I hg hm ⟨v,H,I,r,h⟩ hd
def xz{x:Str}{v:V}{u:Zn}{pos:Vb}(hg:Gl X x)(hm:X.mg x=none)(hv:R8 x=some u)(r:aQ v u)(hn:x≠"__name__":=by decide)(hd:(x == ("__debug__":Str))=false:=by decide):PE X (.Name x pos) (tC v):=
 λ_ _ _ H _ I h=>j3 I hg hm hv ⟨v,H,I,r,h⟩ hn hd
variable{a b:Sz}{pos:Vb}
def PC(X:Cx)(op:VJ)(a b:Sz)(t:TE):Prop:=
 ∀(Rv:RL)(s:RQ)(σ:St)(H:Hp)(Q:VK),aJ X Rv σ H s->t σ H Q->
  RR (RX X.prog X.w) X.A (Sr a X.env) (λv s₁=>RR (RX X.prog X.w) X.A (Sr b X.env) (λu s₂=>RR (RX X.prog X.w) X.A (Sv op v u) (EP X Rv σ Q) X.xe s₂) X.xe s₁) X.xe s
def tB(t:TE):TT:=λσ H Q=>t σ H λx H1=>∃c,x=.bl c/\Q c H1
def Kx(h:PC X op a b t)(h1:behindInMarks op b=false:=by first|exact nobehind _ (by decide) (by decide)|rfl):PT X (.Compare a [op] [b] pos) (tB t):=by intro Rv s σ H Q I hw;refine UU (bL (h Rv s σ H _ I hw) λv s1 h1=>bL h1 λu s2 h2=>bL h2 λc s3 ⟨x,H1,I1,r1,q1⟩=>?_) h1;obtain⟨d,rfl,q⟩:=q1;cases r1;exact Si ⟨H1,I1,q⟩
variable{tA tB':TT}{rest:List Sz}
def Ki(t u:TT):TT:=λσ H Q=>t σ H λc H1=>if c=true then u σ H1 Q else Q false H1
def L4(t u:TT):TT:=λσ H Q=>t σ H λc H1=>if c=true then Q true H1 else u σ H1 Q
def AD(t:TT):TT:=λσ H Q=>t σ H λc H1=>Q (!c) H1
def gb(ha:PT X a tA):PW X (.BoolOp .And [a] pos) tA:=by
 intro wh Rv s σ H Q I h;refine isTrue_and (bL (ha Rv s σ H Q I h) λc s1 e=>?_);cases c with
 |true=>exact isTrue_and_nil e
 |false=>exact e
def eX(ha:PT X a tA):PW X (.BoolOp .Or [a] pos) tA:=by
 intro wh Rv s σ H Q I h;refine isTrue_or (bL (ha Rv s σ H Q I h) λc s1 e=>?_);cases c with
 |false=>exact isTrue_or_nil e
 |true=>exact e
def iG(ha:PT X a tA)(hb:PW X (.BoolOp .And (b::rest) pos) tB'):PW X (.BoolOp .And (a::b::rest) pos) (Ki tA tB'):=by
 intro wh Rv s σ H Q I h;refine isTrue_and (bL (ha Rv s σ H _ I h) λc s1 ⟨H1,I1,q1⟩=>?_);cases c with
 |true=>exact hb wh Rv s1 σ H1 Q I1 q1
 |false=>exact⟨H1,I1,q1⟩
def gV(ha:PT X a tA)(hb:PW X (.BoolOp .Or (b::rest) pos) tB'):PW X (.BoolOp .Or (a::b::rest) pos) (L4 tA tB'):=by
 intro wh Rv s σ H Q I h;refine isTrue_or (bL (ha Rv s σ H _ I h) λc s1 ⟨H1,I1,q1⟩=>?_);cases c with
 |true=>exact⟨H1,I1,q1⟩
 |false=>exact hb wh Rv s1 σ H1 Q I1 q1
def bM(ha:PT X a tA):PT X (.UnaryOp .Not a pos) (AD tA):=by intro Rv s σ H Q I h;exact isTrue_not (ha Rv s σ H (λc H1=>Q (!c) H1) I h)
def fT{op}(h:PE X a t):PE X (.BoolOp op [a] pos) t:=λRv s σ H Q I hw=>BoolOp_one (h Rv s σ H Q I hw)
def Oo(t:TT)(ta tb:TE):TE:=λσ H Q=>t σ H λc H1=>if c=true then ta σ H1 Q else tb σ H1 Q
def cK(hc:PT X c tA)(ha:PE X a ta)(hb:PE X b tb):PE X (.IfExp c a b pos) (Oo tA ta tb):=by
 intro Rv s σ H Q I h;refine wpAny_IfExp (bL (hc Rv s σ H _ I h) λd s1 ⟨H1,I1,q1⟩=>?_);cases d with
 |true=>exact ha Rv s1 σ H1 Q I1 q1
 |false=>exact hb Rv s1 σ H1 Q I1 q1
end
noncomputable def Rh:Zn->Option V
 | .none=>some .non
 | .bool b=>some (.bl b)
 | .int i _=>some (.int i)
 | .str x _=>some (.str x)
 | .bytes b _=>some (.byt b)
 | .float b _=>some (.flt b)
 | .ref a=>some (.ref a)
 | .type n=>some (.ty n)
 |_=>none
def sh:V->Zn->Prop
 | .tok _ _,_=>False
 |x,u=>aQ x u
def sh.v(r:sh x u):aQ x u:=by cases x<;>first|exact r|exact r.elim
abbrev iW:List V->List Zn->Prop:=VB sh
theorem iW.v:∀{xs:List V}{us:List Zn},iW xs us->aT xs us
 |_,_,.nil=>.nil
 |_,_,.cons r t=>.cons r.v (iW.v t)
def sh.abs(r:sh x u):Rh u=some x:=by
 cases x with
 |non=>cases r;rfl
 |bl _=>cases r;rfl
 |int _=>obtain⟨t,rfl⟩:=r;rfl
 |str _=>obtain⟨t,rfl⟩:=r;rfl
 |byt _=>obtain⟨t,rfl⟩:=r;rfl
 |flt _=>obtain⟨t,rfl⟩:=r;rfl
 |ref _=>cases r;rfl
 |ty _=>cases r;rfl
 |tok _ _=>exact r.elim
def sh.inj(r:sh x u)(q:sh y u):x=y:=RH (r.abs.symm.trans q.abs)
def aR(K:Frag)(H:Hp)(a:Zo)(xs:List V):Prop:=
 Rd H a (.lst xs)\/
  ∃o its n,K.lookup a=some o/\o.cls=.type "list"/\o.dict=none/\o.data=.seq its n/\its.size<=v1/\iW xs its.toList
def dF(K:Frag)(H:Hp)(a:Zo)(xs:List V):Prop:=
 Rd H a (.tup xs)\/
  ∃o its n,K.lookup a=some o/\o.cls=.type "tuple"/\o.data=.seq its n/\its.size<=v1/\iW xs its.toList
theorem iW.ints:∀{ns:List Int}{us:List Zn},aT (ns.map V.int) us->iW (ns.map V.int) us
 | [],_,.nil=>.nil
 |_::_,_,.cons r t=>.cons r (iW.ints t)
theorem iW.inj:∀{xs ys:List V}{us:List Zn},iW xs us->iW ys us->xs=ys
 |_,_,_,.nil,.nil=>rfl
 |_,_,_,.cons r t,.cons r' t'=>by rw[sh.inj r r',iW.inj t t']
section
variable{X:Cx}{Rv:RL}{σ:St}{H:Hp}{s:RQ}{a:Zo}{xs ys:List V}
def aR.of{K:Frag}(h:H a=some (.lst xs)):aR K H a xs:=.inl (.inl h)
def dF.of{K:Frag}(h:H a=some (.tup xs)):dF K H a xs:=.inl (.inl h)
def aJ.list(I:aJ X Rv σ H s)(h:aR X.K H a xs):∃its:List Zn,aT xs its/\PlainL s.heap a its.toArray/\xs.length<=v1:=by
 rcases h with h|⟨o,its,n,hk,hc,hd,hs,hz,r⟩
 .obtain⟨z,its,n,r,e⟩:=h.ok I.hok;exact⟨its,r,⟨_,n,e,rfl,rfl,rfl⟩,z⟩
 .refine⟨its.toList,r.v,⟨o,n,I.kIn a o hk,hc,hd,by simpa using hs⟩,?_⟩;have e:=r.v.length;simp only[Yt]at e;lia
def aJ.tuple(I:aJ X Rv σ H s)(h:dF X.K H a xs):∃its:List Zn,aT xs its/\IsTup s.heap a its.toArray/\xs.length<=v1:=by
 rcases h with h|⟨o,its,n,hk,hc,hs,hz,r⟩
 .obtain⟨z,its,r,p⟩:=h.ok I.hok;exact⟨its,r,p,z⟩
 .refine⟨its.toList,r.v,⟨o,I.kIn a o hk,hc,n,by simpa using hs⟩,?_⟩;have e:=r.v.length;simp only[Yt]at e;lia
def aJ.list_inj(I:aJ X Rv σ H s)(h:aR X.K H a xs)(h':aR X.K H a ys):xs=ys:=by
 have kn:∀o,X.K.lookup a=some o->∀u,¬Rd H a u:=λo hk u r=>by
  have hn:=(I.bs a o (I.ok.mod.kin a o hk)).2
  rcases r with r|⟨_,r⟩<;>(rw[hn]at r;cases r)
 rcases h with h|⟨o,its,n,hk,hc,hd,hs,hz,r⟩
 .rcases h' with h'|⟨o',its',n',hk',hc',hd',hs',hz',r'⟩
  .rcases h with h|⟨_,h⟩<;>rcases h' with h'|⟨_,h'⟩<;>(rw[h]at h';cases h';try rfl)
  .exact(kn _ hk' _ h).elim
 .rcases h' with h'|⟨o',its',n',hk',hc',hd',hs',hz',r'⟩
  .exact(kn _ hk _ h').elim
  .rw[hk]at hk';cases hk';rw[hs]at hs';injection hs' with d1 _;subst d1;exact iW.inj r r'
end
noncomputable abbrev Cx.wish(X:Cx)(E:RK):Cx:={X with xe:=E}
noncomputable abbrev Cx.nox(X:Cx):Cx:=X.wish λ_ _=>False
theorem Cx.Ok.wish{X:Cx}(ok:X.Ok)(E:RK):(X.wish E).Ok:=
 ⟨ok.mod,ok.kind,ok.glob,ok.blt,ok.above,ok.inj,ok.has,ok.cab,ok.hd,ok.frames,ok.stk,ok.exf,ok.bs,ok.bsz,ok.noex,ok.exfs,ok.funs,ok.frf⟩
def Cx.Ok.unwish{X:Cx}{E:RK}(ok:(X.wish E).Ok):X.Ok:=
 ⟨ok.mod,ok.kind,ok.glob,ok.blt,ok.above,ok.inj,ok.has,ok.cab,ok.hd,ok.frames,ok.stk,ok.exf,ok.bs,ok.bsz,ok.noex,ok.exfs,ok.funs,ok.frf⟩
section
variable{X:Cx}{Rv:RL}{σ:St}{H:Hp}{s:RQ}{E:RK}
theorem aJ.wish(I:aJ X Rv σ H s)(E:RK):aJ (X.wish E) Rv σ H s:=⟨I.ok.wish E,I.os,I.bare,I.Rw,I.loc,I.cell,I.free,I.freeC,I.pin,I.hok,I.len⟩
theorem aJ.unwish(I:aJ (X.wish E) Rv σ H s):aJ X Rv σ H s:=⟨I.ok.unwish,I.os,I.bare,I.Rw,I.loc,I.cell,I.free,I.freeC,I.pin,I.hok,I.len⟩
theorem SP.unwish(h:SP (X.wish E) Rv D f s'):SP X Rv D f s':=by
 cases f with
 |next=>obtain⟨σ',H',I,q⟩:=h;exact⟨σ',H',I.unwish,q⟩
 |brk=>obtain⟨σ',H',I,q⟩:=h;exact⟨σ',H',I.unwish,q⟩
 |cont=>obtain⟨σ',H',I,q⟩:=h;exact⟨σ',H',I.unwish,q⟩
 |ret u=>obtain⟨v,σ',H',I,r,q⟩:=h;exact⟨v,σ',H',I.unwish,r,q⟩
theorem sj.nox{st:List Sb}(h:sj X.nox st t):sj X st t:=λRv s σ H D I hw=>
 Sx (h Rv s σ H D (I.wish _) hw) (λ_ _ q=>q.unwish) λ_ _ z=>False.elim z
end
section
variable{X:Cx}{st:Sb}{rest:List Sb}{t u:TS}
def wY:TS:=λD σ H=>D.nx σ H
def bn(t u:TS):TS:=λD σ H=>t {D with nx:=u D} σ H
def aH:sj X [] wY:=λ_ _ σ H _ I h=>Th ⟨σ,H,I,h⟩
def af(h1:PS X st t)(h2:sj X rest u):sj X (st::rest) (bn t u):=by
 intro Rv s σ H D I h;refine UF (bL (h1 Rv s σ H {D with nx:=u D} I h) λf s1 q=>?_);cases f with
 |next=>
  obtain⟨σ',H',I',q⟩:=q;exact h2 Rv s1 σ' H' D I' q
 |ret v=>exact q
 |brk=>exact q
 |cont=>exact q
def am(h1:PS X st t):sj X [st] t:=by
 intro Rv s σ H D I h;refine UF (bL (h1 Rv s σ H D I h) λf s1 q=>?_);cases f with
 |next=>exact Th q
 |ret v=>exact q
 |brk=>exact q
 |cont=>exact q
def Kh:TS:=λD σ H=>D.bk σ H
def A8:PS X (.Break pos) Kh:=λ_ _ σ H _ I h=>wpAny_Break ⟨σ,H,I,h⟩
def aJ.quiet{Rv:RL}{σ:St}{H:Hp}{s:RQ}(I:aJ X Rv σ H s):interactive X.env=false:=by simp[interactive,I.ok.kind]
def jP(te:TE):TS:=λD σ H=>te σ H λ_ H1=>D.nx σ H1
def cS(he:PE X e te)(hs:TX e none pos.line X.env=pure false:=by rfl):PS X (.Expr e pos) (jP te):=by intro Rv s σ H D I h;exact wpAny_Expr_any (bL (he Rv s σ H _ I h) λv s1 ⟨x,H1,I1,r1,q1⟩=>⟨σ,H1,I1,q1⟩) I.quiet hs
def cD(te:TE):TS:=λD σ H=>te σ H D.rt
def aF(he:PE X e te):PS X (.Return (some e) pos) (cD te):=by intro Rv s σ H D I h;exact wpAny_Return_some (bL (he Rv s σ H _ I h) λv s1 ⟨x,H1,I1,r1,q1⟩=>⟨x,σ,H1,I1,r1,q1⟩)
def qq(c:TT)(t u:TS):TS:=λD σ H=>c σ H λb H1=>if b=true then t D σ H1 else u D σ H1
def aZ(hc:PT X c tc)(ha:sj X a t)(hb:sj X b u):PS X (.If c a b pos) (qq tc t u):=by
 intro Rv s σ H D I h;refine wpAny_If (bL (hc Rv s σ H _ I h) λd s1 ⟨H1,I1,q1⟩=>?_);cases d with
 |true=>exact ha Rv s1 σ H1 D I1 q1
 |false=>exact hb Rv s1 σ H1 D I1 q1
def Kg:TS:=λ_ _ _=>False
def gH:PS X st Kg:=λ_ _ _ _ _ _ h=>h.elim
end
abbrev TG:=V->St->Hp->(St->Hp->Prop)->Prop
abbrev LQ:=List V->St->Hp->(St->Hp->Prop)->Prop
def PG(X:Cx)(target:Sz)(t:TG):Prop:=
 ∀(Rv:RL)(s:RQ)(σ:St)(H:Hp)(v:V)(u:Zn)(Q:St->Hp->Prop),aJ X Rv σ H s->aQ v u->t v σ H Q->
  RR (RX X.prog X.w) X.A (assign target X.env u) (λ_ s'=>∃σ' H',aJ X Rv σ' H' s'/\Q σ' H') X.xe s
def L7(X:Cx)(ts:List Sz)(t:LQ):Prop:=
 ∀(Rv:RL)(s:RQ)(σ:St)(H:Hp)(vs:List V)(us:List Zn)(Q:St->Hp->Prop),aJ X Rv σ H s->aT vs us->t vs σ H Q->
  RR (RX X.prog X.w) X.A (assignInOrder ((TL ts X.env).map (·.2)) us) (λ_ s'=>∃σ' H',aJ X Rv σ' H' s'/\Q σ' H') X.xe s
abbrev PK:=V->V->V->Hp->(Hp->Prop)->Prop
def PN(X:Cx)(t:PK):Prop:=
 ∀(Rv:RL)(s:RQ)(σ:St)(H:Hp)(o i v:V)(ov iv u:Zn)(Q:Hp->Prop),aJ X Rv σ H s->aQ o ov->aQ i iv->aQ v u->t o i v H Q->
  RR (RX X.prog X.w) X.A (VD ov iv u) (λ_ s'=>∃H',aJ X Rv σ H' s'/\Q H') X.xe s
section
variable{X:Cx}{pos:Vb}
def ck(i:Nat):TG:=λv σ H Q=>Q (σ.set i (some v)) H
def xx(hN:X.N.Nodup)(hi:X.N[i]? =some x)(hx:LV X.env.scope x)(hf:X.fn x=true\/X.env.scope.names.lookup x=some .local:=by first|exact .inl rfl|exact .inr rfl|assumption):PG X (.Name x pos) (ck i):=by intro Rv s σ H v u Q I r h;exact wpAny_assign_Name (kb I hN hi hx r (λs' I'=>⟨_,H,I',h⟩) hf)
def dz(i:Nat)(hN:X.N.Nodup)(hi:X.N[i]? =some x:=by rfl)(hx:LV X.env.scope x:=by first|exact .inl rfl|exact .inr rfl)(hf:X.fn x=true\/X.env.scope.names.lookup x=some .local:=by first|exact .inl rfl|exact .inr rfl|assumption):PG X (.Name x pos) (ck i):=xx hN hi hx hf
def BS:LQ:=λvs σ H Q=>vs=[]/\Q σ H
def kN(t:TG)(u:LQ):LQ:=λvs σ H Q=>∃v r,vs=v::r/\t v σ H λσ' H'=>u r σ' H' Q
def mB:L7 X [] BS:=by intro Rv s σ H vs us Q I r h;obtain⟨e,h⟩:=h;subst e;cases r;exact assignInOrder_nil ⟨σ,H,I,h⟩
def fH(h1:PG X e t)(h2:L7 X es u)(hs:(TL (e::es) X.env).map (·.2)=assign e X.env::(TL es X.env).map (·.2):=by rfl):L7 X (e::es) (kN t u):=by
 intro Rv s σ H vs us Q I r h;obtain⟨v,vr,e1,h⟩:=h;subst e1;cases r with
 |cons r rr=>
  rw[hs];refine assignInOrder_cons (bL (h1 Rv s σ H _ _ _ I r h) λ_ s1 ⟨σ1,H1,I1,q1⟩=>?_);exact h2 Rv s1 σ1 H1 _ _ Q I1 rr q1
def zR(K:Frag)(n:Nat)(t:LQ):TG:=λv σ H Q=>∃a xs,v=.ref a/\dF K H a xs/\xs.length=n/\t xs σ H Q
def KB{es:List Sz}{k:Nat}{t:LQ}{n:Nat}(hc:X.calm=true)(h:L7 X es t)(hn:(TL es X.env).length=n:=by rfl)(hst:(TL es X.env).findIdx? (·.1)=none:=by rfl):PG X (.Tuple es k pos) (zR X.K n t):=by intro Rv s σ H v u Q I r hw;obtain⟨a,xs,e1,hq,hl,hw⟩:=hw;subst e1;cases r;obtain⟨its,rv,ht,hz⟩:=I.tuple hq;refine assign_Tuple_tuple (I.ok.hd hc) ht (by simp[hn,<-hl,rv.length]) hst λh' hx=>?_;have I1:aJ X Rv σ H {s with heap:=h'}:=I.kept (t':=s.toks) λb o e=>hx b o (XE (RP e)) e;exact h Rv _ σ H xs _ Q I1 (by simpa using rv) hw
def gSub(to ti:TE)(t:PK):TG:=λv σ H Q=>to σ H λo H1=>ti σ H1 λi H2=>t o i v H2 λH3=>Q σ H3
def Be(ho:PE X o to)(hi:PE X i ti)(hs:PN X t)(ha:∀v,assign (.Subscript o i pos) X.env v=(do
   let ov<-TF [v] (Sr o X.env)
   let iv<-TF [v,ov] (Sr i X.env)
   U8 pos
   TF [v,ov,iv] (VD ov iv v)
   release [v,ov,iv] []):=by intro _;rfl):PG X (.Subscript o i pos) (gSub to ti t):=by
 intro Rv s σ H v u Q I r h;rw[ha];refine RM (Sa (bL (ho Rv s σ H _ I h) λov s1 ⟨x,H1,I1,r1,q1⟩=>?_));refine RM (Sa (bL (hi Rv s1 σ H1 _ I1 q1) λiv s2 ⟨y,H2,I2,r2,q2⟩=>?_));refine RM (wpAny_standAt (RM (Sa (bL (hs Rv s2 σ H2 x y v ov iv u _ I2 r1 r2 r q2) λ_ s3 ⟨H3,I3,q3⟩=>?_))));exact wpAny_release ⟨σ,H3,I3,q3⟩
def oA(te:TE)(g:TG):TS:=λD σ H=>te σ H λx H1=>g x σ H1 D.nx
def vF(he:PE X e te)(hg:PG X tg g)(hs:swapsWithSole [tg] e pos.line X.env=pure false:=by rfl)(hw:swappedStores [tg] e X.env=pure none:=by rfl)(h1:(TL [tg] X.env).map (·.2)=[assign tg X.env]:=by rfl):PS X (.Assign [tg] e pos) (oA te g):=by intro Rv s σ H D I h;refine wpAny_Assign_stores (bL (he Rv s σ H _ I h) λv s1 ⟨x,H1,I1,r1,q1⟩=>?_) hs hw;rw[h1];exact bL (hg Rv s1 σ H1 x v _ I1 r1 q1) λ_ s2 q=>q
def Ky(hN:X.N.Nodup)(hi:X.N[i]? =some x)(hx:LV X.env.scope x)(he:PE X e te)(hs:TX e (some (.Name x pos')) pos.line X.env=pure false:=by rfl)(hf:X.fn x=true\/X.env.scope.names.lookup x=some .local:=by first|exact .inl rfl|exact .inr rfl|assumption):PS X (.Assign [.Name x pos'] e pos) (oA te (ck i)):=by intro Rv s σ H D I h;refine wpAny_Assign_Name (bL (he Rv s σ H _ I h) λv s1 ⟨y,H1,I1,r1,q1⟩=>?_) hs;exact kb I1 hN hi hx r1 (λs2 I2=>⟨_,H1,I2,q1⟩) hf
def aw{x:Str}{e:Sz}{te:TE}{pos':Vb}(i:Nat)(hN:X.N.Nodup)(he:PE X e te)(hi:X.N[i]? =some x:=by rfl)(hx:LV X.env.scope x:=by first|exact .inl rfl|exact .inr rfl)(hs:TX e (some (.Name x pos')) pos.line X.env=pure false:=by rfl)(hf:X.fn x=true\/X.env.scope.names.lookup x=some .local:=by first|exact .inl rfl|exact .inr rfl|assumption):PS X (.Assign [.Name x pos'] e pos) (oA te (ck i)):=Ky hN hi hx he hs hf
end
section
def Kd(c:TT)(tb:TS):TS:=λD σ H=>∃W:Nat->St->Hp->Prop,(∃m,W m σ H)/\∀m σ H,W m σ H->
 c σ H λb H1=>if b=true then∃N:St->Hp->Prop,(∀σ' H',N σ' H'->∃m',m'<m/\W m' σ' H')/\tb {D with nx:=N,ct:=N,bk:=D.nx} σ H1 else D.nx σ H1
def tL(hp:PassesOwn (RX X.prog X.w) X.A X.env X.xe)(hc:PT X c tc)(hb:sj X body tb):PS X (.While c body [] pos) (Kd tc tb):=by
 intro Rv s σ H D I h;obtain⟨W,⟨m0,w0⟩,turn⟩:=h;refine wpAny_While (codeAny_whileLoop (λn s'=>∃σ' H',aJ X Rv σ' H' s'/\W n σ' H') ?_ m0 ⟨σ,H,I,w0⟩);rintro n s1 ⟨σ1,H1,I1,w1⟩;refine S4 hp (bL (hc Rv s1 σ1 H1 _ I1 (turn n σ1 H1 w1)) λb s2 ⟨H2,I2,q2⟩=>?_);cases b with
 |true=>
  obtain⟨N,hN,q2⟩:=q2;rw[RC rfl];refine S4 hp (bL (hb Rv s2 σ1 H2 _ I2 q2) λf s3 q3=>?_);cases f with
  |next=>
   obtain⟨σ3,H3,I3,n3⟩:=q3;obtain⟨m',hm,w3⟩:=hN σ3 H3 n3;exact⟨m',hm,σ3,H3,I3,w3⟩
  |cont=>
   obtain⟨σ3,H3,I3,n3⟩:=q3;obtain⟨m',hm,w3⟩:=hN σ3 H3 n3;exact⟨m',hm,σ3,H3,I3,w3⟩
  |brk=>exact q3
  |ret v=>exact q3
 |false=>
  rw[RB Yd];exact Th ⟨σ1,H2,I2,q2⟩
end
structure It where
 go:Nat->Hp->Prop
 yld:Nat->Hp->V->Hp->Prop
 stop:Nat->Hp->Prop
def jz(X:Cx)(Rv:RL)(H:Hp)(b:Zo):Prop:=
 H b=none/\b≠X.env.locals/\b∉X.fs/\(b∈X.ex\/X.s₀.heap.objs.size<=b)/\(∀x c,X.env.cells.lookup x=some c->c≠b)/\∀p∈X.pn++Rv,p.1≠b
def aJ.fpOk{X:Cx}{Rv:RL}{σ:St}{H H':Hp}{s:RQ}{b:Zo}(I:aJ X Rv σ H s)(hb:s.heap.objs.size<=b)(hn:H' b=none):jz X Rv H' b:=by
 refine⟨hn,XJ (XH I.lt hb),I.nofs hb,.inr (XG I.sz hb),λx c e z=>?_,λp hp z=>?_⟩
 .obtain⟨v,q⟩:=I.cell x c e;exact RF (XH q.lt (by rw[z];exact hb)) (XM _)
 .exact RF (XH (RP (I.pin p hp).1) (by rw[z];exact hb)) (XM _)
structure Ao(P:RU)(w:RZ)(K:Frag)(tg:Sz)(J:It)(fp:List Zo)(it:Zo)(tn:Nat->R9->Prop):Prop where
 mem:it∈fp
 obj:∀i h,tn i h->∀b∈fp,∃o,h.get? b=some o/\∀v,o.data≠.cell v
 keep:∀i h h',tn i h->(∀b∈fp,∀o,h.get? b=some o->h'.get? b=some o)->tn i h'
 item:∀(X:Cx),X.prog=P->X.w=w->X.K=K->X.calm=true->∀(i:Nat)(Rv:RL)(s:RQ)(σ:St)(H:Hp)(E:RK),aJ X Rv σ H s->(∀b∈fp,jz X Rv H b)->tn i s.heap->J.go i H->
  RR (RX P w) X.A (S7 (.ref it)) (λr s1=>∃u,r=some u/\
   RR (RX P w) X.A (T6 tg (.ref it) u) (λ_ s2=>∃x H',aJ X Rv σ H' s2/\aQ x u/\J.yld i H x H'/\tn (i+1) s2.heap/\∀b∈fp,H' b=none) E s1) E s
 done:∀(X:Cx),X.prog=P->X.w=w->X.K=K->X.calm=true->∀(i:Nat)(Rv:RL)(s:RQ)(σ:St)(H:Hp)(E:RK),aJ X Rv σ H s->(∀b∈fp,jz X Rv H b)->tn i s.heap->J.stop i H->
   RR (RX P w) X.A (S7 (.ref it)) (λr s1=>r=none/\aJ X Rv σ H s1) E s
 self:∀(A:SJ)(i:Nat)(s:RQ)(Q:RK)(E:RK),tn i s.heap->Q (.ref it) s->RR (RX P w) A (pyIter (.ref it)) Q E s
abbrev TI:=St->Hp->(It->Hp->Prop)->Prop
def Rk(X:Cx)(Rv:RL)(σ:St)(tg:Sz)(R:It->Hp->Prop)(itv:Zn)(s2:RQ):Prop:=
 ∃it fp tn J H',itv=.ref it/\aJ X Rv σ H' s2/\Ao X.prog X.w X.K tg J fp it tn/\tn 0 s2.heap/\(∀b∈fp,jz X Rv H' b)/\R J H'
def PI(X:Cx)(tg iter:Sz)(wi:TI):Prop:=
 ∀(Rv:RL)(s:RQ)(σ:St)(H:Hp)(R:It->Hp->Prop),aJ X Rv σ H s->wi σ H R->
  RR (RX X.prog X.w) X.A (Sr iter X.env) (λv s1=>RR (RX X.prog X.w) X.A (pyIter v) (Rk X Rv σ tg R) X.xe s1) X.xe s
def JG(ho:s.heap.get? it=some o)(hc:o.cls=.type n)(hd:o.data=.fields vs)(hn:["enumerate","zip","dict_itemiterator","dict_reverseitemiterator","odict_iterator","itertools.zip_longest","itertools.pairwise"].contains n=false)(hQ:Q () s):RR M A (T6 tg (.ref it) u) Q E s:=by
 unfold T6;cases tg<;>first
  |exact RN hQ
  |(cases u<;>first
    |exact RN hQ
    |(refine RM (wpAny_load ho ?_)
      rw[hc,hd];show RR M A (if(["enumerate","zip","dict_itemiterator","dict_reverseitemiterator","odict_iterator","itertools.zip_longest","itertools.pairwise"].contains n&&vs[0]? == some (T5 _))=true then _ else _) Q E s;rw[RB (by intro h;rw[hn,Bool.false_and]at h;cases h)];exact RN hQ))
noncomputable def JU(K:Frag)(a:Zo):It:=
 ⟨λi H=>∃xs x,aR K H a xs/\xs[i]? =some x,λi H x H'=>H'=H/\∀xs,aR K H a xs->xs[i]? =some x,λi H=>∃xs,aR K H a xs/\xs.length<=i⟩
noncomputable def L8(lo:Int)(n:Nat):It:=⟨λi _=>i<n,λi H x H'=>H'=H/\x=.int (lo+i),λi _=>n<=i⟩
def yG{P:RU}{w:RZ}{K:Frag}{tg:Sz}(a it:Zo):Ao P w K tg (JU K a) [it] it (λi h=>h.IsListIter it a i) where
 mem:=by simp
 obj:=λi h st b hb=>by
  have e:b=it:=by simpa using hb
  subst e;obtain⟨o,e,c,d⟩:=st;exact⟨o,e,λv z=>by rw[d]at z;cases z⟩
 keep:=λi h h' st k=>st.at λo e=>k it (by simp) o e
 item:=by intro X hP hw hK hc i Rv s σ H E I hf st hg;subst hP hw hK;obtain⟨xs,x,hq,hx⟩:=hg;obtain⟨its,rv,p,hz⟩:=I.list hq;obtain⟨u,hu,ru⟩:=rv.get hx;obtain⟨f0,f1,f2,f3,f4,f5⟩:=hf it (by simp);refine UK st p.isList (x:=u) (by simpa using hu) λh' st' sb=>?_;have I1:aJ X Rv σ H {s with heap:=h'}:=I.turned (t':=s.toks) (λb o hb e=>(sb.2 b hb).trans e) f0 f1 f3 f4 f5;obtain⟨o,e,c,d⟩:=id st';exact⟨u,rfl,JG (s:={s with heap:=h'}) e c d (by decide) ⟨x,H,I1,ru,⟨rfl,λys hy=>by rw[I.list_inj hy hq];exact hx⟩,st',λb hb=>(hf b hb).1⟩⟩
 done:=by intro X hP hw hK hc i Rv s σ H E I hf st hg;subst hP hw hK;obtain⟨xs,hq,hx⟩:=hg;obtain⟨its,rv,p,hz⟩:=I.list hq;obtain⟨f0,f1,f2,f3,f4,f5⟩:=hf it (by simp);have hl:=rv.length;exact UT (I.ok.hd hc) st p.isList (by simp;lia) λh' eb=>⟨rfl,I.turned (t':=s.toks) (λb o hb e=>eb b o hb e) f0 f1 f3 f4 f5⟩
 self:=λ_ _ _ _ _ st h=>wpAny_pyIter_listiter st h
def uY{P:RU}{w:RZ}{K:Frag}{tg:Sz}(it:Zo)(lo:Int)(n:Nat):Ao P w K tg (L8 lo n) [it] it (λi h=>IsRangeIter h it (lo+(i:Nat)*1) ((n:Int) - (i:Nat)) 1) where
 mem:=by simp
 obj:=λi h st b hb=>by
  have e:b=it:=by simpa using hb
  subst e;exact⟨_,st,λv z=>by
   have z':Data.fields _=Data.cell v:=z;cases z'⟩
 keep:=λi h h' st k=>k it (by simp) _ st
 item:=by intro X hP hw hK hc i Rv s σ H E I hf st hg;subst hP hw hK;obtain⟨f0,f1,f2,f3,f4,f5⟩:=hf it (by simp);have W:=Walks.range (prog:=X.prog) (w:=X.w) (I.ok.hd hc) it lo 1 n;refine W.item i s _ _ hg st λv h' tk hv st' kk=>?_;obtain⟨t,rfl⟩:=hv;have I1:aJ X Rv σ H {s with heap:=h',toks:=tk}:=I.turned (λb o hb e=>kk b o (by simpa using hb) e) f0 f1 f3 f4 f5;refine⟨_,rfl,JG (s:={s with heap:=h',toks:=tk}) (n:="range_iterator") st' rfl rfl (by decide) ⟨.int (lo+i),H,I1,⟨t,?_⟩,⟨rfl,rfl⟩,st',λb hb=>(hf b hb).1⟩⟩;rw[Int.mul_one]
 done:=by intro X hP hw hK hc i Rv s σ H E I hf st hg;subst hP hw hK;obtain⟨f0,f1,f2,f3,f4,f5⟩:=hf it (by simp);exact wpAny_pyNext_range_end (I.ok.hd hc) st (by have:n<=i:=hg;lia) λh' eb=>⟨rfl,I.turned (t':=s.toks) (λb o hb e=>eb b o hb e) f0 f1 f3 f4 f5⟩
 self:=λ_ _ _ _ _ st h=>wpAny_pyIter_rangeiter st h
section
def nV(K:Frag)(tl:TE):TI:=λσ H R=>tl σ H λx H1=>∃a,x=.ref a/\(∃xs,aR K H1 a xs)/\R (JU K a) H1
def Dy(hl:PE X l tl):PI X tg l (nV X.K tl):=by
 intro Rv s σ H R I h;refine bL (hl Rv s σ H _ I h) λv s1 ⟨x,H1,I1,r1,q1⟩=>?_;obtain⟨a,e,⟨xs,hq⟩,q⟩:=q1;subst e;cases r1;obtain⟨its,rv,p,hz⟩:=I1.list hq;refine S5 p.isList ?_;refine⟨s1.heap.objs.size,[s1.heap.objs.size],_,_,H1,rfl,I1.kept (t':=s1.toks) λb o e=>RO _ e,yG a _,⟨_,RT _ rfl,rfl,rfl⟩,λb hb=>?_,q⟩;have e:b=s1.heap.objs.size:=by simpa using hb
 subst e;exact I1.fpOk (XD _) (I1.hok.fresh (XD _))
def A1{Rv:RL}{σ:St}{H:Hp}{s:RQ}{R:It->Hp->Prop}{E:RK}{lo hi:Int}{t u v:VL}{tk:Nat}(I:aJ X Rv σ H s)(h1: -(2 ^ 62)<=lo)(h2:lo<2 ^ 62)(h3: -(2 ^ 62)<=hi)(h4:hi<2 ^ 62)(q:R (L8 lo (hi - lo).toNat) H):RR (RX X.prog X.w) X.A (pyIter (.ref s.heap.objs.size)) (Rk X Rv σ tg R) E {s with heap:=s.heap.push {cls:=.type "range",data:=.fields #[.int lo t,.int hi u,.int 1 v]},toks:=tk}:=by
 refine wpAny_pyIter_range (IsRange.new ..) (small_one h1 h2 h3 h4) ?_;have I1:aJ X Rv σ H {s with heap:=s.heap.push {cls:=.type "range",data:=.fields #[.int lo t,.int hi u,.int 1 v]},toks:=tk}:=I.kept λb o e=>RO _ e;refine⟨(s.heap.push {cls:=.type "range",data:=.fields #[.int lo t,.int hi u,.int 1 v]}).objs.size,[(s.heap.push {cls:=.type "range",data:=.fields #[.int lo t,.int hi u,.int 1 v]}).objs.size],_,_,H,rfl,
  I1.kept (t':=tk) λb o e=>RO _ e,uY _ lo (hi - lo).toNat,?_,λb hb=>?_,q⟩
 .have e1:lo+((0:Nat):Int)*1=lo:=by simp
  have e2:(((hi - lo).toNat:Nat):Int) - ((0:Nat):Int)=Builtin.Range.rangeSize lo hi 1:=by rw[rangeSize_one];split<;>lia
  show IsRangeIter _ _ (lo+((0:Nat):Int)*1) ((((hi - lo).toNat:Nat):Int) - ((0:Nat):Int)) 1;rw[e1,e2];exact RT _ rfl
 .have e:b=(s.heap.push {cls:=.type "range",data:=.fields #[.int lo t,.int hi u,.int 1 v]}).objs.size:=by simpa using hb
  subst e;exact I1.fpOk (XD _) (I1.hok.fresh (XD _))
def xX(ta:TA):TI:=λσ H R=>ta σ H λvs H1=>∃j:Int,vs=[.int j]/\-(2 ^ 62)<=j/\j<2 ^ 62/\R (L8 0 j.toNat) H1
def zf(hg:Gl X "range")(hm:X.mg "range"=none)(ha:PA X [a] ta)(hs:RS [a] X.env=[(false,Sr a X.env)]:=by rfl):PI X tg (.Call (.Name "range" p) [a] [] pos) (xX ta):=by
 intro Rv s σ H R I h;refine Call_ (j3 I hg hm boot_range (PyProof.Rows.callWith_type1 (bL (ha pos Rv s σ H _ I h) λus s1 ⟨vs,H1,I1,r1,q1⟩=>?_) hs rfl));obtain⟨j,e,q1,q2,q⟩:=q1;subst e;cases r1 with
 |cons r rr=>
  cases rr;obtain⟨t,rfl⟩:=r;exact call_range_1 (A1 I1 (by lia) (by lia) q1 q2 (by simpa using q))
def tFor(wi:TI)(g:TG)(tb:TS):TS:=λD σ H=>wi σ H λJ H1=>∃W:Nat->Nat->St->Hp->Prop,(∃m,W 0 m σ H1)/\∀i m σ H,W i m σ H->
 (J.stop i H/\D.nx σ H)\/(J.go i H/\∃N:St->Hp->Prop,(∀σ' H',N σ' H'->∃m',m'<m/\W (i+1) m' σ' H')/\∀x H',J.yld i H x H'->g x σ H' λσ2 H2=>tb {D with nx:=N,ct:=N,bk:=D.nx} σ2 H2)
noncomputable def jk(fp:List Zo)(h:R9):List (Zo×Obj):=fp.filterMap λb=>(h.get? b).map λo=>(b,o)
def iH(hb:b∈fp)(e:h.get? b=some o):(b,o)∈jk fp h:=Wd.mpr ⟨b,hb,by rw[e];rfl⟩
def pA(hp:p∈jk fp h):p.1∈fp/\h.get? p.1=some p.2:=by
 obtain⟨b,hb,e⟩:=Wd.mp hp;cases q:h.get? b with
 |none=>rw[q]at e;cases e
 |some o=>
  rw[q]at e;have e':(b,o)=p:=RH e;subst e';exact⟨hb,q⟩
def aJ.pinned{Rv:RL}{σ:St}{H:Hp}{s:RQ}{fp:List Zo}(I:aJ X Rv σ H s)(hf:∀b∈fp,jz X Rv H b)(ho:∀b∈fp,∃o,s.heap.get? b=some o/\∀v,o.data≠.cell v):aJ X (Rv++jk fp s.heap) σ H s:=
 I.pins_of λp hp=>(VY.mp hp).elim (λz=>I.pin p (V6 _ z)) λz=>by obtain⟨hb,e⟩:=pA z;obtain⟨f0,f1,f2,_⟩:=hf p.1 hb;obtain⟨o,e',d⟩:=ho p.1 hb;rw[e]at e';cases e';exact⟨e,f0,f1,f2,d⟩
def aJ.unpinned{Rv pl:RL}{σ:St}{H:Hp}{s:RQ}(I:aJ X (Rv++pl) σ H s):aJ X Rv σ H s:=I.pins_of λp hp=>I.pin p (V6 _ (Wh _ hp))
def jj(hp:PassesOwn (RX X.prog X.w) X.A X.env X.xe)(hc:X.calm=true)(hi:PI X tg iter wi)(hg:PG X tg g)(hb:sj X body tb)(hs:∀x,Ut iter X.env x=pure x:=by intro _;rfl):PS X (.For tg iter body [] pos) (tFor wi g tb):=by
 intro Rv s σ H D I h;refine wpAny_For (bL (hi Rv s σ H _ I h) λv s1 h1=>bL h1 λitv s2 h2=>?_) hs;obtain⟨it,fp,tn,J,H2,e,I2,T,st2,f2,W,⟨m0,w0⟩,turn⟩:=h2;subst e;have stat:∀{H':Hp},(∀b∈fp,H' b=none)->∀b∈fp,jz X Rv H' b:=λhn b hb=>⟨hn b hb,(f2 b hb).2⟩;refine codeAny_forLoop_any (λn s'=>∃i σ' H',aJ X Rv σ' H' s'/\tn i s'.heap/\(∀b∈fp,H' b=none)/\W i n σ' H') ?_ m0 ⟨0,σ,H2,I2,st2,λb hb=>(f2 b hb).1,w0⟩;rintro n s3 ⟨i,σ3,H3,I3,st3,fr3,w3⟩
 rcases turn i n σ3 H3 w3 with⟨stop,qn⟩|⟨go,N,hN,step⟩
 .refine S4 hp (bL (T.done X rfl rfl rfl hc i Rv s3 σ3 H3 X.xe I3 (stat fr3) st3 stop) λr s4 ⟨hr,I4⟩=>?_);subst hr;exact Th ⟨σ3,H3,I4,qn⟩
 .refine S4 hp (bL (T.item X rfl rfl rfl hc i Rv s3 σ3 H3 X.xe I3 (stat fr3) st3 go) λr s4 ⟨u,hr,h4⟩=>?_);subst hr;refine S4 hp (bL h4 λ_ s5 ⟨x,H5,I5,r5,y5,st5,fr5⟩=>?_);have I5':=I5.pinned (stat fr5) (T.obj _ _ st5);refine S4 hp (bL (hg _ s5 σ3 H5 x u _ I5' r5 (step x H5 y5)) λ_ s6 ⟨σ6,H6,I6,q6⟩=>?_);refine S4 hp (bL (hb _ s6 σ6 H6 _ I6 q6) λf s7 q7=>?_);have again:∀{σ7:St}{H7:Hp},aJ X (Rv++jk fp s5.heap) σ7 H7 s7->N σ7 H7->∃m,m<n/\∃i σ' H',aJ X Rv σ' H' s7/\tn i s7.heap/\(∀b∈fp,H' b=none)/\W i m σ' H':=λ{σ7 H7} I7 n7=>by obtain⟨m',hm,w7⟩:=hN σ7 H7 n7;refine⟨m',hm,i+1,σ7,H7,I7.unpinned,T.keep _ _ _ st5 λb hb o e=>(I7.pin (b,o) (V6 _ (V6 _ (iH hb e)))).1,λb hb=>?_,w7⟩;obtain⟨o,e,d⟩:=T.obj _ _ st5 b hb;exact(I7.pin (b,o) (V6 _ (V6 _ (iH hb e)))).2.1
  cases f with
  |next=>obtain⟨σ7,H7,I7,n7⟩:=q7;exact again I7 n7
  |cont=>obtain⟨σ7,H7,I7,n7⟩:=q7;exact again I7 n7
  |brk=>obtain⟨σ7,H7,I7,q7⟩:=q7;exact⟨σ7,H7,I7.unpinned,q7⟩
  |ret v=>obtain⟨x7,σ7,H7,I7,r7,q7⟩:=q7;exact⟨x7,σ7,H7,I7.unpinned,r7,q7⟩
end
def BW{K:Frag}{a:Zo}{xs:List V}{g:TG}{tb:TS}{D:mq}{σ:St}{H:Hp}(Pv:Nat->St->Hp->Prop)(h0:Pv 0 σ H)(hl:∀i σ H,i<=xs.length->Pv i σ H->aR K H a xs)(hs:∀i x σ H,xs[i]? =some x->Pv i σ H->g x σ H λσ2 H2=>tb {D with nx:=Pv (i+1),ct:=Pv (i+1),bk:=D.nx} σ2 H2)(hd:∀σ H,Pv xs.length σ H->D.nx σ H):∃W:Nat->Nat->St->Hp->Prop,(∃m,W 0 m σ H)/\∀i m σ H,W i m σ H->((JU K a).stop i H/\D.nx σ H)\/((JU K a).go i H/\∃N:St->Hp->Prop,(∀σ' H',N σ' H'->∃m',m'<m/\W (i+1) m' σ' H')/\∀x H',(JU K a).yld i H x H'->g x σ H' λσ2 H2=>tb {D with nx:=N,ct:=N,bk:=D.nx} σ2 H2):=by
 refine⟨λi m σ H=>m=xs.length - i/\i<=xs.length/\Pv i σ H,⟨xs.length,by simp,XF _,h0⟩,?_⟩;rintro i m σ H ⟨rfl,hi,p⟩;have q:=hl i σ H hi p
 by_cases hlt:i<xs.length
 .refine .inr ⟨⟨xs,xs[i],q,by simp[hlt]⟩,Pv (i+1),λσ' H' p'=>⟨xs.length - (i+1),by lia,rfl,hlt,p'⟩,λx H' y=>?_⟩;obtain⟨e,y⟩:=y;subst e;exact hs i x σ _ (y xs q) p
 .have e:i=xs.length:=by lia
  subst e;exact .inl ⟨⟨xs,q,XD _⟩,hd σ H p⟩
def zU{lo:Int}{n:Nat}{g:TG}{tb:TS}{D:mq}{σ:St}{H:Hp}(Pv:Nat->St->Hp->Prop)(h0:Pv 0 σ H)(hs:∀i σ H,i<n->Pv i σ H->g (.int (lo+i)) σ H λσ2 H2=>tb {D with nx:=Pv (i+1),ct:=Pv (i+1),bk:=D.nx} σ2 H2)(hd:∀σ H,Pv n σ H->D.nx σ H):∃W:Nat->Nat->St->Hp->Prop,(∃m,W 0 m σ H)/\∀i m σ H,W i m σ H->((L8 lo n).stop i H/\D.nx σ H)\/((L8 lo n).go i H/\∃N:St->Hp->Prop,(∀σ' H',N σ' H'->∃m',m'<m/\W (i+1) m' σ' H')/\∀x H',(L8 lo n).yld i H x H'->g x σ H' λσ2 H2=>tb {D with nx:=N,ct:=N,bk:=D.nx} σ2 H2):=by
 refine⟨λi m σ H=>m=n - i/\i<=n/\Pv i σ H,⟨n,by simp,XF _,h0⟩,?_⟩;rintro i m σ H ⟨rfl,hi,p⟩
 by_cases hlt:i<n
 .refine .inr ⟨hlt,Pv (i+1),λσ' H' p'=>⟨n - (i+1),by lia,rfl,hlt,p'⟩,λx H' y=>?_⟩;obtain⟨e,y⟩:=y;subst e y;exact hs i σ _ hlt p
 .have e:i=n:=by lia
  subst e;exact .inl ⟨XD _,hd σ H p⟩
abbrev R2:=V->V->Hp->VK->Prop
def jL(X:Cx)(f:Zn->Zn->Sem Zn)(r:R2):Prop:=
 ∀(Rv:RL)(s:RQ)(σ:St)(H:Hp)(x y:V)(v u:Zn)(Q:VK),aJ X Rv σ H s->aQ x v->aQ y u->r x y H Q->
  RR (RX X.prog X.w) X.A (f v u) (EP X Rv σ Q) X.xe s
def Ri(X:Cx)(f:Zn->Sem Zn)(r:V->Hp->VK->Prop):Prop:=
 ∀(Rv:RL)(s:RQ)(σ:St)(H:Hp)(x:V)(v:Zn)(Q:VK),aJ X Rv σ H s->aQ x v->r x H Q->
  RR (RX X.prog X.w) X.A (f v) (EP X Rv σ Q) X.xe s
def bf(X:Cx)(f:Zn)(r:List V->Hp->VK->Prop):Prop:=
 ∀(Rv:RL)(s:RQ)(σ:St)(H:Hp)(xs:List V)(us:List Zn)(Q:VK),aJ X Rv σ H s->aT xs us->r xs H Q->
  RR (RX X.prog X.w) X.A (call f us) (EP X Rv σ Q) X.xe s
def Rj(X:Cx)(r:V->Hp->(Bool->Hp->Prop)->Prop):Prop:=
 ∀(Rv:RL)(s:RQ)(σ:St)(H:Hp)(x:V)(v:Zn)(Q:Bool->Hp->Prop),aJ X Rv σ H s->aQ x v->r x H Q->
  RR (RX X.prog X.w) X.A (truthy v) (TP X Rv σ Q) X.xe s
def P0(r:R2)(ta tb:TE):TE:=λσ H Q=>ta σ H λx H1=>tb σ H1 λy H2=>r x y H2 Q
def rI(C:Int->Int->Prop)(g:Int->Int->V):R2:=λx y H Q=>∃i j,x=.int i/\y=.int j/\C i j/\Q (g i j) H
def Jr(g:Int->Int->V):R2:=λx y H Q=>∃i j,x=.int i/\y=.int j/\Q (g i j) H
def rU(g:Int->V):V->Hp->VK->Prop:=λx H Q=>∃i,x=.int i/\Q (g i) H
section
def LK(ha:PE X a ta)(hb:PE X b tb){Rv:RL}{s:RQ}{σ:St}{H:Hp}{R:V->V->Hp->Prop}(I:aJ X Rv σ H s)(h:ta σ H λx H1=>tb σ H1 λy H2=>R x y H2){Q:RK}{f:Zn->Zn->Sem Zn}(hf:∀v u s2 x y H2,aJ X Rv σ H2 s2->aQ x v->aQ y u->R x y H2->RR (RX X.prog X.w) X.A (f v u) Q X.xe s2):RR (RX X.prog X.w) X.A (Sr a X.env) (λv s₁=>RR (RX X.prog X.w) X.A (Sr b X.env) (λu s₂=>RR (RX X.prog X.w) X.A (f v u) Q X.xe s₂) X.xe s₁) X.xe s:=by refine bL (ha Rv s σ H _ I h) λv s1 ⟨x,H1,I1,r1,q1⟩=>?_;refine bL (hb Rv s1 σ H1 _ I1 q1) λu s2 ⟨y,H2,I2,r2,q2⟩=>?_;exact hf v u s2 x y H2 I2 r1 r2 q2
def Ju(ho:jL X (TC op) r)(ha:PE X a ta)(hb:PE X b tb):PE X (.BinOp a op b pos) (P0 r ta tb):=by intro Rv s σ H Q I h;exact wpAny_BinOp (LK ha hb I h λv u s2 x y H2 I2 rx ry q=>ho Rv s2 σ H2 x y v u Q I2 rx ry q)
def P5{f:Zn->Zn->Sem Zn}{C:Int->Int->Prop}{g:Int->Int->Int}(rule:∀i j t u s Q E,C i j->Q (.int (g i j) s.toks) {s with toks:=s.toks+1}->RR (RX X.prog X.w) X.A (f (.int i t) (.int j u)) Q E s):jL X f (rI C λi j=>.int (g i j)):=by intro Rv s σ H x y v u Q I rx ry h;obtain⟨i,j,rfl,rfl,hc,q⟩:=h;obtain⟨t,rfl⟩:=rx;obtain⟨t',rfl⟩:=ry;exact rule i j t t' s _ _ hc ⟨.int (g i j),H,I.tok _,⟨_,rfl⟩,q⟩
def OG{f:Zn->Zn->Sem Zn}{g:Int->Int->Int}(rule:∀i j t u s Q E,Q (.int (g i j) s.toks) {s with toks:=s.toks+1}->RR (RX X.prog X.w) X.A (f (.int i t) (.int j u)) Q E s):jL X f (Jr λi j=>.int (g i j)):=by intro Rv s σ H x y v u Q I rx ry h;obtain⟨i,j,rfl,rfl,q⟩:=h;obtain⟨t,rfl⟩:=rx;obtain⟨t',rfl⟩:=ry;exact rule i j t t' s _ _ ⟨.int (g i j),H,I.tok _,⟨_,rfl⟩,q⟩
def DK{f:Zn->Zn->Sem Zn}{g:Int->Int->Bool}(rule:∀i j t u s Q E,Q (.bool (g i j)) s->RR (RX X.prog X.w) X.A (f (.int i t) (.int j u)) Q E s):jL X f (Jr λi j=>.bl (g i j)):=by intro Rv s σ H x y v u Q I rx ry h;obtain⟨i,j,rfl,rfl,q⟩:=h;obtain⟨t,rfl⟩:=rx;obtain⟨t',rfl⟩:=ry;exact rule i j t t' s _ _ ⟨.bl (g i j),H,I,rfl,q⟩
def LY(i j:Int):Prop:=0<j/\j<1073741824
def PX(i j:Int):Prop:=0<=j/\j<=1000000/\i.natAbs<2 ^ 64
def CP(i j:Int):Prop:=(-(2 ^ 64)<i/\i<2 ^ 64)\/(-(2 ^ 64)<j/\j<2 ^ 64)
def CP.ok(h:CP i j):IntMulOk i j:=by
 rcases h with⟨h1,h2⟩|⟨h1,h2⟩
 .exact .of_left (intBits_le_64 h1 h2)
 .exact .of_right (intBits_le_64 h1 h2)
def KQ:jL X (TC .Add) (Jr λi j=>.int (i+j)):=OG λ_ _ _ _ _ _ _ q=>add_int q
def KD:jL X (TC .Sub) (Jr λi j=>.int (i - j)):=OG λ_ _ _ _ _ _ _ q=>sub_int q
def KJ:jL X (TC .Mult) (rI CP λi j=>.int (i*j)):=P5 λ_ _ _ _ _ _ _ hc q=>mul_int q hc.ok
def DJ:jL X (TC .FloorDiv) (rI LY λi j=>.int (i / j)):=P5 λi j _ _ _ _ _ hc q=>by have h1:(0:Int)<j:=hc.1;have h2:j<1073741824:=hc.2;exact floordiv_int (by lia) (by rw[Int.fdiv_eq_ediv_of_nonneg i (by lia)];exact q) (.inl (PyProof.noPylong_small (by lia)))
def KL:jL X (TC .Mod) (rI (λ_ j=>0<j) λi j=>.int (i % j)):=P5 λi j _ _ _ _ _ hc q=>by have h1:(0:Int)<j:=hc;exact mod_int' (by lia) (by rw[Int.fmod_eq_emod_of_nonneg i (by lia)];exact q)
def KH:jL X (TC .Pow) (rI PX λi j=>.int (i ^ j.toNat)):=P5 λ_ _ _ _ _ _ _ hc q=>pow_int_small hc.1 hc.2.1 hc.2.2 q
def unI{f:Zn->Sem Zn}{g:Int->Int}(rule:∀i t s Q E,Q (.int (g i) s.toks) {s with toks:=s.toks+1}->RR (RX X.prog X.w) X.A (f (.int i t)) Q E s):Ri X f (rU λi=>.int (g i)):=by intro Rv s σ H x v Q I rx h;obtain⟨i,rfl,q⟩:=h;obtain⟨t,rfl⟩:=rx;exact rule i t s _ _ ⟨.int (g i),H,I.tok _,⟨_,rfl⟩,q⟩
def J2:Ri X (unaryOp .USub) (rU λi=>.int (-i)):=unI λ_ _ _ _ _ q=>neg_int q
end
noncomputable def scal:V->V->Bool
 | .non,.non=>true| .non,.int _=>true| .int _,.non=>true| .non,.bl _=>true| .bl _,.non=>true| .non,.str _=>true| .str _,.non=>true
 | .int _,.int _=>true| .bl _,.bl _=>true| .str _,.str _=>true| .byt _,.byt _=>true
 | .int _,.str _=>true| .str _,.int _=>true| .bl _,.str _=>true| .str _,.bl _=>true
 |_,_=>false
def rEq:R2:=λx y H Q=>scal x y=true/\Q (.bl (decide (x=y))) H
def rNe:R2:=λx y H Q=>scal x y=true/\Q (.bl (!decide (x=y))) H
def yj:decide (V.int i=V.int j)=(i == j):=by rw[Yg];simp
def dec_bl:decide (V.bl i=V.bl j)=(i == j):=by rw[Yg];simp
def yi:decide (V.str i=V.str j)=(i == j):=by rw[Yg];simp
def yk:decide (V.byt i=V.byt j)=(i.toList == j.toList):=by rw[Yg];cases i;cases j;simp
section
def fin_bl{Rv:RL}{σ:St}{H:Hp}{s:RQ}{Q:VK}{k k':Bool}(I:aJ X Rv σ H s)(q:Q (.bl k) H)(e:k=k'):EP X Rv σ Q (.bool k') s:=by subst e;exact⟨.bl k,H,I,rfl,q⟩
def OF:jL X (Sv .Eq) rEq:=by
 intro Rv s σ H x y v u Q I rx ry h;obtain⟨hs,q⟩:=h;cases x with
 |non=>
  cases rx;cases y with
  |non=>cases ry;exact PySem.EqNone.eq_none_none (fin_bl I q (by simp))
  |bl j=>cases ry;exact PySem.EqNone.eq_none_bool (fin_bl I q (by simp))
  |int j=>obtain⟨t',rfl⟩:=ry;exact PySem.EqNone.eq_none_int (fin_bl I q (by simp))
  |str j=>obtain⟨t',rfl⟩:=ry;exact PySem.EqNone.eq_none_str (fin_bl I q (by simp))
  |_=>exact RF (show false=true from hs) Yd
 |bl i=>
  cases rx;cases y with
  |non=>cases ry;exact PySem.EqNone.eq_bool_none (fin_bl I q (by simp))
  |bl j=>cases ry;exact eq_bool (fin_bl I q dec_bl)
  |str j=>obtain⟨t',rfl⟩:=ry;exact PySem.EqMixed.eq_bool_str (fin_bl I q (by simp))
  |_=>exact RF (show false=true from hs) Yd
 |int i=>
  obtain⟨t,rfl⟩:=rx;cases y with
  |non=>cases ry;exact PySem.EqNone.eq_int_none (fin_bl I q (by simp))
  |int j=>obtain⟨t',rfl⟩:=ry;exact eq_int (fin_bl I q yj)
  |str j=>obtain⟨t',rfl⟩:=ry;exact PySem.EqMixed.eq_int_str (fin_bl I q (by simp))
  |_=>exact RF (show false=true from hs) Yd
 |str i=>
  obtain⟨t,rfl⟩:=rx;cases y with
  |non=>cases ry;exact PySem.EqNone.eq_str_none (fin_bl I q (by simp))
  |bl j=>cases ry;exact PySem.EqMixed.eq_str_bool (fin_bl I q (by simp))
  |int j=>obtain⟨t',rfl⟩:=ry;exact PySem.EqMixed.eq_str_int (fin_bl I q (by simp))
  |str j=>obtain⟨t',rfl⟩:=ry;exact eq_str (fin_bl I q yi)
  |_=>exact RF (show false=true from hs) Yd
 |byt i=>
  obtain⟨t,rfl⟩:=rx;cases y with
  |byt j=>obtain⟨t',rfl⟩:=ry;exact PySem.W.eq_bytes (fin_bl I q yk)
  |_=>exact RF (show false=true from hs) Yd
 |_=>cases y<;>exact RF (show false=true from hs) Yd
def OA:jL X (Sv .NotEq) rNe:=by
 intro Rv s σ H x y v u Q I rx ry h;obtain⟨hs,q⟩:=h;cases x with
 |non=>
  cases rx;cases y with
  |non=>cases ry;exact PySem.EqNone.ne_none_none (fin_bl I q (by simp))
  |bl j=>cases ry;exact PySem.EqNone.ne_none_bool (fin_bl I q (by simp))
  |int j=>obtain⟨t',rfl⟩:=ry;exact PySem.EqNone.ne_none_int (fin_bl I q (by simp))
  |str j=>obtain⟨t',rfl⟩:=ry;exact PySem.EqNone.ne_none_str (fin_bl I q (by simp))
  |_=>exact RF (show false=true from hs) Yd
 |bl i=>
  cases rx;cases y with
  |non=>cases ry;exact PySem.EqNone.ne_bool_none (fin_bl I q (by simp))
  |bl j=>cases ry;exact ne_bool (fin_bl I q (RI not dec_bl))
  |str j=>obtain⟨t',rfl⟩:=ry;exact PySem.EqMixed.ne_bool_str (fin_bl I q (by simp))
  |_=>exact RF (show false=true from hs) Yd
 |int i=>
  obtain⟨t,rfl⟩:=rx;cases y with
  |non=>cases ry;exact PySem.EqNone.ne_int_none (fin_bl I q (by simp))
  |int j=>obtain⟨t',rfl⟩:=ry;exact ne_int (fin_bl I q (RI not yj))
  |str j=>obtain⟨t',rfl⟩:=ry;exact PySem.EqMixed.ne_int_str (fin_bl I q (by simp))
  |_=>exact RF (show false=true from hs) Yd
 |str i=>
  obtain⟨t,rfl⟩:=rx;cases y with
  |non=>cases ry;exact PySem.EqNone.ne_str_none (fin_bl I q (by simp))
  |bl j=>cases ry;exact PySem.EqMixed.ne_str_bool (fin_bl I q (by simp))
  |int j=>obtain⟨t',rfl⟩:=ry;exact PySem.EqMixed.ne_str_int (fin_bl I q (by simp))
  |str j=>obtain⟨t',rfl⟩:=ry;exact ne_str (fin_bl I q (RI not yi))
  |_=>exact RF (show false=true from hs) Yd
 |byt i=>
  obtain⟨t,rfl⟩:=rx;cases y with
  |byt j=>obtain⟨t',rfl⟩:=ry;exact PySem.W.ne_bytes (fin_bl I q (RI not yk))
  |_=>exact RF (show false=true from hs) Yd
 |_=>cases y<;>exact RF (show false=true from hs) Yd
def OB:jL X (Sv .Lt) (Jr λi j=>.bl (decide (i<j))):=DK λ_ _ _ _ _ _ _ q=>lt_int q
def OC:jL X (Sv .LtE) (Jr λi j=>.bl (decide (i<=j))):=DK λ_ _ _ _ _ _ _ q=>le_int q
def OD:jL X (Sv .Gt) (Jr λi j=>.bl (decide (j<i))):=DK λ_ _ _ _ _ _ _ q=>gt_int q
def OE:jL X (Sv .GtE) (Jr λi j=>.bl (decide (j<=i))):=DK λ_ _ _ _ _ _ _ q=>ge_int q
def zj:jL X (Sv .Lt) (λx y H Q=>∃i j,x=.str i/\y=.str j/\Q (.bl (decide (i.cps.toList<j.cps.toList))) H):=by intro Rv s σ H x y v u Q I rx ry h;obtain⟨i,j,rfl,rfl,q⟩:=h;obtain⟨t,rfl⟩:=rx;obtain⟨t',rfl⟩:=ry;exact lt_str (fin_bl I q rfl)
def zm:jL X (Sv .In) (λx y H Q=>∃i j,x=.str i/\y=.str j/\Q (.bl (!(SR j i 0 j.length 1).isEmpty)) H):=by intro Rv s σ H x y v u Q I rx ry h;obtain⟨i,j,rfl,rfl,q⟩:=h;obtain⟨t,rfl⟩:=rx;obtain⟨t',rfl⟩:=ry;exact in_str (fin_bl I q rfl)
def KM:jL X (Sv .Is) (λx y H Q=>y=.non/\Q (.bl (decide (x=.non))) H):=by
 intro Rv s σ H x y v u Q I rx ry h;obtain⟨rfl,q⟩:=h;cases ry;refine is_none_gen (fin_bl I q ?_);cases x<;>first
  |(cases rx;rfl)
  |(obtain⟨t,rfl⟩:=rx;rfl)
def DI:jL X (Sv .IsNot) (λx y H Q=>y=.non/\Q (.bl (!decide (x=.non))) H):=by
 intro Rv s σ H x y v u Q I rx ry h;obtain⟨rfl,q⟩:=h;cases ry;refine isnot_none_gen (fin_bl I q ?_);cases x<;>first
  |(cases rx;rfl)
  |(obtain⟨t,rfl⟩:=rx;rfl)
def qW:jL X (Sv .NotIn) (λx y H Q=>∃i j,x=.str i/\y=.str j/\Q (.bl (!(!(SR j i 0 j.length 1).isEmpty))) H):=by intro Rv s σ H x y v u Q I rx ry h;obtain⟨i,j,rfl,rfl,q⟩:=h;obtain⟨t,rfl⟩:=rx;obtain⟨t',rfl⟩:=ry;exact notIn_str (fin_bl I q rfl)
def nG(b:Sz)(h:op≠.In:=by decide)(h2:op≠.NotIn:=by decide):behindInMarks op b=false:=by
 have e1:(op == CmpOp.In)=false:=by cases op<;>first|rfl|exact RF rfl h
 have e2:(op == CmpOp.NotIn)=false:=by cases op<;>first|rfl|exact RF rfl h2
 cases b<;>simp[behindInMarks,e1,e2]
def DG(ho:jL X (Sv op) r)(ha:PE X a ta)(hb:PE X b tb)(hm:behindInMarks op b=false):PE X (.Compare a [op] [b] pos) (P0 r ta tb):=by intro Rv s σ H Q I h;exact wpAny_Compare1 (LK ha hb I h λv u s2 x y H2 I2 rx ry q=>ho Rv s2 σ H2 x y v u Q I2 rx ry q) hm
def CI(K:Frag)(x:V)(H:Hp)(k:Bool):Prop:=
 match x with
 | .non=>k=false
 | .bl b=>k=b
 | .int i=>k=(i != 0)
 | .str y=>y.length<=v1/\k=((y.length:Int) != 0)
 | .byt y=>y.size<=v1/\k=((y.size:Int) != 0)
 | .ref p=>(∃xs,aR K H p xs/\k= !xs.isEmpty)\/(∃xs,dF K H p xs/\k= !xs.isEmpty)\/∃kvs,H p=some (.dK kvs)/\k= !kvs.isEmpty
 |_=>False
def wa{κ:Type}{kvs:List (κ×V)}{vs:List (κ×Zn)}(r:KV kvs vs):(!vs.isEmpty)= !kvs.isEmpty:=by cases r<;>rfl
def nT(r:aT xs its):(!its.toArray.isEmpty)= !xs.isEmpty:=by cases r<;>simp
def j2:(v1:Nat)<2 ^ 63:=by rw[RW];decide
def J7:Rj X (λx H Q=>∃k,CI X.K x H k/\Q k H):=by
 intro Rv s σ H x v Q I rx h;obtain⟨k,e,q⟩:=h;have hl:=j2;have hs:v1=16777216:=RW;cases x with
 |non=>
  cases rx;have e':k=false:=e;subst e';exact truthy_none ⟨H,I,q⟩
 |bl b=>
  cases rx;have e':k=b:=e;subst e';exact Si ⟨H,I,q⟩
 |int i=>
  obtain⟨t,rfl⟩:=rx;have e':k=(i != 0):=e;subst e';exact PySem.P.truthy_int ⟨H,I,q⟩
 |str y=>
  obtain⟨t,rfl⟩:=rx;obtain⟨hy,e'⟩:y.length<=v1/\k=((y.length:Int) != 0):=e;subst e';exact PySem.P.truthy_str (by lia) ⟨H,I.tok _,q⟩
 |byt y=>
  obtain⟨t,rfl⟩:=rx;obtain⟨hy,e'⟩:y.size<=v1/\k=((y.size:Int) != 0):=e;subst e';exact PySem.W.truthy_bytes (by lia) ⟨H,I.tok _,q⟩
 |ref p=>
  cases rx;have e':(∃xs,aR X.K H p xs/\k= !xs.isEmpty)\/(∃xs,dF X.K H p xs/\k= !xs.isEmpty)\/∃kvs,H p=some (.dK kvs)/\k= !kvs.isEmpty:=e
  rcases e' with⟨xs,hx,e'⟩|⟨xs,hx,e'⟩|⟨kvs,hx,e'⟩
  .subst e';obtain⟨its,r,pl,hz⟩:=I.list hx;have hlen:=r.length;exact wpAny_truthy_list pl.isList (by simp only[VS];lia) ⟨H,I.tok _,by rw[nT r];exact q⟩
  .subst e';obtain⟨its,r,pl,hz⟩:=I.tuple hx;have hlen:=r.length;exact truthy_tuple pl (by simp only[VS];lia) ⟨H,I.tok _,by rw[nT r];exact q⟩
  .subst e';obtain⟨hz,hS,vs,r,m⟩:kvs.length<=v1/\(p == sysModules)=false/\∃vs,KV kvs vs/\s.heap.DictOf (mixKind X.prog X.w) p vs:=I.hok p _ hx;have hlen:kvs.length=vs.length:=UA r;exact wpAny_truthy_dict hS m (by lia) ⟨H,I.tok _,by rw[wa r];exact q⟩
 |_=>exact(show False from e).elim
def A7(ha:PE X a ta)(he:∀whole,Vz a X.env whole=(do let v<-whole;U8 a.pos;TF [v] (truthy v))):PT X a (λσ H Q=>ta σ H λx H'=>∃k,CI X.K x H' k/\Q k H'):=by intro Rv s σ H Q I h;exact isTrue_plain (bL (ha Rv s σ H _ I h) λv s1 ⟨x,H1,I1,r1,q1⟩=>J7 Rv s1 σ H1 x v Q I1 r1 q1) (he _)
def vI:jL X (TC .Add) (λx y H Q=>∃i j,x=.str i/\y=.str j/\i.length+j.length<=v1/\Q (.str (i++j)) H):=by intro Rv s σ H x y v u Q I rx ry h;obtain⟨i,j,rfl,rfl,hz,q⟩:=h;obtain⟨t,rfl⟩:=rx;obtain⟨t',rfl⟩:=ry;exact add_str (λt' tk=>⟨.str (i++j),H,I.tok _,⟨_,rfl⟩,q⟩) hz
def dU(r:aT [x] us):∃u,us=[u]/\aQ x u:=by
 cases r with
 |cons r1 r2=>cases r2;exact⟨_,rfl,r1⟩
def Az(r:aT [x,y] us):∃u w',us=[u,w']/\aQ x u/\aQ y w':=by
 cases r with
 |cons r1 r2=>
  cases r2 with
  |cons r3 r4=>cases r4;exact⟨_,_,rfl,r1,r3⟩
def Ah(hc:X.calm=true):bf X (.builtin "min") (λxs H Q=>∃i j,xs=[.int i,.int j]/\Q (.int (if j<i then j else i)) H):=by
 intro Rv s σ H xs us Q I r h;obtain⟨i,j,rfl,q⟩:=h;obtain⟨u,w',rfl,⟨t,rfl⟩,⟨t',rfl⟩⟩:=Az r;refine min_two_ints (I.ok.hd hc) λh' tk k=>⟨_,H,I.kept k,?_,q⟩
 by_cases hj:j<i
 .rw[RC hj,RC hj];exact⟨_,rfl⟩
 .rw[RB hj,RB hj];exact⟨_,rfl⟩
def Aj:bf X (.type "int") (λxs H Q=>(∃i,xs=[.int i]/\Q (.int i) H)\/∃k,xs=[.bl k]/\Q (.int (if k then 1 else 0)) H):=by
 intro Rv s σ H xs us Q I r h
 rcases h with⟨i,rfl,q⟩|⟨k,rfl,q⟩
 .obtain⟨u,rfl,t,rfl⟩:=dU r;exact call_int_int ⟨.int i,H,I,⟨_,rfl⟩,q⟩
 .obtain⟨u,rfl,r1⟩:=dU r;cases r1;exact call_int_bool ⟨.int (if k then 1 else 0),H,I.tok _,⟨_,rfl⟩,q⟩
def rQ:bf X (.type "str") (λxs H Q=>∃i,xs=[.int i]/\i.natAbs.log2<1920/\Q (.str (toString i)) H):=by intro Rv s σ H xs us Q I r h;obtain⟨i,rfl,hz,q⟩:=h;obtain⟨u,rfl,t,rfl⟩:=dU r;exact PySem.P.str_of_int hz ⟨.str _,H,I.tok _,⟨_,rfl⟩,q⟩
end
structure wO(h:R9)(x dx C:Zo)(mA:RJ):Prop where
 obj:h.get? x=some (YQ C dx)
 ns:h.Ns1 dx mA
 ne:dx≠x
def zG{h:R9}{mA:RJ}(n:h.Ns1 dx mA):∃od,h.get? dx=some od/\∀name,Y0 name od=some (mA name):=by
 obtain⟨o,es,ep,ho,hd,hk,_,hm⟩:=n;refine⟨o,ho,λname=>?_⟩;have e:=hm name;unfold nsFind findBy at e;rw[<-Array.find?_toList]at e;unfold Y0;rw[hd];dsimp only;split
 .rename_i y q;rw[q]at e;exact RI some e
 .rename_i q;rw[q]at e;have a:es.toList.any (·.refKey)=false:=by rw[WD];intro y hy;obtain⟨z,t,hkey⟩:=hk y (Array.mem_toList_iff.mp hy);simp[DictEntry.refKey,hkey]
  have a':¬es.toList.any (·.refKey)=true:=by rw[a];exact Yd
  rw[RB a'];exact RI some e
def wO.look(I:wO h x dx C mA):∃od,PySem.W.InstAt h x (YQ C dx) C (some od)/\∀name,Y0 name od=some (mA name):=
 let ⟨od,ho,hl⟩:=zG I.ns
 ⟨od,⟨I.obj,rfl,rfl,ho⟩,hl⟩
section
variable{prog:RU}{w:RZ}{A:SJ}{E:RK}{s:RQ}{K:Frag}{x dx C f:Zo}{mA:RJ}{name:Str}{v:Zn}
def D8(X:K.In s.heap)(I:wO s.heap x dx C mA)(hg:YR K C name=true)(hh:YW K C=true)(ha:YE K (.ref C) name=some none)(hv:mA name=some v)(hv':Zb v=true)(h:Q v {s with toks:=s.toks+1}):RR (RX prog w) A (getAttr (.ref x) name expr) Q E s:=by obtain⟨od,J,hl⟩:=I.look;exact PySem.W.get_value X J (Y4 hg).1 (PySem.W.findObj_own hh ha rfl (by rw[hl,hv])) hv' h
def BQ(X:K.In s.heap)(I:wO s.heap x dx C mA)(hg:YR K C name=true)(hf:YE K (.ref C) name=some (some (.ref f)))(ht:YJ K (.ref f)=true)(hv:mA name=none)(h:Q (.ref f,[.ref x]) s):RR (RX prog w) A (U9 (.ref x) name pl) Q E s:=by obtain⟨od,J,hl⟩:=I.look;exact PySem.W.method_fn X J (Y4 hg).1 (Y4 hg).2 hf (beq_iff_eq.mp ht) (by show(Y0 name od).map (·.isSome)=some false;rw[hl,hv];rfl) h
def Dq(X:K.In s.heap)(I:wO s.heap x dx C mA)(hs:YE K (.ref C) "__setattr__"=some (some (.builtin "object.__setattr__")))(hp:YY K C=true)(ht:Y5 K C name=some none)(hh:YW K C=true)(hw:PySem.Within mA ns)(hsz:ns.length<=v1)(h:∀h',wO h' x dx C (λy=>if y=name then some v else mA y)->So dx s.heap h'->Q () {s with heap:=h',toks:=s.toks+2}):RR (RX prog w) A (setAttr (.ref x) name v) Q E s:=by obtain⟨od,J,hl⟩:=I.look;refine PySem.W.set_plain X J hs (PySem.W.osa_open (s:={s with toks:=s.toks+1}) (r:=none) X J hp ht λb=>?_);obtain⟨cd,hc,hd'⟩:=PySem.W.any_some hh;have hx:s.heap.get? x=some ⟨.ref C,some dx,.plain,#[]⟩:=I.obj;refine RM (RN (RM (RM (wpAny_loadPart hx (RM (PySem.W.Looks.here (s:={s with toks:=s.toks+1}) (PySem.W.looks_clsIn X hc) ?_))))));rw[hd'];refine RN (a:=some dx) (RM (RN (RM ?_)));refine wpAny_nsSet1 (s:={s with toks:=s.toks+1}) I.ns λh' hn2 hs2=>?_;obtain⟨oD,esD,epD,hoD,hdD,hcD⟩:=hn2.count (PySem.Within.cons name v hw);refine RM (wpAny_lookBehind hoD (by rw[hdD];exact pastItsLine_dict (XG hcD (by rw[V1];lia))) ?_);exact RN (h _ ⟨(hs2.2 _ (Ne.symm I.ne)).trans I.obj,hn2,I.ne⟩ hs2)
def ub(X:K.In s.heap)(hm:YZ K C=true)(hi:YE K (.ref C) "__init__"=some (some (.ref f)))(hf:PySem.W.typeIn K (.ref f)=some (.type "function"))(h:Tl (RX prog w) (A.under (.builtin "type.__call__" ⟨.ref C::vs,kw⟩)) (.call (.ref f) ⟨.ref (s.heap.objs.size+1)::vs,kw⟩) (PySem.W.InitBack (s.heap.objs.size+1) R)
   {s with heap:=(s.heap.push YO).push (YQ C s.heap.objs.size)}):Tl (RX prog w) A (.call (.ref C) ⟨vs,kw⟩) R s:=by
 obtain⟨hh,g,d,t,os⟩:=s;exact PySem.W.make_core (PySem.W.makes_of X hm) (PySem.W.looks_findIn X hi) (λself=>PySem.W.bind_fn X self hf) (.inl rfl) h
end
noncomputable def putF(f:Str)(v:V):List (Str×V)->List (Str×V)
 | []=>[(f,v)]
 |(g,x)::r=>if g=f then(g,v)::r else(g,x)::putF f v r
theorem av(f g:Str)(v:V):∀fs:List (Str×V),(putF f v fs).lookup g=if g=f then some v else fs.lookup g
 | []=>by
   show List.lookup g [(f,v)]=_
   by_cases h:g=f
   .have hb:(g == f)=true:=beq_iff_eq.mpr h;simp only[List.lookup,hb,RC h]
   .have hb:(g == f)=false:=beq_eq_false_iff_ne.mpr h;simp only[List.lookup,hb,RB h]
 |(k,x)::r=>by
  have ih:=av f g v r;rw[show putF f v ((k,x)::r)=(if k=f then(k,v)::r else(k,x)::putF f v r)from rfl]
  by_cases hk:k=f
  .rw[RC hk]
   by_cases h:g=k
   .have hb:(g == k)=true:=beq_iff_eq.mpr h;simp only[List.lookup,hb,RC (h.trans hk)]
   .have hb:(g == k)=false:=beq_eq_false_iff_ne.mpr h;simp only[List.lookup,hb,RB (λe:g=f=>h (e.trans hk.symm))]
  .rw[RB hk]
   by_cases h:g=k
   .have hb:(g == k)=true:=beq_iff_eq.mpr h;simp only[List.lookup,hb,RB (λe:g=f=>hk (h.symm.trans e))]
   .have hb:(g == k)=false:=beq_eq_false_iff_ne.mpr h;simp only[List.lookup,hb];exact ih
theorem ly(f:Str)(v:V):∀fs:List (Str×V),f∈(putF f v fs).map (·.1)/\∀g,g∈fs.map (·.1)->g∈(putF f v fs).map (·.1)
 | []=>⟨by simp[putF],λg h=>by simp at h⟩
 |(k,x)::r=>by
  obtain⟨i1,i2⟩:=ly f v r;rw[show putF f v ((k,x)::r)=(if k=f then(k,v)::r else(k,x)::putF f v r)from rfl]
  by_cases hk:k=f
  .rw[RC hk];subst hk;exact⟨by simp,λg h=>by simpa using h⟩
  .rw[RB hk];refine⟨?_,λg h=>?_⟩
   .rw[V2];exact VU _ i1
   .rw[V2]at h ⊢
    rcases VO.mp h with e|e
    .exact VO.mpr (.inl e)
    .exact VU _ (i2 g e)
theorem bu(f:Str)(v:V):∀fs:List (Str×V),(putF f v fs).length<=fs.length+1
 | []=>by simp[putF]
 |(k,x)::r=>by
  have ih:=bu f v r;rw[show putF f v ((k,x)::r)=(if k=f then(k,v)::r else(k,x)::putF f v r)from rfl]
  by_cases hk:k=f
  .rw[RC hk,V1,V1];lia
  .rw[RB hk,V1,V1];lia
def iX.some_of(r:iX (some v) o):∃u,o=some u/\aQ v u:=by
 cases o with
 |none=>exact(show False from r).elim
 |some u=>exact⟨u,rfl,r⟩
def iX.none_of(r:iX none o):o=none:=by
 cases o with
 |none=>rfl
 |some u=>exact(show False from r).elim
def zP(r:aQ v u):Zb u=true:=by
 cases v with
 |non=>cases(show u=SV from r);rfl
 |bl b=>cases(show u=Vm b from r);rfl
 |int i=>obtain⟨t,e⟩:=(show∃t,u=Tu i t from r);cases e;rfl
 |str x=>obtain⟨t,e⟩:=(show∃t,u=Tt x t from r);cases e;rfl
 |byt b=>obtain⟨t,e⟩:=(show∃t,u=Value.bytes b t from r);cases e;rfl
 |flt b=>obtain⟨t,e⟩:=(show∃t,u=Value.float b t from r);cases e;rfl
 |ref a=>cases(show u=RY a from r);rfl
 |ty n=>cases(show u=Uk n from r);rfl
 |tok x t=>cases(show u=Tt x t from r);rfl
section
def mC(hok:jM P w H h)(e:H a=some (.ins C dx fs)):∃mA,wO h a dx C mA/\(∀f,iX (fs.lookup f) (mA f))/\PySem.Within mA (fs.map (·.1))/\fs.length<=1000/\H dx=some (.own a):=by obtain⟨d,z,ne,ob,mA,n,r,q⟩:=(show bp P w H h a (.ins C dx fs)from hok a _ e);exact⟨mA,⟨ob,n,ne⟩,r,q,z,d⟩
end
structure oY(K:Frag)(C:Zo):Prop where
 pg:YR K C Tb=true
 hd:YW K C=true
 po:YY K C=true
 sa:YE K (.ref C) "__setattr__"=some (some (.builtin "object.__setattr__"))
def oY.get{K:Frag}{C:Zo}(c:oY K C)(f:Str):YR K C f=true:=c.pg
def bK(K:Frag)(C:Zo)(f:Str):Prop:=YE K (.ref C) f=some none
def bK.taker{K:Frag}{C:Zo}{f:Str}(n:bK K C f):Y5 K C f=some none:=by unfold Y5;rw[show YE K (.ref C) f=some none from n];rfl
structure LU(K:Frag)(C:Zo)(m:Str)(f:Zo):Prop where
 at_:YE K (.ref C) m=some (some (.ref f))
 fn:YJ K (.ref f)=true
 kp:YM K (.ref f)=true
section
variable{X:Cx}{Rv:RL}{σ:St}{H:Hp}{s:RQ}{a C dx:Zo}{fs:List (Str×V)}{f:Str}{v:V}{A:SJ}{E:RK}
def wb(I:aJ X Rv σ H s)(e:H a=some (.ins C dx fs))(c:oY X.K C)(n:bK X.K C f)(l:fs.lookup f=some v)(h:∀u s',aJ X Rv σ H s'->aQ v u->Q u s'):RR (RX X.prog X.w) A (getAttr (.ref a) f b) Q E s:=by obtain⟨mA,O,r,_,_,_⟩:=mC I.hok e;obtain⟨u,hu,ru⟩:=iX.some_of (v:=v) (o:=mA f) (by rw[<-l];exact r f);exact D8 I.kIn O (c.get f) c.hd n hu (zP ru) (h u _ (I.tok _) ru)
def j4(I:aJ X Rv σ H s)(e:H a=some (.ins C dx fs))(c:oY X.K C)(k:LU X.K C m g)(l:fs.lookup m=none)(h:Q (.ref g,[.ref a]) s):RR (RX X.prog X.w) A (U9 (.ref a) m pl) Q E s:=by obtain⟨mA,O,r,_,_,_⟩:=mC I.hok e;have hn:mA m=none:=iX.none_of (by rw[<-l];exact r m);exact BQ I.kIn O (c.get m) k.at_ k.fn hn h
def vm(I:aJ X Rv σ H s)(e:H a=some (.ins C dx fs))(c:oY X.K C)(n:bK X.K C f)(hl:fs.length<1000)(ry:aQ y u)(h:∀s',aJ X Rv σ (upd H a (.ins C dx (putF f y fs))) s'->Q () s'):RR (RX X.prog X.w) A (setAttr (.ref a) f u) Q E s:=by
 obtain⟨mA,O,r,wi,_,ho⟩:=mC I.hok e;have hz:(fs.map (·.1)).length<=v1:=by rw[VN,RW];lia
 refine Dq I.kIn O c.sa c.po n.taker c.hd wi hz λh' O' sb=>h _ ?_;have hd:∃o,h'.get? dx=some o:=let ⟨o,_,_,e',_⟩:=O'.ns;⟨o,e'⟩;refine I.write (x:=a) (e:=dx) (by rw[e];exact True.intro) (.inr ho) (λb q hb z=>(sb.2 b hb).trans z) hd ?_;refine⟨by rw[aq O.ne];exact ho,?_,O.ne,O'.obj,_,O'.ns,λg=>?_,λg hg=>?_⟩
 .have:=bu f y fs;lia
 .show iX ((putF f y fs).lookup g) (if g=f then some u else mA g);rw[av]
  by_cases q:g=f
  .rw[RC q,RC q];exact ry
  .rw[RB q,RB q];exact r g
 .by_cases q:g=f
  .rw[q];exact(ly f y fs).1
  .refine(ly f y fs).2 g (wi g λz=>hg ?_);show(if g=f then some u else mA g)=none;rw[RB q];exact z
def aJ.made(I:aJ X Rv σ H s):aJ X Rv σ (upd (upd H s.heap.objs.size (.own (s.heap.objs.size+1))) (s.heap.objs.size+1) (.ins C s.heap.objs.size [])) {s with heap:=(s.heap.push YO).push (YQ C s.heap.objs.size)}:=by
 have e1:(s.heap.push YO).get? s.heap.objs.size=some YO:=RT s.heap rfl;have e2:((s.heap.push YO).push (YQ C s.heap.objs.size)).get? (s.heap.objs.size+1)=some (YQ C s.heap.objs.size):=by
  have:=RT (s.heap.push YO) (o:=YQ C s.heap.objs.size) rfl
  rwa[Se]at this
 have e3:(s.heap.push YO).Ns s.heap.objs.size (λ_=>none):=⟨YO,#[],_,e1,rfl,(λe he=>RF he (by simp)),λ_=>rfl⟩;have I1:=I.laid (a:=s.heap.objs.size) (o:=.own (s.heap.objs.size+1)) (h':=s.heap.push YO) (t':=s.toks) (λb u q=>RO _ q) (XD _) ⟨_,e1⟩;refine I1.laid (a:=s.heap.objs.size+1) (o:=.ins C s.heap.objs.size []) (t':=s.toks) (λb u q=>RO _ q) (XS (Se _ _)) ?_;have ne:s.heap.objs.size≠s.heap.objs.size+1:=XE (XQ _);refine⟨by rw[aq ne,ag],XF _,ne,e2,λ_=>none,(Heap.Ns1.of_empty e3).at λo q=>RO _ q,λ_=>True.intro,λy hy=>RF rfl hy⟩
def EE(hb:SE e f env (Sr e env)=Sr e env)(h:RR (RX prog w) A (Sr e env) (λo s₁=>RR (RX prog w) A (getAttr o f true) Q E s₁) E s):RR (RX prog w) A (Sr (.Attribute e f pos) env) Q E s:=
 Attribute_any_ h (by rw[arm_eval_Attribute,hb])
end
def lX(K:Frag)(ta tv:TE)(f:Str):TS:=λD σ H=>tv σ H λy H1=>ta σ H1 λx H2=>∃a C dx fs,x=.ref a/\H2 a=some (.ins C dx fs)/\oY K C/\bK K C f/\fs.length<1000/\
 D.nx σ (upd H2 a (.ins C dx (putF f y fs)))
section
def Kz(ha:PE X o ta)(hv:PE X value tv)(hs:TX value (some (.Attribute o f pos')) pos.line X.env=pure false):PS X (.Assign [.Attribute o f pos'] value pos) (lX X.K ta tv f):=by intro Rv s σ H D I h;refine plainObj_wpAny_Assign_Attribute (bL (hv Rv s σ H _ I h) λu s1 ⟨y,H1,I1,ry,q⟩=>bL (ha Rv s1 σ H1 _ I1 q) λov s2 ⟨x,H2,I2,rx,a,C,dx,fs,ex,ea,c,n,l,q2⟩=>?_) hs;subst ex;obtain rfl:ov=RY a:=rx;exact vm I2 ea c n l ry λs3 I3=>⟨σ,_,I3,q2⟩
end
section
variable{X:Cx}{Rv:RL}{σ:St}{H:Hp}{s:RQ}{A:SJ}{E:RK}{Q:RK}{c:Zn}{b:Bool}
inductive lE(K:Frag)(H:Hp):V->Zn->Prop where
 |non:lE K H .non (.type "NoneType")
 |bl (x:Bool):lE K H (.bl x) (.type "bool")
 |int (i:Int):lE K H (.int i) (.type "int")
 |str (x:Str):lE K H (.str x) (.type "str")
 |flt (x:UInt64):lE K H (.flt x) (.type "float")
 |lst {a:Zo} {xs:List V} (e:H a=some (.lst xs)):lE K H (.ref a) (.type "list")
 |frz {a:Zo} {o:Obj} {xs:List V} (e:H a=some (.frz o (.lst xs))):lE K H (.ref a) (.type "list")
 |tup {a:Zo} {xs:List V} (e:H a=some (.tup xs)):lE K H (.ref a) (.type "tuple")
 |dK {a:Zo} {kvs:List (Key×V)} (e:H a=some (.dK kvs)):lE K H (.ref a) (.type "dict")
 |dT {a:Zo} {kvs:List (List Key×V)} (e:H a=some (.dT kvs)):lE K H (.ref a) (.type "dict")
 |ins {a C dx:Zo} {fs:List (Str×V)} (e:H a=some (.ins C dx fs)) (cl:oY K C) (ha:YE K (.ref C) "__class__"=some (some (.builtin "object.__class__")))
   (hn:Zc K (.builtin "object.__class__") "__get__"=some (some (.builtin "getset_descriptor.__get__"))) (htk:Zd K (.builtin "object.__class__")=some true)
   (hm:YS K C (.type "object")=some true):lE K H (.ref a) (.ref C)
def zN(I:aJ X Rv σ H s)(rx:aQ x u)(ty:lE X.K H x t)(e:YG X.K t c=some b)(h:∀tk,Q (.bool b) {s with toks:=tk}):RR (RX X.prog X.w) A (call (.builtin "isinstance") [u,c]) Q E s:=by
 cases ty with
 |non=>cases(show u=SV from rx);exact YK PySem.W.kitx_none I.kIn True.intro e (λz=>nomatch z) h
 |bl y=>cases(show u=Vm y from rx);exact YK PySem.W.kitx_bool I.kIn True.intro e (λz=>nomatch z) h
 |int i=>obtain⟨t,q⟩:=(show∃t,u=Tu i t from rx);cases q;exact YK PySem.W.kitx_int I.kIn True.intro e (λz=>nomatch z) h
 |str y=>obtain⟨t,q⟩:=(show∃t,u=Tt y t from rx);cases q;exact YK PySem.W.kitx_str I.kIn True.intro e (λz=>nomatch z) h
 |flt y=>obtain⟨t,q⟩:=(show∃t,u=Value.float y t from rx);cases q;exact YK PySem.W.kitx_float I.kIn True.intro e (λz=>nomatch z) h
 | @lst a xs ea=>
   cases(show u=RY a from rx);obtain⟨_,_,n,_,h1⟩:=(show bp X.prog X.w H s.heap a (.lst xs)from I.hok a _ ea);exact YK Ze I.kIn ⟨_,h1,rfl⟩ e (λz=>nomatch z) h
 | @frz a ob xs ea=>
   cases(show u=RY a from rx);obtain⟨_,_,_,n,_,h1⟩:=(show bp X.prog X.w H s.heap a (.frz ob (.lst xs))from I.hok a _ ea);exact YK Ze I.kIn ⟨_,h1,rfl⟩ e (λz=>nomatch z) h
 | @tup a xs ea=>
   cases(show u=RY a from rx);obtain⟨_,_,_,p⟩:=(show bp X.prog X.w H s.heap a (.tup xs)from I.hok a _ ea);obtain⟨o,h1,h2,_⟩:=p;exact YK PySem.W.kitx_tuple I.kIn ⟨o,h1,h2⟩ e (λz=>nomatch z) h
 | @dK a kvs ea=>
   cases(show u=RY a from rx);obtain⟨_,_,vs,_,p⟩:=(show bp X.prog X.w H s.heap a (.dK kvs)from I.hok a _ ea);obtain⟨o,es,ep,h1,h2,_⟩:=p;exact YK Zf I.kIn ⟨o,h1,h2.1⟩ e (λz=>nomatch z) h
 | @dT a kvs ea=>
   cases(show u=RY a from rx);obtain⟨_,_,xs,_,o,es,ep,h1,h2,_⟩:=(show bp X.prog X.w H s.heap a (.dT kvs)from I.hok a _ ea);exact YK Zf I.kIn ⟨o,h1,h2.1⟩ e (λz=>nomatch z) h
 | @ins a C dx fs ea cl ha hn htk hm=>
   cases(show u=RY a from rx);obtain⟨mA,O,_⟩:=mC I.hok ea;obtain⟨od,J,_⟩:=O.look;exact YK (PySem.W.kitx_own (cl.get _) cl.hd ha hn htk hm) I.kIn J e (λz=>nomatch z) h
end
structure cw(k:Nat)(A:SJ):Prop where
 hd:A.handled=none
 dp:A.depth+3*k+5<Uh
 un:A.units+16*k+200<SK
def cw.mono(r:cw k A)(h:j<=k):cw j A:=⟨r.hd,by have:=r.dp;lia,by have:=r.un;lia⟩
theorem cw.deeper(r:cw (k+1) A)(env:VE):cw k (A.deeper env):=
 ⟨r.hd,by have:=r.dp;show A.depth+1+3*k+5<_;lia,by have:=r.un;show A.units+3+16*k+200<_;lia⟩
def v3{A:SJ}{C:Zo}{us:List Zn}{kw:List (Str×Zn)}:(A.under (.builtin "type.__call__" ⟨.ref C::us,kw⟩)).depth=A.depth+1:=by
 first|rfl|simp[Vv,Code.weight,Code.isCreation,Code.isGuard,Code.isCaller,Code.frames,Vu,guardIds]
def vY{A:SJ}{C:Zo}{us:List Zn}{kw:List (Str×Zn)}:(A.under (.builtin "type.__call__" ⟨.ref C::us,kw⟩)).units=A.units+1:=by
 first|rfl|simp[Vv,Code.cUnits,Code.frames,Vu]
def cw.make(r:cw (k+1) A)(C:Zo)(us:List Zn)(kw:List (Str×Zn)):cw k (A.under (.builtin "type.__call__" ⟨.ref C::us,kw⟩)):=
 ⟨r.hd,by have:=r.dp;rw[v3];lia,by have:=r.un;rw[vY];lia⟩
theorem cw.depth(r:cw k A):A.depth<Uh:=by have:=r.dp;lia
theorem cw.units(r:cw k A):A.units+64<SK:=by have:=r.un;lia
def bG:TA:=λ_ H Q=>Q [] H
def aN(ta:TE)(tr:TA):TA:=λσ H Q=>ta σ H λx H1=>tr σ H1 λxs H2=>Q (x::xs) H2
section
def pan:PA X [] bG:=λ_ _ _ _ H Q I h=>Calls.spliced_nil ⟨[],H,I,.nil,h⟩
def pa_cons(ha:PE X e te)(hr:PA X es t)(hs:RS (e::es) X.env=(false,Sr e X.env)::RS es X.env:=by rfl):PA X (e::es) (aN te t):=by intro pos Rv s σ H Q I h;rw[hs];show RR _ _ (spliced ((false,Sr e X.env)::Sj pos (RS es X.env))) _ _ s;refine Calls.spliced_cons (bL (ha Rv s σ H _ I h) λu s1 ⟨x,H1,I1,r1,q1⟩=>?_);exact bL (hr pos Rv s1 σ H1 _ I1 q1) λus s2 ⟨xs,H2,I2,r2,q2⟩=>⟨x::xs,H2,I2,.cons r1 r2,q2⟩
def mO(t:TA):TE:=λσ H Q=>t σ H λxs H1=>xs.length<=v1/\∀p,H1 p=none->Q (.ref p) (upd H1 p (.tup xs))
def lV(t:TA):TE:=λσ H Q=>t σ H λxs H1=>xs.length<=v1/\∀p,H1 p=none->Q (.ref p) (upd H1 p (.lst xs))
def bD{x1}(h:PA X es t):PE X (.Tuple es x1 pos) (mO t):=by intro Rv s σ H Q I hq;refine wpAny_Tuple_spliced (bL (h pos Rv s σ H _ I hq) λus s1 ⟨xs,H1,I1,r,z,q⟩=>⟨by rw[<-r.length];exact z,?_⟩);have hf:H1 s1.heap.objs.size=none:=I1.hok.fresh (XD _);refine⟨.ref s1.heap.objs.size,upd H1 s1.heap.objs.size (.tup xs),I1.laid (t':=s1.toks) (λb u e=>RO _ e) (XD _) ?_,rfl,q _ hf⟩;exact⟨z,us,r,⟨_,RT _ rfl,rfl,_,rfl⟩⟩
def bh(h:PA X es t):PE X (.List es pos) (lV t):=by intro Rv s σ H Q I hq;refine wpAny_List_spliced (bL (h pos Rv s σ H _ I hq) λus s1 ⟨xs,H1,I1,r,z,q⟩=>⟨by rw[<-r.length];exact z,?_⟩);have hf:H1 s1.heap.objs.size=none:=I1.hok.fresh (XD _);refine⟨.ref s1.heap.objs.size,upd H1 s1.heap.objs.size (.lst xs),I1.laid (t':=s1.toks) (λb u e=>RO _ e) (XD _) ?_,rfl,q _ hf⟩;exact⟨z,us,0,r,RT _ rfl⟩
end
abbrev Sp:=List V->Hp->VK->XK->Prop
abbrev As:=List VE->Hp->RQ->XK->Zn->RQ->Prop
structure sk(P:RU)(w:RZ)(K:Frag)(mg:RJ)(Rw:R9)(A:SJ)(Rx:List VE)(s:RQ)(H:Hp):Prop where
 frames:A.frames=some Rx
 mod:Mod K mg Rw
 bs:∀b o,Rw.get? b=some o->s.heap.get? b=some o/\H b=none
 bsz:Rw.objs.size<=s.heap.objs.size
 funs:s.heap.FunFrames Rw Rx
 frf:∀b∈jK Rx,H b=none
 hok:jM P w H s.heap
 bare:T0 s.gens
def CE(Rx:List VE)(P:RU)(w:RZ)(H:Hp)(s:RQ)(Q:VK)(u:Zn)(s':RQ):Prop:=
 ∃v H',s'.os=s.os/\T0 s'.gens/\Un (jK Rx) [] H H' s.heap s'.heap/\jM P w H' s'.heap/\aQ v u/\Q v H'
def CR(CX:As)(Rx:List VE)(P:RU)(w:RZ)(H:Hp)(s:RQ)(Q:VK)(E:XK)(r:Result)(s':RQ):Prop:=
 match r with
 | .ok (.ret u)=>CE Rx P w H s Q u s'
 | .ok _=>False
 | .error e=>CX Rx H s E e s'
structure aY(P:RU)(w:RZ)(K:Frag)(mg:RJ)(Rw:R9)(CX:As)(k:Nat)(f:Zo)(fd:R7)(ps:List Str)(sp:Sp):Prop where
 len:∀vs H Q E,sp vs H Q E->vs.length=ps.length
 run:∀A Rx s H args us vs Q E,cw k A->sk P w K mg Rw A Rx s H->Vd s fd args (ps.zip us)->aT vs us->sp vs H Q E->
  Tl (RX P w) A (.call (.ref f) args) (CR CX Rx P w H s Q E) s
def aY.imp{P:RU}{w:RZ}{K:Frag}{mg:RJ}{Rw:R9}{CX:As}{k:Nat}{f:Zo}{fd:R7}{ps:List Str}{sp sp':Sp}(F:aY P w K mg Rw CX k f fd ps sp)(h:∀vs H Q E,sp' vs H Q E->sp vs H Q E):aY P w K mg Rw CX k f fd ps sp':=
 ⟨λvs H Q E q=>F.len vs H Q E (h _ _ _ _ q),λA Rx s H args us vs Q E hr he hb hv hs=>F.run A Rx s H args us vs Q E hr he hb hv (h _ _ _ _ hs)⟩
def sk.make{P:RU}{w:RZ}{K:Frag}{mg:RJ}{Rw:R9}{A:SJ}{Rx:List VE}{s:RQ}{H:Hp}(e:sk P w K mg Rw A Rx s H)(C:Zo)(us:List Zn)(kw:List (Str×Zn)):sk P w K mg Rw (A.under (.builtin "type.__call__" ⟨.ref C::us,kw⟩)) Rx s H:=⟨by first|exact e.frames|(simpa[Vv,Code.envs,Vu,pushEnvs]using e.frames),e.mod,e.bs,e.bsz,e.funs,e.frf,e.hok,e.bare⟩
section
variable{X:Cx}{Rv:RL}{σ:St}{H:Hp}{s s':RQ}
def aJ.env0(I:aJ X Rv σ H s):sk X.prog X.w X.K X.mg X.Rw X.A X.stack s H:=
 ⟨I.ok.frames,I.ok.mod,I.bs,XG I.ok.bsz I.sz,I.stack,I.stkFree,I.hok,I.bare⟩
def aJ.after(I:aJ X Rv σ H s)(h:CE X.stack X.prog X.w H s Q u s'):EP X Rv σ Q u s':=by obtain⟨v,H',os,bare,un,hok,r,q⟩:=h;obtain⟨hh,g,d,t,os'⟩:=s';obtain rfl:os'=s.os:=os;exact⟨v,H',I.call (h':=hh) (g':=g) (d':=d) (t':=t) (ch:=[]) un hok bare (λb z=>RF z (by simp)),r,q⟩
end
def AG(sp:Sp)(dvs:List V)(E:XK)(t:TA):TE:=λσ H Q=>t σ H λvs H1=>sp (vs++dvs) H1 Q E
def AE(C:Zo)(sp:Sp)(dvs:List V)(E:XK)(t:TA):TE:=λσ H Q=>t σ H λvs H1=>∀x dx,H1 x=none->H1 dx=none->dx≠x->
 sp (.ref x::(vs++dvs)) (upd (upd H1 dx (.own x)) x (.ins C dx [])) (λv H2=>v=.non/\Q (.ref x) H2) E
def gS(K:Frag)(fd:R7)(ps:List Str)(ds:List Zn):Prop:=
 ∀s us,K.In s.heap->(us++ds).length=ps.length->Vd s fd ⟨us,[]⟩ (ps.zip (us++ds))
def gS.all{K:Frag}{fd:R7}{ps:List Str}(h:∀us:List Zn,us.length=ps.length->bindArgs fd ⟨us,[]⟩=pure (ps.zip us)):gS K fd ps []:=λs us _ hl=>by rw[V9]at hl ⊢;exact .of_eq (h us hl)
def oz(CX:As)(X:Cx)(E:XK):Prop:= ∀(Rv:RL)(σ:St)(H:Hp)(s:RQ)(e:Zn)(s':RQ),aJ X Rv σ H s->CX X.stack H s E e s'->X.xe e s'
section
variable{X:Cx}{CX:As}{k:Nat}{f C:Zo}{fd:R7}{ps:List Str}{sp:Sp}{dvs:List V}{ds:List Zn}{E:XK}{x m:Str}{p pos apos:Vb}{e o:Sz}{es:List Sz}{t:TA}
def vy{Rv:RL}{σ:St}{H:Hp}{s:RQ}{Q:VK}{us:List Zn}{vs:List V}(F:aY X.prog X.w X.K X.mg X.Rw CX k f fd ps sp)(hr:cw k X.A)(hb:gS X.K fd ps ds)(hd:aT dvs ds)(hx:oz CX X E)(I:aJ X Rv σ H s)(r:aT vs us)(h:sp (vs++dvs) H Q E):RR (RX X.prog X.w) X.A (call (.ref f) us) (EP X Rv σ Q) X.xe s:=by
 have r2:aT (vs++dvs) (us++ds):=r.append hd;have hl:(us++ds).length=ps.length:=by rw[<-r2.length];exact F.len _ _ _ _ h
 refine To (SB (F.run X.A X.stack s H ⟨us,[]⟩ (us++ds) (vs++dvs) Q E hr I.env0 (hb s us I.kIn hl) r2 h) λr s' hq=>?_);cases r with
 |error e=>exact hx Rv σ H s e s' I hq
 |ok fl=>
  cases fl with
  |ret u=>exact I.after hq
  |next=>exact False.elim hq
  |brk=>exact False.elim hq
  |cont=>exact False.elim hq
def DH(F:aY X.prog X.w X.K X.mg X.Rw CX k f fd ps sp)(hr:cw k X.A)(hg:Gl X x)(hm:X.mg x=some (.ref f))(hk:YM X.K (.ref f)=true)(hb:gS X.K fd ps ds)(hd:aT dvs ds)(hx:oz CX X E)(ha:PA X (e::es) t)(hdb:(x == ("__debug__":Str))=false:=by decide)(he:RS (e::es) X.env=(false,Sr e X.env)::RS es X.env:=by rfl)(hpl:(Sj pos (RS es X.env)).any (·.1)=false:=by rfl):PE X (.Call (.Name x p) (e::es) [] pos) (AG sp dvs E t):=by intro Rv s σ H Q I h;refine SL (iJ I hg hm ?_ hdb);refine YX (h₀:=X.Rw) I.ok.mod.kin hk (bL (ha pos Rv s σ H _ I h) λus s1 ⟨vs,H1,I1,r,q⟩=>⟨I1.kIn,?_⟩) he hpl;exact vy F hr hb hd hx I1 r q
structure Mk(K:Frag)(C f:Zo):Prop where
 makes:YZ K C=true
 init:YE K (.ref C) "__init__"=some (some (.ref f))
 fn:YJ K (.ref f)=true
 kp:YM K (.ref C)=true
def A0{Rv:RL}{σ:St}{H:Hp}{s:RQ}{Q:VK}{us:List Zn}{vs:List V}(M:Mk X.K C f)(F:aY X.prog X.w X.K X.mg X.Rw CX k f fd ps sp)(hr:cw (k+1) X.A)(hb:gS X.K fd ps ds)(hd:aT dvs ds)(hx:oz CX X E)(I:aJ X Rv σ H s)(r:aT vs us)(h:∀x dx,H x=none->H dx=none->dx≠x->sp (.ref x::(vs++dvs)) (upd (upd H dx (.own x)) x (.ins C dx [])) (λv H2=>v=.non/\Q (.ref x) H2) E):RR (RX X.prog X.w) X.A (call (.ref C) us) (EP X Rv σ Q) X.xe s:=by
 have hq:=h (s.heap.objs.size+1) s.heap.objs.size (I.hok.fresh (XI _)) (I.hok.fresh (XD _)) (XE (XQ _));have I2:=aJ.made (C:=C) I;have r2:aT (V.ref (s.heap.objs.size+1)::(vs++dvs)) (RY (s.heap.objs.size+1)::(us++ds)):=.cons rfl (r.append hd);have hl:(RY (s.heap.objs.size+1)::us++ds).length=ps.length:=by have e:=r2.length;rw[F.len _ _ _ _ hq]at e;exact e.symm
 refine To (ub (f:=f) I.kIn M.makes M.init (beq_iff_eq.mp M.fn) (SB (F.run _ X.stack _ _ ⟨RY (s.heap.objs.size+1)::us,[]⟩ (RY (s.heap.objs.size+1)::(us++ds)) _ _ E (hr.make C us [])
  (I2.env0.make C us []) (hb _ (RY (s.heap.objs.size+1)::us) I2.kIn hl) r2 hq) λr s' hq'=>?_))
 cases r with
 |error e=>exact hx Rv σ _ _ e s' I2 hq'
 |ok fl=>
  cases fl with
  |ret u=>
   obtain⟨v,H',I3,rv,ev,q3⟩:=I2.after hq';subst ev;exact⟨rv,⟨V.ref (s.heap.objs.size+1),H',I3,rfl,q3⟩⟩
  |next=>exact False.elim hq'
  |brk=>exact False.elim hq'
  |cont=>exact False.elim hq'
def DC(M:Mk X.K C f)(F:aY X.prog X.w X.K X.mg X.Rw CX k f fd ps sp)(hr:cw (k+1) X.A)(hg:Gl X x)(hm:X.mg x=some (.ref C))(hb:gS X.K fd ps ds)(hd:aT dvs ds)(hx:oz CX X E)(ha:PA X (e::es) t)(hdb:(x == ("__debug__":Str))=false:=by decide)(he:RS (e::es) X.env=(false,Sr e X.env)::RS es X.env:=by rfl)(hpl:(Sj pos (RS es X.env)).any (·.1)=false:=by rfl):PE X (.Call (.Name x p) (e::es) [] pos) (AE C sp dvs E t):=by intro Rv s σ H Q I h;refine SL (iJ I hg hm ?_ hdb);refine YX (h₀:=X.Rw) I.ok.mod.kin M.kp (bL (ha pos Rv s σ H _ I h) λus s1 ⟨vs,H1,I1,r,q⟩=>⟨I1.kIn,?_⟩) he hpl;exact A0 M F hr hb hd hx I1 r q
end
structure aD(N P:List Str)(sc:TV):Prop where
 kind:sc.kind=.function
 co:sc.isCoroutine=false
 gen:sc.isGenerator=false
 nd:N.Nodup
 pre:N.take P.length=P
 par:∀x∈P,sc.names.lookup x=some .local\/sc.names.lookup x=some .cell
 nofree:∀y∈sc.names,y.2≠.free
theorem qg{kindOf:Str->Option NameKind}{x:Str}:∀{binds:List (Str×Zn)}{m:RJ},(∀v,(x,v)∉binds)->VG kindOf binds m x=m x
 | [],_,_=>rfl
 |(n,v)::r,m,h=>by
  unfold VG;rw[qg λw hw=>h w (VU _ hw)];split
  .have:x≠n:=by rintro rfl;exact h v VW
   simp[this]
  .rfl
theorem qi{kindOf:Str->Option NameKind}{x:Str}:∀{binds:List (Str×Zn)}{m:RJ},(∀v,(x,v)∉binds)->VH kindOf binds m x=m x
 | [],_,_=>rfl
 |(n,v)::r,m,h=>by
  unfold VH;rw[qi λw hw=>h w (VU _ hw)];split
  .rfl
  .have:x≠n:=by rintro rfl;exact h v VW
   simp[this]
theorem qh{kindOf:Str->Option NameKind}{x:Str}{v:Zn}:∀{P:List Str}{vs:List Zn}{i:Nat}{m:RJ},P.Nodup->P[i]? =some x->vs[i]? =some v->kindOf x=some .local->VG kindOf (P.zip vs) m x=some v
 | [],_,_,_,_,h,_,_=>by simp at h
 |_::_,[],_,_,_,_,h,_=>by simp at h
 |p::P,w::vs,0,m,nd,h1,h2,hk=>by simp at h1 h2;subst h1;subst h2;show VG kindOf ((p,w)::P.zip vs) m p=_;unfold VG;rw[qg λv hv=>(Wk.mp nd).1 (WI hv).1,RC hk];simp
 |p::P,w::vs,i+1,m,nd,h1,h2,hk=>by show VG kindOf ((p,w)::P.zip vs) m x=_;unfold VG;exact qh (i:=i) (Wk.mp nd).2 (by simpa using h1) (by simpa using h2) hk
theorem qj{kindOf:Str->Option NameKind}{x:Str}{v:Zn}:∀{P:List Str}{vs:List Zn}{i:Nat}{m:RJ},P.Nodup->P[i]? =some x->vs[i]? =some v->kindOf x≠some .local->VH kindOf (P.zip vs) m x=some v
 | [],_,_,_,_,h,_,_=>by simp at h
 |_::_,[],_,_,_,_,h,_=>by simp at h
 |p::P,w::vs,0,m,nd,h1,h2,hk=>by simp at h1 h2;subst h1;subst h2;show VH kindOf ((p,w)::P.zip vs) m p=_;unfold VH;rw[qi λv hv=>(Wk.mp nd).1 (WI hv).1,RB hk];simp
 |p::P,w::vs,i+1,m,nd,h1,h2,hk=>by show VH kindOf ((p,w)::P.zip vs) m x=_;unfold VH;exact qj (i:=i) (Wk.mp nd).2 (by simpa using h1) (by simpa using h2) hk
noncomputable def start(N:List Str)(vs:List V):St:=vs.map some++List.replicate (N.length - vs.length) none
noncomputable def lA(CX:As)(P:RU)(w:RZ)(K:Frag)(mg:RJ)(Rw:R9)(N:List Str)(qual:Str)(scope:TV)(f:Zo)(cd:Zn)(A:SJ)(Rx:List VE)(s:RQ)(H:Hp)(E:XK):Cx where
 prog:=P
 w:=w
 K:=K
 mg:=mg
 Rw:=Rw
 A:=A.deeper (SU qual scope s.heap.objs.size f cd)
 N:=N
 s₀:=s
 H₀:=H
 env:=SU qual scope s.heap.objs.size f cd
 Rx:=Rx
 stack:=SU qual scope s.heap.objs.size f cd::Rx
 ex:=[]
 calm:=true
 fn:=λ_=>true
 pn:=[]
 xe:=λe s'=>RR (RX P w) (A.deeper (SU qual scope s.heap.objs.size f cd)) (leaving (SU qual scope s.heap.objs.size f cd) e) (λ_ s''=>CX Rx H s E e s'') (λe' s''=>CX Rx H s E e' s'') s'
def uH{sc:TV}{n:Nat}{x:Str}(h:sc.names.lookup x=some .cell):∃c,(VA n sc.names []).lookup x=some c:=by have q:=Y6 sc.names n [] (.inl h);exact YB.mp q
def pT{CX:As}{P:RU}{w:RZ}{K:Frag}{mg:RJ}{Rw:R9}{N ps:List Str}{qual:Str}{scope:TV}{f:Zo}{cd:Zn}{A:SJ}{Rx:List VE}{s s1:RQ}{H:Hp}{E:XK}{us:List Zn}{vs:List V}(S:aD N ps scope)(hd:A.handled=none)(e0:sk P w K mg Rw A Rx s H)(hl:vs.length=ps.length)(r:aT vs us)(x:InCallC s s.heap.objs.size (VG (SU qual scope s.heap.objs.size f cd).kindOf (ps.zip us) λ_=>none) (VA (s.heap.objs.size+1) scope.names []) (VH (SU qual scope s.heap.objs.size f cd).kindOf (ps.zip us) λ_=>none) s1):aJ (lA CX P w K mg Rw N qual scope f cd A Rx s H E) [] (start N vs) H s1:=by
 have hpl:ps.length<=N.length:=by have:=RI List.length S.pre;rw[V8]at this;lia
 obtain⟨h1,tk,rfl,hk⟩:=x.done;have noA:∀b:Zo,b∉(lA CX P w K mg Rw N qual scope f cd A Rx s H E).ex:=λb z=>RF (show b∈([]:List Zo)from z) (by simp);refine⟨⟨e0.mod,S.kind,rfl,rfl,XD _,λy z c h1 h2=>?_,λy hy=>?_,λy c _ h=>?_,λ_=>hd,Around.frames_deeper e0.frames,.inr ⟨rfl,rfl⟩,λb z=>RF z (noA b),e0.bs,e0.bsz,λb _ _=>noA b,λb z=>RF z (noA b),e0.funs,e0.frf⟩,
  rfl,e0.bare,Un.kept hk,⟨_,x.toInCall.ns,λi y v h1 h2 h3=>?_⟩,λy c h=>⟨_,x.cell y c h⟩,e0.hok.fresh (XD _),λy c h=>?_,λp hp=>RF (show p∈([]:RL)from hp) (by simp),e0.hok.kept hk,?_⟩
 .exact name_of_addr x.apart (PySem.mem_of_lookup h1) (PySem.mem_of_lookup h2)
 .have hy:scope.names.lookup y=some .cell\/scope.names.lookup y=some .free:=hy
  rcases hy with hy|hy
  .exact uH hy
  .exact RF rfl (S.nofree _ (PySem.mem_of_lookup hy))
 .exact XV (x.above y c (PySem.mem_of_lookup h))
 .have hi:i<vs.length:=by
   unfold start at h2
   by_cases hi:i<vs.length
   .exact hi
   .rw[WR (by simpa using hi)]at h2;rw[WS]at h2;split at h2<;>cases h2
  have ha:vs[i]? =some v:=by
   unfold start at h2;rw[WE (by simpa using hi),VT]at h2;cases e:vs[i]? with
   |none=>rw[e]at h2;cases h2
   |some a=>rw[e]at h2;cases h2;rfl
  obtain⟨u,hu,rv⟩:=r.get ha;have hp:ps[i]? =some y:=by rw[<-S.pre,Xo (by lia)];exact h1
  have ndP:ps.Nodup:=by rw[<-S.pre];exact S.nd.sublist (Xp _ _)
  refine⟨u,rv,?_⟩
  rcases S.par y (Wa hp)with k|k
  .exact .inl ⟨k,qh ndP hp hu k⟩
  .obtain⟨c,e⟩:=uH (n:=s.heap.objs.size+1) k;refine .inr ⟨.inl k,c,e,?_⟩;have q:=x.cell y c e;rw[qj ndP hp hu (by show scope.names.lookup y≠_;rw[k];decide)]at q;exact q
 .exact e0.hok.fresh (XV (x.above y c (PySem.mem_of_lookup h)))
 .unfold start;show _=N.length;rw[VV,VN,Xq];lia
def JI{CX:As}{P:RU}{w:RZ}{K:Frag}{mg:RJ}{Rw:R9}{k:Nat}{f:Zo}{name qual:Str}{params:Arguments}{body:List Sb}{scope:TV}{dV kV doc pm cdv ct oc:Zn}{an od:Option Zo}{osl:Array (Option Zn)}{N ps:List Str}{sp:Sp}(lk:K.lookup f=some ⟨oc,od,.func (YN name qual params body scope dV kV doc pm an cdv ct),osl⟩)(hcd:Y1 K cdv qual=true)(S:aD N ps scope)(len:∀vs H Q E,sp vs H Q E->vs.length=ps.length)(hbody:∀A Rx s H vs Q E,cw k (A.deeper (SU qual scope s.heap.objs.size f cdv))->sp vs H Q E->
   ∃t,sj (lA CX P w K mg Rw N qual scope f cdv A Rx s H E) body t/\t {nx:=λ_ H'=>Q .non H',rt:=Q} (start N vs) H):aY P w K mg Rw CX (k+1) f (YN name qual params body scope dV kV doc pm an cdv ct) ps sp:=by
 refine⟨len,λA Rx s H args us vs Q E hr e0 hb r hsp=>?_⟩;have hl:=len _ _ _ _ hsp;have KX:K.In s.heap:=e0.mod.kin.keeps λb o e=>(e0.bs b o e).1;have lim:s.heap.NoLimit:=e0.mod.nolimit.keeps λb o e=>(e0.bs b o e).1;have hkind:∀y∈ps.zip us,scope.names.lookup y.1=some .local\/(scope.names.lookup y.1=some .cell/\((VA (s.heap.objs.size+1) scope.names []).lookup y.1).isSome=true):=λ⟨n,v⟩ hy=>by
  rcases S.par n (WI hy).1 with q|q
  .exact .inl q
  .exact .inr ⟨q,Y6 _ _ _ (.inl q)⟩
 refine UX hr.depth (KX _ _ lk) rfl S.co S.gen rfl (Zg KX hcd) (hb _ _ _ _ ?_);refine Uc S.kind hkind λenv he s1 x=>?_;subst he;refine⟨lim.keeps x.toInCall.keep,codeAny_func ?_⟩;obtain⟨t,ht,hq⟩:=hbody A Rx s H vs Q E (hr.deeper _) hsp;have I:aJ (lA CX P w K mg Rw N qual scope f cdv A Rx s H E) [] (start N vs) H s1:=pT S hr.hd e0 hl r x;refine Sx (ht [] s1 (start N vs) H _ I hq) (λfl s' hs=>?_) λe s' hs=>hs;have fin:∀{σ':St}{H':Hp}{v:V}{u:Zn},aJ (lA CX P w K mg Rw N qual scope f cdv A Rx s H E) [] σ' H' s'->aQ v u->Q v H'->CE Rx P w H s Q u s':=
  λ{σ' H' v u} J rv q=>⟨v,H',J.os,J.bare,J.Rw,J.hok,rv,q⟩
 cases fl with
 |ret u=>
  obtain⟨v,σ',H',J,rv,q⟩:=hs;exact fin J rv q
 |next=>
  obtain⟨σ',H',J,q⟩:=hs;exact fin (v:=V.non) (u:=SV) J rfl q
 |brk=>
  obtain⟨_,_,_,q⟩:=hs;exact False.elim q
 |cont=>
  obtain⟨_,_,_,q⟩:=hs;exact False.elim q
section
variable{X:Cx}{x:Str}{p pos:Vb}{e:Sz}{es:List Sz}{t:TA}{id T:String}{r:List V->Hp->VK->Prop}
def tCB(r:List V->Hp->VK->Prop)(t:TA):TE:=λσ H Q=>t σ H λvs H1=>r vs H1 Q
def Bj(hc:bf X (.builtin id) r)(hg:Gl X x)(hm:X.mg x=none)(hv:R8 x=some (.builtin id))(ha:PA X (e::es) t)(hn:x≠"__name__":=by decide)(hdb:(x == ("__debug__":Str))=false:=by decide)(he:RS (e::es) X.env=(false,Sr e X.env)::RS es X.env:=by rfl)(hpl:(Sj pos (RS es X.env)).any (·.1)=false:=by rfl):PE X (.Call (.Name x p) (e::es) [] pos) (tCB r t):=by intro Rv s σ H Q I h;refine SL (j3 I hg hm hv ?_ hn hdb);exact PyProof.Rows.callWith_builtin1 (bL (ha pos Rv s σ H _ I h) λus s1 ⟨vs,H1,I1,r1,q1⟩=>hc Rv s1 σ H1 vs us Q I1 r1 q1) he hpl
def zg(hc:bf X (.type T) r)(hg:Gl X x)(hm:X.mg x=none)(hv:R8 x=some (.type T))(ha:PA X (e::es) t)(hn:x≠"__name__":=by decide)(hdb:(x == ("__debug__":Str))=false:=by decide)(he:RS (e::es) X.env=(false,Sr e X.env)::RS es X.env:=by rfl)(hpl:(Sj pos (RS es X.env)).any (·.1)=false:=by rfl):PE X (.Call (.Name x p) (e::es) [] pos) (tCB r t):=by intro Rv s σ H Q I h;refine SL (j3 I hg hm hv ?_ hn hdb);exact PyProof.Rows.callWith_type1 (bL (ha pos Rv s σ H _ I h) λus s1 ⟨vs,H1,I1,r1,q1⟩=>hc Rv s1 σ H1 vs us Q I1 r1 q1) he hpl
end
end L2
namespace HT
open PySem PyProof.Rows
section
def sIx(n d:Nat):Option Int->Nat
 |none=>d
 |some v=>if v<0 then(v+(n:Int)).toNat else min v.toNat n
def sIx_none(n d:Nat):sIx n d none=d:=rfl
def sIx_nat(n d k:Nat):sIx n d (some (k:Int))=min k n:=by show(if(k:Int)<0 then((k:Int)+(n:Int)).toNat else min (k:Int).toNat n)=min k n;rw[RB (by lia),X2]
def sIx_le(n d:Nat)(hd:d<=n)(o:Option Int):sIx n d o<=n:=by
 cases o with
 |none=>exact hd
 |some v=>
  show(if v<0 then(v+(n:Int)).toNat else min v.toNat n)<=n
  by_cases hv:v<0
  .rw[RC hv];lia
  .rw[RB hv];exact Nat.min_le_right _ _
end
end HT
namespace L2
open PySem PySem.Spec PyProof.Rows
abbrev TO:=St->Hp->(Option Int->Hp->Prop)->Prop
def PO(X:Cx)(e:Option Sz)(t:TO):Prop:=
 ∀(Rv:RL)(s:RQ)(σ:St)(H:Hp)(Q:Option Int->Hp->Prop),aJ X Rv σ H s->t σ H Q->
  RR (RX X.prog X.w) X.A (evalPart e X.env) (λu s'=>∃o H',aJ X Rv σ H' s'/\VI u o/\Q o H') X.xe s
def mr:TO:=λ_ H Q=>Q none H
def nU:∀{us:List Zn},aT (ns.map V.int) us->Vc us ns:=by
 induction ns with
 |nil=>intro us r;rw[WJ]at r;cases r;exact .nil
 |cons n ns ih=>
  intro us r;rw[V2]at r;cases r with
  |cons r1 r2=>
   obtain⟨t,e⟩:=r1;subst e;exact .cons n t (ih r2)
section
variable{X:Cx}{e:Sz}{te:TE}{lo hi:Option Sz}{tl th:TO}{pos p2:Vb}
def dB:PO X none mr:=by intro Rv s σ H Q I h;rw[evalPart_none];exact RN ⟨none,H,I,.none,h⟩
def At(X:Cx)(r:V->Option Int->Option Int->Hp->VK->Prop):Prop:=
 ∀(Rv:RL)(s:RQ)(σ:St)(H:Hp)(x:V)(v vl vu:Zn)(lo hi:Option Int)(sl:Zo)(Q:VK),aJ X Rv σ H s->aQ x v->s.heap.IsSliceOf sl vl vu .none->VI vl lo->VI vu hi->r x lo hi H Q->
  ∃T id,UL (.type T) "__getitem__"=pure (some (.builtin id))/\s.TypeIs v T/\RR (RX X.prog X.w) X.A (Vr v (.ref sl)) (EP X Rv σ Q) X.xe s
def At.or(h:At X r)(h':At X r'):At X (λx lo hi H Q=>r x lo hi H Q\/r' x lo hi H Q):=by
 intro Rv s σ H x v vl vu lo hi sl Q I rx hs pl pu q
 rcases q with q|q
 .exact h Rv s σ H x v vl vu lo hi sl Q I rx hs pl pu q
 .exact h' Rv s σ H x v vl vu lo hi sl Q I rx hs pl pu q
def tSl(r:V->Option Int->Option Int->Hp->VK->Prop)(te:TE)(tl th:TO):TE:=λσ H Q=>te σ H λx H1=>tl σ H1 λl H2=>th σ H2 λu H3=>r x l u H3 Q
def Bg(hr:At X r)(he:PE X e te)(hl:PO X lo tl)(hu:PO X hi th):PE X (.Subscript e (.Slice lo hi none p2) pos) (tSl r te tl th):=by intro Rv s σ H Q I h;refine Subscript_ (bL (he Rv s σ H _ I h) λv s1 ⟨x,H1,I1,r1,q1⟩=>?_);refine wpAny_Slice (bL (hl Rv s1 σ H1 _ I1 q1) λvl s2 ⟨l,H2,I2,pl,q2⟩=>bL (hu Rv s2 σ H2 _ I2 q2) λvu s3 ⟨u,H3,I3,pu,q3⟩=>?_);rw[evalPart_none];refine RN ?_;have I4:aJ X Rv σ H3 {s3 with heap:=s3.heap.push {cls:=.type "slice",data:=.fields #[vl,vu,.none]}}:=I3.kept (t':=s3.toks) λb ob q=>RO _ q;obtain⟨T,id,hT,ht,hg⟩:=hr Rv {s3 with heap:=s3.heap.push {cls:=.type "slice",data:=.fields #[vl,vu,.none]}} σ H3 x v vl vu l u s3.heap.objs.size Q I4 r1 (Heap.IsSliceOf.new ..) pl pu q3;show RR (RX X.prog X.w) X.A (Vf e (.Slice lo hi none p2) v (.ref s3.heap.objs.size)) (EP X Rv σ Q) X.xe {s3 with heap:=s3.heap.push {cls:=.type "slice",data:=.fields #[vl,vu,.none]}};exact tail_any (ops:=[.ref s3.heap.objs.size,v]) ht hT hg (by with_unfolding_all rfl)
noncomputable def oU(xs:List V)(lo hi:Option Int):List V:=(xs.drop (HT.sIx xs.length 0 lo)).take (HT.sIx xs.length xs.length hi - HT.sIx xs.length 0 lo)
def uC(xs:List V)(lo hi:Option Int):(oU xs lo hi).length<=xs.length:=by unfold oU;rw[V8,Wq];lia
end
noncomputable def ixN(n:Nat)(i:Int):Option Nat:=if 0<=i then(if i<n then some i.toNat else none)else if -(n:Int)<=i then some (i+n).toNat else none
noncomputable def atI{α:Type}(xs:List α)(i:Int):Option α:=(ixN xs.length i).bind λj=>xs[j]?
def xR(h:ixN n i=some j):seqIndex? i n=some j/\j<n/\-(n:Int)<=i/\i<n:=by
 unfold ixN at h
 by_cases h0:0<=i
 .rw[RC h0]at h
  by_cases h1:i<n
  .rw[RC h1]at h;have e:i.toNat=j:=RH h;exact⟨by rw[seqIndex_of h0 h1,e],by lia,by lia,h1⟩
  .rw[RB h1]at h;cases h
 .rw[RB h0]at h
  by_cases h1: -(n:Int)<=i
  .rw[RC h1]at h;have e:(i+n).toNat=j:=RH h;exact⟨by rw[Vn (by lia) h1,e],by lia,h1,by lia⟩
  .rw[RB h1]at h;cases h
def rZ{α:Type}{xs:List α}{i:Int}{v:α}(h:atI xs i=some v):∃j,seqIndex? i xs.length=some j/\xs[j]? =some v/\j<xs.length/\-(xs.length:Int)<=i/\i<xs.length:=by
 unfold atI at h;cases e:ixN xs.length i with
 |none=>rw[e]at h;cases h
 |some j=>
  rw[e]at h;obtain⟨h1,h2,h3,h4⟩:=xR e;exact⟨j,h1,h,h2,h3,h4⟩
def bz{α:Type}{xs:List α}{j:Nat}{v:α}(h:xs[j]? =some v):atI xs (j:Int)=some v:=by
 have hj:j<xs.length:=(V5.mp h).1;have e:ixN xs.length (j:Int)=some j:=by unfold ixN;rw[RC (by lia),RC (by lia)];simp
 unfold atI;rw[e];exact h
def Cv(xs:List α)(v:α):atI (xs++[v]) (-1)=some v:=by
 have hl:(xs++[v]).length=xs.length+1:=by simp
 have e:ixN (xs++[v]).length (-1)=some xs.length:=by unfold ixN;rw[hl,RB (by decide),RC (by lia)];congr 1;lia
 unfold atI;rw[e];show(xs++[v])[xs.length]? =some v;simp
def si(b:Sz):Prop:= ∀o i,U1 b false o i=operate [o,i] (Vr o i)
def yu(X:Cx)(r:R2):Prop:=
 ∀(value slice:Sz)(Rv:RL)(s:RQ)(σ:St)(H:Hp)(x y:V)(v u:Zn)(Q:VK),aJ X Rv σ H s->aQ x v->aQ y u->r x y H Q->
  U1 slice false v u=operate [v,u] (Vr v u)->RR (RX X.prog X.w) X.A (Vf value slice v u) (EP X Rv σ Q) X.xe s
def sH(X:Cx)(id:String)(r:V->List V->Hp->VK->Prop):Prop:=
 ∀(Rv:RL)(s:RQ)(σ:St)(H:Hp)(x:V)(xs:List V)(v:Zn)(us:List Zn)(Q:VK),aJ X Rv σ H s->aQ x v->aT xs us->r x xs H Q->
  RR (RX X.prog X.w) X.A (call (.builtin id) (v::us)) (EP X Rv σ Q) X.xe s
section
variable{X:Cx}
def yu.or(h:yu X r)(h':yu X r'):yu X (λx y H Q=>r x y H Q\/r' x y H Q):=by
 intro value slice Rv s σ H x y v u Q I rx ry q hs
 rcases q with q|q
 .exact h value slice Rv s σ H x y v u Q I rx ry q hs
 .exact h' value slice Rv s σ H x y v u Q I rx ry q hs
def Oy(hr:yu X r)(ha:PE X a ta)(hb:PE X b tb)(hs:si b):PE X (.Subscript a b pos) (P0 r ta tb):=by intro Rv s σ H Q I h;exact Subscript_ (LK ha hb I h λv u s2 x y H2 I2 rx ry q=>hr a b Rv s2 σ H2 x y v u Q I2 rx ry q (hs _ _))
def Ow(K:Frag):R2:=λx y H Q=>∃p xs i v,x=.ref p/\y=.int i/\aR K H p xs/\atI xs i=some v/\Q v H
def Ou(K:Frag):R2:=λx y H Q=>∃p xs i v,x=.ref p/\y=.int i/\dF K H p xs/\atI xs i=some v/\Q v H
def Ov:R2:=λx y H Q=>∃z i c,x=.str z/\y=.int i/\z.length<=v1/\atI z.cps.toList i=some c/\Q (.str ⟨#[c]⟩) H
def DX:yu X (Ow X.K):=by
 intro value slice Rv s σ H x y v u Q I rx ry h hs;obtain⟨p,xs,i,z,rfl,rfl,hq,he,q⟩:=h;cases rx;obtain⟨t,rfl⟩:=ry;obtain⟨its,r,pl,hz⟩:=I.list hq;obtain⟨j,h1,h2,h3,h4,h5⟩:=rZ he;obtain⟨w,ew,rw'⟩:=r.get h2;have hl:=r.length;have hn:=j2;have fin:EP X Rv σ Q w s:=⟨z,H,I,rw',q⟩
 by_cases h0:0<=i
 .have hj:i.toNat=j:=by rw[seqIndex_of h0 h5]at h1;exact RH h1
  exact item_listR pl.isList h0 (by lia) (by rw[hj];simpa using ew) fin hs
 .have hj:(i+(its.toArray.size:Int)).toNat=j:=by rw[Vn (by lia) h4]at h1;rw[VS,<-hl];exact RH h1
  exact UM (x:=w) pl.isList.typeIs slot_list_getitem.lookup
   (wpAny_getItem_list_neg (Q:=λr s'=>r=w/\EP X Rv σ Q r s') pl.isList (by lia) (by rw[VS]<;>lia) (by lia) (by rw[hj];simpa using ew) ⟨rfl,fin⟩) hs
def Lh:yu X (Ou X.K):=by
 intro value slice Rv s σ H x y v u Q I rx ry h hs;obtain⟨p,xs,i,z,rfl,rfl,hq,he,q⟩:=h;cases rx;obtain⟨t,rfl⟩:=ry;obtain⟨its,r,pl,hz⟩:=I.tuple hq;obtain⟨j,h1,h2,h3,h4,h5⟩:=rZ he;obtain⟨w,ew,rw'⟩:=r.get h2;have hl:=r.length;have hn:=j2;have fin:EP X Rv σ Q w s:=⟨z,H,I,rw',q⟩;exact UM (x:=w) pl.typeIs slot_tuple_getitem.lookup
  (getItem_tuple (j:=j) (Q:=λr s'=>r=w/\EP X Rv σ Q r s') pl (by lia) (by lia) (by rw[VS,<-hl];exact h1) (by simpa using ew) ⟨rfl,fin⟩) hs
def Li:yu X Ov:=by
 intro value slice Rv s σ H x y v u Q I rx ry h hs;obtain⟨z,i,c,rfl,rfl,hz,he,q⟩:=h;obtain⟨t,rfl⟩:=rx;obtain⟨t',rfl⟩:=ry;obtain⟨j,h1,h2,h3,h4,h5⟩:=rZ he;have hl:z.cps.toList.length=z.length:=by simp[Str.length]
 rw[hl]at h1 h4 h5;have hn:=j2;exact tail_any (Uf s z t) slot_str_getitem.lookup (getItem_str (c:=c) (by
  have e1:decide (i< -(2 ^ 63:Int))=false:=RA (by lia);have e2:decide (i≥2 ^ 63)=false:=RA (by lia);rw[e1,e2,Ym]) (by rw[h1];simpa using h2) ⟨.str ⟨#[c]⟩,H,I.tok _,⟨_,rfl⟩,q⟩) hs
def rIx(K:Frag):R2:=λx y H Q=>Ow K x y H Q\/Ou K x y H Q\/Ov x y H Q
def Lj:yu X (rIx X.K):=DX.or (Lh.or Li)
def vX(its:List Zn)(n j:Nat)(u:Zn):SN (·.setIfInBounds j u) {cls:=.type "list",data:=.seq its.toArray n}={cls:=.type "list",data:=.seq (its.set j u).toArray n}:=by simp[SN]
theorem aJ.lst{Rv:RL}{σ:St}{H:Hp}{s:RQ}{p:Zo}{xs:List V}(I:aJ X Rv σ H s)(h:H p=some (.lst xs)):∃its n,aT xs its/\s.heap.get? p=some {cls:=.type "list",data:=.seq its.toArray n}/\xs.length<=v1:=by obtain⟨z,its,n,r,e⟩:=I.hok p _ h;exact⟨its,n,r,e,z⟩
def aJ.lstUpd{Rv:RL}{σ:St}{H:Hp}{s:RQ}{p:Zo}{xs ys:List V}{its its':List Zn}{n n':Nat}{f:Obj->Obj}(I:aJ X Rv σ H s)(h:H p=some (.lst xs))(ho:s.heap.get? p=some {cls:=.type "list",data:=.seq its.toArray n})(hf:f {cls:=.type "list",data:=.seq its.toArray n}={cls:=.type "list",data:=.seq its'.toArray n'})(r:aT ys its')(hz:ys.length<=v1)(t:Nat):aJ X Rv σ (upd H p (.lst ys)) {s with heap:=s.heap.update p f,toks:=t}:=by
 have e:(s.heap.update p f).get? p=some {cls:=.type "list",data:=.seq its'.toArray n'}:=by rw[S3 f ho (by rw[hf]<;>rfl),hf]
 refine I.write (x:=p) (e:=p) (by rw[h];trivial) (.inl rfl) (λb u hb q=>(SY _ _ (Ne.symm hb)).trans q) ⟨_,e⟩ ?_;exact⟨hz,its',n',r,e⟩
def A4:V->V->V->Hp->(Hp->Prop)->Prop:=λo i v H Q=>∃p xs k j,o=.ref p/\i=.int k/\H p=some (.lst xs)/\ixN xs.length k=some j/\Q (upd H p (.lst (xs.set j v)))
def tw:PN X A4:=by
 intro Rv s σ H o i v ov iv u Q I ro ri rv h;obtain⟨p,xs,k,j,rfl,rfl,hp,hj,q⟩:=h;cases ro;obtain⟨t,rfl⟩:=ri;obtain⟨its,n,r,ho,hz⟩:=I.lst hp;obtain⟨h1,h2,h3,h4⟩:=xR hj;have hl:=r.length;have hn:=j2;have I':aJ X Rv σ (upd H p (.lst (xs.set j v))) {s with heap:=s.heap.update p (SN (·.setIfInBounds j u))}:=
  I.lstUpd hp ho (vX its n j u) (r.set rv j) (by rw[WT];exact hz) s.toks
 by_cases h0:0<=k
 .have hk:k.toNat=j:=by rw[seqIndex_of h0 h4]at h1;exact RH h1
  exact PySem.W.ki_setAt ho h0 (by lia) (by rw[VS,<-hl];exact h4) (by rw[hk];exact⟨_,I',q⟩)
 .have hk:(k+(its.toArray.size:Int)).toNat=j:=by rw[Vn (by lia) h3]at h1;rw[VS,<-hl];exact RH h1
  exact PySem.W.ki_setBack ho (by lia) (by rw[VS,<-hl];exact h3) (by lia) (by rw[hk];exact⟨_,I',q⟩)
def qE(lo hi:Option Int)(n:Nat):(Te lo hi none n).1=((HT.sIx n 0 lo:Nat):Int)/\(Te lo hi none n).2.1=((HT.sIx n n hi:Nat):Int)/\(Te lo hi none n).2.2=1:=by
 refine⟨?_,?_,rfl⟩
 .cases lo with
  |none=>simp[Te,HT.sIx]
  |some i=>
   simp only[Te,HT.sIx,YC,show(1:Int) > 0 by decide,if_true]
   by_cases h:i<0
   .simp only[h,if_true]<;>lia
   .simp only[h,if_false]<;>lia
 .cases hi with
  |none=>simp[Te,HT.sIx]
  |some i=>
   simp only[Te,HT.sIx,YC,show(1:Int) > 0 by decide,if_true]
   by_cases h:i<0
   .simp only[h,if_true]<;>lia
   .simp only[h,if_false]<;>lia
def oB(its:List Zn)(lo hi:Option Int):slicePick its.toArray lo hi none=((its.drop (HT.sIx its.length 0 lo)).take (HT.sIx its.length its.length hi - HT.sIx its.length 0 lo)).toArray:=by obtain⟨h1,h2,h3⟩:=qE lo hi its.toArray.size;unfold slicePick;rw[h1,h2,h3];simp only[sliceRange_one,pick_run,VS]<;>rfl
def QV(K:Frag):V->Option Int->Option Int->Hp->VK->Prop:=λx lo hi H Q=>∃a xs,x=.ref a/\aR K H a xs/\∀p,H p=none->Q (.ref p) (upd H p (.lst (oU xs lo hi)))
def Dm:At X (QV X.K):=by intro Rv s σ H x v vl vu lo hi sl Q I rx hs pl pu h;obtain⟨a,xs,rfl,hx,q⟩:=h;cases rx;obtain⟨its,r,ht,hz⟩:=I.list hx;have hlen:=r.length;refine⟨"list",_,slot_list_getitem.lookup,ht.isList.typeIs,?_⟩;refine wpAny_getItem_list_slice ht.isList hs pl pu .none (by simp) ?_ (by rw[VS]<;>lia);rw[oB,<-hlen];refine⟨.ref s.heap.objs.size,_,I.laid (t':=s.toks) (o:=.lst (oU xs lo hi)) (λb ob q=>RO _ q) (XD _) ?_,rfl,q _ (I.hok.fresh (XD _))⟩;exact⟨XG (uC xs lo hi) hz,_,0,(r.drop (HT.sIx xs.length 0 lo)).take (HT.sIx xs.length xs.length hi - HT.sIx xs.length 0 lo),RT _ rfl⟩
noncomputable def flatV:V->Bool
 | .non=>true
 | .bl _=>true
 | .int _=>true
 | .str _=>true
 |_=>false
noncomputable def eqV:V->V->Bool
 | .non,.non=>true
 | .bl a,.bl b=>a == b
 | .bl a,.int b=>(if a then 1 else 0) == b
 | .int a,.bl b=>a == (if b then 1 else 0)
 | .int a,.int b=>a == b
 | .str a,.str b=>a == b
 |_,_=>false
def B8(ry:aQ y u)(rx:aQ x v)(fy:flatV y=true)(fx:flatV x=true):SeqAt.EqAt A s u v (eqV y x):=by
 cases y with
 |non=>
  cases ry;cases x with
  |non=>cases rx;exact SeqAt.EqAt.same _
  |bl b=>cases rx;exact SeqAt.EqAt.none_bool b
  |int b=>obtain⟨t,rfl⟩:=rx;exact SeqAt.EqAt.none_int b t
  |str b=>obtain⟨t,rfl⟩:=rx;exact SeqAt.EqAt.none_str b t
  |_=>exact RF (show false=true from fx) Yd
 |bl a=>
  cases ry;cases x with
  |non=>cases rx;exact SeqAt.EqAt.bool_none a
  |bl b=>cases rx;exact SeqAt.EqAt.bool_bool a b
  |int b=>obtain⟨t,rfl⟩:=rx;exact SeqAt.EqAt.bool_int a b t
  |str b=>obtain⟨t,rfl⟩:=rx;exact SeqAt.EqAt.bool_str a b t
  |_=>exact RF (show false=true from fx) Yd
 |int a=>
  obtain⟨t',rfl⟩:=ry;cases x with
  |non=>cases rx;exact SeqAt.EqAt.int_none a t'
  |bl b=>cases rx;exact SeqAt.EqAt.int_bool a t' b
  |int b=>obtain⟨t,rfl⟩:=rx;exact SeqAt.EqAt.int_int a t' b t
  |str b=>obtain⟨t,rfl⟩:=rx;exact SeqAt.EqAt.int_str a t' b t
  |_=>exact RF (show false=true from fx) Yd
 |str a=>
  obtain⟨t',rfl⟩:=ry;cases x with
  |non=>cases rx;exact SeqAt.EqAt.str_none a t'
  |bl b=>cases rx;exact SeqAt.EqAt.str_bool a t' b
  |int b=>obtain⟨t,rfl⟩:=rx;exact SeqAt.EqAt.str_int a t' b t
  |str b=>obtain⟨t,rfl⟩:=rx;exact SeqAt.EqAt.str_str a t' b t
  |_=>exact RF (show false=true from fx) Yd
 |_=>exact RF (show false=true from fy) Yd
noncomputable def wo(x:V)(u:Zn):Bool:=match u with
 | .none=>eqV .non x
 | .bool b=>eqV (.bl b) x
 | .int i _=>eqV (.int i) x
 | .str z _=>eqV (.str z) x
 |_=>false
def B6(r:aQ y u)(f:flatV y=true):wo x u=eqV y x:=by
 cases y with
 |non=>cases r;rfl
 |bl b=>cases r;rfl
 |int i=>obtain⟨t,rfl⟩:=r;rfl
 |str z=>obtain⟨t,rfl⟩:=r;rfl
 |_=>exact RF (show false=true from f) Yd
theorem kR:∀{xs:List V}{us:List Zn},aT xs us->xs.all flatV=true->us.any (wo x)=xs.any λy=>eqV y x
 |_,_,.nil,_=>rfl
 |y::xs,u::us,.cons r t,f=>by rw[Wb,Ye]at f;rw[Wr,Wr,B6 r f.1,kR t f.2]
theorem jm(rx:aQ x v)(fx:flatV x=true):∀{xs:List V}{us:List Zn},aT xs us->xs.all flatV=true->∀u∈us,SeqAt.EqAt A s u v (wo x u)
 |_,_,.nil,_=>λu hu=>by cases hu
 |y::xs,u::us,.cons r t,f=>λu' hu=>by
  rw[Wb,Ye]at f
  rcases VO.mp hu with rfl|hu
  .rw[B6 r f.1];exact B8 r rx f.1 fx
  .exact jm rx fx t f.2 u' hu
noncomputable def D3(x:V)(xs:List V):Bool:=xs.any λy=>eqV y x
def L5(K:Frag)(neg:Bool):R2:=λx y H Q=>∃p xs,y=.ref p/\(aR K H p xs\/dF K H p xs)/\flatV x=true/\xs.all flatV=true/\Q (.bl (if neg then !D3 x xs else D3 x xs)) H
def zn:jL X (Sv .In) (L5 X.K false):=by
 intro Rv s σ H x y v u Q I rx ry h;obtain⟨p,xs,rfl,hq,fx,fs,q⟩:=h;cases ry
 rcases hq with hq|hq
 .obtain⟨its,r,pl,hz⟩:=I.list hq;refine SeqAt.in_listAt (wo x) pl.isList (λw hw=>jm rx fx r fs w (by simpa using hw)) ⟨.bl _,H,I,rfl,?_⟩;rw[show its.toArray.any (wo x)=its.any (wo x) by simp,kR r fs];exact q
 .obtain⟨its,r,pl,hz⟩:=I.tuple hq;refine SeqAt.in_tupleAt (wo x) pl (λw hw=>jm rx fx r fs w (by simpa using hw)) ⟨.bl _,H,I,rfl,?_⟩;rw[show its.toArray.any (wo x)=its.any (wo x) by simp,kR r fs];exact q
def qX:jL X (Sv .NotIn) (L5 X.K true):=by
 intro Rv s σ H x y v u Q I rx ry h;obtain⟨p,xs,rfl,hq,fx,fs,q⟩:=h;cases ry
 rcases hq with hq|hq
 .obtain⟨its,r,pl,hz⟩:=I.list hq;refine SeqAt.notIn_listAt (wo x) pl.isList (λw hw=>jm rx fx r fs w (by simpa using hw)) ⟨.bl _,H,I,rfl,?_⟩;rw[show its.toArray.any (wo x)=its.any (wo x) by simp,kR r fs];exact q
 .obtain⟨its,r,pl,hz⟩:=I.tuple hq;refine SeqAt.notIn_tupleAt (wo x) pl (λw hw=>jm rx fx r fs w (by simpa using hw)) ⟨.bl _,H,I,rfl,?_⟩;rw[show its.toArray.any (wo x)=its.any (wo x) by simp,kR r fs];exact q
def rT:bf X (.builtin "len") (λxs H Q=>∃p ys,xs=[.ref p]/\(aR X.K H p ys\/dF X.K H p ys)/\Q (.int ys.length) H):=by
 intro Rv s σ H xs us Q I r h;obtain⟨p,ys,rfl,hq,q⟩:=h;obtain⟨u,rfl,rx⟩:=dU r;cases rx;have hn:=j2
 rcases hq with hq|hq
 .obtain⟨its,r',pl,hz⟩:=I.list hq;have hlen:=r'.length;exact Calls.call_len_list pl.isList (by simp only[VS]<;>lia) ⟨.int ys.length,H,I.tok _,⟨s.toks+1,by rw[VS,hlen]⟩,q⟩
 .obtain⟨its,r',pl,hz⟩:=I.tuple hq;have hlen:=r'.length;exact len_tuple pl (by simp only[VS]<;>lia) ⟨.int ys.length,H,I.tok _,⟨s.toks+1,by rw[VS,hlen]⟩,q⟩
def rS:bf X (.builtin "len") (λxs H Q=>∃z,xs=[.str z]/\z.length<=v1/\Q (.int z.length) H):=by intro Rv s σ H xs us Q I r h;obtain⟨z,rfl,hz,q⟩:=h;obtain⟨u,rfl,t,rfl⟩:=dU r;have hn:=j2;exact len_str (by lia) ⟨.int z.length,H,I.tok _,⟨_,rfl⟩,q⟩
def bf.or(h:bf X f r)(h':bf X f r'):bf X f (λxs H Q=>r xs H Q\/r' xs H Q):=by
 intro Rv s σ H xs us Q I rs q
 rcases q with q|q
 .exact h Rv s σ H xs us Q I rs q
 .exact h' Rv s σ H xs us Q I rs q
def rR:bf X (.type "list") (λxs H Q=>∃p ys,xs=[.ref p]/\(aR X.K H p ys\/dF X.K H p ys)/\∀l,H l=none->Q (.ref l) (upd H l (.lst ys))):=by
 intro Rv s σ H xs us Q I r h;obtain⟨p,ys,rfl,hq,q⟩:=h;obtain⟨u,rfl,rx⟩:=dU r;cases rx;have fin:∀(its:List Zn),aT ys its->ys.length<=v1->∀(h':R9)(c':Nat),(∀b o',s.heap.get? b=some o'->h'.get? b=some o')->
   h'.get? s.heap.objs.size=some {cls:=.type "list",dict:=none,data:=.seq its.toArray c',slots:= #[]}->EP X Rv σ Q (.ref s.heap.objs.size) {s with heap:=h'}:=λits r' hz h' c' kp e=>
  ⟨.ref s.heap.objs.size,_,I.laid (t':=s.toks) kp (XD _) (show bp X.prog X.w _ h' _ (.lst ys)from⟨hz,its,c',r',e⟩),rfl,q _ (I.hok.fresh (XD _))⟩
 rcases hq with hq|hq
 .obtain⟨its,r',pl,hz⟩:=I.list hq;have hlen:=r'.length;obtain⟨o,ho,hc,n,hd⟩:=pl.isList;exact call_list_seq p (.inl rfl) ho hc hd (λh' c' kp e=>fin its r' hz h' c' kp e) (by simp only[VS]<;>lia)
 .obtain⟨its,r',pl,hz⟩:=I.tuple hq;have hlen:=r'.length;obtain⟨o,ho,hc,n,hd⟩:=pl;exact call_list_seq p (.inr rfl) ho hc hd (λh' c' kp e=>fin its r' hz h' c' kp e) (by simp only[VS]<;>lia)
def IZ(K:Frag)(T:String)(x:V)(H:Hp):Prop:=match x with
 | .str _=>T="str"
 | .int _=>T="int"
 | .ref p=>(T="list"/\∃xs,aR K H p xs)\/(T="tuple"/\∃o,K.lookup p=some o/\o.cls=.type "tuple"/\o.dict=none)\/
   (T="dict"/\((∃kvs,H p=some (.dK kvs))\/∃kvs,H p=some (.dT kvs)))\/(T="set"/\∃S n,H p=some (.set S n))
 |_=>False
def jV{Rv:RL}{σ:St}{H:Hp}{s:RQ}{T:String}{x:V}{v:Zn}(I:aJ X Rv σ H s)(r:aQ x v)(ty:IZ X.K T x H):s.TypeIs v T/\∀a,v=.ref a->∃ob,s.heap.get? a=some ob/\ob.dict=none:=by
 cases x with
 |str z=>
  obtain⟨t,rfl⟩:=r;cases(show T="str"from ty);exact⟨Uf s z t,λ_ e=>nomatch e⟩
 |int i=>
  obtain⟨t,rfl⟩:=r;cases(show T="int"from ty);exact⟨typeIs_int s i t,λ_ e=>nomatch e⟩
 |ref p=>
  cases r
  rcases ty with⟨rfl,xs,hq⟩|⟨rfl,o,hk,hc,hd⟩|⟨rfl,hk⟩|⟨rfl,S,n,hk⟩
  .obtain⟨its,_,pl,_⟩:=I.list hq;refine⟨pl.isList.typeIs,λa e=>?_⟩;cases e;obtain⟨o,n,e,c,hd,_⟩:=pl;exact⟨o,e,hd⟩
  .refine⟨⟨o,I.kIn p o hk,hc⟩,λa e=>?_⟩;cases e;exact⟨o,I.kIn _ o hk,hd⟩
  .have z:∃o,s.heap.get? p=some o/\o.ExactDict:=by
    rcases hk with⟨kvs,hk⟩|⟨kvs,hk⟩
    .obtain⟨_,_,_,_,o,_,_,e,ex,_⟩:=I.hok p _ hk;exact⟨o,e,ex⟩
    .obtain⟨_,_,_,_,o,_,_,e,ex,_⟩:=I.hok p _ hk;exact⟨o,e,ex⟩
   obtain⟨o,e,ex⟩:=z;refine⟨⟨o,e,ex.1⟩,λa e2=>?_⟩;cases e2;exact⟨o,e,ex.2.1⟩
  .obtain⟨o,_,_,_,e,ex,_⟩:=I.hok p _ hk;refine⟨⟨o,e,ex.1⟩,λa e2=>?_⟩;cases e2;exact⟨o,e,ex.2.1⟩
 |_=>exact False.elim ty
def QP(K:Frag)(T:String)(r:V->List V->Hp->VK->Prop)(to:TE)(t:TA):TE:=λσ H Q=>to σ H λx H1=>IZ K T x H1/\t σ H1 λxs H2=>r x xs H2 Q
variable{o e:Sz}{es:List Sz}{to:TE}{t:TA}{name:Str}{apos cpos:Vb}{T id:String}{r:V->List V->Hp->VK->Prop}
def Oz(pa:PlainAttrs T)(slot:Slot T name id)(hty:Vw (.builtin id)=pure (.type "method_descriptor"))(hm:sH X id r)(ho:PE X o to)(ha:PA X (e::es) t)(hbase:SE o name X.env (Sr o X.env)=Sr o X.env:=by rfl)(hfew:((Sj cpos (RS (e::es) X.env)).all (λx=> !x.1)&&(TQ cpos (S6 [] X.env)).all (λx=>x.1.isSome)
   &&decide ((e::es).length+([]:List Tw).length+(if([]:List Tw).isEmpty then 0 else 1)<30))=true:=by rfl) (hline:(apos.endLine == cpos.line)=true:=by rfl) (hs:RS (e::es) X.env=(false,Sr e X.env)::RS es X.env:=by rfl) (hplain:(Sj cpos (RS es X.env)).any (·.1)=false:=by rfl):PE X (.Call (.Attribute o name apos) (e::es) [] cpos) (QP X.K T r to t):=by
 intro Rv s σ H Q I h;refine SH hbase hfew hline rfl (bL (ho Rv s σ H _ I h) λv s1 ⟨x,H1,I1,r1,ty,q1⟩=>?_);obtain⟨h1,h2⟩:=jV I1 r1 ty;refine⟨T,id,pa,slot,hty,h1,h2,?_⟩;have hA:=ha cpos Rv s1 σ H1 _ I1 q1;rw[hs]at hA ⊢;refine Sw (by show(false||(Sj cpos (RS es X.env)).any (·.1))=false;rw[hplain]<;>rfl) (SD ?_)
 exact bL hA λus s2 ⟨vs,H2,I2,r2,q2⟩=>hm Rv s2 σ H2 x vs v us Q I2 r1 r2 q2
end
def Rl(X:Cx)(id:String)(r:V->List V->Hp->VK->Prop):Prop:=
 ∀(Rv:RL)(s:RQ)(σ:St)(H:Hp)(x:V)(xs:List V)(v:Zn)(us:List Zn)(Q:VK),aJ X Rv σ H s->aQ x v->aT xs us->r x xs H Q->
  RR (RX X.prog X.w) X.A (call (.builtin id) (v::us)) (EP X Rv σ Q) X.xe s
def aT.one:∀{x:V}{us:List Zn},aT [x] us->∃u,us=[u]/\aQ x u
 |_,_,.cons r .nil=>⟨_,rfl,r⟩
def aT.two:∀{x y:V}{us:List Zn},aT [x,y] us->∃u v,us=[u,v]/\aQ x u/\aQ y v
 |_,_,_,.cons r (.cons q .nil)=>⟨_,_,rfl,r,q⟩
theorem aT.eraseIdx:∀{xs:List V}{us:List Zn}(i:Nat),aT xs us->aT (xs.eraseIdx i) (us.eraseIdx i)
 |_,_,_,.nil=>.nil
 |_,_,0,.cons _ t=>t
 |_,_,i+1,.cons r t=>.cons r (aT.eraseIdx i t)
theorem aT.rep(h:aT xs us):∀k:Nat,aT (List.replicate k xs).flatten (List.replicate k us).flatten
 |0=>.nil
 |k+1=>by rw[Ws,Ws,WF,WF];exact aT.append h (aT.rep h k)
theorem pI{α:Type}:∀(l:List α)(i:Nat),(l.eraseIdx i).length<=l.length
 | [],_=>XD _
 |_::_,0=>XI _
 |_::r,i+1=>Nat.succ_le_succ (pI r i)
theorem pW(its:List Zn):∀k acc,List.foldl (λx1 x2=>x1++x2) acc.toArray (List.replicate k its.toArray)=(acc++(List.replicate k its).flatten).toArray
 |0,acc=>by simp
 |k+1,acc=>by
  have e:acc.toArray++its.toArray=(acc++its).toArray:=by simp
  have e2:(acc++its)++(List.replicate k its).flatten=acc++(List.replicate (k+1) its).flatten:=by rw[Ws,WF,Wi]
  rw[<-e2,<-pW its k (acc++its),<-e,Ws,WU]
section
variable{X:Cx}{Rv:RL}{σ:St}{H:Hp}{s:RQ}{l b:Zo}{xs ys zs:List V}
def aJ.lset{its its':List Zn}{n:Nat}{f:Array Zn->Array Zn}{t':Nat}(I:aJ X Rv σ H s)(hH:H l=some (.lst xs))(e:s.heap.get? l=some {cls:=.type "list",data:=.seq its.toArray n})(hf:f its.toArray=its'.toArray)(hv:aT ys its')(hz:ys.length<=v1):aJ X Rv σ (upd H l (.lst ys)) {s with heap:=s.heap.update l (SN f),toks:=t'}:=by have q:=PySem.IsL.update e f;rw[hf]at q;refine I.write (x:=l) (e:=l) (by rw[hH];exact trivial) (.inl rfl) (λb' u hb hu=>(SY s.heap (SN f) (Ne.symm hb)).trans hu) ⟨_,q⟩ ?_;exact⟨hz,its',_,hv,q⟩
def aJ.lnew(I:aJ X Rv σ H s)(hv:aT ys its)(hz:ys.length<=v1):aJ X Rv σ (upd H s.heap.objs.size (.lst ys)) {s with heap:=s.heap.push {cls:=.type "list",data:=.seq its.toArray},toks:=t'}:=
 I.laid (λ_ _ q=>RO _ q) (XD _) ⟨hz,its,0,hv,RT _ rfl⟩
theorem aJ.fresh(I:aJ X Rv σ H s):H s.heap.objs.size=none:=I.hok.fresh (XD _)
def aJ.lstM(I:aJ X Rv σ H s)(hH:H l=some (.lst xs)):xs.length<=v1/\∃its n,aT xs its/\xs.length=its.length/\s.heap.get? l=some {cls:=.type "list",data:=.seq its.toArray n}:=by obtain⟨z,its,n,r,e⟩:=I.hok l _ hH;exact⟨z,its,n,r,r.length,e⟩
def kG(h:n<=v1):S9 n=false:=by unfold S9;exact RA (by lia)
end
section
def Dv:V->List V->Hp->VK->Prop:=λx vs H Q=>∃l xs y,x=.ref l/\vs=[y]/\H l=some (.lst xs)/\xs.length<v1/\Q .non (upd H l (.lst (xs++[y])))
def zy:Rl X "list.append" Dv:=by intro Rv s σ H x vs v us Q I rx rv h;obtain⟨l,xs,y,rfl,rfl,hH,hz,q⟩:=h;cases rx;obtain⟨u,rfl,ru⟩:=rv.one;obtain⟨z,its,n,r,hl,e⟩:=I.lstM hH;refine TJ F.slot_list_append ⟨_,e,rfl⟩ F.entry_list_append (F.args_list_append_2 _ _) (PySem.list_append l its.toArray n u (by rw[VS];lia)) ⟨e,?_⟩;refine⟨.non,_,I.lset (its':=its++[u]) hH e (by simp) (r.append (.cons ru .nil)) ?_,rfl,q⟩;rw[VV,WV];lia
def mz:V->List V->Hp->VK->Prop:=λx vs H Q=>∃l b xs zs,x=.ref l/\vs=[.ref b]/\H l=some (.lst xs)/\H b=some (.lst zs)/\xs.length+zs.length<=v1/\Q .non (upd H l (.lst (xs++zs)))
def zx:Rl X "list.extend" mz:=by
 intro Rv s σ H x vs v us Q I rx rv h;obtain⟨l,b,xs,zs,rfl,rfl,hH,hB,hz,q⟩:=h;cases rx;obtain⟨u,rfl,ru⟩:=rv.one;cases ru;obtain⟨z,its,n,r,hl,e⟩:=I.lstM hH;obtain⟨z2,its2,n2,r2,hl2,e2⟩:=I.lstM hB;have hsz:its.toArray.size+its2.toArray.size<=v1:=by rw[VS,VS];lia
 have hlong:¬(!its.toArray.isEmpty&&S9 (its.toArray.size+its2.toArray.size))=true:=by rw[kG hsz,Yn];exact Yd
 refine TJ F.slot_list_extend ⟨_,e,rfl⟩ F.entry_list_extend (F.args_list_extend_2 _ _)
  (AutoSeq1.list_extend_list_list_0 l its.toArray n b its2.toArray n2 hlong (by rw[VS];lia) (by lia)) ⟨e,e2,?_⟩
 refine⟨.non,_,I.lset (its':=its++its2) hH e (by simp) (r.append r2) ?_,rfl,q⟩;rw[VV];lia
def vE:V->List V->Hp->VK->Prop:=λx vs H Q=>∃l xs i k y,x=.ref l/\vs=[.int i]/\H l=some (.lst xs)/\-(2 ^ 63)<=i/\i<2 ^ 63/\seqIndex? i xs.length=some k/\xs[k]? =some y/\Q y (upd H l (.lst (xs.eraseIdx k)))
def Br:Rl X "list.pop" vE:=by
 intro Rv s σ H x vs v us Q I rx rv h;obtain⟨l,xs,i,k,y,rfl,rfl,hH,h1,h2,hk,hy,q⟩:=h;cases rx;obtain⟨u,rfl,ru⟩:=rv.one;obtain⟨t,rfl⟩:=ru;obtain⟨z,its,n,r,hl,e⟩:=I.lstM hH;obtain⟨w,hw,rw'⟩:=r.get hy;refine TJ F.slot_list_pop ⟨_,e,rfl⟩ F.entry_list_pop (F.args_list_pop_2 _ _)
  (MeetsSeq.list_pop_at l its.toArray n i t k w (U3 h1 h2) (by rw[VS,<-hl];exact hk) (by rw[<-Ys];exact hw) (by rw[VS];lia)) ⟨e,?_⟩
 refine⟨y,_,I.lset (its':=its.eraseIdx k) hH e ?_ (r.eraseIdx k) ?_,rw',q⟩
 .show its.toArray.eraseIdxIfInBounds k=(its.eraseIdx k).toArray;rw[List.eraseIdxIfInBounds_toArray]
 .have:=pI xs k;lia
def Kw:R2:=λx y H Q=>∃l b xs zs,x=.ref l/\y=.ref b/\H l=some (.lst xs)/\H b=some (.lst zs)/\xs.length+zs.length<=v1/\∀p,H p=none->Q (.ref p) (upd H p (.lst (xs++zs)))
def KO:jL X (TC .Add) Kw:=by
 intro Rv s σ H x y v u Q I rx ry h;obtain⟨l,b,xs,zs,rfl,rfl,hH,hB,hz,q⟩:=h;cases rx;cases ry;obtain⟨z,its,n,r,hl,e⟩:=I.lstM hH;obtain⟨z2,its2,n2,r2,hl2,e2⟩:=I.lstM hB;refine PySem.P.add_list e e2 ?_ (by rw[VS,VS];lia);have ea:its.toArray++its2.toArray=(its++its2).toArray:=by simp
 rw[ea];exact⟨.ref _,_,I.lnew (t':=s.toks) (r.append r2) (by rw[VV];lia),rfl,q _ I.fresh⟩
def Ot:R2:=λx y H Q=>∃l k xs,x=.ref l/\y=.int k/\H l=some (.lst xs)/\-(2 ^ 63)<=k/\k<2 ^ 63/\xs.length*k.toNat<=v1/\
 ∀p,H p=none->Q (.ref p) (upd H p (.lst (List.replicate k.toNat xs).flatten))
def DV{α:Type}(xs:List α)(k:Nat):(List.replicate k xs).flatten.length=k*xs.length:=by
 induction k with
 |zero=>simp
 |succ k ih=>rw[Ws,WF,VV,ih,Nat.succ_mul,X0]
def KG:jL X (TC .Mult) Ot:=by
 intro Rv s σ H x y v u Q I rx ry h;obtain⟨l,k,xs,rfl,rfl,hH,h1,h2,hz,q⟩:=h;cases rx;obtain⟨t,rfl⟩:=ry;obtain⟨z,its,n,r,hl,e⟩:=I.lstM hH;have hlen:its.toArray.size*k.toNat<=v1:=by rw[VS,<-hl];exact hz
 have hcap:¬its.toArray.size*k.toNat > (2 ^ 63 - 1) / 8:=by
  have:(v1:Nat)<=(2 ^ 63 - 1) / 8:=by decide
  lia
 have hfit:¬(!Builtin.List.listFitsIndex k)=true:=by rw[U3 h1 h2];exact Yd
 have hlong:¬S9 (its.toArray.size*k.toNat)=true:=by rw[kG hlen];exact Yd
 have hnew:List.foldl (λx1 x2=>x1++x2) #[] (List.replicate (if its.toArray.isEmpty=true then 0 else k.toNat) its.toArray)=(List.replicate k.toNat its).flatten.toArray:=by
  have f0:∀m:Nat,List.foldl (λx1 x2=>x1++x2) #[] (List.replicate m its.toArray)=(List.replicate m its).flatten.toArray:=λm=>by have:=pW its m [];rw[List.nil_append]at this;exact this
  rw[f0];cases its with
  |nil=>simp
  |cons a r'=>rw[RB (by simp)]
 refine wpAny_binaryOp_repeat_ref (T:="list") (U:="int") (by decide) ⟨_,e,rfl⟩ (λs'=>typeIs_int s' k t) noFill_list_mul F.fills_int_mul F.slot_int_rmul repeat_list F.slot_int_index.lookup
  (TJ F.slot_int_rmul (typeIs_int s k t) F.entry_int_rmul (F.args_int_rmul_2 _ _) (int___rmul___int_list k t l its.toArray n)
   ⟨e,rfl,⟨_,e,rfl⟩,TJ F.slot_list_mul ⟨_,e,rfl⟩ F.entry_list_mul (F.args_list_mul_2 _ _) (AutoListH.list___mul___list_int_3 l its.toArray n k t hfit hcap hlong) ⟨e,?_⟩⟩)
 rw[hnew];exact⟨.ref _,_,I.lnew (t':=s.toks) (r.rep k.toNat) (by rw[DV,Nat.mul_comm];exact hz),rfl,q _ I.fresh⟩
end
section
def wG{a c n:Nat}(hac:a<=c)(hc:c<=n):Te (some (a:Int)) (some (c:Int)) none n=((a:Int),(c:Int),1):=by
 simp only[Te,YC];have h1:¬((a:Int)<0):=by lia
 have h2:¬((c:Int)<0):=by lia
 simp only[h1,h2,if_false,show(1:Int) > 0 by decide,if_true];congr 1
 .lia
 .congr 1;lia
set_option maxRecDepth 100000 in
def CQ{items new:Array Zn}{n n2:Nat}{vl vu:Zn}{a c:Nat}(e:s.heap.get? l=some {cls:=.type "list",data:=.seq items n})(e2:s.heap.get? b=some {cls:=.type "list",data:=.seq new n2})(hne:l≠b)(hs:s.heap.IsSliceOf sl vl vu .none)(pl:VI vl (some (a:Int)))(pu:VI vu (some (c:Int)))(hac:a<=c)(hc:c<=items.size)(hsz:items.size+new.size<=v1)(h:Q () {s with heap:=s.heap.update l (SN λxs=>xs.extract 0 a++new++xs.extract c xs.size)}):RR (RX prog w) A (VD (.ref l) (.ref sl) (.ref b)) Q E s:=by
 have hl:s.heap.IsList l items:=PySem.IsL.isList e;have hb:s.heap.IsList b new:=PySem.IsL.isList e2;obtain⟨os,hos,hcs,hds⟩:=id hs;have hTs:s.TypeIs (.ref sl) "slice":=⟨os,hos,hcs⟩;have hstep:¬((rawPart none == T5 0)=true):=Yd;have hsame:Ta (.ref l) (.ref b)=false:=by unfold Ta;exact beq_eq_false_iff_ne.mpr hne
 have hmax:(max (a:Int) (c:Int)).toNat=c:=by lia
 have hz':((λxs:Array Zn=>xs.extract 0 a++new++xs.extract c xs.size) items).size<=v1+1:=by simp only[Array.size_append,Array.size_extract];lia
 unfold VD
 try with_reducible refine Sa ?_
 first|refine RM (RN ?_)|skip
 refine RM (wpAny_sequenceKey hl.typeIs (by decide) ?_);refine RM (Sh (name:=SX "__setitem__") hl.typeIs slot_list_setitem
  (Sn slot_list_setitem hl.typeIs entry_list_setitem ?_ (args_list_setitem _ _ _)))
 show RR _ _ (T9 (.ref sl) >>= _) _ _ s;refine RM ?_;unfold T9;refine RM (T3 hTs slice_no_index ?_);simp only[Option.isNone_none,if_true];refine RN ?_;show RR _ _ (Vw (.ref sl) >>= _) _ _ s;refine RM (Tr hTs ?_)
 first
  |rw[RB (by decide)]
  |refine PySem.W.KFB.if_not (by decide) ?_
 rw[listSliceParts_eq];refine RM (RM (SO hos hds (x:=.none) rfl (RM (U0 .none ?_))));rw[RB hstep];refine RM (SO hos hds (x:=vl) rfl (RM (U0 pl ?_)));refine RM (SO hos hds (x:=vu) rfl (RM (U0 pu (RN ?_))))
 first
  |simp only[hsame,Yh,if_false]
  |refine PySem.W.KFB.if_not hsame ?_
  |(dsimp only
    rw[RB (by rw[hsame];exact Yd)])
 refine RM (m:=Uq (.ref b) "must assign iterable to extended slice") ?_;unfold Uq;refine RM (Tr hb.typeIs ?_)
 first
  |refine PySem.W.KFB.if_so (by decide) ?_
  |rw[RC (by decide)]
  |simp only[beq_self_eq_true,Bool.true_or,if_true]
 unfold Builtin.List.listItems;refine RM (Ss e2 rfl (RN ?_));refine RM (RM (Ss e rfl (RN ?_)));refine RM (Ur ((sliceIndices_raw (some (a:Int)) (some (c:Int)) none items.size (by simp)).trans (RI (pure:Int×Int×Int->Sem (Int×Int×Int)) (wG hac hc))) ?_);show RR _ _ (if((1:Int) == 1)=true then _ else _) _ _ s;rw[RC (by decide)];refine RM (UJ ?_)
 first
  |simp only[kG hsz,Yh,if_false]
  |refine PySem.W.KFB.if_not (kG hsz) ?_
 first|refine RM (RN ?_)|skip
 show RR _ _ (updateSeq l (λxs=>xs.extract 0 ((a:Int)).toNat++new++xs.extract (max (a:Int) (c:Int)).toNat xs.size) >>= _) _ _ s;rw[hmax,X2];refine RM (UP (hz:=XG (XR _ _) hsz) (_hz':=hz') e rfl ?_);refine RM (wpAny_letGo ?_)
 first
  |exact RM (RN (RN ⟨.none,rfl,RN h⟩))
  |exact RN ⟨.none,rfl,RN h⟩
end
section
variable{κ:Type}[DecidableEq κ]
noncomputable def valV(kvs:List (κ×V))(k:κ):Option V:=(kvs.find? λkv=>decide (kv.1=k)).map (·.2)
noncomputable def iU(kvs:List (κ×V))(k:κ)(v:V):List (κ×V):=
 if(kvs.any λkv=>decide (kv.1=k))=true then kvs.map (λkv=>if kv.1=k then(kv.1,v)else kv)else kvs++[(k,v)]
def mK{p:κ×V}{r:List (κ×V)}{k:κ}(e:p.1=k):valV (p::r) k=some p.2:=by simp[valV,Wt,e]
def mL{p:κ×V}{r:List (κ×V)}{k:κ}(e:¬p.1=k):valV (p::r) k=valV r k:=by simp[valV,Wt,e]
theorem sM(k:κ):∀kvs:List (κ×V),(kvs.any λkv=>decide (kv.1=k))=(valV kvs k).isSome
 | []=>rfl
 |p::r=>by
  rw[Wr]
  by_cases e:p.1=k
  .simp only[mK e,Ry e,Bool.true_or,Option.isSome_some]
  .rw[mL e,RA e,Bool.false_or];exact sM k r
def jn(kvs:List (κ×V))(k:κ)(v:V):(iU kvs k v).length<=kvs.length+1:=by
 unfold iU;split
 .rw[VN];lia
 .rw[VV,V1,WW];lia
def iX.isSome_eq(r:iX o u):o.isSome=u.isSome:=by
 cases o with
 |none=>cases u with
  |none=>rfl
  |some _=>exact(show False from r).elim
 |some _=>cases u with
  |none=>exact(show False from r).elim
  |some _=>rfl
theorem iX.getD(r:iX o u)(rd:aQ d d'):aQ (o.getD d) (u.getD d'):=by
 cases o with
 |none=>cases u with
  |none=>exact rd
  |some _=>exact(show False from r).elim
 |some _=>cases u with
  |none=>exact(show False from r).elim
  |some _=>exact r
def KV.val{kvs:List (κ×V)}{vs:List (κ×Zn)}(r:KV kvs vs)(k:κ):iX (valV kvs k) (U6 vs k):=by
 unfold KV at r
 induction r with
 |nil=>exact True.intro
 | @cons p q ps qs h t ih=>
   obtain⟨h1,h2⟩:=h
   by_cases e:p.1=k
   .have e':q.1=k:=h1.symm.trans e;have b:U6 (q::qs) k=some q.2:=by simp[U6,Wt,e']
    rw[mK e,b];exact h2
   .have e':¬q.1=k:=λz=>e (h1.trans z);have b:U6 (q::qs) k=U6 qs k:=by simp[U6,Wt,e']
    rw[mL e,b];exact ih
theorem KV.any{kvs:List (κ×V)}{vs:List (κ×Zn)}(r:KV kvs vs)(k:κ):(kvs.any λkv=>decide (kv.1=k))=vs.any λkv=>decide (kv.1=k):=by
 unfold KV at r
 induction r with
 |nil=>rfl
 |cons h t ih=>rw[Wr,Wr,ih,h.1]
def KV.repl{kvs:List (κ×V)}{vs:List (κ×Zn)}(r:KV kvs vs)(k:κ){y:V}{u:Zn}(ry:aQ y u):KV (kvs.map λkv=>if kv.1=k then(kv.1,y)else kv) (vs.map λkv=>if kv.1=k then(kv.1,u)else kv):=by
 unfold KV at r ⊢
 induction r with
 |nil=>exact .nil
 | @cons p q ps qs h t ih=>
   rw[V2,V2];refine .cons ?_ ih;obtain⟨h1,h2⟩:=h
   by_cases e:p.1=k
   .rw[RC e,RC (h1.symm.trans e)];exact⟨h1,ry⟩
   .rw[RB e,RB (λz=>e (h1.trans z))];exact⟨h1,h2⟩
def KV.put{kvs:List (κ×V)}{vs:List (κ×Zn)}(r:KV kvs vs)(k:κ){y:V}{u:Zn}(ry:aQ y u):KV (iU kvs k y) (VF vs k u):=by
 unfold iU VF;rw[r.any k]
 by_cases e:(vs.any λkv=>decide (kv.1=k))=true
 .rw[RC e,RC e];exact r.repl k ry
 .rw[RB e,RB e];exact Paired.snoc r ⟨rfl,ry⟩
theorem KV.length{kvs:List (κ×V)}{vs:List (κ×Zn)}(r:KV kvs vs):kvs.length=vs.length:=UA r
end
def pO(r:aQ (kV k) u):(mixKind P w).is k u=true:=by
 cases k with
 |inl i=>obtain⟨t,e⟩:=(show∃t,u=Tu i t from r);subst e;exact t7 P w i t
 |inr x=>obtain⟨t,e⟩:=(show∃t,u=Tt x t from r);subst e;exact t6 P w x t
theorem pR:∀{ks:List Key}{us:List Zn},aT (ks.map kV) us->ItemsAre (mixKind P w) ks us
 | [],_,r=>by rw[WJ]at r;cases r;exact .nil
 |k::ks,_,r=>by
  rw[V2]at r;cases r with
  |cons h t=>exact .cons (pO h) (pR t)
abbrev KT(H:Hp):List (List Key×V)->List (List Key×Zo×Zn)->Prop:=VB λp q=>p.1=q.1/\H q.2.1=some (.tup (p.1.map kV))/\aQ p.2 q.2.2
def KT.val(r:KT H kvs xs)(k:List Key):iX (valV kvs k) ((VC xs k).map (·.2)):=by
 induction r with
 |nil=>exact True.intro
 | @cons p q ps qs h t ih=>
   obtain⟨h1,_,h2⟩:=h
   by_cases e:p.1=k
   .have e':q.1=k:=h1.symm.trans e;have b:VC (q::qs) k=some q.2:=by simp[VC,Wt,e']
    rw[mK e,b];exact h2
   .have e':¬q.1=k:=λz=>e (h1.trans z);have b:VC (q::qs) k=VC qs k:=by simp[VC,Wt,e']
    rw[mL e,b];exact ih
def KT.repl(r:KT H kvs xs)(k:List Key)(ry:aQ y u):KT H (kvs.map λkv=>if kv.1=k then(kv.1,y)else kv) (xs.map (putAt k u)):=by
 induction r with
 |nil=>exact .nil
 | @cons p q ps qs h t ih=>
   rw[V2,V2];refine .cons ?_ ih;obtain⟨h1,h2,h3⟩:=h;unfold putAt
   by_cases e:p.1=k
   .rw[RC e,RC (h1.symm.trans e)];exact⟨h1,h2,ry⟩
   .rw[RB e,RB (λz=>e (h1.trans z))];exact⟨h1,h2,h3⟩
def KT.put(r:KT H kvs xs)(k:List Key)(hb:H b=some (.tup (k.map kV)))(ry:aQ y u):KT H (iU kvs k y) (storedH xs k b u):=by
 have e:(kvs.any λkv=>decide (kv.1=k))=(VC xs k).isSome:=by rw[sM,(r.val k).isSome_eq,YD]
 unfold iU storedH;rw[e]
 by_cases q:(VC xs k).isSome=true
 .rw[RC q,RC q];exact r.repl k ry
 .rw[RB q,RB q];exact Paired.snoc r ⟨rfl,hb,ry⟩
def KT.keeps(r:KT H kvs xs)(ht:∀b ys,H b=some (.tup ys)->H' b=some (.tup ys)):KT H' kvs xs:=
 Paired.mapP r λ_ _ z=>⟨z.1,ht _ _ z.2.1,z.2.2⟩
section
def Jq(ok:jM P w H h)(e:Rd H a u):bp P w H h a u:=e.ok ok
def yh(ok:jM P w H h)(e:Rd H a (.dK kvs)):kvs.length<=v1/\(a == sysModules)=false/\∃vs,KV kvs vs/\h.DictOf (mixKind P w) a vs:=
 show bp P w H h a (.dK kvs)from Jq ok e
def JN(ok:jM P w H h)(e:H a=some (.dK kvs)):kvs.length<=v1/\(a == sysModules)=false/\∃vs,KV kvs vs/\h.DictOf (mixKind P w) a vs:=yh ok (.inl e)
def rF(ok:jM P w H h)(e:H a=some (.tup (ks.map kV))):(U7 (mixKind P w)).is h ks a:=by obtain⟨_,its,r,o,h1,h2,n,h3⟩:=(show bp P w H h a (.tup (ks.map kV))from ok a _ e);exact⟨o,its.toArray,n,h1,h2,h3,by simpa using pR r⟩
def yg(ok:jM P w H h)(e:Rd H a (.dT kvs)):kvs.length<=v1/\(a == sysModules)=false/\∃xs,KT H kvs xs/\h.DictOfH (U7 (mixKind P w)) a xs:=by
 obtain⟨z,y,xs,r,o,es,ep,h1,h2,h3,h4,h5⟩:=(show bp P w H h a (.dT kvs)from Jq ok e);refine⟨z,y,xs,r,o,es,ep,h1,h2,h3,h4,λx hx=>?_,h5⟩;have all:∀{l:List (List Key×V)}{m:List (List Key×Zo×Zn)},KT H l m->∀x∈m,(U7 (mixKind P w)).is h x.1 x.2.1:=by
  intro l m q
  induction q with
  |nil=>intro x hx;exact nomatch hx
  | @cons p q ps qs hq t ih=>
    intro x hx
    rcases VO.mp hx with e|hx
    .subst e;exact rF ok (by rw[<-hq.1];exact hq.2.1)
    .exact ih x hx
 exact all r x hx
def Pk(ok:jM P w H h)(e:H a=some (.dT kvs)):kvs.length<=v1/\(a == sysModules)=false/\∃xs,KT H kvs xs/\h.DictOfH (U7 (mixKind P w)) a xs:=yg ok (.inl e)
end
def su(H:Hp)(a:Zo)(y:V)(r:Option V):Prop:=
 (∃kvs k,Rd H a (.dK kvs)/\y=kV k/\r=valV kvs k)\/∃kvs k b,Rd H a (.dT kvs)/\y=.ref b/\H b=some (.tup (k.map kV))/\r=valV kvs k
def CO(H:Hp)(a:Zo)(y v:V)(H':Hp):Prop:=
 (∃kvs k,H a=some (.dK kvs)/\y=kV k/\kvs.length<v1/\H'=upd H a (.dK (iU kvs k v)))\/
 ∃kvs k b,H a=some (.dT kvs)/\y=.ref b/\H b=some (.tup (k.map kV))/\kvs.length<v1/\H'=upd H a (.dT (iU kvs k v))
def su.t(e:H a=some (.dT kvs))(eb:H b=some (.tup (k.map kV))):su H a (.ref b) (valV kvs k):=.inr ⟨kvs,k,b,.inl e,rfl,eb,rfl⟩
def CO.t(e:H a=some (.dT kvs))(eb:H b=some (.tup (k.map kV)))(hl:kvs.length<v1):CO H a (.ref b) v (upd H a (.dT (iU kvs k v))):=.inr ⟨kvs,k,b,e,rfl,eb,hl,rfl⟩
section
variable{X:Cx}{Rv:RL}{σ:St}{H:Hp}{s:RQ}{a:Zo}{y v:V}{u r:Zn}{o:Option V}{A:SJ}{E:RK}
def aJ.big(I:aJ X Rv σ H s):sysModules<s.heap.objs.size:=by have h:RV<s.heap.objs.size:=(I.mod.glob.keeps I.bk).lt;exact XO (by decide) h
def Aa(hu:A.units+1<SK)(I:aJ X Rv σ H s)(g:su H a y (some v))(ry:aQ y u)(h:∀w' s',aJ X Rv σ H s'->aQ v w'->Q w' s'):RR (RX X.prog X.w) A (Vr (.ref a) u) Q E s:=by
 rcases g with⟨kvs,k,e,ey,l⟩|⟨kvs,k,b,e,ey,eb,l⟩
 .subst ey;obtain⟨z,hd,vs,rel,dd⟩:=yh I.hok e;obtain⟨w',hw,rw'⟩:=iX.some_of (v:=v) (o:=U6 vs k) (by rw[l];exact rel.val k);exact wpAny_getItem_of (pO ry) dd.mapOf hw (h w' _ (I.tok _) rw')
 .subst ey;cases(show u=RY b from ry);obtain⟨z,hd,xs,rel,dd⟩:=yg I.hok e;obtain⟨w',hw,rw'⟩:=iX.some_of (v:=v) (o:=(VC xs k).map (·.2)) (by rw[l];exact rel.val k);obtain⟨p,hp,hp2⟩:=YA.mp hw;refine wpAny_getItem_heap (Ug hu) (rF I.hok eb) dd hp ?_;rw[hp2];exact h w' _ (I.tok _) rw'
def Em(hu:A.units+1<SK)(I:aJ X Rv σ H s)(g:su H a y o)(ry:aQ y u)(h:∀s',aJ X Rv σ H s'->Q (.bool (!o.isSome)) s'):RR (RX X.prog X.w) A (Sv .NotIn u (.ref a)) Q E s:=by
 rcases g with⟨kvs,k,e,ey,l⟩|⟨kvs,k,b,e,ey,eb,l⟩
 .subst ey;obtain⟨z,hd,vs,rel,dd⟩:=yh I.hok e;refine wpAny_notIn_of (pO ry) hd dd.mapOf ?_;rw[<-(rel.val k).isSome_eq,<-l];exact h _ (I.tok _)
 .subst ey;cases(show u=RY b from ry);obtain⟨z,hd,xs,rel,dd⟩:=yg I.hok e;refine wpAny_notIn_heap (Ug hu) (rF I.hok eb) hd dd ?_;have q:=(rel.val k).isSome_eq;rw[YD]at q;rw[<-q,<-l];exact h _ (I.tok _)
def yl(I:aJ X Rv σ H s)(mu:PQ (H a))(hs:So a s.heap h')(he:∃q,h'.get? a=some q)(new:bp X.prog X.w (upd H a ob) h' a ob):aJ X Rv σ (upd H a ob) {s with heap:=h',toks:=t'}:=
 I.write (x:=a) (e:=a) mu (.inl rfl) (λb q hb z=>(hs.2 b hb).trans z) he new
def dk_new(z:kvs.length<=v1)(hd:(a == sysModules)=false)(rel:KV kvs vs)(dd:h'.DictOf (mixKind P w) a vs):bp P w H' h' a (.dK kvs):=⟨z,hd,vs,rel,dd⟩
def zZ(hu:A.units+1<SK)(I:aJ X Rv σ H s)(g:CO H a y v H')(ry:aQ y u)(rv:aQ v r)(h:∀s',aJ X Rv σ H' s'->Q () s'):RR (RX X.prog X.w) A (VD (.ref a) u r) Q E s:=by
 rcases g with⟨kvs,k,e,ey,l,eH⟩|⟨kvs,k,b,e,ey,eb,l,eH⟩
 .subst ey eH;obtain⟨z,hd,vs,rel,dd⟩:=JN I.hok e;have hz:vs.length<=v1:=by rw[<-rel.length];exact z
  have hl:(iU kvs k v).length<=v1:=by have:=jn kvs k v;lia
  refine wpAny_setItem_pairs (hsz:=hz) (pO ry) dd λh' dd' hs=>h _ ?_;have he:∃q,h'.get? a=some q:=let ⟨q,_,_,hq,_⟩:=dd';⟨q,hq⟩;exact yl I (by rw[e];exact True.intro) hs he (dk_new hl hd (rel.put k rv) dd')
 .subst ey eH;cases(show u=RY b from ry);obtain⟨z,hd,xs,rel,dd⟩:=Pk I.hok e;have hz:xs.length<=v1:=by rw[<-UA rel];exact z
  have hl:(iU kvs k v).length<=v1:=by have:=jn kvs k v;lia
  refine wpAny_setItem_heap (hsz:=hz) (Ug hu) (rF I.hok eb) dd λh' dd' hs=>h _ ?_;obtain⟨q,es,ep,hq,h2,h3,h4,_,h5⟩:=dd';refine yl I (by rw[e];exact True.intro) hs ⟨q,hq⟩ ⟨hl,hd,_,(rel.put k eb rv).keeps λc ys ec=>?_,q,es,ep,hq,h2,h3,h4,h5⟩;rw[aq (OH ec e (λz=>nomatch z))];exact ec
end
def LS(i:Sz):Prop:= ∀ov iv,U1 i false ov iv=operate [ov,iv] (Vr ov iv)
def Df{E:RK}{s:RQ}{T id:String}{Q:RK}(hl:UL (.type T) "__getitem__"=pure (some (.builtin id)))(hs:LS slice)(h:RR (RX prog w) A (Sr value env) (λo s₁=>RR (RX prog w) A (Sr slice env) (λi s₂=>s₂.TypeIs o T/\RR (RX prog w) A (Vr o i) Q E s₂) E s₁) E s):RR (RX prog w) A (Sr (.Subscript value slice pos) env) Q E s:=by
 refine Subscript_ (Sx h (λo s₁ h₁=>Sx h₁ (λi s₂ h₂=>?_) λ_ _ x=>x) λ_ _ x=>x);obtain⟨hT,h₂⟩:=h₂;unfold Vf;refine RM ?_;rw[getitemInPython_of_ne hT.not_modules];refine RM (T3 hT hl ?_);have fin:RR (RX prog w) A (U1 slice false o i) (λr s₃=>RR (RX prog w) A (letTemporaryGo value o r >>= λ_=>pure r) Q E s₃) E s₂:=by rw[hs o i];exact wpAny_operating (Sx h₂ (λr s₃ h₃=>RM (wpAny_letTemporaryGo (RN h₃))) λ_ _ x=>x)
 first
  |exact RN (RM fin)
  |exact RM (RN (RM fin))
  |exact RM fin
def uB{X:Cx}{Rv:RL}{σ:St}{H:Hp}{s:RQ}{a:Zo}{y:V}{o:Option V}(I:aJ X Rv σ H s)(g:su H a y o):s.TypeIs (.ref a) "dict":=by
 rcases g with⟨kvs,k,e,_,_⟩|⟨kvs,k,b,e,_,_,_⟩
 .obtain⟨_,_,vs,_,dd⟩:=yh I.hok e;exact dd.typeIs
 .obtain⟨_,_,xs,_,dd⟩:=yg I.hok e;exact dd.typeIs
def Jd(td ty:TE):TE:=λσ H Q=>td σ H λx H1=>ty σ H1 λy H2=>∃a v,x=.ref a/\su H2 a y (some v)/\Q v H2
def qr(ty td:TE):TE:=λσ H Q=>ty σ H λy H1=>td σ H1 λx H2=>∃a o,x=.ref a/\su H2 a y o/\Q (.bl (!o.isSome)) H2
def AZ(td ty tv:TE):TS:=λD σ H=>tv σ H λv H1=>td σ H1 λx H2=>ty σ H2 λy H3=>∃a H4,x=.ref a/\CO H3 a y v H4/\D.nx σ H4
section
def DE(hu:X.A.units+1<SK)(ho:PE X o td)(hi:PE X i ty)(hs:LS i):PE X (.Subscript o i pos) (Jd td ty):=by intro Rv s σ H Q I h;refine Df PySem.F.slot_dict_getitem.lookup hs (bL (ho Rv s σ H _ I h) λu s1 ⟨x,H1,I1,rx,q1⟩=>bL (hi Rv s1 σ H1 _ I1 q1) λiv s2 ⟨y,H2,I2,ry,a,v,ex,g,q2⟩=>?_);subst ex;obtain rfl:u=RY a:=rx;exact⟨uB I2 g,Aa hu I2 g ry λw' s3 I3 rw'=>⟨v,H2,I3,rw',q2⟩⟩
def zh(hu:X.A.units+1<SK)(hi:PE X i ty)(ho:PE X o td):PC X .NotIn i o (qr ty td):=by intro Rv s σ H Q I h;refine bL (hi Rv s σ H _ I h) λiv s1 ⟨y,H1,I1,ry,q1⟩=>bL (ho Rv s1 σ H1 _ I1 q1) λu s2 ⟨x,H2,I2,rx,a,ov,ex,g,q2⟩=>?_;subst ex;obtain rfl:u=RY a:=rx;exact Em hu I2 g ry λs3 I3=>⟨.bl (!ov.isSome),H2,I3,rfl,q2⟩
def Dx(hu:X.A.units+1<SK)(ho:PE X o td)(hi:PE X i ty)(hv:PE X value tv)(hs:TX value (some (.Subscript o i pos')) pos.line X.env=pure false):PS X (.Assign [.Subscript o i pos'] value pos) (AZ td ty tv):=by intro Rv s σ H D I h;refine wpAny_Assign_Subscript (bL (hv Rv s σ H _ I h) λr s1 ⟨v,H1,I1,rv,q1⟩=>bL (ho Rv s1 σ H1 _ I1 q1) λu s2 ⟨x,H2,I2,rx,q2⟩=>bL (hi Rv s2 σ H2 _ I2 q2) λiv s3 ⟨y,H3,I3,ry,a,H4,ex,g,q3⟩=>?_) hs;subst ex;obtain rfl:u=RY a:=rx;exact zZ hu I3 g ry rv λs4 I4=>⟨σ,H4,I4,q3⟩
end
def Cb(h:R9)(hb:sysModules<h.objs.size):bp P w H (h.push {cls:=.type "dict",data:=.dict #[]}) h.objs.size (.dT []):=
 ⟨XF _,beq_eq_false_iff_ne.mpr (Ne.symm (XE hb)),[],.nil,_,#[],0,RT _ rfl,⟨rfl,rfl,rfl⟩,rfl,rfl,Wy⟩
def AF:TE:=λ_ H Q=>∀p,H p=none->Q (.ref p) (upd H p (.dT []))
section
def Bi:PE X (.Dict [] [] pos) AF:=λRv s σ H Q I h=>
 wpAny_Dict_empty ⟨.ref s.heap.objs.size,_,I.laid (a:=s.heap.objs.size) (o:=.dT []) (t':=s.toks) (λ_ _ q=>RO _ q) (XD _) (Cb s.heap I.big),rfl,h _ (I.hok.fresh (XD _))⟩
end
end L2
namespace Att
open PySem PySem.W PySem.Calls PyProof.Rows
def ma:∀ns vs,WellAll P h vs (ns.map WData.int)->Vc vs ns:=by
 intro ns
 induction ns with
 |nil=>
  intro vs w;rw[WJ]at w;cases w;exact .nil
 |cons n ns ih=>
  intro vs w;rw[V2]at w;cases w with
  |cons a b=>
   cases a;exact .cons _ _ (ih _ b)
def yR{l:OpenLaw}{n:Nat}(hn:l.most=some n){P:Uz}{h:R9}{args:List WData}{vals:List Zn}(hpre:l.row.toRowW.claim.pre args=true)(hwl:WellAll P h vals args):∃a vs ns,vals=[RY a]/\args=[WData.list (ns.map WData.int)]/\h.get? a=some {cls:=.type "list",data:=.seq vs.toArray}/\Vc vs ns/\ns.length<=n:=by
 have hsh:WShape.hasAll [] args [.list .int]=true:=(pre_splitW hpre).1;have hc:l.pre.holds [] {args:=args}=true:=(pre_splitW hpre).2;obtain⟨d,r,rfl,h1,h2⟩:=hasAllW_cons hsh;obtain rfl:=hasAllW_nil h2;obtain⟨xs,rfl,h3⟩:=hasW_list h1;obtain⟨ns,rfl⟩:=items_int h3;have hlen:ns.length<=n:=by
  unfold OpenLaw.pre at hc;have h4:(WTm.not (.lt (.lit (.int (n:Int))) (.len (.arg 0)))).holds [] {args:=[.list (ns.map .int)]}=true:=by have h4:=(holds_andW hc).1;rw[hn]at h4;exact h4
  have h5:=condW_of h4 (w_not (w_lt w_lit (w_len_list (w_arg rfl))));rw[VN]at h5;refine Nat.le_of_not_lt λq=>?_;have q':(n:Int)<((ns.length:Nat):Int):=by lia
  first
   |(rw[Ry q']at h5;exact RF h5 (by decide))
   |(simp at h5;lia)
 cases hwl with
 |cons w1 w2=>
  cases w2;cases w1 with
  |list ho hall=>exact⟨_,_,ns,rfl,rfl,ho,ma ns _ hall,hlen⟩
def y6(l:OpenLaw)(args:List WData):l.row.toRowW.claim.post args (.bool true) args=true:=
 postW_of (r:=l.row.toRowW) (X:=(true == true))
  (show WShape.has [] (.bool true) .bool=true by first|rfl|decide|simp[WShape.has,WShape.arms,WShape.armsAll])
  (show(WTm.eq .res (.lit (.bool true))).value [] {args:=args,res:=some (.bool true),after:=args}=some (.bool (true == true))from w_eq_bool (w_res rfl) w_lit) rfl
def attach_call{l:OpenLaw}{n:Nat}{q:RU}{loose:List Str}{XP:(RJ)->R9->Prop}{YP:RZ->R9->Prop}{d:DefRec}(hn:l.most=some n)(hdf:d.params.defaults=[])(call:∀w s₀ s₁ mg mb fa o pm cd doc a vs ns,
   Ground q loose [] XP w s₀ mg mb s₁.heap->YP w s₁.heap->
   s₁.heap.get? fa=some o->o.data=.func (docDef d.name d.params d.body d.scope pm cd doc)->s₁.heap.CodeRec cd d.name->mg d.name=some (.ref fa)->
   s₁.heap.get? a=some {cls:=.type "list",data:=.seq vs.toArray}->Vc vs ns->ns.length<=n->s₁.gens= #[]->
   Tl (RX l.prog w) Va (.call (.ref fa) ⟨[.ref a],[]⟩) (λr s'=>r=.ok (.ret (.bool true))/\OldK s₁.heap s'.heap/\s'.os=s₁.os/\T0 s'.gens) s₁):WalkO q loose XP YP l.row.toRowW d [] (λf vs=>PySem.call f vs):=by
 intro w s₀ s₁ mg mb G Y fa o pm cd doc dV kV ho hd hcd hD hmg hg args vals as hpre hlay hrd hwl hlo;obtain rfl:dV=.none:=Dflts.none hD hdf;obtain rfl:kV=.none:=Dflts.noKw hD;obtain⟨a,vs,ns,rfl,rfl,hobj,hints,hlen⟩:=yR hn hpre hwl;refine enter_call (SB (call w s₀ s₁ mg mb fa o pm cd doc a vs ns G Y ho (fd_plain hd) hcd hmg hobj hints hlen hg) λr s' hq=>?_);obtain⟨rfl,h2,h3,h4⟩:=hq;exact⟨.inl ⟨.bool true,.bool true,[],rfl,λ_=>rfl,.bool true,y6 l _,λ_=>⟨List.Pairwise.nil,λ_ hm=>(nomatch hm)⟩⟩,h2,h3,h4⟩
end Att
namespace L2
open PySem PySem.Spec PyProof.Rows
theorem kZ:∀{vs:List Zn}{ns:List Int},Vc vs ns->aT (ns.map V.int) vs
 |_,_,.nil=>.nil
 |_,_,.cons n t h=>.cons ⟨t,rfl⟩ (kZ h)
def LR(H:Hp):Prop:= ∀b,H b=none\/∃o xs,H b=some (.frz o (.lst xs))
def Bx{P:RU}{w:RZ}{K:Frag}{mg mb:RJ}{CX:As}{k:Nat}{fa a:Zo}{fd:R7}{x:Str}{sp:Sp}{s₁:RQ}{vs:List Zn}{ns:List Int}(KX:K.In s₁.heap)(hns:s₁.heap.Ns RV mg)(hb:s₁.heap.Ns builtinsNs mb)(hbb:∀x:Str,x≠"__name__"->mb x=R8 x)(hlim:s₁.heap.NoLimit)(hg:s₁.gens= #[])(ha:s₁.heap.get? a=some {cls:=.type "list",data:=.seq vs.toArray})(hi:Vc vs ns)(hl:ns.length<=v1)(hr:cw k Va)(F:∀Rw:R9,K.In Rw->Rw.Ns RV mg->aY P w K mg Rw CX k fa fd [x] sp)(hbind:∀s u,Vd s fd ⟨[u],[]⟩ [(x,u)])(hsp:∀H:Hp,LR H->aR K H a (ns.map V.int)->sp [.ref a] H (λv _=>v=.bl true) λ_ _ _=>False)(hCX:∀H e s',CX [] H s₁ (λ_ _ _=>False) e s'->False):Tl (RX P w) Va (.call (.ref fa) ⟨[.ref a],[]⟩) (λr s'=>r=.ok (.ret (.bool true))/\OldK s₁.heap s'.heap/\s'.os=s₁.os/\T0 s'.gens) s₁:=by
 have rv:=kZ hi;have lenV:=hi.length;have core:∀H:Hp,LR H->aR K H a (ns.map V.int)->jM P w H s₁.heap->(∀b,H b≠none->b=a)->(H a≠none->K.lookup a=none)->
   Tl (RX P w) Va (.call (.ref fa) ⟨[.ref a],[]⟩) (λr s'=>r=.ok (.ret (.bool true))/\OldK s₁.heap s'.heap/\s'.os=s₁.os/\T0 s'.gens) s₁:=by
  intro H hO hS hok hA hK;have base_of:∀{b:Zo}{o:Obj},s₁.heap.get? b=some o->H b=none->(rH s₁.heap H).get? b=some o:=λe n=>BJ e n;have noA:∀{b:Zo}{o:Obj}{es:Array DictEntry}{ep:Nat},s₁.heap.get? b=some o->o.data=.dict es ep->H b=none:=λ{b o es ep} e d=>by
   cases q:H b with
   |none=>rfl
   |some u=>
    have e':b=a:=hA b (by rw[q];simp);subst e';rw[ha]at e;cases e;have d':Data.seq vs.toArray _=Data.dict es ep:=d;cases d'
  have nsK:∀{b:Zo}{m:RJ},s₁.heap.Ns b m->(rH s₁.heap H).Ns b m:=λ{b m} ⟨o,es,ep,e,d,r⟩=>⟨o,es,ep,base_of e (noA e d),d,r⟩;have hKb:K.In (rH s₁.heap H):=λb o e=>base_of (KX b o e) (by
   cases q:H b with
   |none=>rfl
   |some u=>
    have e':b=a:=hA b (by rw[q];simp);subst e';rw[hK (by rw[q];simp)]at e;cases e)
  have hM:Mod K mg (rH s₁.heap H):=⟨hKb,nsK hns,⟨mb,nsK hb,hbb⟩,let ⟨mc,h1,h2⟩:=hlim;⟨mc,nsK h1,h2⟩⟩;have e0:sk P w K mg (rH s₁.heap H) Va [] s₁ H:=⟨rfl,hM,λb o e=>DN e,XS (zO _ _),trivial,λb hb=>RF (show b∈([]:List Zo)from hb) (by simp),hok,.of_eq hg⟩;refine SB ((F _ hKb (nsK hns)).run Va [] s₁ H ⟨[.ref a],[]⟩ [.ref a] [.ref a] _ _ hr e0 (hbind s₁ (.ref a)) (.cons rfl .nil) (hsp H hO hS)) λr s' h=>?_;cases r with
  |error e=>exact(hCX H e s' h).elim
  |ok fl=>
   cases fl with
   |next=>exact False.elim h
   |brk=>exact False.elim h
   |cont=>exact False.elim h
   |ret u=>
    obtain⟨v,H',os,bare,un,hok',r',q⟩:=h;have q':v=.bl true:=q;subst q';obtain rfl:u=Vm true:=r';refine⟨rfl,OldK.of_keep λb o e=>?_,os,bare⟩;cases q:H b with
    |none=>exact un.keep b o e q (by intro z;exact RF (show b∈([]:List Zo)from z) (by simp)) (by simp)
    |some u=>
     rcases hO b with z|⟨ob,xs,z⟩
     .rw[q]at z;cases z
     .have z2:=un.frzs b ob _ z;obtain⟨e1,_⟩:=hok b _ z;obtain⟨e2,_⟩:=hok' b _ z2;rw[e]at e1;cases e1;exact e2
 cases hk:K.lookup a with
 |some o=>
  have e:=KX a o hk;rw[ha]at e;cases e;refine core (λ_=>none) (λ_=>.inl rfl) (.inr ⟨_,vs.toArray,_,hk,rfl,rfl,rfl,by rw[VS,lenV];exact hl,by simpa using iW.ints rv⟩) (λb u z=>by have z':(none:Option HO)=some u:=z;cases z') (λb z=>RF rfl z) λz=>RF rfl z
 |none=>
  refine core (λb=>if b=a then some (.frz {cls:=.type "list",data:=.seq vs.toArray} (.lst (ns.map V.int)))else none) (λb=>?_) (.inl (.inr ⟨{cls:=.type "list",data:=.seq vs.toArray},RC rfl⟩)) (λb u z=>?_) (λb z=>?_) λ_=>hk
  .by_cases hb:b=a
   .exact .inr ⟨_,_,RC hb⟩
   .exact .inl (RB hb)
  .by_cases hb:b=a
   .have z':=(RC hb).symm.trans z;cases z';subst hb;exact⟨ha,by rw[VN];exact hl,vs,_,rv,ha⟩
   .have z':=(RB hb).symm.trans z;cases z'
  .by_cases hb:b=a
   .exact hb
   .exact RF (RB hb) z
def C9{l:PySem.W.OpenLaw}{n k:Nat}{q:RU}{loose:List Str}{XP:(RJ)->R9->Prop}{YP:RZ->R9->Prop}{d:DefRec}{K:Uz->Frag}{CX:RZ->As}{sp:RZ->Sp}{x:Str}(hn:l.most=some n)(hn2:n<=v1)(hdf:d.params.defaults=[])(hr:cw k Va)(hY:∀(w:RZ)(h:R9),YP w h->(K w.params).In h)(F:∀(w:RZ)(mg:RJ)(fa:Zo)(h:R9),(K w.params).In h->h.Ns RV mg->mg d.name=some (.ref fa)->
   ∃fd:R7,(∀(s:RQ)(u:Zn),Vd s fd ⟨[u],[]⟩ [(x,u)])/\
    ∀Rw:R9,(K w.params).In Rw->Rw.Ns RV mg->aY l.prog w (K w.params) mg Rw (CX w) k fa fd [x] (sp w)) (hsp:∀(w:RZ)(H:Hp)(a:Zo)(ns:List Int),ns.length<=n->LR H->aR (K w.params) H a (ns.map V.int)->sp w [.ref a] H (λv _=>v=.bl true) λ_ _ _=>False) (hCX:∀(w:RZ)(H:Hp)(s:RQ)(e:Zn)(s':RQ),CX w [] H s (λ_ _ _=>False) e s'->False):PySem.W.WalkO q loose XP YP l.row.toRowW d [] (λf vs=>PySem.call f vs):=by
 refine Att.attach_call hn hdf λw s₀ s₁ mg mb fa o pm cd doc a vs ns G Y ho hd hcd hmg hobj hints hlen hg=>?_;have KX:=hY w _ Y;obtain⟨fd,hb,hF⟩:=F w mg fa _ KX G.T.g hmg;exact Bx KX G.T.g G.T.b G.T.builtins G.T.nolimit hg hobj hints (XG hlen hn2) hr hF hb (λH hO hS=>hsp w H a ns hlen hO hS) λH e s'=>hCX w H s₁ e s'
noncomputable def cV(s:Sb)(j:Nat):Sb:=match s with
 | .ClassDef _ _ _ body _ _ _ _ _ _ _=>body.getD j (.Pass ⟨0,0,0,0⟩)
 |_=>.Pass ⟨0,0,0,0⟩
noncomputable def gc(s:Sb):Arguments:=match s with
 | .FunctionDef _ a _ _ _ _ _ _ _ _=>a
 |_=>{posonlyargs:=[],args:=[],vararg:=none,kwonlyargs:=[],kw_defaults:=[],kwarg:=none,defaults:=[]}
noncomputable def dh(s:Sb):List Sb:=match s with
 | .FunctionDef _ _ b _ _ _ _ _ _ _=>b
 |_=>[]
noncomputable def ak(s:Sb):TV:=match s with
 | .FunctionDef _ _ _ _ _ _ sc _ _ _=>sc
 |_=>{kind:=.function,names:=[],isGenerator:=false,isCoroutine:=false}
abbrev cY:As:=λ_ _ _ _ _ _=>False
abbrev E0:XK:=λ_ _ _=>False
def xC:oz cY X E0:=λ_ _ _ _ _ _ _ h=>h.elim
structure cy(K:Frag)(x qual:Str)(st:Sb)(f:Zo)(fd:R7):Prop where
 ex:∃oc od kV doc pm an cdv ct osl,
  fd=YN x qual (gc st) (dh st) (ak st) .none kV doc pm an cdv ct/\K.lookup f=some ⟨oc,od,.func fd,osl⟩/\Y1 K cdv qual=true
 kp:YM K (.ref f)=true
section
variable{P:RU}{w:RZ}{K:Frag}{mg:RJ}{Rw:R9}
def cy.ok{x qual:Str}{st:Sb}{f:Zo}{fd:R7}{N ps:List Str}{k:Nat}{sp:Sp}(F:cy K x qual st f fd)(S:aD N ps (ak st))(len:∀vs H Q E,sp vs H Q E->vs.length=ps.length)(hbody:∀cdv A Rx s H vs Q E,cw k (A.deeper (SU qual (ak st) s.heap.objs.size f cdv))->sp vs H Q E->
   ∃t,sj (lA cY P w K mg Rw N qual (ak st) f cdv A Rx s H E).nox (dh st) t/\t {nx:=λ_ H'=>Q .non H',rt:=Q} (start N vs) H):aY P w K mg Rw cY (k+1) f fd ps sp:=by
 obtain⟨oc,od,kV,doc,pm,an,cdv,ct,osl,rfl,lk,hcd⟩:=F.ex;refine JI lk hcd S len λA Rx s H vs Q E hr hsp=>?_;obtain⟨t,h,q⟩:=hbody cdv A Rx s H vs Q E hr hsp;exact⟨t,h.nox,q⟩
def cy.ok2{x qual:Str}{st:Sb}{f:Zo}{fd:R7}{N ps:List Str}{k:Nat}{sp:Sp}(F:cy K x qual st f fd)(S:aD N ps (ak st))(hbody:∀cdv A Rx s H vs Q E,cw k (A.deeper (SU qual (ak st) s.heap.objs.size f cdv))->(A.deeper (SU qual (ak st) s.heap.objs.size f cdv)).units+20<SK->sp vs H Q E->
   ∃t,sj (lA cY P w K mg Rw N qual (ak st) f cdv A Rx s H E).nox (dh st) t/\t {nx:=λ_ H'=>Q .non H',rt:=Q} (start N vs) H) (len:∀vs H Q E,sp vs H Q E->vs.length=ps.length:=by intro _ _ _ _ h;(repeat rcases h with⟨_,h⟩);all_goals(subst_vars;rfl)):aY P w K mg Rw cY (k+1) f fd ps sp:=F.ok S len λc A o s H v Q E r h=>hbody c A o s H v Q E r (by have:=r.units;lia) h
def cy.binds{x qual:Str}{st:Sb}{f:Zo}{fd:R7}{ps:List Str}(F:cy K x qual st f fd)(h:∀kV doc pm an cdv ct us,us.length=ps.length->bindArgs (YN x qual (gc st) (dh st) (ak st) .none kV doc pm an cdv ct) ⟨us,[]⟩=pure (ps.zip us)):gS K fd ps []:=by obtain⟨oc,od,kV,doc,pm,an,cdv,ct,osl,rfl,lk,hcd⟩:=F.ex;exact .all (h kV doc pm an cdv ct)
def wf{x qual:Str}{st:Sb}{f:Zo}{oc:Zn}{od an:Option Zo}{osl:Array (Option Zn)}{kV doc pm cdv ct:Zn}(l:K.lookup f=some ⟨oc,od,.func (YN x qual (gc st) (dh st) (ak st) .none kV doc pm an cdv ct),osl⟩)(c:Y1 K cdv qual=true)(k:YM K (.ref f)=true):cy K x qual st f (YN x qual (gc st) (dh st) (ak st) .none kV doc pm an cdv ct):=⟨⟨oc,od,kV,doc,pm,an,cdv,ct,osl,rfl,l,c⟩,k⟩
end
def hG{A B:Prop}(h:B):if false=true then A else B:=by rw[RB Yd];exact h
def iL{A B:Prop}(h:A):if true=true then A else B:=by rw[RC rfl];exact h
def aj(H H':Hp):Prop:= ∀b o,H b=some o->H' b=some o
def aj.refl(H:Hp):aj H H:=λ_ _ h=>h
def aj.trans(a:aj H H1)(b:aj H1 H2):aj H H2:=λc o h=>b c o (a c o h)
def aj.free(e:aj H H')(h:H' l=Option.none):H l=Option.none:=by
 cases q:H l with
 |none=>rfl
 |some o=>
  rw[e l o q]at h;cases h
def aj.seq{K:Frag}{H H':Hp}{a:Zo}{xs:List V}(e:aj H H')(h:aR K H a xs):aR K H' a xs:=by
 rcases h with(h|⟨o,h⟩)|h
 .exact .inl (.inl (e _ _ h))
 .exact .inl (.inr ⟨o,e _ _ h⟩)
 .exact .inr h
noncomputable def kP(env:VE):List (Str×NameKind)->List (Str×Zo)->List (Str×Zo)
 | [],cs=>cs
 |(n,k)::r,cs=>kP env r (if k == .free then(match env.cells.lookup n with|some a=>(n,a)::cs|none=>cs)else cs)
theorem hU(env:VE):∀l cs,(∀x∈l,x.2=.free->∃c,env.cells.lookup x.1=some c)->(forIn l cs λ(x:Str×NameKind) r=>if(x.2 == S8)=true then do let a<-cellOf env x.1;pure (ForInStep.yield ((x.1,a)::r))else pure (ForInStep.yield r):Sem (List (Str×Zo)))=pure (kP env l cs)
 | [],cs,_=>rfl
 |(n,k)::r,cs,h=>by
  have hr:∀x∈r,x.2=.free->∃c,env.cells.lookup x.1=some c:=λx hx=>h x (VU _ hx);rw[WX,kP]
  by_cases hk:(k == S8)=true
  .obtain⟨c,hc⟩:=h (n,k) VW (by simpa using hk);have hc':env.cells.lookup n=some c:=hc;have e:cellOf env n=pure c:=by unfold cellOf;rw[hc']
   simp only[hk,if_true,e,pure_bind,hc'];exact hU env r _ hr
  .simp only[hk,if_false,pure_bind];exact hU env r _ hr
def oV(h:∀x∈scope.names,x.2=.free->∃c,env.cells.lookup x.1=some c):closureFor scope env=pure (kP env scope.names []):=by have e:=hU env scope.names [] h;unfold closureFor;show(forIn scope.names ([]:List (Str×Zo)) _ >>= λr=>pure r:Sem (List (Str×Zo)))=_;rw[bind_pure];exact e
theorem uG(env:VE):∀l cs x c,cs.lookup x=some c->env.cells.lookup x=some c->(kP env l cs).lookup x=some c
 | [],_,_,_,h,_=>h
 |(n,k)::r,cs,x,c,h,e=>by
  rw[kP];refine uG env r _ x c ?_ e;split
  .cases q:env.cells.lookup n with
   |none=>exact h
   |some a=>
    show List.lookup x ((n,a)::cs)=some c;rw[Wn];cases hx:x == n with
    |false=>exact h
    |true=>
     have:x=n:=by simpa using hx
     subst this;rw[q]at e;exact e
  .exact h
theorem oj(env:VE):∀l cs x c,(∀y d,cs.lookup y=some d->env.cells.lookup y=some d)->(kP env l cs).lookup x=some c->env.cells.lookup x=some c
 | [],cs,x,c,h,e=>h x c e
 |(n,k)::r,cs,x,c,h,e=>by
  rw[kP]at e;refine oj env r _ x c ?_ e;intro y d q;split at q
  .cases z:env.cells.lookup n with
   |none=>rw[z]at q;exact h y d q
   |some a=>
    rw[z]at q;have q2:List.lookup y ((n,a)::cs)=some d:=q;rw[Wn]at q2;cases hx:y == n with
    |false=>rw[hx]at q2;exact h y d q2
    |true=>
     rw[hx]at q2;have hyn:y=n:=by simpa using hx
     rw[hyn,z];exact q2
  .exact h y d q
theorem om(env:VE):∀l cs x c,(x,S8)∈l->env.cells.lookup x=some c->(kP env l cs).lookup x=some c
 | [],_,_,_,h,_=>by simp at h
 |(n,k)::r,cs,x,c,h,e=>by
  rw[kP]
  rcases VO.mp h with h|h
  .have h1:n=x:=(RI Prod.fst h).symm;have h2:k=S8:=(RI Prod.snd h).symm;subst h1 h2;refine uG env r _ n c ?_ e;rw[e];show List.lookup n (if(S8 == S8)=true then(n,c)::cs else cs)=some c;rw[RC (by decide),Wn];simp
  .exact om env r _ x c h e
def kA(scope:TV)(env:VE)(x:Str):(Vo scope env).names.lookup x=(scope.names.lookup x).map λk=>if(k == .free&&env.scope.kind == .function&&env.kindOf x == some .cell)=true then UB else k:=by
 show(scope.names.map λ(p:Str×NameKind)=>if(p.2 == .free&&env.scope.kind == .function&&env.kindOf p.1 == some .cell)=true then(p.1,UB)else(p.1,p.2)).lookup x=_
 induction scope.names with
 |nil=>rfl
 |cons p r ih=>
  obtain⟨n,k⟩:=p;rw[V2];show List.lookup x ((if(k == .free&&env.scope.kind == .function&&env.kindOf n == some .cell)=true then(n,UB)else(n,k))::_)=_;cases hx:x == n with
  |false=>
   have e1:List.lookup x ((n,k)::r)=List.lookup x r:=by rw[Wn,hx]
   rw[e1];split<;>(rw[Wn,hx];exact ih)
  |true=>
   have:x=n:=by simpa using hx
   subst this;have e1:List.lookup x ((x,k)::r)=some k:=by rw[Wn,hx]
   rw[e1];show _=some _;split
   .rename_i hc;rw[Wn,hx];show some UB=some (if _ then _ else _);rw[RC hc]
   .rename_i hc;rw[Wn,hx];show some k=some (if _ then _ else _);rw[RB hc]
structure cN(X:Cx)(N:List Str)(src:List (Option Nat))(scope:TV):Prop where
 kind:scope.kind=.function
 nocell:∀y∈scope.names,y.2≠.cell
 names:∀y∈scope.names,y.2=.local->scope.names.lookup y.1=some .local
 fre:∀y∈scope.names,y.2=.free->X.env.kindOf y.1=some .cell\/X.env.kindOf y.1=some .free
 len:src.length=N.length
 nd:N.Nodup
 src:∀(j i:Nat)(x:Str),N[j]? =some x->src[j]? =some (some i)->X.N[i]? =some x/\scope.names.lookup x=some .free
noncomputable def wv(dsc:TV)(XN N:List Str)(src:List (Option Nat))(scope:TV):Bool:=
 decide (scope.kind=.function)&&scope.names.all (λy=>decide (y.2≠.cell))&&scope.names.all (λy=> !decide (y.2=.local)||decide (scope.names.lookup y.1=some .local))&&
 scope.names.all (λy=> !decide (y.2=.free)||decide (dsc.names.lookup y.1=some .cell)||decide (dsc.names.lookup y.1=some .free))&&decide (src.length=N.length)&&decide N.Nodup&&
 (N.zip src).all λp=>match p.2 with
  |none=>true
  |some i=>decide (XN[i]? =some p.1)&&decide (scope.names.lookup p.1=some .free)
def cN.of{X:Cx}{XN N:List Str}{src:List (Option Nat)}(he:X.env.scope=dsc)(hN:X.N=XN)(h:wv dsc XN N src scope=true):cN X N src scope:=by
 subst he hN;unfold wv at h;simp only[Ye,decide_eq_true_eq,Wc,Yo,Yi,decide_eq_false_iff_not]at h;obtain⟨⟨⟨⟨⟨⟨h1,h2⟩,h3⟩,h4⟩,h5⟩,h6⟩,h7⟩:=h;refine⟨h1,h2,λy hy e=>?_,λy hy e=>?_,h5,h6,λj i x e1 e2=>?_⟩
 .rcases h3 y hy with q|q
  .exact RF e q
  .exact q
 .rcases h4 y hy with(q|q)|q
  .exact RF e q
  .exact .inl q
  .exact .inr q
 .have hm:(x,some i)∈N.zip src:=by
   have:(N.zip src)[j]? =some (x,some i):=by rw[List.getElem?_zip_eq_some];exact⟨e1,e2⟩
   exact Wa this
  have q:=h7 _ hm;simpa using q
noncomputable def cxC(X:Cx)(scope:TV)(N:List Str)(s:RQ)(H:Hp)(ex:List Zo):Cx:=
 {X with
  N:=N
  s₀:=s
  H₀:=H
  env:=compEnvC scope (kP X.env scope.names []) s.heap.objs.size X.env
  Rx:=X.stack
  ex:=ex
  fn:=λ_=>false
  pn:=[]
  xe:=λ_ _=>False}
noncomputable def eU(src:List (Option Nat))(σ:St):St:=src.map λo=>match o with|none=>none|some i=>(σ[i]?).join
section
variable{X:Cx}{Rv:RL}{σ:St}{H:Hp}{s:RQ}{N:List Str}{src:List (Option Nat)}{scope:TV}{ex:List Zo}
theorem cN.cells(S:cN X N src scope)(ok:X.Ok):∀x∈scope.names,x.2=.free->∃c,X.env.cells.lookup x.1=some c:=λx hx e=>ok.has _ (S.fre x hx e)
def aJ.enterC(I:aJ X Rv σ H s)(S:cN X N src scope)(hf:∀b∈ex,jz X Rv H b)(hlt:∀b∈ex,b<s.heap.objs.size)(hns:h1.Ns s.heap.objs.size m)(hk:∀b o,s.heap.get? b=some o->h1.get? b=some o):aJ (cxC X scope N s H ex) [] (eU src σ) H {s with heap:=h1,toks:=tk}:=by
 have neC:∀b o,s.heap.get? b=some o->b≠s.heap.objs.size:=λb o e=>XE (RP e);have sub:∀x c,(kP X.env scope.names []).lookup x=some c->X.env.cells.lookup x=some c:=λx c e=>oj X.env _ _ x c (λy d z=>by simp at z) e;refine⟨⟨I.ok.mod,S.kind,I.ok.glob,I.ok.blt,XD _,λx y c e1 e2=>I.ok.inj x y c (sub x c e1) (sub y c e2),λx hx=>?_,λx c z=>RF z (by simp[cxC]),I.ok.hd,I.ok.frames,.inl rfl,λb hb=>?_,I.bs,XG I.ok.bsz I.sz,λb o e hb=>?_,λb hb hz=>?_,I.stack,I.stkFree⟩,
  rfl,I.bare,Un.kept hk,⟨m,hns,λj x v e1 e2 e3=>?_⟩,λx c e=>?_,I.hok.fresh (XD _),λx c e=>I.freeC x c (sub x c e),λp hp=>RF (show p∈([]:RL)from hp) (by simp),I.hok.kept hk,?_⟩
 .have hx:(Vo scope X.env).names.lookup x=some .cell\/(Vo scope X.env).names.lookup x=some .free:=hx;have hm:(x,S8)∈scope.names:=by
   rw[kA]at hx;cases q:scope.names.lookup x with
   |none=>rw[q]at hx;simp at hx
   |some k=>
    have hm:=PySem.mem_of_lookup q;cases k with
    |free=>exact hm
    |cell=>exact RF rfl (S.nocell _ hm)
    |_=>rw[q]at hx;simp at hx
  obtain⟨c,hc⟩:=S.cells I.ok _ hm rfl;exact⟨c,om X.env _ _ x c hm hc⟩
 .obtain⟨f0,f1,f2,f3,f4,f5⟩:=hf b hb;exact⟨XE (hlt b hb),λx c e=>f4 x c (sub x c e)⟩
 .obtain⟨f0,f1,f2,f3,f4,f5⟩:=hf b hb
  rcases f3 with z|z
  .exact I.ok.noex b o e z
  .exact RF (XH (RP (I.ok.bs b o e).1) z) (XM _)
 .obtain⟨f0,f1,f2,f3,f4,f5⟩:=hf b hb
  rcases VO.mp (I.stkSub b hz)with z|z
  .exact f1 z
  .exact f2 z
 .have e2:(eU src σ)[j]? =some (some v):=e2;unfold eU at e2;rw[VT]at e2;cases q:src[j]? with
  |none=>rw[q]at e2;simp at e2
  |some o=>
   rw[q]at e2;cases o with
   |none=>simp at e2
   |some i=>
    have e2:(σ[i]?).join=some v:=by simpa using e2
    have e2:σ[i]? =some (some v):=by
     cases z:σ[i]? with
     |none=>rw[z]at e2;simp at e2
     |some w=>rw[z]at e2;simp at e2;rw[e2]
    obtain⟨hX,hfr⟩:=S.src j i x e1 q;have hm:=PySem.mem_of_lookup hfr;have hk2:=S.fre _ hm rfl;obtain⟨mX,hnX,hl⟩:=I.loc;have hvis:Qf X.env.scope x:=.inr hk2;obtain⟨u,r,l⟩:=hl i x v hX e2 hvis;refine⟨u,r,?_⟩
    rcases l with⟨l1,_⟩|⟨_,c,hc,hcell⟩
    .rcases hk2 with z|z
     .have:X.env.kindOf x=some .cell:=z;rw[l1]at this;cases this
     .have:X.env.kindOf x=some .free:=z;rw[l1]at this;cases this
    .refine .inr ⟨?_,c,om X.env _ _ x c hm hc,?_⟩
     .show(Vo scope X.env).names.lookup x=some .cell\/(Vo scope X.env).names.lookup x=some .free;rw[kA,hfr]
      by_cases hcc:(S8 == .free&&X.env.scope.kind == .function&&X.env.kindOf x == some .cell)=true
      .left
       show some (if _ then _ else _)=_;rw[RC hcc]
      .right
       show some (if _ then _ else _)=_;rw[RB hcc]
     .exact hcell.keeps hk
 .obtain⟨v,z⟩:=I.cell x c (sub x c e);exact⟨v,z.keeps hk⟩
 .show(eU src σ).length=N.length;unfold eU;rw[VN];exact S.len
end
def wM(X:Cx)(ifs:List Sz)(t:TT):Prop:=
 ∀(Rv:RL)(s:RQ)(σ:St)(H:Hp)(Q:Bool->Hp->Prop),aJ X Rv σ H s->t σ H Q->
  RR (RX X.prog X.w) X.A (forIn ifs true λc r=>if r=true then do let ok<-Vz c X.env (Sr c X.env);pure (ForInStep.yield ok)else pure (ForInStep.yield r)) (TP X Rv σ Q) X.xe s
def iS:TT:=λ_ H Q=>Q true H
def bZ:wM X [] iS:=λ_ _ _ H _ I h=>wpAny_tests_nil ⟨H,I,h⟩
def ny(h:PT X c t):wM X [c] t:=λRv s σ H Q I hw=>wpAny_tests_one (h Rv s σ H Q I hw)
def eP(g:TG)(tt:TT)(te:TE)(src:List (Option Nat))(σ:St)(Q:VK)(J:It)(H1:Hp):Prop:=
 ∃W:Nat->Nat->List V->St->Hp->Prop,(∃m,W 0 m [] (eU src σ) H1)/\∀i m ys σ' H',W i m ys σ' H'->
  (J.stop i H'/\∀p,H' p=none->Q (.ref p) (upd H' p (.lst ys)))\/
  (J.go i H'/\ys.length<v1/\∀x H2,J.yld i H' x H2->g x σ' H2 λσ3 H3=>tt σ3 H3 λb H4=>
   if b=true then te σ3 H4 λv H5=>∃m',m'<m/\W (i+1) m' (ys++[v]) σ3 H5 else∃m',m'<m/\W (i+1) m' ys σ3 H4)
def tComp(wi:TI)(g:TG)(tt:TT)(te:TE)(src:List (Option Nat)):TE:=λσ H Q=>wi σ H (eP g tt te src σ Q)
def yx(X:Cx)(Rv:RL)(σ:St)(Q:VK)(acc:Zn)(C:Zo)(r:Result)(s':RQ):Prop:=
 (∃f,r=.ok f)/\∃D H',acc=.ref D/\aJ X Rv σ H' s'/\(∃m,s'.heap.Ns C m)/\jz X Rv H' C/\Q (.ref D) H'
def rO(I:Nat->RQ->Prop)(turn:∀n s,I n s->RR (RX prog w) A (S7 it) (λr s₁=>match r with
   |none=>R (.ok .next) s₁
   |some v=>RR (RX prog w) A (T6 target it v) (λ_ s₂=>RR (RX prog w) A (assign target env v) (λ_ s₃=>
     RR (RX prog w) A (forIn ifs true λc r=>if r=true then do let ok<-Vz c env (Sr c env);pure (ForInStep.yield ok)else pure (ForInStep.yield r)) (λok s₄=>
      if ok=true then RR (RX prog w) A (Sr elt env) (λx s₅=>RR (RX prog w) A (call (.builtin "list.append") [acc,x]) (λ_ s₆=>∃m,m<n/\I m s₆) (λ_ _=>False) s₅) (λ_ _=>False) s₄
      else∃m,m<n/\I m s₄) (λ_ _=>False) s₃) (λ_ _=>False) s₂) (λ_ _=>False) s₁) (λ_ _=>False) s) (n:Nat) (h:I n s):Tl (RX prog w) A (.compLoop (.ListComp elt [⟨target,iter,ifs,0⟩] scope pos) 0 it acc env) R s:=by
 refine codeAny_loop rfl I (λn s hI=>?_) n h;show RR _ A ((compTurn (.ListComp elt [⟨target,iter,ifs,0⟩] scope pos) 0 it acc env).onRaise (λx=>do noteFrame x env;theTreesLotGoes x)) _ _ s;refine wpAny_noted ?_;rw[compTurn_list];refine RM (wpAny_standAt (RM (Sx (turn n s hI) (λr s₁ h₁=>?_) λ_ _ f=>f.elim)));cases r with
 |none=>exact RN h₁
 |some v=>
  refine RM (Sx h₁ (λ_ s₂ h₂=>?_) λ_ _ f=>f.elim);refine RM (Sx h₂ (λ_ s₃ h₃=>RM (Sx h₃ (λok s₄ h₄=>?_) λ_ _ f=>f.elim)) λ_ _ f=>f.elim);cases ok with
  |false=>exact RN ⟨rfl,h₄⟩
  |true=>
   exact RM (RM (Sx h₄ (λx s₅ h₅=>RM (Sx h₅ (λ_ s₆ h₆=>RN (RN ⟨rfl,h₆⟩)) λ_ _ f=>f.elim)) λ_ _ f=>f.elim))
noncomputable abbrev jJ(us:List Zn)(k:Nat):Obj:={cls:=.type "list",data:=.seq us.toArray k}
section
def Cf(hc:X.calm=true)(S:cN X N src scope)(hg:∀s H ex,PG (cxC X scope N s H ex) tg g)(ht:∀s H ex,wM (cxC X scope N s H ex) ifs tt)(he:∀s H ex,PE (cxC X scope N s H ex) elt te)(h:Rk X Rv σ tg (eP g tt te src σ Q) itv s2):RR (RX X.prog X.w) X.A (newList []) (λacc s₃=>RR (RX X.prog X.w) X.A (newFunctionEnv scope X.env.globals (kP X.env scope.names []) [] X.env.qual none .none (some X.env)) (λcenv s₄=>
   Tl (RX X.prog X.w) X.A (.compStart (.ListComp elt [⟨tg,iter,ifs,0⟩] scope pos) 0 itv acc {cenv with scope:=Vo scope X.env}) (yx X Rv σ Q acc cenv.locals) s₄) E s₃) E s2:=by
 obtain⟨it,fp,tn,J,H1,e,I2,T,st2,f2,W,⟨m0,w0⟩,turn⟩:=h;subst e;refine SF (wpAny_newFunctionEnv S.nocell (by intro y hy;simp at hy) (λh₁ hns₁ hsb₁=>?_) S.kind);dsimp only at hns₁ hsb₁ ⊢;generalize hH2:s2.heap.push {cls:=.type "list",dict:=none,data:=.seq ([]:List Zn).toArray}=H2 at hns₁ hsb₁ ⊢;have hC:H2.objs.size=s2.heap.objs.size+1:=by rw[<-hH2,Se]
 have push:∀b o,s2.heap.get? b=some o->H2.get? b=some o:=λb o e=>hH2▸RO _ e;have hD2:H2.get? s2.heap.objs.size=some (jJ [] 0):=hH2▸RT _ rfl;have hk:∀b o,H2.get? b=some o->h₁.get? b=some o:=λb o e=>hsb₁.extBut b o (XE (RP e)) (RO _ e);generalize hD:s2.heap.objs.size=D at*;have I3:aJ X Rv σ H1 {s2 with heap:=H2}:=I2.kept (t':=s2.toks) push;have fD:jz X Rv H1 D:=I2.fpOk (XS hD) (I2.hok.fresh (XS hD));have fpl:∀b∈fp,b<D:=λb hb=>by obtain⟨o,e,_⟩:=T.obj _ _ st2 b hb;rw[<-hD];exact RP e
 have fex:∀b∈D::fp,jz X Rv H1 b:=λb hb=>by
  rcases VO.mp hb with z|z
  .rw[z];exact fD
  .exact f2 b z
 have lex:∀b∈D::fp,b<({s2 with heap:=H2}:RQ).heap.objs.size:=λb hb=>by
  show b<H2.objs.size
  rcases VO.mp hb with z|z
  .rw[z,hC];exact XQ _
  .rw[hC];exact XT (fpl b z)
 have I4:=I3.enterC (N:=N) S fex lex (h1:=h₁) (tk:=s2.toks+([]:List (Str×Zn)).length) hns₁ hk;generalize hY:cxC X scope N {s2 with heap:=H2} H1 (D::fp)=Y at*;have yP:Y.prog=X.prog:=by rw[<-hY];rfl
 have yw:Y.w=X.w:=by rw[<-hY];rfl
 have yA:Y.A=X.A:=by rw[<-hY];rfl
 have yC:Y.env.locals=H2.objs.size:=by rw[<-hY];rfl
 have yK:Y.K=X.K:=by rw[<-hY];rfl
 have yc:Y.calm=true:=by rw[<-hY];exact hc
 have yfs:Y.fs=jK X.stack:=by rw[<-hY];rfl
 have yex:Y.ex=D::fp:=by rw[<-hY];rfl
 have ypn:Y.pn=[]:=by rw[<-hY];rfl
 have yxe:Y.xe=λ_ _=>False:=by rw[<-hY];rfl
 have ycl:∀x c,Y.env.cells.lookup x=some c->X.env.cells.lookup x=some c:=by rw[<-hY];exact λx c e=>oj X.env _ _ x c (λy d z=>by simp at z) e
 have ye:Y.env=compEnvC scope (kP X.env scope.names []) H2.objs.size X.env:=by rw[<-hY];rfl
 have ys0:Y.s₀={s2 with heap:=H2}:=by rw[<-hY];rfl
 have yH0:Y.H₀=H1:=by rw[<-hY];rfl
 have hgY:PG Y tg g:=by rw[<-hY];exact hg _ _ _
 have htY:wM Y ifs tt:=by rw[<-hY];exact ht _ _ _
 have heY:PE Y elt te:=by rw[<-hY];exact he _ _ _
 have nfs:∀b∈D::fp,b∉Y.fs:=λb hb z=>by
  rw[yfs]at z;obtain⟨f0,f1,f2',_⟩:=fex b hb
  rcases VO.mp (I2.stkSub b z)with q|q
  .exact f1 q
  .exact f2' q
 have ncl:∀b∈D::fp,∀x c,Y.env.cells.lookup x=some c->c≠b:=λb hb x c e=>(fex b hb).2.2.2.2.1 x c (ycl x c e);have nC:∀b∈D::fp,b≠Y.env.locals:=λb hb=>by rw[yC];exact XE (lex b hb)
 have stat:∀{H':Hp}{us:List Zn}{k:Nat},(∀b∈fp,H' b=none)->∀b∈fp,jz Y [(D,jJ us k)] H' b:=λ{H' us k} hn b hb=>
  ⟨hn b hb,nC b (VU _ hb),nfs b (VU _ hb),.inl (by rw[yex];exact VU _ hb),ncl b (VU _ hb),λp hp=>by
   rw[ypn]at hp;have hp1:p=(D,jJ us k):=by simpa using hp
   rw[hp1];exact XJ (fpl b hb)⟩
 have pinD:∀{σ':St}{H':Hp}{s':RQ}{pl:RL}{us:List Zn}{k:Nat},aJ Y pl σ' H' s'->s'.heap.get? D=some (jJ us k)->H' D=none->aJ Y [(D,jJ us k)] σ' H' s':=λ{σ' H' s' pl us k} I' e n=>
  I'.pins_of λp hp=>by
   have hp1:p=(D,jJ us k):=by simpa using hp
   subst hp1;exact⟨e,n,nC D VW,nfs D VW,λv z=>by cases z⟩
 have I4':aJ Y [(D,jJ [] 0)] (eU src σ) H1 {s2 with heap:=h₁,toks:=s2.toks+([]:List (Str×Zn)).length}:=pinD I4 (hk _ _ hD2) fD.1;have loop:Tl (RX X.prog X.w) X.A (.compLoop (.ListComp elt [⟨tg,iter,ifs,0⟩] scope pos) 0 (.ref it) (.ref D) Y.env) (yx X Rv σ Q (.ref D) H2.objs.size) {s2 with heap:=h₁,toks:=s2.toks+([]:List (Str×Zn)).length}:=by
  refine rO (λn s'=>∃i ys us k σ' H',aJ Y [(D,jJ us k)] σ' H' s'/\tn i s'.heap/\(∀b∈fp,H' b=none)/\aT ys us/\ys.length<=v1/\W i n ys σ' H') ?_ m0
   ⟨0,[],[],0,_,H1,I4',T.keep _ _ _ st2 λb hb o e=>hk _ _ (push b o e),λb hb=>(f2 b hb).1,.nil,XF _,w0⟩
  rintro n s3 ⟨i,ys,us,k,σ3,H3,I3',st3,fr3,rv,hz,w3⟩
  rcases turn i n ys σ3 H3 w3 with⟨stop,q⟩|⟨go,hlen,step⟩
  .have hd:=T.done Y yP yw yK yc i _ s3 σ3 H3 (λ_ _=>False) I3' (stat fr3) st3 stop;rw[yA]at hd;refine bL hd λr s4 ⟨hr,I4⟩=>?_;subst hr;obtain⟨eD,nD,_⟩:=I4.pin (D,jJ us k) (by simp);have eD:s4.heap.get? D=some (jJ us k):=eD;have nD:H3 D=none:=nD;have Rw:Un (jK X.stack) (D::fp) H1 H3 H2 s4.heap:=by have b:=I4.Rw;rw[yex,yH0,ys0,yfs]at b;exact b
   have hnD:∀b o,s2.heap.get? b=some o->b≠D:=λb o e=>by rw[<-hD];exact XE (RP e)
   have nx:∀b o,s2.heap.get? b=some o->b∉fp->b∉D::fp:=λb o e hb z=>(VO.mp z).elim (hnD b o e) hb;have un:Un (jK X.stack) fp H1 (upd H3 D (.lst ys)) s2.heap s4.heap:=
    ⟨λb o e n hb hx=>Rw.keep b o (push b o e) n hb (nx b o e hx),λb o e n hb hx=>Rw.slot b o (push b o e) n hb (nx b o e hx),λb o e n hx=>by rw[aq (hnD b o e)];exact Rw.free b o (push b o e) n (nx b o e hx),
     λb o e hx=>Rw.there b o (push b o e) (nx b o e hx),λb xs e=>by rw[aq (aB e fD.1)];exact Rw.tups b xs e,λb o u e=>by rw[aq (aB e fD.1)];exact Rw.frzs b o u e,
     λb ps e=>by rw[aq (aB e fD.1)];exact Rw.tbls b ps e⟩
   have hok:jM X.prog X.w (upd H3 D (.lst ys)) s4.heap:=λb u e=>by
    by_cases hb:b=D
    .subst hb;rw[ag]at e;cases e;exact⟨hz,us,k,rv,eD⟩
    .rw[aq hb]at e;have x:=I4.hok b u e;rw[yP,yw]at x;exact x.stay (λc v _ z=>z) (λc z=>by rw[aq (aB z nD)];exact z) λc xs z=>by rw[aq (aB z nD)];exact z
   have ho:s4.os=s2.os:=by rw[I4.os,ys0]
   have J':aJ X Rv σ (upd H3 D (.lst ys)) s4:=I2.call' (ch:=fp) ho un hok I4.bare λb hb=>⟨(f2 b hb).2.2.2.1,(f2 b hb).2.1,(f2 b hb).2.2.2.2.1,(f2 b hb).2.2.2.2.2⟩;refine⟨⟨_,rfl⟩,D,_,rfl,J',?_,?_,q D nD⟩
   .obtain⟨m,hm,_⟩:=I4.loc;rw[yC]at hm;exact⟨m,hm⟩
   .refine I2.fpOk (by rw[hC,hD];exact XI _) ?_;rw[aq (by rw[hC];exact XW D)];have z:=I4.free;rw[yC]at z;exact z
  .have hd:=T.item Y yP yw yK yc i _ s3 σ3 H3 (λ_ _=>False) I3' (stat fr3) st3 go;rw[yA]at hd;refine bL hd λr s4 ⟨u,hr,h4⟩=>?_;subst hr;refine bL h4 λ_ s5 ⟨x,H5,I5,r5,y5,st5,fr5⟩=>?_;have I5':=I5.pinned (stat fr5) (T.obj _ _ st5);have hg':=hgY _ s5 σ3 H5 x u _ I5' r5 (step x H5 y5);rw[yP,yw,yA,yxe]at hg';refine bL hg' λ_ s6 ⟨σ6,H6,I6,q6⟩=>?_;have ht':=htY _ s6 σ6 H6 _ I6 q6;rw[yP,yw,yA,yxe]at ht';refine bL ht' λok s7 ⟨H7,I7,q7⟩=>?_;have again:∀{σ8:St}{H8:Hp}{s8:RQ}{ys':List V}{us':List Zn}{k' m':Nat},aJ Y ([(D,jJ us' k')]++jk fp s5.heap) σ8 H8 s8->aT ys' us'->ys'.length<=v1->m'<n->W (i+1) m' ys' σ8 H8->
     ∃m,m<n/\∃i ys us k σ' H',aJ Y [(D,jJ us k)] σ' H' s8/\tn i s8.heap/\(∀b∈fp,H' b=none)/\aT ys us/\ys.length<=v1/\W i m ys σ' H':=λ{σ8 H8 s8 ys' us' k' m'} I8 rv' hz' hm w8=>by
    refine⟨m',hm,i+1,ys',us',k',σ8,H8,I8.unpinned,T.keep _ _ _ st5 λb hb o e=>(I8.pin (b,o) (V6 _ (V6 _ (iH hb e)))).1,λb hb=>?_,rv',hz',w8⟩;obtain⟨o,e,d⟩:=T.obj _ _ st5 b hb;exact(I8.pin (b,o) (V6 _ (V6 _ (iH hb e)))).2.1
   cases ok with
   |false=>
    obtain⟨m',hm,w8⟩:=q7;exact again I7 rv hz hm w8
   |true=>
    rw[RC rfl];have he':=heY _ s7 σ6 H7 _ I7 q7;rw[yP,yw,yA,yxe]at he';refine bL he' λu8 s8 ⟨v,H8,I8,r8,m',hm,w8⟩=>?_;obtain⟨eD,nD,_⟩:=I8.pin (D,jJ us k) (by simp);have eD:s8.heap.get? D=some (jJ us k):=eD;have nD:H8 D=none:=nD;have hl:=rv.length;refine TJ F.slot_list_append ⟨_,eD,rfl⟩ F.entry_list_append (F.args_list_append_2 _ _) (PySem.list_append D us.toArray k u8 (by rw[VS];lia)) ⟨eD,?_⟩;have q:=PySem.IsL.update eD (λa=>a.push u8);have eu:us.toArray.push u8=(us++[u8]).toArray:=by simp
    rw[eu]at q;obtain⟨k',q⟩:∃k',(s8.heap.update D (SN λa=>a.push u8)).get? D=some (jJ (us++[u8]) k'):=⟨_,q⟩;have I8':aJ Y (jk fp s5.heap) σ6 H8 s8:=I8.pins_of λp hp=>I8.pin p (V6 _ (V6 _ hp));have I9:aJ Y (jk fp s5.heap) σ6 H8 {s8 with heap:=s8.heap.update D (SN λa=>a.push u8)}:=I8'.turned (it:=D) (t':=s8.toks) (λb o hb e=>(SY s8.heap _ (Ne.symm hb)).trans e) nD (nC D VW)
     (.inl (by rw[yex];exact VW)) (ncl D VW) λp hp=>by
      rw[ypn]at hp;have hp:p∈jk fp s5.heap:=by simpa using hp
      exact XE (fpl _ (pA hp).1)
    refine again (us':=us++[u8]) (ys':=ys++[v]) (m':=m') (k':=k') (I9.pins_of λp hp=>?_) (rv.append (.cons r8 .nil)) (by rw[VV,WV];lia) hm w8
    rcases VY.mp hp with z|z
    .have hp1:p=(D,jJ (us++[u8]) k'):=by simpa using z
     subst hp1;exact⟨q,nD,nC D VW,nfs D VW,λv z=>by cases z⟩
    .exact I9.pin p (V6 _ z)
 rw[ye]at loop;exact codeAny_compStart_list loop (T.self _ 0 _ _ _ (T.keep _ _ _ st2 λb hb o e=>hk _ _ (push b o e)) loop)
def DF(hc:X.calm=true)(S:cN X N src scope)(hi:PI X tg iter wi)(hg:∀s H ex,PG (cxC X scope N s H ex) tg g)(ht:∀s H ex,wM (cxC X scope N s H ex) ifs tt)(he:∀s H ex,PE (cxC X scope N s H ex) elt te)(hs:∀x,Ut iter X.env x=pure x:=by intro _;rfl):PE X (.ListComp elt [⟨tg,iter,ifs,0⟩] scope pos) (tComp wi g tt te src):=by intro Rv s σ H Q I h;rw[eval_ListComp];refine wpAny_comprehension_free (use:=none) rfl hs (oV (S.cells I.ok)) S.kind S.names (bL (hi Rv s σ H _ I h) λv s1 h1=>bL h1 λit s2 h2=>?_);refine bL (Cf hc S hg ht he h2) λacc s3 h3=>bL h3 λcenv s4 h4=>SB h4 λr s' hr=>?_;obtain⟨⟨f,rfl⟩,D,H',rfl,J,⟨m,hm⟩,hf,q⟩:=hr;refine⟨m,hm,λh' sb=>?_⟩;exact⟨.ref D,H',J.turned (t':=s'.toks) (λb o hb e=>(sb.2 b hb).trans e) hf.1 hf.2.1 hf.2.2.2.1 hf.2.2.2.2.1 hf.2.2.2.2.2,rfl,q⟩
end
section
def PE.imp(h:PE X e t)(i:∀σ H Q,t' σ H Q->t σ H Q):PE X e t':=λRv s σ H Q I q=>h Rv s σ H Q I (i σ H Q q)
def bf.imp(h:bf X f r)(i:∀xs H Q,r' xs H Q->r xs H Q):bf X f r':=λRv s σ H xs us Q I r q=>h Rv s σ H xs us Q I r (i xs H Q q)
def sH.imp{id:String}(h:sH X id r)(i:∀x xs H Q,r' x xs H Q->r x xs H Q):sH X id r':=λRv s σ H x xs v us Q I rx r q=>h Rv s σ H x xs v us Q I rx r (i x xs H Q q)
noncomputable abbrev Str.tl(x:Str):List Nat:=x.cps.toList
def qv{x y:Str}(h:x.cps.toList=y.cps.toList):x=y:=by obtain⟨a⟩:=x;obtain⟨b⟩:=y;have:a=b:=Yw.mp h;rw[this]
def bP(x:Str):x.length=x.cps.toList.length:=by simp[Str.length]
def j9(x y:Str):(x++y).cps.toList=x.cps.toList++y.cps.toList:=by show(x.cps++y.cps).toList=_;simp
def zk:jL X (Sv .LtE) (λx y H Q=>∃i j,x=.str i/\y=.str j/\Q (.bl (!decide (j.cps.toList<i.cps.toList))) H):=by intro Rv s σ H x y v u Q I rx ry h;obtain⟨i,j,rfl,rfl,q⟩:=h;obtain⟨t,rfl⟩:=rx;obtain⟨t',rfl⟩:=ry;exact PySem.P.le_str (fin_bl I q rfl)
def Bp:sH X "str.upper" (λx vs H Q=>∃a,x=.str a/\vs=[]/\a.length<=v1/\(∀c∈a.cps.toList,c<128)/\Q (.str ⟨a.cps.map up1⟩) H):=by
 intro Rv s σ H x xs v us Q I rx r h;obtain⟨a,rfl,rfl,hz,ha,q⟩:=h;obtain⟨t,rfl⟩:=rx;cases r;have e:placed a (λ_ c=>Unicode.upperOf c)=a.cps.map up1:=placed_single a _ up1 λi c hc=>upperOf_ascii c (ha c (Wa hc));have hfit:Tz (placed a λ_ c=>Unicode.upperOf c).size=false:=by rw[e,Yv];unfold Tz;exact RA (by show¬a.cps.size > v1;have:a.length=a.cps.size:=rfl;lia)
 refine call_gives F.slot_str_upper (Uf _ _ _) F.entry_str_upper (F.args_str_upper_1 _) (gives_str_upper a t hfit) ?_;rw[e];exact⟨by show(a.cps.map up1).size<=v1;rw[Yv];exact hz,⟨.str _,H,I.tok _,⟨_,rfl⟩,q⟩⟩
noncomputable def iO(x:Str)(lo hi:Option Int):Str:=⟨((x.cps.toList.drop (HT.sIx x.length 0 lo)).take (HT.sIx x.length x.length hi - HT.sIx x.length 0 lo)).toArray⟩
theorem xu(l:List Nat):∀k i,i+k<=l.length->(List.range' i k).filterMap (λm=>l[m]?)=(l.drop i).take k
 |0,i,_=>by simp
 |k+1,i,h=>by have ih:=xu l k (i+1) (by lia);rw[List.range'_succ,Wx,VQ (by lia),WK (by lia),List.take_succ_cons];show l[i]::_=_;rw[ih]
def Bd(x:Str)(i k:Nat)(h:i+k<=x.length):((List.range k).map λ(m:Nat)=>i+m).filterMap (x.cps[·]?)=(x.cps.toList.drop i).take k:=by have hx:x.cps.toList.length=x.length:=(bP x).symm;rw[<-List.range'_eq_map_range,<-xu _ _ _ (by lia)];congr 1;funext m;rw[Ys]
def xW(lo hi:Option Int)(n:Nat):Sq lo hi 1 n=(List.range (HT.sIx n n hi - HT.sIx n 0 lo)).map λm=>HT.sIx n 0 lo+m:=by
 have cl:∀(v:Int)(d:Nat),max 0 (min (if v<0 then v+(n:Int)else v) (n:Int))=((HT.sIx n d (some v):Nat):Int):=λv d=>by
  show _=(((if v<0 then(v+(n:Int)).toNat else min v.toNat n):Nat):Int)
  by_cases hv:v<0
  .simp only[RC hv];lia
  .simp only[RB hv];lia
 have main:∀(a b:Nat),Vk (a:Int) (b:Int) 1=(List.range (b - a)).map λm=>a+m:=λa b=>by
  have e:(if(1:Int) > 0 then(if(a:Int)<(b:Int)then((b:Int) - a+1 - 1) / 1 else 0)else(if(a:Int) > b then((a:Int) - b - 1 - 1) / (-1)else 0)).toNat=b - a:=by rw[RC (by decide)];split<;>lia
  show(List.range (if(1:Int) > 0 then(if(a:Int)<(b:Int)then((b:Int) - a+1 - 1) / 1 else 0)else(if(a:Int) > b then((a:Int) - b - 1 - 1) / (-1)else 0)).toNat).map (λ(k:Nat)=>((a:Int)+1*(k:Int)).toNat)=_;rw[e];apply Wo;intro m _;lia
 have e1:HT.sIx n 0 none=0:=rfl;have e2:HT.sIx n n none=n:=rfl;unfold Sq;simp only[show(1:Int) > 0 by decide,if_true];cases lo with
 |none=>
  cases hi with
  |none=>exact main 0 n
  |some h=>show Vk ((0:Nat):Int) (max 0 (min (if h<0 then h+(n:Int)else h) (n:Int))) 1=_;rw[cl h n];exact main _ _
 |some l=>
  cases hi with
  |none=>show Vk (max 0 (min (if l<0 then l+(n:Int)else l) (n:Int))) (n:Int) 1=_;rw[cl l 0];exact main _ _
  |some h=>show Vk (max 0 (min (if l<0 then l+(n:Int)else l) (n:Int))) (max 0 (min (if h<0 then h+(n:Int)else h) (n:Int))) 1=_;rw[cl l 0,cl h n];exact main _ _
def yL(x:Str)(lo hi:Option Int):(⟨((Sq lo hi 1 x.length).filterMap (x.cps[·]?)).toArray⟩:Str)=iO x lo hi:=by
 unfold iO;rw[xW];have h1:=HT.sIx_le x.length 0 (XF _) lo;have h2:=HT.sIx_le x.length x.length (XD _) hi
 by_cases h:HT.sIx x.length 0 lo<=HT.sIx x.length x.length hi
 .rw[Bd x _ _ (by lia)]
 .have e:HT.sIx x.length x.length hi - HT.sIx x.length 0 lo=0:=by lia
  rw[e];simp
def iB(x:Str)(lo hi:Option Int):(iO x lo hi).cps.toList=(x.cps.toList.drop (HT.sIx x.length 0 lo)).take (HT.sIx x.length x.length hi - HT.sIx x.length 0 lo):=by unfold iO;simp
def iC(x:Str)(lo hi:Option Int):(iO x lo hi).length<=x.length:=by rw[bP,iB,bP x,V8,Wq];lia
def wu{x:Str}{lo hi:Option Int}(h:(Sq lo hi 1 x.length).length=x.length):iO x lo hi=x:=by
 rw[xW,VN,We]at h;have h1:=HT.sIx_le x.length 0 (XF _) lo;have h2:=HT.sIx_le x.length x.length (XD _) hi;apply qv;rw[iB]
 by_cases z:x.length=0
 .have e:x.cps.toList=[]:=WY.mp (by rw[<-bP];exact z);rw[e];simp
 .have e1:HT.sIx x.length 0 lo=0:=by lia
  rw[h,e1,WZ,WL (by rw[<-bP];exact XD _)]
def QU:V->Option Int->Option Int->Hp->VK->Prop:=λx lo hi H Q=>∃z,x=.str z/\z.length<=v1/\Q (.str (iO z lo hi)) H
def tP(p:VI v o):∃q:Option (Int×VL),v=partValue q/\q.map (·.1)=o:=by
 cases p with
 |none=>exact⟨none,rfl,rfl⟩
 |int i t=>exact⟨some (i,t),rfl,rfl⟩
def Kp:At X QU:=by
 intro Rv s σ H x v vl vu lo hi sl Q I rx hs pl pu h;obtain⟨z,rfl,hz,q⟩:=h;obtain⟨t,rfl⟩:=rx;obtain⟨l,rfl,el⟩:=tP pl;obtain⟨u,rfl,eu⟩:=tP pu;refine⟨"str",_,F.slot_str_getitem.lookup,Uf _ _ _,?_⟩;obtain⟨o,ho,hc,hd⟩:=hs;refine wpAny_getItem_str_slice (l:=l) (u:=u) (st:=none) ⟨o,ho,hc,hd⟩ rfl ?_;unfold sliceMade slicePicked;rw[el,eu];split
 .rename_i hw;have hw:(Sq lo hi 1 z.length).length=z.length:=by simpa using hw
  rw[wu hw]at q;exact⟨.str z,H,I,⟨t,rfl⟩,q⟩
 .have e:=yL z lo hi;have e':(⟨((Sq lo hi ((Option.map (·.1) (none:Option (Int×VL))).getD 1) z.length).filterMap (z.cps[·]?)).toArray⟩:Str)=iO z lo hi:=e;rw[e'];exact⟨XG (iC z lo hi) hz,⟨.str _,H,I.tok _,⟨_,rfl⟩,q⟩⟩
def oW:bf X (.type "int") (λxs H Q=>∃x n,xs=[.str x]/\PySem.intText? x=some n/\x.length<=640/\Q (.int n) H):=by intro Rv s σ H xs us Q I r h;obtain⟨x,n,rfl,hn,hl,q⟩:=h;obtain⟨u,rfl,t,rfl⟩:=dU r;exact PySem.W.KIN.call_text hn hl ⟨.int n,H,I.tok _,⟨_,rfl⟩,q⟩
theorem mP:∀{ys:List Str}{us:List Zn},aT (ys.map V.str) us->StrsAre us ys
 | [],us,r=>by rw[WJ]at r;cases r;exact .nil
 |y::ys,us,r=>by
  rw[V2]at r;cases r with
  |cons r1 r2=>
   obtain⟨t,e⟩:=r1;subst e;exact .cons y t (mP r2)
def DQ:sH X "str.join" (λx vs H Q=>∃sep p ys,x=.str sep/\vs=[.ref p]/\aR X.K H p (ys.map V.str)/\(ys.map (·.length)).sum+ys.length*sep.length<=16777216/\Q (.str (Vs sep ys)) H):=by intro Rv s σ H x xs v us Q I rx r h;obtain⟨sep,p,ys,rfl,rfl,hp,hz,q⟩:=h;obtain⟨t,rfl⟩:=rx;obtain⟨u,rfl,ru⟩:=dU r;cases ru;obtain⟨its,rv,pl,hl⟩:=I.list hp;exact join_list pl.isList (by simpa using mP rv) hz λt' k=>⟨.str _,H,I.tok _,⟨t',rfl⟩,q⟩
def sQ{its:List Zn}{ks:List Bool}(r:aT (ks.map V.bl) its):TruthOf P w A (λi v=>its.toArray[i]? =some v) (λi=>ks.getD i false):=by
 intro i v s Q E hv hq;have hv:its[i]? =some v:=by simpa using hv
 have hlen:=r.length;rw[VN]at hlen;have hi:i<its.length:=(V5.mp hv).1;have hk:(ks.map V.bl)[i]? =some (V.bl (ks.getD i false)):=by rw[VT,VQ (by lia),VX,VQ (by lia)];rfl
 obtain⟨u,hu,ru⟩:=r.get hk;rw[hv]at hu;cases hu;cases ru;exact Si hq
def yY(ks:List Bool):(List.range ks.length).all (λi=>ks.getD i false)=ks.all id:=by
 rw[Yg,Wc,Wc]
 constructor
 .intro h b hb;obtain⟨i,hi,e⟩:=Xr.mp hb;have:=h i (V4.mpr hi);rw[VX,VQ hi]at this;rw[<-e];exact this
 .intro h i hi;have hi:=V4.mp hi;rw[VX,VQ hi];exact h _ (V7 hi)
def Co(hc:X.calm=true):bf X (.builtin "all") (λxs H Q=>∃(p:Zo)(ks:List Bool),xs=[.ref p]/\aR X.K H p (ks.map V.bl)/\Q (.bl (ks.all id)) H):=by
 intro Rv s σ H xs us Q I r h;obtain⟨p,ks,rfl,hp,q⟩:=h;obtain⟨u,rfl,ru⟩:=dU r;cases ru;obtain⟨its,rv,pl,hl⟩:=I.list hp;have hlen:=rv.length;rw[VN]at hlen;refine call_all_walk (S5 pl.isList ?_);have hne:p≠s.heap.objs.size:=by obtain⟨o,ho,_⟩:=pl.isList;exact XE (RP ho)
 have W:=Vl (prog:=X.prog) (w:=X.w) (A:=X.A.in1) (show X.A.in1.handled=none from I.ok.hd hc) s.heap.objs.size p hne its.toArray;have hpush:∀o b ob,s.heap.get? b=some ob->(s.heap.push o).get? b=some ob:=λo b ob e=>RO _ e;refine⟨_,_,_,_,_,_,λi=>ks.getD i false,rfl,W,⟨⟨_,RT _ rfl,rfl,rfl⟩,pl.isList.at λo e=>hpush _ _ o e⟩,sQ rv,λh' tk k=>?_⟩;have e:(List.range its.toArray.size).all (λi=>ks.getD i false)=ks.all id:=by rw[<-yY,VS,<-hlen]
 rw[e];refine⟨.bl _,H,I.kept (t':=tk) (h':=h') λb ob e=>k b ob ?_ (hpush _ b ob e),rfl,q⟩;intro hb;have:b=s.heap.objs.size:=by simpa using hb
 subst this;exact RF (RP e) (XM _)
end
inductive yv(K:Frag)(H:Hp):Nat->V->V->Bool->Prop
 |flat {n:Nat} {x y:V} (hx:flatV x=true) (hy:flatV y=true):yv K H n x y (eqV x y)
 |same {n:Nat} {a:Zo}:yv K H n (.ref a) (.ref a) true
 |len {n:Nat} {a b:Zo} {xs ys:List V} (ha:aR K H a xs) (hb:aR K H b ys) (hab:a≠b) (hl:xs.length≠ys.length):yv K H (n+1) (.ref a) (.ref b) false
 |lst {n:Nat} {a b:Zo} {xs ys:List V} {es:Nat->Bool} (ha:aR K H a xs) (hb:aR K H b ys) (hab:a≠b) (hl:xs.length=ys.length)
   (he:∀i x y,xs[i]? =some x->ys[i]? =some y->yv K H n x y (es i)):yv K H (n+1) (.ref a) (.ref b) ((List.range xs.length).all es)
 |tup {n:Nat} {a b:Zo} {xs ys:List V} {es:Nat->Bool} (ha:dF K H a xs) (hb:dF K H b ys) (hab:a≠b)
   (he:∀i x y,xs[i]? =some x->ys[i]? =some y->yv K H n x y (es i)):yv K H (n+1) (.ref a) (.ref b) ((List.range (min xs.length ys.length)).all es&&xs.length == ys.length)
 |nref {n:Nat} {x:V} {a:Zo} {xs:List V} (hx:flatV x=true) (ha:aR K H a xs\/dF K H a xs):yv K H n x (.ref a) false
 |refn {n:Nat} {x:V} {a:Zo} {xs:List V} (hx:flatV x=true) (ha:aR K H a xs\/dF K H a xs):yv K H n (.ref a) x false
section
variable{X:Cx}{Rv:RL}{σ:St}{H:Hp}{s:RQ}
def fU(r:aT xs its)(h:j<its.toArray.size):∃x,xs[j]? =some x/\aQ x its.toArray[j]:=by
 have hl:=r.length;have hj:j<its.length:=by simpa using h
 have hx:xs[j]? =some (xs[j]'(by lia)):=VQ (by lia);obtain⟨u,hu,ru⟩:=r.get hx;refine⟨_,hx,?_⟩;have e:its.toArray[j]=u:=by rw[VQ hj]at hu;simpa using RH hu
 rw[e];exact ru
def rM(I:aJ X Rv σ H s):∀{n:Nat}{x y:V}{k:Bool},yv X.K H n x y k->∀(A:SJ),A.units+n<SK->∀{u v:Zn},aQ x u->aQ y v->SeqAt.EqAt A s u v k:=by
 intro n x y k h
 induction h with
 |flat hx hy=>exact λA _ u v ru rv=>B8 ru rv hx hy
 |same=>
  intro A _ u v ru rv;cases ru;cases rv;exact SeqAt.EqAt.same _
 |len ha hb hab hl=>
  intro A hu u v ru rv;cases ru;cases rv;obtain⟨its,r1,p1,_⟩:=I.list ha;obtain⟨its2,r2,p2,_⟩:=I.list hb;have l1:=r1.length;have l2:=r2.length;refine .of_refs hab (.lists_lengths p1.isList p2.isList (by simp;lia) (by lia))
 | @lst n a b xs ys es ha hb hab hl he ih=>
   intro A hu u v ru rv;cases ru;cases rv;obtain⟨its,r1,p1,_⟩:=I.list ha;obtain⟨its2,r2,p2,_⟩:=I.list hb;have l1:=r1.length;have l2:=r2.length;have e:(List.range xs.length).all es=(List.range its.toArray.size).all es:=by rw[VS,l1]
   rw[e];refine .of_refs hab (.lists p1.isList p2.isList (by simp;lia) (by lia) λj h1 h2=>?_);obtain⟨x,hx,rx⟩:=fU r1 h1;obtain⟨y,hy,ry⟩:=fU r2 h2;exact ih j x y hx hy A.in1 (by show A.units+1+n<SK;lia) rx ry
 | @tup n a b xs ys es ha hb hab he ih=>
   intro A hu u v ru rv;cases ru;cases rv;obtain⟨its,r1,p1,_⟩:=I.tuple ha;obtain⟨its2,r2,p2,_⟩:=I.tuple hb;have l1:=r1.length;have l2:=r2.length;have e:((List.range (min xs.length ys.length)).all es&&xs.length == ys.length)=((List.range (min its.toArray.size its2.toArray.size)).all es&&its.toArray.size == its2.toArray.size):=by rw[VS,VS,l1,l2]
   rw[e];refine .of_refs hab (.tuples (show s.heap.IsTuple a its.toArray from p1) (show s.heap.IsTuple b its2.toArray from p2) (by lia) λj h1 h2=>?_);obtain⟨x,hx,rx⟩:=fU r1 h1;obtain⟨y,hy,ry⟩:=fU r2 h2;exact ih j x y hx hy A.in1 (by show A.units+1+n<SK;lia) rx ry
 | @nref n x a xs hx ha=>
   intro A hu u v ru rv;cases rv
   rcases ha with ha|ha
   .obtain⟨its,r1,p1,_⟩:=I.list ha;have hl:=p1.isList;cases x with
    |non=>cases ru;exact .none_list hl (by lia)
    |bl b=>cases ru;exact .bool_list b hl (by lia)
    |int b=>obtain⟨t,rfl⟩:=ru;exact .int_list b t hl (by lia)
    |str b=>obtain⟨t,rfl⟩:=ru;exact .str_list b t hl (by lia)
    |_=>simp[flatV]at hx
   .obtain⟨its,r1,p1,_⟩:=I.tuple ha;have hl:s.heap.IsTuple a its.toArray:=p1;cases x with
    |non=>cases ru;exact .none_tuple hl (by lia)
    |bl b=>cases ru;exact .bool_tuple b hl (by lia)
    |int b=>obtain⟨t,rfl⟩:=ru;exact .int_tuple b t hl (by lia)
    |str b=>obtain⟨t,rfl⟩:=ru;exact .str_tuple b t hl (by lia)
    |_=>simp[flatV]at hx
 | @refn n x a xs hx ha=>
   intro A hu u v ru rv;cases ru
   rcases ha with ha|ha
   .obtain⟨its,r1,p1,_⟩:=I.list ha;have hl:=p1.isList;cases x with
    |non=>cases rv;exact .list_none hl (by lia)
    |bl b=>cases rv;exact .list_bool b hl (by lia)
    |int b=>obtain⟨t,rfl⟩:=rv;exact .list_int b t hl (by lia)
    |str b=>obtain⟨t,rfl⟩:=rv;exact .list_str b t hl (by lia)
    |_=>simp[flatV]at hx
   .obtain⟨its,r1,p1,_⟩:=I.tuple ha;have hl:s.heap.IsTuple a its.toArray:=p1;cases x with
    |non=>cases rv;exact .tuple_none hl (by lia)
    |bl b=>cases rv;exact .tuple_bool b hl (by lia)
    |int b=>obtain⟨t,rfl⟩:=rv;exact .tuple_int b t hl (by lia)
    |str b=>obtain⟨t,rfl⟩:=rv;exact .tuple_str b t hl (by lia)
    |_=>simp[flatV]at hx
end
inductive CU(K:Frag)(H:Hp):Nat->V->V->Bool->Prop
 |len {n:Nat} {a b:Zo} {xs ys:List V} (ha:aR K H a xs) (hb:aR K H b ys) (hl:xs.length≠ys.length):CU K H (n+1) (.ref a) (.ref b) false
 |lst {n:Nat} {a b:Zo} {xs ys:List V} {es:Nat->Bool} (ha:aR K H a xs) (hb:aR K H b ys) (hl:xs.length=ys.length)
   (he:∀i x y,xs[i]? =some x->ys[i]? =some y->yv K H n x y (es i)):CU K H (n+1) (.ref a) (.ref b) ((List.range xs.length).all es)
 |tup {n:Nat} {a b:Zo} {xs ys:List V} {es:Nat->Bool} (ha:dF K H a xs) (hb:dF K H b ys)
   (he:∀i x y,xs[i]? =some x->ys[i]? =some y->yv K H n x y (es i)):CU K H (n+1) (.ref a) (.ref b) ((List.range (min xs.length ys.length)).all es&&xs.length == ys.length)
section
def KN(hu:X.A.units+n<SK):jL X (Sv .Eq) (λx y H Q=>∃k,CU X.K H n x y k/\Q (.bl k) H):=by
 intro Rv s σ H x y v u Q I rx ry h;obtain⟨k,h,q⟩:=h;cases h with
 | @len n a b xs ys ha hb hl=>
   cases rx;cases ry;obtain⟨its,r1,p1,_⟩:=I.list ha;obtain⟨its2,r2,p2,_⟩:=I.list hb;have l1:=r1.length;have l2:=r2.length;exact SeqAt.eq_list_lengthsAt p1.isList p2.isList (by simp;lia) (by lia) (fin_bl I q rfl)
 | @lst n a b xs ys es ha hb hl he=>
   cases rx;cases ry;obtain⟨its,r1,p1,_⟩:=I.list ha;obtain⟨its2,r2,p2,_⟩:=I.list hb;have l1:=r1.length;have l2:=r2.length;refine SeqAt.eq_listAt (e:=es) p1.isList p2.isList (by simp;lia) (by lia) (λj h1 h2=>?_) (fin_bl I q (by rw[VS,l1]));obtain⟨x,hx,rx⟩:=fU r1 h1;obtain⟨y,hy,ry⟩:=fU r2 h2;exact rM I (he j x y hx hy) X.A.in1 (by show X.A.units+1+n<SK;lia) rx ry
 | @tup n a b xs ys es ha hb he=>
   cases rx;cases ry;obtain⟨its,r1,p1,_⟩:=I.tuple ha;obtain⟨its2,r2,p2,_⟩:=I.tuple hb;have l1:=r1.length;have l2:=r2.length;refine SeqAt.eq_tupleAt (e:=es) (show s.heap.IsTuple a its.toArray from p1) (show s.heap.IsTuple b its2.toArray from p2) (by lia) (λj h1 h2=>?_) (fin_bl I q (by rw[VS,VS,l1,l2]));obtain⟨x,hx,rx⟩:=fU r1 h1;obtain⟨y,hy,ry⟩:=fU r2 h2;exact rM I (he j x y hx hy) X.A.in1 (by show X.A.units+1+n<SK;lia) rx ry
def KI(hu:X.A.units+n<SK):jL X (Sv .NotEq) (λx y H Q=>∃k,CU X.K H n x y k/\Q (.bl (!k)) H):=by
 intro Rv s σ H x y v u Q I rx ry h;obtain⟨k,h,q⟩:=h;cases h with
 | @len n a b xs ys ha hb hl=>
   cases rx;cases ry;obtain⟨its,r1,p1,_⟩:=I.list ha;obtain⟨its2,r2,p2,_⟩:=I.list hb;have l1:=r1.length;have l2:=r2.length;exact Uw (SeqAt.RcNeAt.lists_lengths p1.isList p2.isList (by simp;lia) (by lia)) (fin_bl I q rfl)
 | @lst n a b xs ys es ha hb hl he=>
   cases rx;cases ry;obtain⟨its,r1,p1,_⟩:=I.list ha;obtain⟨its2,r2,p2,_⟩:=I.list hb;have l1:=r1.length;have l2:=r2.length;refine Uw (SeqAt.RcNeAt.lists (e:=es) p1.isList p2.isList (by simp;lia) (by lia) (λj h1 h2=>?_)) (fin_bl I q (by rw[VS,l1]));obtain⟨x,hx,rx⟩:=fU r1 h1;obtain⟨y,hy,ry⟩:=fU r2 h2;exact rM I (he j x y hx hy) X.A.in1 (by show X.A.units+1+n<SK;lia) rx ry
 | @tup n a b xs ys es ha hb he=>
   cases rx;cases ry;obtain⟨its,r1,p1,_⟩:=I.tuple ha;obtain⟨its2,r2,p2,_⟩:=I.tuple hb;have l1:=r1.length;have l2:=r2.length;refine Uw (SeqAt.RcNeAt.tuples (e:=es) (show s.heap.IsTuple a its.toArray from p1) (show s.heap.IsTuple b its2.toArray from p2) (by lia) (λj h1 h2=>?_)) (fin_bl I q (by rw[VS,VS,l1,l2]));obtain⟨x,hx,rx⟩:=fU r1 h1;obtain⟨y,hy,ry⟩:=fU r2 h2;exact rM I (he j x y hx hy) X.A.in1 (by show X.A.units+1+n<SK;lia) rx ry
end
def wH(op:Operator)(x y:V)(H:Hp)(Q:VK):Prop:=match op,x,y with
 | .Add,.int i,.int j=>Q (.int (i+j)) H
 | .Add,.str i,.str j=>i.length+j.length<=v1/\Q (.str (i++j)) H
 | .Add,.ref a,.ref b=>Kw (.ref a) (.ref b) H Q
 | .Sub,.int i,.int j=>Q (.int (i - j)) H
 | .Mult,.int i,.int j=>CP i j/\Q (.int (i*j)) H
 | .FloorDiv,.int i,.int j=>LY i j/\Q (.int (i / j)) H
 | .Mod,.int i,.int j=>0<j/\Q (.int (i % j)) H
 | .Pow,.int i,.int j=>PX i j/\Q (.int (i ^ j.toNat)) H
 |_,_,_=>False
section
variable{X:Cx}{a b c:Sz}{ta tb tc:TE}{pos:Vb}
def KP(op:Operator):jL X (TC op) (wH op):=by
 intro Rv s σ H x y v u Q I rx ry h;unfold wH at h;split at h
 .exact KQ Rv s σ H _ _ v u Q I rx ry ⟨_,_,rfl,rfl,h⟩
 .exact vI Rv s σ H _ _ v u Q I rx ry ⟨_,_,rfl,rfl,h.1,h.2⟩
 .exact KO Rv s σ H _ _ v u Q I rx ry h
 .exact KD Rv s σ H _ _ v u Q I rx ry ⟨_,_,rfl,rfl,h⟩
 .exact KJ Rv s σ H _ _ v u Q I rx ry ⟨_,_,rfl,rfl,h.1,h.2⟩
 .exact DJ Rv s σ H _ _ v u Q I rx ry ⟨_,_,rfl,rfl,h.1,h.2⟩
 .exact KL Rv s σ H _ _ v u Q I rx ry ⟨_,_,rfl,rfl,h.1,h.2⟩
 .exact KH Rv s σ H _ _ v u Q I rx ry ⟨_,_,rfl,rfl,h.1,h.2⟩
 .exact h.elim
noncomputable def eqB:V->V->Option Bool
 | .non,.non=>some true
 | .int i,.int j=>some (decide (i=j))
 | .bl i,.bl j=>some (decide (i=j))
 | .str i,.str j=>some (decide (i=j))
 | .non,.int _=>some false| .int _,.non=>some false| .non,.bl _=>some false| .bl _,.non=>some false| .non,.str _=>some false| .str _,.non=>some false
 | .int _,.str _=>some false| .str _,.int _=>some false| .bl _,.str _=>some false| .str _,.bl _=>some false
 |_,_=>none
def uy(h:eqB x y=some k):scal x y=true/\decide (x=y)=k:=by
 cases x<;>cases y<;>simp[eqB,scal]at h ⊢ <;>first|exact h|(subst h;rfl)
def gf(K:Frag)(op:VJ)(x y:V)(H:Hp)(Q:VK):Prop:=match op,x,y with
 | .Eq,.ref a,.ref b=>∃k,CU K H 20 (.ref a) (.ref b) k/\Q (.bl k) H
 | .NotEq,.ref a,.ref b=>∃k,CU K H 20 (.ref a) (.ref b) k/\Q (.bl (!k)) H
 | .Eq,x,y=>match eqB x y with|some k=>Q (.bl k) H|none=>False
 | .NotEq,x,y=>match eqB x y with|some k=>Q (.bl (!k)) H|none=>False
 | .Lt,.int i,.int j=>Q (.bl (decide (i<j))) H
 | .LtE,.int i,.int j=>Q (.bl (decide (i<=j))) H
 | .Gt,.int i,.int j=>Q (.bl (decide (j<i))) H
 | .GtE,.int i,.int j=>Q (.bl (decide (j<=i))) H
 | .Lt,.str i,.str j=>Q (.bl (decide (i.cps.toList<j.cps.toList))) H
 | .LtE,.str i,.str j=>Q (.bl (!decide (j.cps.toList<i.cps.toList))) H
 | .In,.str i,.str j=>Q (.bl (!(SR j i 0 j.length 1).isEmpty)) H
 | .NotIn,.str i,.str j=>Q (.bl (!(!(SR j i 0 j.length 1).isEmpty))) H
 | .In,x,.ref p=>L5 K false x (.ref p) H Q
 | .NotIn,x,.ref p=>L5 K true x (.ref p) H Q
 | .Is,x,.non=>Q (.bl (decide (x=.non))) H
 | .IsNot,x,.non=>Q (.bl (!decide (x=.non))) H
 |_,_,_=>False
def ln(op:VJ)(hu:X.A.units+20<SK):jL X (Sv op) (gf X.K op):=by
 intro Rv s σ H x y v u Q I rx ry h;unfold gf at h;split at h
 .exact KN hu Rv s σ H _ _ v u Q I rx ry h
 .exact KI hu Rv s σ H _ _ v u Q I rx ry h
 .split at h
  .rename_i k e;obtain⟨h1,h2⟩:=uy e;exact OF Rv s σ H _ _ v u Q I rx ry ⟨h1,by rw[h2];exact h⟩
  .exact h.elim
 .split at h
  .rename_i k e;obtain⟨h1,h2⟩:=uy e;exact OA Rv s σ H _ _ v u Q I rx ry ⟨h1,by rw[h2];exact h⟩
  .exact h.elim
 .exact OB Rv s σ H _ _ v u Q I rx ry ⟨_,_,rfl,rfl,h⟩
 .exact OC Rv s σ H _ _ v u Q I rx ry ⟨_,_,rfl,rfl,h⟩
 .exact OD Rv s σ H _ _ v u Q I rx ry ⟨_,_,rfl,rfl,h⟩
 .exact OE Rv s σ H _ _ v u Q I rx ry ⟨_,_,rfl,rfl,h⟩
 .exact zj Rv s σ H _ _ v u Q I rx ry ⟨_,_,rfl,rfl,h⟩
 .exact zk Rv s σ H _ _ v u Q I rx ry ⟨_,_,rfl,rfl,h⟩
 .exact zm Rv s σ H _ _ v u Q I rx ry ⟨_,_,rfl,rfl,h⟩
 .exact qW Rv s σ H _ _ v u Q I rx ry ⟨_,_,rfl,rfl,h⟩
 .exact zn Rv s σ H _ _ v u Q I rx ry h
 .exact qX Rv s σ H _ _ v u Q I rx ry h
 .exact KM Rv s σ H _ _ v u Q I rx ry ⟨rfl,h⟩
 .exact DI Rv s σ H _ _ v u Q I rx ry ⟨rfl,h⟩
 .exact h.elim
def cL(i:Nat):TE:=λσ H Q=>match σ[i]? with|some (some v)=>Q v H|_=>False
def cv(i:Nat)(hN:X.N[i]? =some x:=by rfl)(hv:Qf X.env.scope x:=by first|exact Or.inl rfl|exact Or.inr (Or.inl rfl)|exact Or.inr (Or.inr rfl))(hd:(x == ("__debug__":Str))=false:=by decide)(hcd:(x == ("__classdict__":Str))=false:=by decide):PE X (.Name x pos) (cL i):=(KC hN hv hd hcd).imp λσ H Q h=>by
 unfold cL at h;split at h
 .rename_i v e;exact⟨v,e,h⟩
 .exact h.elim
def mj(op:Operator)(ta tb:TE):TE:=λσ H Q=>ta σ H λx H1=>tb σ H1 λy H2=>wH op x y H2 Q
def ar(ha:PE X a ta)(hb:PE X b tb):PE X (.BinOp a op b pos) (mj op ta tb):=Ju (KP op) ha hb
def fL(K:Frag)(op:VJ)(ta tb:TE):TE:=λσ H Q=>ta σ H λx H1=>tb σ H1 λy H2=>gf K op x y H2 Q
def fN(Q:Bool->Hp->Prop):VK:=λx H=>match x with| .bl k=>Q k H|_=>False
def fM(h:fN Q x H):∃k,x=.bl k/\Q k H:=by
 unfold fN at h;split at h
 .exact⟨_,rfl,h⟩
 .exact h.elim
def LD(hu:X.A.units+20<SK)(ha:PE X a ta)(hb:PE X b tb)(hm:behindInMarks op b=false:=by first|exact nG _|with_unfolding_all rfl):PE X (.Compare a [op] [b] pos) (fL X.K op ta tb):=DG (ln op hu) ha hb hm
def ju(t:TE):TT:=λσ H Q=>t σ H (fN Q)
def Lz(hu:X.A.units+20<SK)(ha:PE X a ta)(hb:PE X b tb)(hm:behindInMarks op b=false:=by first|exact nG _|with_unfolding_all rfl):PT X (.Compare a [op] [b] pos) (ju (fL X.K op ta tb)):=by
 intro Rv s σ H Q I h;refine UU (bL (ha Rv s σ H _ I h) λv s1 ⟨x,H1,I1,r1,q1⟩=>bL (hb Rv s1 σ H1 _ I1 q1) λu s2 ⟨y,H2,I2,r2,q2⟩=>
  bL (ln op hu Rv s2 σ H2 x y v u _ I2 r1 r2 q2) λc s3 ⟨z,H3,I3,r3,q3⟩=>?_) hm
 obtain⟨k,e,q3⟩:=fM q3;subst e;cases r3;exact Si ⟨H3,I3,q3⟩
def rW(K:Frag)(op op':VJ)(ta tb tc:TE):TE:=λσ H Q=>ta σ H λx H1=>tb σ H1 λy H2=>gf K op x y H2 (fN λk H3=>if k=true then tc σ H3 λw' H4=>gf K op' y w' H4 Q else Q (.bl false) H3)
def Cn(hu:X.A.units+20<SK)(ha:PE X a ta)(hb:PE X b tb)(hc:PE X c tc)(hm:Vx [op,op'] [b,c]=false:=by with_unfolding_all rfl):PE X (.Compare a [op,op'] [b,c] pos) (rW X.K op op' ta tb tc):=by
 intro Rv s σ H Q I h;refine Compare_chain (bL (ha Rv s σ H _ I h) λv s1 ⟨x,H1,I1,r1,q1⟩=>chain_link (bL (hb Rv s1 σ H1 _ I1 q1) λu s2 ⟨y,H2,I2,r2,q2⟩=>
  bL (ln op hu Rv s2 σ H2 x y v u _ I2 r1 r2 q2) λd s3 ⟨z,H3,I3,r3,q3⟩=>?_)) hm
 obtain⟨k,e,q3⟩:=fM q3;subst e;cases r3;refine Si ?_;cases k with
 |false=>exact ite_ff ⟨.bl false,H3,I3,rfl,q3⟩
 |true=>exact ite_tt (chain_last (bL (hc Rv s3 σ H3 _ I3 q3) λw' s4 ⟨z',H4,I4,r4,q4⟩=>ln op' hu Rv s4 σ H4 y z' u w' Q I4 r2 r4 q4))
def rV(K:Frag)(op op':VJ)(ta tb tc:TE):TT:=λσ H Q=>ta σ H λx H1=>tb σ H1 λy H2=>gf K op x y H2 (fN λk H3=>if k=true then tc σ H3 λw' H4=>gf K op' y w' H4 (fN Q)else Q false H3)
def Ce(hu:X.A.units+20<SK)(ha:PE X a ta)(hb:PE X b tb)(hc:PE X c tc)(hm:Vx [op,op'] [b,c]=false:=by with_unfolding_all rfl):PT X (.Compare a [op,op'] [b,c] pos) (rV X.K op op' ta tb tc):=by
 intro Rv s σ H Q I h;refine isTrue_chain (bL (ha Rv s σ H _ I h) λv s1 ⟨x,H1,I1,r1,q1⟩=>test_link (bL (hb Rv s1 σ H1 _ I1 q1) λu s2 ⟨y,H2,I2,r2,q2⟩=>
  bL (ln op hu Rv s2 σ H2 x y v u _ I2 r1 r2 q2) λd s3 ⟨z,H3,I3,r3,q3⟩=>?_)) hm
 obtain⟨k,e,q3⟩:=fM q3;subst e;cases r3;refine Si ?_;cases k with
 |false=>exact ite_ff ⟨H3,I3,q3⟩
 |true=>
  refine ite_tt (test_last (bL (hc Rv s3 σ H3 _ I3 q3) λw' s4 ⟨z',H4,I4,r4,q4⟩=>bL (ln op' hu Rv s4 σ H4 y z' u w' _ I4 r2 r4 q4) λd' s5 ⟨z2,H5,I5,r5,q5⟩=>?_));obtain⟨k2,e2,q5⟩:=fM q5;subst e2;cases r5;exact Si ⟨H5,I5,q5⟩
def bq(h:PE X e t)(he:∀whole,Vz e X.env whole=(do let v<-whole;U8 e.pos;TF [v] (truthy v)):=by intro _;rfl):PT X e (ju t):=by intro Rv s σ H Q I hw;refine isTrue_plain (bL (h Rv s σ H _ I hw) λv s1 ⟨x,H1,I1,r1,q1⟩=>?_) (he _);obtain⟨d,rfl,q⟩:=fM q1;cases r1;exact Si ⟨H1,I1,q⟩
variable{rest:List Sz}
def Cr(ta tb:TE):TE:=λσ H Q=>ta σ H (fN λc H1=>if c=true then tb σ H1 Q else Q (.bl false) H1)
def Pu(ta tb:TE):TE:=λσ H Q=>ta σ H (fN λc H1=>if c=true then Q (.bl true) H1 else tb σ H1 Q)
def JR(ta:TE):TE:=λσ H Q=>ta σ H (fN λc H1=>Q (.bl (!c)) H1)
def eQ(ha:PE X a ta)(hb:PE X (.BoolOp .And (b::rest) pos) tb):PE X (.BoolOp .And (a::b::rest) pos) (Cr ta tb):=by
 intro Rv s σ H Q I h;refine BoolOp_and (bL (ha Rv s σ H _ I h) λv s1 ⟨x,H1,I1,r1,q1⟩=>?_);obtain⟨c,rfl,q1⟩:=fM q1;cases r1;refine Si ?_;cases c with
 |true=>exact hb Rv s1 σ H1 Q I1 q1
 |false=>exact⟨.bl false,H1,I1,rfl,q1⟩
def Po(ha:PE X a ta)(hb:PE X (.BoolOp .Or (b::rest) pos) tb):PE X (.BoolOp .Or (a::b::rest) pos) (Pu ta tb):=by
 intro Rv s σ H Q I h;refine BoolOp_or (bL (ha Rv s σ H _ I h) λv s1 ⟨x,H1,I1,r1,q1⟩=>?_);obtain⟨c,rfl,q1⟩:=fM q1;cases r1;refine Si ?_;cases c with
 |false=>exact hb Rv s1 σ H1 Q I1 q1
 |true=>exact⟨.bl true,H1,I1,rfl,q1⟩
def wx(ha:PE X a ta):PE X (.UnaryOp .Not a pos) (JR ta):=by intro Rv s σ H Q I h;refine UnaryOp_ (bL (ha Rv s σ H _ I h) λv s1 ⟨x,H1,I1,r1,q1⟩=>?_);obtain⟨c,rfl,q1⟩:=fM q1;cases r1;exact not_of (Si ⟨.bl (!c),H1,I1,rfl,q1⟩)
def Pw(ta:TE):TE:=λσ H Q=>ta σ H λx H1=>match x with| .int i=>Q (.int (-i)) H1|_=>False
def jt(ha:PE X a ta):PE X (.UnaryOp .USub a pos) (Pw ta):=by
 intro Rv s σ H Q I h;refine UnaryOp_ (bL (ha Rv s σ H _ I h) λv s1 ⟨x,H1,I1,r1,q1⟩=>?_);cases x with
 |int i=>exact J2 Rv s1 σ H1 _ v Q I1 r1 ⟨i,rfl,q1⟩
 |_=>exact q1.elim
end
def bC:R8 "len"=some (.builtin "len"):=by decide+kernel
def LH:R8 "min"=some (.builtin "min"):=by decide+kernel
def lD:R8 "all"=some (.builtin "all"):=by decide+kernel
def LJ:R8 "any"=some (.builtin "any"):=by decide+kernel
def cM:R8 "isinstance"=some (.builtin "isinstance"):=by decide+kernel
def qd:R8 "sorted"=some (.builtin "sorted"):=by decide+kernel
def ou:R8 "int"=some (.type "int"):=by decide+kernel
def Ew:R8 "bool"=some (.type "bool"):=by decide+kernel
def oq:R8 "str"=some (.type "str"):=by decide+kernel
def g6:R8 "list"=some (.type "list"):=by decide+kernel
def Cs:R8 "tuple"=some (.type "tuple"):=by decide+kernel
def Eu:R8 "dict"=some (.type "dict"):=by decide+kernel
def rX:R8 "set"=some (.type "set"):=by decide+kernel
def rY:R8 "enumerate"=some (.type "enumerate"):=by decide+kernel
def LG:R8 "zip"=some (.type "zip"):=by decide+kernel
inductive BT|int|bool|str|list|tuple|dict
 deriving DecidableEq
noncomputable def BT.s:BT->String
 | .int=>"int" | .bool=>"bool" | .str=>"str" | .list=>"list" | .tuple=>"tuple" | .dict=>"dict"
noncomputable def fX:BT->BT->Bool
 | .bool,.int=>true
 | .int,.int=>true| .bool,.bool=>true| .str,.str=>true| .list,.list=>true| .tuple,.tuple=>true| .dict,.dict=>true
 |_,_=>false
def kit_bt(K:Frag)(a T:BT):YG K (.type a.s) (.type T.s)=some (fX a T):=by cases a<;>cases T<;>kernel_rfl
def DW(K:Frag)(T:BT):YG K (.type "NoneType") (.type T.s)=some false:=by cases T<;>kernel_rfl
def D0(T:BT)(x:V)(H:Hp)(Q:VK):Prop:=match x with
 | .non=>Q (.bl false) H
 | .bl _=>Q (.bl (fX .bool T)) H
 | .int _=>Q (.bl (fX .int T)) H
 | .str _=>Q (.bl (fX .str T)) H
 | .ref a=>match H a with
   |some (.lst _)=>Q (.bl (fX .list T)) H
   |some (.frz _ (.lst _))=>Q (.bl (fX .list T)) H
   |some (.tup _)=>Q (.bl (fX .tuple T)) H
   |some (.dK _)=>Q (.bl (fX .dict T)) H
   |_=>False
 |_=>False
section
variable{X:Cx}{a b c e o:Sz}{ta tb tc te to:TE}{p p2 pos:Vb}{es:List Sz}{t:TA}
def OV(T:BT){Rv:RL}{s:RQ}{σ:St}{H:Hp}{x:V}{u:Zn}{Q:VK}(I:aJ X Rv σ H s)(rx:aQ x u)(h:D0 T x H Q):RR (RX X.prog X.w) X.A (call (.builtin "isinstance") [u,.type T.s]) (EP X Rv σ Q) X.xe s:=by
 have fin:∀{k:Bool}{tv:Zn},lE X.K H x tv->YG X.K tv (.type T.s)=some k->Q (.bl k) H->RR (RX X.prog X.w) X.A (call (.builtin "isinstance") [u,.type T.s]) (EP X Rv σ Q) X.xe s:=λty e q=>
  zN I rx ty e λtk=>⟨.bl _,H,I.tok tk,rfl,q⟩
 unfold D0 at h;cases x with
 |non=>exact fin .non (DW _ T) h
 |bl y=>exact fin (.bl y) (kit_bt _ .bool T) h
 |int y=>exact fin (.int y) (kit_bt _ .int T) h
 |str y=>exact fin (.str y) (kit_bt _ .str T) h
 |ref d=>
  dsimp only at h;split at h
  .rename_i e;exact fin (.lst e) (kit_bt _ .list T) h
  .rename_i e;exact fin (.frz e) (kit_bt _ .list T) h
  .rename_i e;exact fin (.tup e) (kit_bt _ .tuple T) h
  .rename_i e;exact fin (.dK e) (kit_bt _ .dict T) h
  .exact h.elim
 |_=>exact h.elim
def Qe(T:BT)(ta:TE):TE:=λσ H Q=>ta σ H λx H1=>D0 T x H1 Q
def Pq(T:BT)(ha:PE X a ta)(hg:Gl X "isinstance")(hm:X.mg "isinstance"=none)(hgT:Gl X n)(hmT:X.mg n=none)(hv:R8 n=some (.type T.s))(hn:n≠"__name__":=by decide)(hdb:(n == ("__debug__":Str))=false:=by decide)(he:RS [a,.Name n p2] X.env=(false,Sr a X.env)::RS [.Name n p2] X.env:=by rfl)(he2:RS [.Name n p2] X.env=(false,Sr (.Name n p2) X.env)::RS [] X.env:=by rfl)(hpl:(Sj pos (RS [.Name n p2] X.env)).any (·.1)=false:=by rfl):PE X (.Call (.Name "isinstance" p) [a,.Name n p2] [] pos) (Qe T ta):=by
 intro Rv s σ H Q I h;refine SL (j3 I hg hm cM ?_ (by decide) (by decide));have hA:PA X [a,.Name n p2] (aN ta (aN (tC (.ty T.s)) bG)):=pa_cons ha (pa_cons (xz hgT hmT hv rfl hn hdb) pan he2) he;refine PyProof.Rows.callWith_builtin1 (bL (hA pos Rv s σ H (λvs H1=>∃x,vs=[x,.ty T.s]/\D0 T x H1 Q) I ?_) λus s1 ⟨vs,H1,I1,r1,x,e,q1⟩=>?_) he hpl
 .have mono:(λ(x:V) H1=>D0 T x H1 Q)=λx H1=>(aN (tC (.ty T.s)) bG) σ H1 λxs H2=>∃y,x::xs=[y,.ty T.s]/\D0 T y H2 Q:=by
   funext x H1;apply propext
   constructor
   .intro q;exact⟨x,rfl,q⟩
   .rintro⟨y,e,q⟩;have:x=y:=by injection e
    subst this;exact q
  show ta σ H _;rw[<-mono];exact h
 .subst e;obtain⟨u,w',rfl,ru,rt⟩:=Az r1;cases rt;exact OV T I1 ru q1
def yu.imp(h:yu X r)(i:∀x y H Q,r' x y H Q->r x y H Q):yu X r':=λva sl Rv s σ H x y v u Q I rx ry q hs=>h va sl Rv s σ H x y v u Q I rx ry (i x y H Q q) hs
def Qb(K:Frag)(x y:V)(H:Hp)(Q:VK):Prop:=match x,y with
 | .str z,.int i=>z.length<=v1/\∃c,atI z.cps.toList i=some c/\Q (.str ⟨#[c]⟩) H
 | .ref q,.int i=>∃xs v,(aR K H q xs\/dF K H q xs)/\atI xs i=some v/\Q v H
 |_,_=>False
def Q4:yu X (Qb X.K):=(Lj (X:=X)).imp λx y H Q h=>by
 unfold Qb at h;split at h
 .obtain⟨h1,c,h2,q⟩:=h;exact .inr (.inr ⟨_,_,c,rfl,rfl,h1,h2,q⟩)
 .obtain⟨xs,v,h1,h2,q⟩:=h
  rcases h1 with h1|h1
  .exact .inl ⟨_,xs,_,v,rfl,rfl,h1,h2,q⟩
  .exact .inr (.inl ⟨_,xs,_,v,rfl,rfl,h1,h2,q⟩)
 .exact h.elim
def Ep(K:Frag)(ta tb:TE):TE:=λσ H Q=>ta σ H λx H1=>tb σ H1 λy H2=>Qb K x y H2 Q
def Pp(ha:PE X a ta)(hb:PE X b tb)(hs:si b:=by exact λ_ _=>rfl):PE X (.Subscript a b pos) (Ep X.K ta tb):=Oy Q4 ha hb hs
def yq(t:TE):TO:=λσ H Q=>t σ H λx H1=>match x with| .int i=>Q (some i) H1|_=>False
def cq(h:PE X e te):PO X (some e) (yq te):=by
 intro Rv s σ H Q I hw;rw[evalPart_some];refine bL (h Rv s σ H _ I hw) λu s1 ⟨x,H1,I1,r1,q1⟩=>?_;cases x with
 |int i=>
  obtain⟨t,rfl⟩:=r1;exact⟨some i,H1,I1,.int i t,q1⟩
 |_=>exact q1.elim
def At.imp(h:At X r)(i:∀x lo hi H Q,r' x lo hi H Q->r x lo hi H Q):At X r':=λRv s σ H x v vl vu lo hi sl Q I rx hs pl pu q=>h Rv s σ H x v vl vu lo hi sl Q I rx hs pl pu (i x lo hi H Q q)
def QR(K:Frag)(x:V)(lo hi:Option Int)(H:Hp)(Q:VK):Prop:=match x with
 | .str z=>z.length<=v1/\Q (.str (iO z lo hi)) H
 | .ref d=>∃xs,aR K H d xs/\∀q,H q=none->Q (.ref q) (upd H q (.lst (oU xs lo hi)))
 |_=>False
def QQ:At X (QR X.K):=((Kp (X:=X)).or Dm).imp λx lo hi H Q h=>by
 unfold QR at h;split at h
 .exact .inl ⟨_,rfl,h.1,h.2⟩
 .obtain⟨xs,h1,h2⟩:=h;exact .inr ⟨_,xs,rfl,h1,h2⟩
 .exact h.elim
def L6(K:Frag)(te:TE)(tl th:TO):TE:=λσ H Q=>te σ H λx H1=>tl σ H1 λl H2=>th σ H2 λu H3=>QR K x l u H3 Q
def Pn{lo hi:Option Sz}(he:PE X e te)(hl:PO X lo tl)(hu:PO X hi th):PE X (.Subscript e (.Slice lo hi none p2) pos) (L6 X.K te tl th):=Bg QQ he hl hu
def cB(r:List V->Hp->VK->Prop)(t:TA):TE:=λσ H Q=>t σ H λvs H1=>r vs H1 Q
def ug(K:Frag)(xs:List V)(H:Hp)(Q:VK):Prop:=match xs with
 | [.str z]=>z.length<=v1/\Q (.int z.length) H
 | [.ref d]=>∃ys,(aR K H d ys\/dF K H d ys)/\Q (.int ys.length) H
 |_=>False
def Ai:bf X (.builtin "len") (ug X.K):=((rT (X:=X)).or rS).imp λxs H Q h=>by
 unfold ug at h;split at h
 .exact .inr ⟨_,rfl,h.1,h.2⟩
 .obtain⟨ys,h1,h2⟩:=h;exact .inl ⟨_,ys,rfl,h1,h2⟩
 .exact h.elim
def K0(xs:List V)(H:Hp)(Q:VK):Prop:=match xs with
 | [.int i,.int j]=>Q (.int (if j<i then j else i)) H
 |_=>False
def Ag(hc:X.calm=true):bf X (.builtin "min") K0:=(Ah hc).imp λxs H Q h=>by
 unfold K0 at h;split at h
 .exact⟨_,_,rfl,h⟩
 .exact h.elim
def Kj(xs:List V)(H:Hp)(Q:VK):Prop:=match xs with
 | [.int i]=>i.natAbs.log2<1920/\Q (.str (toString i)) H
 |_=>False
def qb:bf X (.type "str") Kj:=(rQ (X:=X)).imp λxs H Q h=>by
 unfold Kj at h;split at h
 .exact⟨_,rfl,h.1,h.2⟩
 .exact h.elim
def BF(xs:List V)(H:Hp)(Q:VK):Prop:=match xs with
 | [.str x]=>∃n,PySem.intText? x=some n/\x.length<=640/\Q (.int n) H
 | [.bl k]=>Q (.int (if k then 1 else 0)) H
 |_=>False
def jI:bf X (.type "int") BF:=((oW (X:=X)).or Aj).imp λxs H Q h=>by
 unfold BF at h;split at h
 .obtain⟨n,h1,h2,q⟩:=h;exact .inl ⟨_,n,rfl,h1,h2,q⟩
 .exact .inr (.inr ⟨_,rfl,h⟩)
 .exact h.elim
def LN(K:Frag)(xs:List V)(H:Hp)(Q:VK):Prop:=match xs with
 | [.ref d]=>∃ks:List Bool,aR K H d (ks.map V.bl)/\Q (.bl (ks.all id)) H
 |_=>False
def Al(hc:X.calm=true):bf X (.builtin "all") (LN X.K):=(Co hc).imp λxs H Q h=>by
 unfold LN at h;split at h
 .obtain⟨ks,h1,q⟩:=h;exact⟨_,ks,rfl,h1,q⟩
 .exact h.elim
def Re{id:String}{x:Str}{r:List V->Hp->VK->Prop}(hc:bf X (.builtin id) r)(hv:R8 x=some (.builtin id))(hm:X.mg x=none)(ha:PA X (e::es) t)(hg:Gl X x:=by rfl)(hn:x≠"__name__":=by decide)(hdb:(x == ("__debug__":Str))=false:=by decide)(he:RS (e::es) X.env=(false,Sr e X.env)::RS es X.env:=by rfl)(hpl:(Sj pos (RS es X.env)).any (·.1)=false:=by rfl):PE X (.Call (.Name x p) (e::es) [] pos) (cB r t):=Bj hc hg hm hv ha hn hdb he hpl
def Pr(hc:bf X (.type T) r)(hv:R8 x=some (.type T))(hm:X.mg x=none)(ha:PA X (e::es) t)(hg:Gl X x:=by rfl)(hn:x≠"__name__":=by decide)(hdb:(x == ("__debug__":Str))=false:=by decide)(he:RS (e::es) X.env=(false,Sr e X.env)::RS es X.env:=by rfl)(hpl:(Sj pos (RS es X.env)).any (·.1)=false:=by rfl):PE X (.Call (.Name x p) (e::es) [] pos) (cB r t):=zg hc hg hm hv ha hn hdb he hpl
def Qd(r:V->List V->Hp->VK->Prop)(to:TE)(t:TA):TE:=λσ H Q=>to σ H λx H1=>match x with| .str z=>t σ H1 λxs H2=>r (.str z) xs H2 Q|_=>False
def Pm{name:Str}{apos cpos:Vb}{id:String}{r:V->List V->Hp->VK->Prop}(slot:Slot "str" name id)(hty:Vw (.builtin id)=pure (.type "method_descriptor"))(hm:sH X id r)(ho:PE X o to)(ha:PA X (e::es) t)(hbase:SE o name X.env (Sr o X.env)=Sr o X.env:=by rfl)(hfew:((Sj cpos (RS (e::es) X.env)).all (λx=> !x.1)&&(TQ cpos (S6 [] X.env)).all (λx=>x.1.isSome)
   &&decide ((e::es).length+([]:List Tw).length+(if([]:List Tw).isEmpty then 0 else 1)<30))=true:=by rfl) (hline:(apos.endLine == cpos.line)=true:=by rfl) (hs:RS (e::es) X.env=(false,Sr e X.env)::RS es X.env:=by rfl) (hplain:(Sj cpos (RS es X.env)).any (·.1)=false:=by rfl):PE X (.Call (.Attribute o name apos) (e::es) [] cpos) (Qd r to t):=by
 intro Rv s σ H Q I h;refine SH hbase hfew hline rfl (bL (ho Rv s σ H _ I h) λv s1 ⟨x,H1,I1,r1,q1⟩=>?_);cases x with
 |str z=>
  have ty:IZ X.K "str" (.str z) H1:=rfl;obtain⟨h1,h2⟩:=jV I1 r1 ty;refine⟨"str",id,PySem.F.plainAttrs_str,slot,hty,h1,h2,?_⟩;have hA:=ha cpos Rv s1 σ H1 _ I1 q1;rw[hs]at hA ⊢;refine Sw (by show(false||(Sj cpos (RS es X.env)).any (·.1))=false;rw[hplain]<;>rfl) (SD ?_)
  exact bL hA λus s2 ⟨vs,H2,I2,r2,q2⟩=>hm Rv s2 σ H2 _ vs v us Q I2 r1 r2 q2
 |_=>exact q1.elim
def Eo(r:V->List V->Hp->VK->Prop)(to:TE):TE:=λσ H Q=>to σ H λx H1=>match x with| .str z=>r (.str z) [] H1 Q|_=>False
def rP{name:Str}{apos cpos:Vb}{id:String}{r:V->List V->Hp->VK->Prop}(slot:Slot "str" name id)(hty:Vw (.builtin id)=pure (.type "method_descriptor"))(hm:sH X id r)(ho:PE X o to)(hbase:SE o name X.env (Sr o X.env)=Sr o X.env:=by rfl)(hline:(apos.endLine == cpos.line)=true:=by rfl):PE X (.Call (.Attribute o name apos) [] [] cpos) (Eo r to):=by
 intro Rv s σ H Q I h;refine wpAny_Call_method0_late hbase hline (bL (ho Rv s σ H _ I h) λv s1 ⟨x,H1,I1,r1,q1⟩=>?_);cases x with
 |str z=>
  have ty:IZ X.K "str" (.str z) H1:=rfl;obtain⟨h1,h2⟩:=jV I1 r1 ty;exact⟨"str",id,PySem.F.plainAttrs_str,slot,hty,h1,h2,Sw rfl (PySem.evalArgs_none (hm Rv s1 σ H1 _ [] v [] Q I1 r1 .nil q1))⟩
 |_=>exact q1.elim
def nQ(K:Frag)(x:V)(vs:List V)(H:Hp)(Q:VK):Prop:=match x,vs with
 | .str sep,[.ref d]=>∃ys:List Str,aR K H d (ys.map V.str)/\(ys.map (·.length)).sum+ys.length*sep.length<=16777216/\Q (.str (Vs sep ys)) H
 |_,_=>False
def Bs:sH X "str.join" (nQ X.K):=(DQ (X:=X)).imp λx vs H Q h=>by
 unfold nQ at h;split at h
 .obtain⟨ys,h1,h2,q⟩:=h;exact⟨_,_,ys,rfl,rfl,h1,h2,q⟩
 .exact h.elim
def Oj(x:V)(vs:List V)(H:Hp)(Q:VK):Prop:=match x,vs with
 | .str a,[]=>a.length<=v1/\(∀c∈a.cps.toList,c<128)/\Q (.str ⟨a.cps.map up1⟩) H
 |_,_=>False
def Bq:sH X "str.upper" Oj:=(Bp (X:=X)).imp λx vs H Q h=>by
 unfold Oj at h;split at h
 .exact⟨_,rfl,rfl,h.1,h.2.1,h.2.2⟩
 .exact h.elim
def Am(to te:TE):TE:=λσ H Q=>to σ H λx H1=>match x with
 | .ref l=>(∃xs,H1 l=some (.lst xs))/\te σ H1 λy H2=>∃xs,H2 l=some (.lst xs)/\xs.length<v1/\Q .non (upd H2 l (.lst (xs++[y])))
 |_=>False
def iP{apos cpos:Vb}(ho:PE X o to)(he:PE X e te)(hbase:SE o "append" X.env (Sr o X.env)=Sr o X.env:=by rfl)(hfew:((Sj cpos (RS [e] X.env)).all (λx=> !x.1)&&(TQ cpos (S6 [] X.env)).all (λx=>x.1.isSome)
   &&decide ([e].length+([]:List Tw).length+(if([]:List Tw).isEmpty then 0 else 1)<30))=true:=by rfl) (hline:(apos.endLine == cpos.line)=true:=by rfl) (hs:RS [e] X.env=(false,Sr e X.env)::RS [] X.env:=by rfl) (hplain:(Sj cpos (RS [] X.env)).any (·.1)=false:=by rfl):PE X (.Call (.Attribute o "append" apos) [e] [] cpos) (Am to te):=by
 intro Rv s σ H Q I h;refine SH hbase hfew hline rfl (bL (ho Rv s σ H _ I h) λv s1 ⟨x,H1,I1,r1,q1⟩=>?_);cases x with
 |ref l=>
  obtain⟨⟨xs0,e0⟩,q1⟩:=q1;have ty:IZ X.K "list" (.ref l) H1:=.inl ⟨rfl,xs0,aR.of e0⟩;obtain⟨h1,h2⟩:=jV I1 r1 ty;refine⟨"list","list.append",PySem.F.plainAttrs_list,PySem.F.slot_list_append,PySem.F.type_list_append,h1,h2,?_⟩;have hA:=(pa_cons he pan hs:PA X [e] (aN te bG)) cpos Rv s1 σ H1 (λvs H2=>∃y,vs=[y]/\∃xs,H2 l=some (.lst xs)/\xs.length<v1/\Q .non (upd H2 l (.lst (xs++[y])))) I1 (by
   show te σ H1 λy H2=>∃y',[y]=[y']/\_;have:(λ(y:V)(H2:Hp)=>∃xs,H2 l=some (.lst xs)/\xs.length<v1/\Q .non (upd H2 l (.lst (xs++[y]))))=λy H2=>∃y',[y]=[y']/\∃xs,H2 l=some (.lst xs)/\xs.length<v1/\Q .non (upd H2 l (.lst (xs++[y']))):=by
    funext y H2;apply propext
    constructor
    .intro z;exact⟨y,rfl,z⟩
    .rintro⟨y',e,z⟩;have:y=y':=by injection e
     subst this;exact z
   rw[<-this];exact q1)
  rw[hs]at hA ⊢;refine Sw (by show(false||(Sj cpos (RS [] X.env)).any (·.1))=false;rw[hplain]<;>rfl) (SD ?_)
  exact bL hA λus s2 ⟨vs,H2,I2,r2,y,e,xs,q3,q4,q5⟩=>zy Rv s2 σ H2 _ vs v us Q I2 r1 r2 ⟨l,xs,y,rfl,e,q3,q4,q5⟩
 |_=>exact q1.elim
structure cZ(P:RU)(w:RZ)(K:Frag)(mg:RJ)(Rw:R9)(name:Str)(ps:List Str)(k:Nat)(sp:Sp):Prop where
 ex:∃f fd,aY P w K mg Rw cY k f fd ps sp/\mg name=some (.ref f)/\YM K (.ref f)=true/\gS K fd ps []
def gQ(sp:Sp)(t:TA):TE:=λσ H Q=>t σ H λvs H1=>sp vs H1 Q E0
def En(C:cZ X.prog X.w X.K X.mg X.Rw name ps k sp)(hr:cw j X.A)(hkj:k<=j)(ha:PA X (e::es) t)(hg:Gl X name:=by rfl)(hdb:(name == ("__debug__":Str))=false:=by decide)(he:RS (e::es) X.env=(false,Sr e X.env)::RS es X.env:=by rfl)(hpl:(Sj pos (RS es X.env)).any (·.1)=false:=by rfl):PE X (.Call (.Name name p) (e::es) [] pos) (gQ sp t):=by obtain⟨f,fd,F,hm,hk,hb⟩:=C.ex;refine(DH F (hr.mono hkj) hg hm hk hb .nil xC ha hdb he hpl:PE X _ (AG sp [] E0 t)).imp λσ H Q h=>?_;unfold AG;simp only[V9];exact h
end
section
def Bh(hg:Gl X x)(h:∃u,X.mg x=some u/\aQ v u)(hd:(x == ("__debug__":Str))=false:=by decide):PE X (.Name x pos) (tC v):=by obtain⟨u,hm,r⟩:=h;exact DD hg hm r hd
end
def O0(hr:cw k A):A.units+20<SK:=by have:=hr.units;lia
def aj.upd(h:aj H H')(hd:H' d=none):aj H (upd H' d o):=λb ob e=>by have e':=h b ob e;rw[aq (aB e' hd)];exact e'
section
variable{X:Cx}{a b c e o:Sz}{ta tb tc te to:TE}{p p2 pos:Vb}{es:List Sz}{t:TA}
def iK(K:Frag)(hu:X.A.units+20<SK)(ha:PE X a ta)(hb:PE X b tb)(hm:behindInMarks op b=false:=by first|exact nG _|with_unfolding_all rfl)(hK:X.K=K:=by rfl):PE X (.Compare a [op] [b] pos) (fL K op ta tb):=by subst hK;exact LD hu ha hb hm
def aX(K:Frag)(hu:X.A.units+20<SK)(ha:PE X a ta)(hb:PE X b tb)(hm:behindInMarks op b=false:=by first|exact nG _|with_unfolding_all rfl)(hK:X.K=K:=by rfl):PT X (.Compare a [op] [b] pos) (ju (fL K op ta tb)):=by subst hK;exact Lz hu ha hb hm
def v8(K:Frag)(hu:X.A.units+20<SK)(ha:PE X a ta)(hb:PE X b tb)(hc:PE X c tc)(hm:Vx [op,op'] [b,c]=false:=by with_unfolding_all rfl)(hK:X.K=K:=by rfl):PE X (.Compare a [op,op'] [b,c] pos) (rW K op op' ta tb tc):=by subst hK;exact Cn hu ha hb hc hm
def xN(K:Frag)(hu:X.A.units+20<SK)(ha:PE X a ta)(hb:PE X b tb)(hc:PE X c tc)(hm:Vx [op,op'] [b,c]=false:=by with_unfolding_all rfl)(hK:X.K=K:=by rfl):PT X (.Compare a [op,op'] [b,c] pos) (rV K op op' ta tb tc):=by subst hK;exact Ce hu ha hb hc hm
def c7(K:Frag)(ha:PE X a ta)(hb:PE X b tb)(hs:si b:=by exact λ_ _=>rfl)(hK:X.K=K:=by rfl):PE X (.Subscript a b pos) (Ep K ta tb):=by subst hK;exact Pp ha hb hs
def xO(K:Frag){lo hi:Option Sz}(he:PE X e te)(hl:PO X lo tl)(hu:PO X hi th)(hK:X.K=K:=by rfl):PE X (.Subscript e (.Slice lo hi none p2) pos) (L6 K te tl th):=by subst hK;exact Pn he hl hu
def eZ(K:Frag)(hK:X.K=K:=by rfl):bf X (.builtin "len") (ug K):=by subst hK;exact Ai
def zM(K:Frag)(hc:X.calm=true:=by rfl)(hK:X.K=K:=by rfl):bf X (.builtin "all") (LN K):=by subst hK;exact Al hc
def JB(K:Frag)(hK:X.K=K:=by rfl):sH X "str.join" (nQ K):=by subst hK;exact Bs
def sw(K:Frag)(hl:PE X l tl)(hK:X.K=K:=by rfl):PI X tg l (nV K tl):=by subst hK;exact Dy hl
def P9(K:Frag){n:Nat}{k:Nat}{t:LQ}(h:L7 X es t)(hc:X.calm=true:=by rfl)(hn:(TL es X.env).length=n:=by rfl)(hst:List.findIdx? (λx=>x.1) (TL es X.env)=none:=by rfl)(hK:X.K=K:=by rfl):PG X (.Tuple es k pos) (zR K n t):=by subst hK;exact KB hc h hn hst
def kg(h:∃u,X.mg x=some u/\aQ v u)(hg:Gl X x:=by rfl)(hd:(x == ("__debug__":Str))=false:=by decide):PE X (.Name x pos) (tC v):=Bh hg h hd
def JC(T:BT)(hm:X.mg "isinstance"=none)(hmT:X.mg n=none)(hv:R8 n=some (.type T.s))(ha:PE X a ta)(hg:Gl X "isinstance":=by rfl)(hgT:Gl X n:=by rfl)(hn:n≠"__name__":=by decide)(hdb:(n == ("__debug__":Str))=false:=by decide)(he:RS [a,.Name n p2] X.env=(false,Sr a X.env)::RS [.Name n p2] X.env:=by rfl)(he2:RS [.Name n p2] X.env=(false,Sr (.Name n p2) X.env)::RS [] X.env:=by rfl)(hpl:(Sj pos (RS [.Name n p2] X.env)).any (·.1)=false:=by rfl):PE X (.Call (.Name "isinstance" p) [a,.Name n p2] [] pos) (Qe T ta):=Pq T ha hg hm hgT hmT hv hn hdb he he2 hpl
def P8{tg:Sz}{ta:TA}(hm:X.mg "range"=none)(ha:PA X [a] ta)(hg:Gl X "range":=by rfl)(hs:RS [a] X.env=[(false,Sr a X.env)]:=by rfl):PI X tg (.Call (.Name "range" p) [a] [] pos) (xX ta):=zf hg hm ha hs
def dc(dsc:TV)(XN:List Str)(h:wv dsc XN N src scope=true:=by decide+kernel)(he:X.env.scope=dsc:=by rfl)(hN:X.N=XN:=by rfl):cN X N src scope:=cN.of he hN h
def bA{i:Nat}{x:Str}(N:List Str)(hN:N.Nodup:=by decide+kernel)(hi:X.N[i]? =some x:=by rfl)(hx:LV X.env.scope x:=by first|exact Or.inl rfl|exact Or.inr rfl)(hf:X.fn x=true\/X.env.scope.names.lookup x=some .local:=by first|exact .inl rfl|exact .inr rfl)(hNX:X.N=N:=by rfl):PG X (.Name x pos) (ck i):=
 xx (hNX▸hN) hi hx hf
def fK(S:cN X N src scope)(hi:PI X tg iter wi)(hg:∀s H ex,PG (cxC X scope N s H ex) tg g)(ht:∀s H ex,wM (cxC X scope N s H ex) ifs tt)(he:∀s H ex,PE (cxC X scope N s H ex) e te)(hc:X.calm=true:=by rfl)(hs:∀x,Ut iter X.env x=pure x:=by intro _;rfl):PE X (.ListComp e [⟨tg,iter,ifs,0⟩] scope pos) (tComp wi g tt te src):=DF hc S hi hg ht he hs
end
def px{K:Frag}{i j:Int}{H:Hp}{Q:VK}:(gf K .LtE (.int i) (.int j) H Q)=(Q (.bl (decide (i<=j))) H):=rfl
def yZ{K:Frag}{i j:Str}{H:Hp}{Q:VK}:(gf K .LtE (.str i) (.str j) H Q)=(Q (.bl (!decide (j.cps.toList<i.cps.toList))) H):=rfl
def A3{K:Frag}{i j:Str}{H:Hp}{Q:VK}:(gf K .In (.str i) (.str j) H Q)=(Q (.bl (!(SR j i 0 j.length 1).isEmpty)) H):=rfl
def lY{K:Frag}{i:Int}{d:Zo}{H:Hp}{Q:VK}:(gf K .NotIn (.int i) (.ref d) H Q)=(L5 K true (.int i) (.ref d) H Q):=rfl
def kD{K:Frag}{i:Str}{d:Zo}{H:Hp}{Q:VK}:(gf K .In (.str i) (.ref d) H Q)=(L5 K false (.str i) (.ref d) H Q):=rfl
def Kv:(wH .Add (.ref a) (.ref b) H Q)=(Kw (.ref a) (.ref b) H Q):=rfl
def A2{K:Frag}{a:Str}{d:Zo}{H:Hp}{Q:VK}:(nQ K (.str a) [.ref d] H Q)=(∃ys:List Str,aR K H d (ys.map V.str)/\(ys.map (·.length)).sum+ys.length*a.length<=16777216/\Q (.str (Vs a ys)) H):=rfl
def QS:(Oj (.str a) [] H Q)=(a.length<=v1/\(∀c∈a.cps.toList,c<128)/\Q (.str ⟨a.cps.map up1⟩) H):=rfl
def r_b:fN Q (.bl k) H=Q k H:=rfl
noncomputable def eY:Sz->Bool
 | .Starred _ _=>false
 |_=>true
def dA(h:eY e=true):RS (e::es) env=(false,Sr e env)::RS es env:=by
 cases e<;>first|rfl|cases h
theorem fm:∀{es:List Sz},es.all eY=true->(Sj pos (RS es env)).any (·.1)=false
 | [],_=>rfl
 |e::es,h=>by
  rw[Wb,Ye]at h;rw[dA h.1];show(false||(Sj pos (RS es env)).any (·.1))=false
  rw[fm h.2];rfl
theorem CC:∀{es:List Sz},es.all eY=true->(Sj pos (RS es env)).all (λx=> !x.1)=true
 | [],_=>rfl
 |e::es,h=>by rw[Wb,Ye]at h;rw[dA h.1];show(!false&&(Sj pos (RS es env)).all (λx=> !x.1))=true;rw[CC h.2];rfl
section
variable{X:Cx}{a b c e o:Sz}{p p2 pos:Vb}{es:List Sz}{t:TA}
def az(ha:PE X e te)(hr:PA X es t)(h:eY e=true:=by rfl):PA X (e::es) (aN te t):=pa_cons ha hr (dA h)
def aG(C:cZ X.prog X.w X.K X.mg X.Rw name ps k sp)(hr:cw j X.A)(ha:PA X (e::es) t)(hkj:k<=j:=by decide)(hp:(e::es).all eY=true:=by rfl)(hg:Gl X name:=by rfl)(hdb:(name == ("__debug__":Str))=false:=by decide):PE X (.Call (.Name name p) (e::es) [] pos) (gQ sp t):=by have hp':=hp;rw[Wb,Ye]at hp';exact En C hr hkj ha hg hdb (dA hp'.1) (fm hp'.2)
def kB{id:String}{x:Str}{r:List V->Hp->VK->Prop}(hc:bf X (.builtin id) r)(hv:R8 x=some (.builtin id))(hm:X.mg x=none)(ha:PA X (e::es) t)(hp:(e::es).all eY=true:=by rfl)(hg:Gl X x:=by rfl)(hn:x≠"__name__":=by decide)(hdb:(x == ("__debug__":Str))=false:=by decide):PE X (.Call (.Name x p) (e::es) [] pos) (cB r t):=by have hp':=hp;rw[Wb,Ye]at hp';exact Re hc hv hm ha hg hn hdb (dA hp'.1) (fm hp'.2)
def uo(hc:bf X (.type T) r)(hv:R8 x=some (.type T))(hm:X.mg x=none)(ha:PA X (e::es) t)(hp:(e::es).all eY=true:=by rfl)(hg:Gl X x:=by rfl)(hn:x≠"__name__":=by decide)(hdb:(x == ("__debug__":Str))=false:=by decide):PE X (.Call (.Name x p) (e::es) [] pos) (cB r t):=by have hp':=hp;rw[Wb,Ye]at hp';exact Pr hc hv hm ha hg hn hdb (dA hp'.1) (fm hp'.2)
def ksm{name:Str}{apos cpos:Vb}{id:String}{r:V->List V->Hp->VK->Prop}(slot:Slot "str" name id)(hty:Vw (.builtin id)=pure (.type "method_descriptor"))(hm:sH X id r)(ho:PE X o to)(ha:PA X (e::es) t)(hp:(e::es).all eY=true:=by rfl)(hl:(e::es).length<20:=by decide)(hbase:SE o name X.env (Sr o X.env)=Sr o X.env:=by rfl)(hline:(apos.endLine == cpos.line)=true:=by rfl):PE X (.Call (.Attribute o name apos) (e::es) [] cpos) (Qd r to t):=by have hp':=hp;rw[Wb,Ye]at hp';refine Pm slot hty hm ho ha hbase ?_ hline (dA hp'.1) (fm hp'.2);rw[CC hp];show(true&&true&&decide ((e::es).length+0+0<30))=true;rw[Ry (by lia)];rfl
end
end L2
namespace L2
open PySem
def bV(P:St->Hp->Prop)(h:∀K:St->Hp->Prop,(∀σ' H',P σ' H'->K σ' H')->t {D with nx:=K} σ H)(h2:∀σ' H',P σ' H'->u D σ' H'):bn t u D σ H:=h (u D) h2
def bH(P:V->Hp->Prop)(h:∀Q:VK,(∀v H',P v H'->Q v H')->te σ H Q)(h2:∀v H',P v H'->u D (σ.set i (some v)) H'):bn (oA te (ck i)) u D σ H:=h _ h2
def c8(P:Bool->Hp->Prop)(hc:∀Q:Bool->Hp->Prop,(∀b H',P b H'->Q b H')->c σ H Q)(h1:∀H',P true H'->t {D with nx:=u D} σ H')(h2:∀H',P false H'->u D σ H'):bn (qq c t wY) u D σ H:=by
 refine hc _ λb H' p=>?_;cases b with
 |true=>exact iL (h1 H' p)
 |false=>exact hG (h2 H' p)
noncomputable def jG:List Sz->Option (List V)
 | []=>some []
 | .Constant (.int i) _ _::r=>(jG r).map (V.int i:: ·)
 | .Constant (.str x) _ _::r=>(jG r).map (V.str x:: ·)
 | .Constant (.bool b) _ _::r=>(jG r).map (V.bl b:: ·)
 | .Constant .none _ _::r=>(jG r).map (V.non:: ·)
 |_=>none
def cCs(vs:List V):TA:=λ_ H Q=>Q vs H
def iw:∀{es:List Sz}{vs:List V},jG es=some vs->PA X es (cCs vs):=by
 intro es
 induction es with
 |nil=>intro vs h;cases h;exact pan
 |cons e r ih=>
  intro vs h;unfold jG at h;split at h
  .rename_i e1;cases e1
  .rename_i e1;cases e1;obtain⟨ws,h1,h2⟩:=YA.mp h;subst h2;exact az ah (ih h1)
  .rename_i e1;cases e1;obtain⟨ws,h1,h2⟩:=YA.mp h;subst h2;exact az aU (ih h1)
  .rename_i e1;cases e1;obtain⟨ws,h1,h2⟩:=YA.mp h;subst h2;exact az gI (ih h1)
  .rename_i e1;cases e1;obtain⟨ws,h1,h2⟩:=YA.mp h;subst h2;exact az dj (ih h1)
  .cases h
def iE(n:Nat)(N:Nat->List V->St->Hp->Prop)(hn:n<=v1)(hlen:∀i ys σ H,N i ys σ H->ys.length<=i)(hgo:∀i ys σ H,N i ys σ H->i<n->J.go i H)(hstop:∀ys σ H,N n ys σ H->J.stop n H)(h0:N 0 [] (eU src σ) H1)(hturn:∀i ys σ' H' x H2,i<n->N i ys σ' H'->J.yld i H' x H2->∀(Kt:V->St->Hp->Prop)(Kf:St->Hp->Prop),(∀v σ3 H5,N (i+1) (ys++[v]) σ3 H5->Kt v σ3 H5)->(∀σ3 H4,N (i+1) ys σ3 H4->Kf σ3 H4)->
   g x σ' H2 λσ3 H3=>tt σ3 H3 λb H4=>if b=true then te σ3 H4 λv H5=>Kt v σ3 H5 else Kf σ3 H4) (hQ:∀ys σ' H' d,N n ys σ' H'->H' d=none->Q (.ref d) (upd H' d (.lst ys))):eP g tt te src σ Q J H1:=by
 refine⟨λi m ys σ' H'=>m=n - i/\i<=n/\N i ys σ' H',⟨n,by simp,XF _,h0⟩,?_⟩;rintro i m ys σ' H' ⟨rfl,hi,hN⟩
 by_cases hlt:i<n
 .refine .inr ⟨hgo i ys σ' H' hN hlt,?_,λx H2 y=>?_⟩
  .have:=hlen i ys σ' H' hN;lia
  .exact hturn i ys σ' H' x H2 hlt hN y _ _ (λv σ3 H5 h=>⟨n - (i+1),by lia,rfl,hlt,h⟩) (λσ3 H4 h=>⟨n - (i+1),by lia,rfl,hlt,h⟩)
 .have e:i=n:=by lia
  subst e;exact .inl ⟨hstop ys σ' H' hN,λd hd=>hQ ys σ' H' d hN hd⟩
def uu(n:Int)(hta:∀Q:List V->Hp->Prop,Q [.int n] H->ta σ H Q)(h0: -(2 ^ 62)<=n)(h1:n<2 ^ 62)(Pv:Nat->St->Hp->Prop)(hp0:Pv 0 σ H)(hs:∀i σ H,i<n.toNat->Pv i σ H->g (.int (0+i)) σ H λσ2 H2=>tb {D with nx:=Pv (i+1),ct:=Pv (i+1),bk:=D.nx} σ2 H2)(hd:∀σ H,Pv n.toNat σ H->D.nx σ H):tFor (xX ta) g tb D σ H:=
 hta _ ⟨n,rfl,h0,h1,zU Pv hp0 hs hd⟩
def iz(P:V->Hp->Prop)(htl:∀Q:VK,(∀v H',P v H'->Q v H')->tl σ H Q)(h:∀v H',P v H'->∃d xs,v=.ref d/\aR K H' d xs/\∃Pv:Nat->St->Hp->Prop,Pv 0 σ H'/\(∀i σ H,i<=xs.length->Pv i σ H->aR K H d xs)/\
   (∀(i:Nat) x σ H,xs[i]? =some x->Pv i σ H->g x σ H λσ2 H2=>tb {D with nx:=Pv (i+1),ct:=Pv (i+1),bk:=D.nx} σ2 H2)/\(∀σ H,Pv xs.length σ H->D.nx σ H)):tFor (nV K tl) g tb D σ H:=
 htl _ λv H' p=>by obtain⟨d,xs,rfl,hq,Pv,a,b,c,e⟩:=h v H' p;exact⟨d,rfl,⟨xs,hq⟩,BW Pv a b c e⟩
def uT(xs:Array Nat):Prop:= ∀i j,i<j->j<xs.size->xs.getD i 0<xs.getD j 0
def bF{α:Type}{xs:Array α}{i:Nat}{d:α}(h:i<xs.size):xs.getD i d=xs[i]:=by simp[Array.getD,h]
def LP{xs:Array Nat}{i d e:Nat}(h:i<xs.size):xs.getD i d=xs.getD i e:=by rw[bF h,bF h]
theorem ow(xs:Array Nat)(j:Nat)(hr:uT xs):∀f lo hi,hi - lo<=f->lo<=hi->hi<=xs.size->(∀k,k<lo->xs.getD k 0<j)->(∀k,hi<=k->k<xs.size->j<=xs.getD k 0)->TU xs j f lo hi<=xs.size/\(∀k,k<TU xs j f lo hi->xs.getD k 0<j)/\(∀k,TU xs j f lo hi<=k->k<xs.size->j<=xs.getD k 0)
 |0,lo,hi,h1,h2,h3,h4,h5=>by
  have:lo=hi:=by lia
  subst this;exact⟨h3,h4,h5⟩
 |f+1,lo,hi,h1,h2,h3,h4,h5=>by
  unfold TU
  by_cases h:lo<hi
  .rw[RC h];have hm:(lo+hi) / 2<xs.size:=by lia
   dsimp only;rw[LP (e:=0) hm]
   by_cases q:xs.getD ((lo+hi) / 2) 0<j
   .rw[RC q];refine ow xs j hr f _ hi (by lia) (by lia) h3 (λk hk=>?_) h5
    by_cases e:k=(lo+hi) / 2
    .rw[e];exact q
    .exact XO (hr k _ (by lia) hm) q
   .rw[RB q];refine ow xs j hr f lo _ (by lia) (by lia) (by lia) h4 (λk hk hks=>?_)
    by_cases e:k=(lo+hi) / 2
    .rw[e];lia
    .have:=hr ((lo+hi) / 2) k (by lia) hks;lia
  .rw[RB h];have:lo=hi:=by lia
   subst this;exact⟨h3,h4,h5⟩
def fc(xs:Array Nat)(j:Nat)(hr:uT xs):R0 xs j<=xs.size/\(∀k,k<R0 xs j->xs.getD k 0<j)/\(∀k,R0 xs j<=k->k<xs.size->j<=xs.getD k 0):=
 ow xs j hr _ 0 xs.size (by lia) (XF _) (XD _) (λk hk=>by lia) (λk h1 h2=>by lia)
def wI(hr:uT xs)(h:i<xs.size):R0 xs (xs.getD i 0+1)=i+1:=by
 obtain⟨h1,h2,h3⟩:=fc xs (xs.getD i 0+1) hr
 rcases XX (R0 xs (xs.getD i 0+1)) (i+1)with q|q|q
 .have:=h3 i (by lia) h;lia
 .exact q
 .have:=h2 (i+1) (by lia);have:=hr i (i+1) (by lia) (by lia);lia
def uL(hr:uT xs):R0 xs 0=0:=by
 obtain⟨h1,h2,h3⟩:=fc xs 0 hr
 rcases X1 (R0 xs 0)with q|q
 .exact q
 .have:=h2 0 q;lia
def EG(xs:Array Nat)(j:Nat):Prop:= ∀k,k<xs.size->¬xs.getD k 0=j
def Ec(hr:uT xs)(h:(xs[R0 xs j]? == some j)=false):EG xs j:=by
 obtain⟨h1,h2,h3⟩:=fc xs j hr;intro k hk e
 rcases XX k (R0 xs j)with q|q|q
 .have:=h2 k q;lia
 .rw[<-q,Yr hk,<-bF (d:=0) hk,e]at h;simp at h
 .have a1:=hr (R0 xs j) k q hk;have a2:=h3 (R0 xs j) (XD _) (by lia);lia
def hJ(xs:Array α)(p:Nat)(x:α):(Sd xs p x).size=xs.size+1:=by have h:=(TR xs p x).length_eq;simpa using h
def qR:uT xs<->xs.toList.Pairwise (· < ·):=by
 rw[W1]
 constructor
 .intro h i j hi hj hij;have hi':i<xs.size:=by simpa using hi
  have hj':j<xs.size:=by simpa using hj
  have:=h i j hij hj';rw[bF hi',bF hj']at this;simpa using this
 .intro h i j hij hj;have hi:i<xs.size:=by lia
  have:=h i j (by simpa using hi) (by simpa using hj) hij;rw[bF hi,bF hj];simpa using this
def vA(hr:uT xs)(hf:EG xs j):uT (Sd xs (R0 xs j) j):=by
 obtain⟨h1,h2,h3⟩:=fc xs j hr;have g:∀m(hm:m<xs.toList.length),xs.toList[m]=xs.getD m 0:=λm hm=>by
  have hm':m<xs.size:=by simpa using hm
  rw[bF hm'];simp
 rw[qR,Ux,Xs];have hp:=qR.mp hr;refine⟨hp.sublist (Xp _ _),WG.mpr ⟨λa ha=>?_,hp.sublist (List.drop_sublist _ _)⟩,λa ha b hb=>?_⟩
 .obtain⟨k,hk,rfl⟩:=Xu.mp ha;have hk':R0 xs j+k<xs.size:=by simpa[X0]using hk
  have a1:=h3 (R0 xs j+k) (by lia) hk';have a2:=hf _ hk';rw[g];lia
 .obtain⟨k,hk,rfl⟩:=List.mem_take_iff_getElem.mp ha;have hk1:k<R0 xs j:=by lia
  have a1:=h2 k hk1;rw[g]
  rcases VO.mp hb with rfl|hb
  .exact a1
  .obtain⟨m,hm,rfl⟩:=Xu.mp hb;have hm':R0 xs j+m<xs.size:=by simpa[X0]using hm
   have a2:=h3 (R0 xs j+m) (by lia) hm';rw[g];lia
structure SG(led:Bool)(n:Nat)(t:SetTable):Prop where
 fits:t.fits n=true
 led:t.led=led
 ris:uT t.place
def yJ{t:SetTable}{j:Nat}(hr:uT t.place)(h:t.slot j=.empty\/t.slot j=.dummy):EG t.place j:=by
 apply Ec hr;unfold Uy at h;dsimp only at h;cases e:(t.place[R0 t.place j]? == some j)with
 |false=>rfl
 |true=>
  rw[e]at h;simp at h
theorem jS{α:Type}(f:Nat->Option (Nat×α))(hf:∀j p,f j=some p->p.1=j):∀(l:List Nat),l.Pairwise (· < ·)->((l.filterMap f).map (·.1)).Pairwise (· < ·)/\∀a∈(l.filterMap f).map (·.1),a∈l
 | [],_=>⟨by simp,by simp⟩
 |j::l,h=>by
  obtain⟨h1,h2⟩:=WG.mp h;obtain⟨i1,i2⟩:=jS f hf l h2;rw[Wx];cases e:f j with
  |none=>exact⟨i1,λa ha=>VU _ (i2 a ha)⟩
  |some p=>
   have ep:=hf j p e;dsimp only;rw[V2,ep];refine⟨WG.mpr ⟨λa ha=>h1 a (i2 a ha),i1⟩,λa ha=>?_⟩
   rcases VO.mp ha with rfl|ha
   .exact VW
   .exact VU _ (i2 a ha)
def oa{α:Type}{l:List α}{i:Nat}{x:α}(h:l[i]? =some x):(x::l.eraseIdx i).Perm l:=by
 have hi:i<l.length:=(V5.mp h).1;have e:l=l.take i++x::l.drop (i+1):=by
  have e1:=(W2 i l).symm;have e2:l.drop i=x::l.drop (i+1):=by rw[WK hi];rw[VQ hi]at h;rw[RH h]
  rw[e2]at e1;exact e1
 rw[List.eraseIdx_eq_take_drop_succ]
 conv=>rhs;rw[e]
 exact List.perm_middle.symm
theorem xr(next:Nat->Nat):∀(f k:Nat)(left:List α)(out:Array α),left.length<=f->(Vp next f k left out).toList.Perm (out.toList++left)
 |0,k,left,out,h=>by have:left=[]:=WY.mp (by lia);subst this;simp[Vp]
 |f+1,k,left,out,h=>by
  unfold Vp;split
  .rename_i x e;have hi:next k % left.length<left.length:=(V5.mp e).1;have hl:=W9 hi;refine(xr next f (k+1) _ _ (by lia)).trans ?_;rw[Yx,Wi];exact List.Perm.append_left _ (oa e)
  .rename_i e;have:left=[]:=by
    cases left with
    |nil=>rfl
    |cons a l=>
     rw[VQ (XY _ (by simp))]at e;cases e
   subst this;simp
def zd(next:Nat->Nat)(xs:Array α):(TM next xs).toList.Perm xs.toList:=by have:=xr next xs.size 0 xs.toList #[] (by simp);simpa[TM]using this
noncomputable def xS(M:Nat):Nat->Nat->Nat
 |0,i=>i
 |n+1,i=>xS M n ((i*5+1) % M)
theorem kK(M:Nat):∀a b i,xS M (a+b) i=xS M b (xS M a i)
 |0,b,i=>by rw[XU];rfl
 |a+1,b,i=>by rw[Nat.succ_add];show xS M (a+b) _=xS M b (xS M a _);exact kK M a b _
noncomputable def P4(M:Nat):Nat->Nat->List Nat
 |0,_=>[]
 |n+1,i=>i::P4 M n ((i*5+1) % M)
theorem qV(M:Nat):∀n i e,e∈P4 M n i->∃t,t<n/\xS M t i=e
 |0,i,e,h=>by cases h
 |n+1,i,e,h=>by
  rcases VO.mp h with rfl|h
  .exact⟨0,XZ _,rfl⟩
  .obtain⟨t,ht,e2⟩:=qV M n _ e h;exact⟨t+1,by lia,e2⟩
def lG(M:Nat):Prop:=(∀e,e<M->e∈P4 M M 0)/\xS M M 0=0
noncomputable def chk(M:Nat):Bool:=(List.range M).all λe=>(P4 M M 0).contains e
def mF(h:chk M=true)(h2:xS M M 0=0):lG M:=⟨λe he=>by
 have:=Wc.mp h e (V4.mpr he);simpa using this,h2⟩
def JH:lG 8:=mF (by decide+kernel) (by decide+kernel)
def Lp:lG 32:=mF (by decide+kernel) (by decide+kernel)
def Eb:lG 128:=mF (by decide+kernel) (by decide+kernel)
def Ea:lG 512:=mF (by decide+kernel) (by decide+kernel)
def D9(f:lG M)(hi:i<M)(he:e<M):∃t,t<M/\xS M t i=e:=by
 obtain⟨s,hs,es⟩:=qV M M 0 i (f.1 i hi);obtain⟨t,ht,et⟩:=qV M M 0 e (f.1 e he)
 by_cases h:s<=t
 .refine⟨t - s,by lia,?_⟩;rw[<-es,<-kK,<-et];congr 1;lia
 .refine⟨M - s+t,by lia,?_⟩;rw[<-es,<-kK,<-et];have:s+(M - s+t)=M+t:=by lia
  rw[this,kK,f.2]
noncomputable def lp(mask:Nat)(h:Int):Nat->Nat×Nat
 |0=>(Su h % (mask+1),Su h)
 |n+1=>SetTable.leap mask (lp mask h n).1 (lp mask h n).2
theorem xH(mask:Nat)(h:Int):∀n,(lp mask h n).2=Su h / 32 ^ n
 |0=>by simp[lp]
 |n+1=>by show(lp mask h n).2 / 32=_;rw[xH mask h n,Nat.div_div_eq_div_mul,Nat.pow_succ]
def Ex(h:Int):Su h<2 ^ 64:=by unfold Su;lia
def Jx(mask:Nat)(h:Int):∀n,(lp mask h n).1<mask+1
 |0=>XY _ (XZ _)
 |n+1=>XY _ (XZ _)
def DU(mask:Nat)(h:Int)(hn:13<=n):(lp mask h n).2=0:=by rw[xH];apply Nat.div_eq_of_lt;refine XH (Ex h) ?_;have:(32:Nat) ^ 13<=32 ^ n:=Nat.pow_le_pow_right (by decide) hn;refine XG ?_ this;decide
theorem xG(mask:Nat)(h:Int):∀t,(lp mask h (13+t)).1=xS (mask+1) t (lp mask h 13).1
 |0=>rfl
 |t+1=>by
  have e:xS (mask+1) (t+1) (lp mask h 13).1=(xS (mask+1) t (lp mask h 13).1*5+1) % (mask+1):=by rw[kK];rfl
  rw[e,<-xG mask h t];show((lp mask h (13+t)).1*5+1+(lp mask h (13+t)).2 / 32) % (mask+1)=_;rw[DU mask h (by lia)]
def xI(f:lG (mask+1))(h:Int)(he:e<=mask):∃N,N<=mask+13/\(lp mask h N).1=e:=by obtain⟨t,ht,et⟩:=D9 f (Jx mask h 13) (Nat.lt_succ_of_le he);exact⟨13+t,by lia,by rw[xG,et]⟩
def wN(mask:Nat)(h:Int)(n c:Nat)(p:U4):Prop:=
 p.i=(lp mask h n).1/\p.perturb=(lp mask h n).2/\p.j=(lp mask h n).1+c/\c+p.more=Sm mask (lp mask h n).1 - (lp mask h n).1
noncomputable def sl(mask:Nat)(h:Int)(n c:Nat):Nat:=(lp mask h n).1+c
def nv(mask i:Nat):Sm mask i - i<=9:=by unfold Sm;split<;>lia
def wN.start{t:SetTable}{h:Int}:wN t.mask h 0 0 (t.probeStart h):=⟨rfl,rfl,rfl,by rw[XU];rfl⟩
theorem wN.more{t:SetTable}{h:Int}{n c:Nat}{p:U4}(a:wN t.mask h n c p)(hm:0<p.more):wN t.mask h n (c+1) (t.advance p):=by obtain⟨a1,a2,a3,a4⟩:=a;unfold TY;rw[RC hm];exact⟨a1,a2,by show p.j+1=_;lia,by show c+1+(p.more - 1)=_;lia⟩
def wN.leap{t:SetTable}{h:Int}{n c:Nat}{p:U4}(a:wN t.mask h n c p)(hm:¬0<p.more):wN t.mask h (n+1) 0 (t.advance p):=by obtain⟨a1,a2,a3,a4⟩:=a;unfold TY;rw[RB hm,a1,a2];exact⟨rfl,rfl,rfl,by rw[XU];rfl⟩
def iY(n c n' c':Nat):Prop:=n<n'\/(n=n'/\c<c')
def kS(mask:Nat)(h:Int)(n c:Nat):Prop:=c<=Sm mask (lp mask h n).1 - (lp mask h n).1
def wN.ok(a:wN mask h n c p):kS mask h n c:=by obtain⟨_,_,_,a4⟩:=a;unfold kS;lia
theorem rJ(hd:t.dummies= #[])(hashAt:Nat->Int)(he:t.slot (sl t.mask h N 0)=.empty):∀f n c p,wN t.mask h n c p->(n<N\/(n=N/\c=0))->10*(N - n)+1<=f+c->∃n' c' p',wN t.mask h n' c' p'/\(n'<N\/(n'=N/\c'=0))/\(iY n c n' c'\/(n=n'/\c=c'))/\(∀a b,kS t.mask h a b->(iY n c a b\/(n=a/\c=b))->iY a b n' c'->∃i,t.slot (sl t.mask h a b)=.live i/\¬hashAt i=h)/\((t.slot (sl t.mask h n' c')=.empty/\SQ t hashAt h f p=some (.empty (sl t.mask h n' c') p.dummy))\/
    (∃i,t.slot (sl t.mask h n' c')=.live i/\hashAt i=h/\SQ t hashAt h f p=some (.candidate (sl t.mask h n' c') i (t.advance p'))/\n'<N/\p'.dummy=p.dummy))
 |0,n,c,p,a,hn,hf=>by have:=nv t.mask (lp t.mask h n).1;have:=a.ok;unfold kS at this;lia
 |f+1,n,c,p,a,hn,hf=>by
  have hj:p.j=sl t.mask h n c:=a.2.2.1;have nodum:∀j,¬t.slot j=.dummy:=λj e=>by
   unfold Uy at e;rw[hd]at e;dsimp only at e;split at e
   .cases e
   .rw[RB (by simp[Vt])]at e;cases e
  cases q:t.slot p.j with
  |empty=>
   refine⟨n,c,p,a,hn,.inr ⟨rfl,rfl⟩,λx y _ h1 h2=>?_,.inl ⟨by rw[<-hj];exact q,?_⟩⟩
   .exfalso
    rcases h1 with h1|h1<;>rcases h2 with h2|h2<;>(unfold iY at *;lia)
   .unfold SQ;rw[q,hj]
  |dummy=>exact RF q (nodum _)
  |live i=>
   by_cases hh:hashAt i=h
   .refine⟨n,c,p,a,hn,.inr ⟨rfl,rfl⟩,λx y _ h1 h2=>?_,.inr ⟨i,by rw[<-hj];exact q,hh,?_,?_,rfl⟩⟩
    .exfalso
     rcases h1 with h1|h1<;>rcases h2 with h2|h2<;>(unfold iY at *;lia)
    .unfold SQ;rw[q];dsimp only;rw[RC (by simp[hh]),hj]
    .rcases hn with hn|⟨rfl,rfl⟩
     .exact hn
     .rw[hj,he]at q;cases q
   .have hlt:n<N:=by
     rcases hn with hn|⟨rfl,rfl⟩
     .exact hn
     .rw[hj,he]at q;cases q
    have hgo:SQ t hashAt h (f+1) p=SQ t hashAt h f (t.advance p):=by
     conv=>lhs;unfold SQ
     rw[q];dsimp only;rw[RB (by simp[hh])]
    rw[hgo];have hdm:(t.advance p).dummy=p.dummy:=by unfold TY;split<;>rfl
    by_cases hm:0<p.more
    .obtain⟨n',c',p',b1,b2,b3,b4,b5⟩:=rJ hd hashAt he f n (c+1) (t.advance p) (a.more hm) (.inl hlt) (by lia);refine⟨n',c',p',b1,b2,.inl (by unfold iY at *;lia),λx y o h1 h2=>?_,by rw[hdm]at b5;exact b5⟩
     by_cases e:x=n/\y=c
     .obtain⟨rfl,rfl⟩:=e;exact⟨i,by rw[<-hj];exact q,hh⟩
     .exact b4 x y o (by unfold iY at *;lia) h2
    .have hc9:=nv t.mask (lp t.mask h n).1;have hck:=a.2.2.2;obtain⟨n',c',p',b1,b2,b3,b4,b5⟩:=rJ hd hashAt he f (n+1) 0 (t.advance p) (a.leap hm) (by lia) (by lia);refine⟨n',c',p',b1,b2,.inl (by unfold iY at *;lia),λx y o h1 h2=>?_,by rw[hdm]at b5;exact b5⟩
     by_cases e:x=n/\y=c
     .obtain⟨rfl,rfl⟩:=e;exact⟨i,by rw[<-hj];exact q,hh⟩
     .refine b4 x y o ?_ h2;unfold kS at o;unfold iY at*
      by_cases e2:x=n
      .subst e2;lia
      .lia
def la{t:SetTable}(hr:uT t.place){j i:Nat}:t.slot j=.live i<->i<t.place.size/\t.place.getD i 0=j:=by
 obtain⟨b1,b2,b3⟩:=fc t.place j hr;unfold Uy;dsimp only
 constructor
 .intro h;split at h
  .rename_i e;cases h;have hlt:R0 t.place j<t.place.size:=by
    rcases Nat.lt_or_ge (R0 t.place j) t.place.size with q|q
    .exact q
    .rw[Yu q]at e;simp at e
   rw[Yr hlt]at e;refine⟨hlt,?_⟩;rw[bF hlt];simpa using e
  .split at h<;>cases h
 .rintro⟨hi,e⟩;have hb:R0 t.place j=i:=by
   rcases XX (R0 t.place j) i with q|q|q
   .have a1:=b3 (R0 t.place j) (XD _) (by lia);have a2:=hr _ _ q hi;lia
   .exact q
   .have:=b2 i q;lia
  rw[hb,Yr hi,RC];rw[bF hi]at e;simp[e]
def gr{t:SetTable}(hr:uT t.place)(hd:t.dummies= #[]){j:Nat}:t.slot j=.empty<->EG t.place j:=by
 constructor
 .intro h;exact yJ hr (.inl h)
 .intro h;cases e:t.slot j with
  |empty=>rfl
  |live i=>
   obtain⟨h1,h2⟩:=(la hr).mp e;exact RF h2 (h i h1)
  |dummy=>
   exfalso;unfold Uy at e;rw[hd]at e;dsimp only at e;split at e
   .cases e
   .rw[RB (by simp[Vt])]at e;cases e
theorem qT:∀(n:Nat)(l:List Nat),l.length<n->∃s,s<n/\¬s∈l
 |0,l,h=>by lia
 |n+1,l,h=>by
  by_cases m:n∈l
  .have hl:=Xa m;have hp:=Xb m;obtain⟨s,h1,h2⟩:=qT n (l.erase n) (by lia);exact⟨s,by lia,λz=>h2 ((Xc (by lia)).mpr z)⟩
  .exact⟨n,by lia,m⟩
def zX{t:SetTable}(hr:uT t.place)(hd:t.dummies= #[])(hf:t.place.size<=t.mask):∃e,e<=t.mask/\t.slot e=.empty:=by obtain⟨e,h1,h2⟩:=qT (t.mask+1) t.place.toList (by simp;lia);refine⟨e,by lia,(gr hr hd).mpr λk hk z=>h2 ?_⟩;rw[<-z,bF hk];simp
def CK(t:SetTable)(h:Int)(j:Nat):Prop:= ∃n c,kS t.mask h n c/\sl t.mask h n c=j/\∀a b,kS t.mask h a b->iY a b n c->¬t.slot (sl t.mask h a b)=.empty
structure uW(es:Array (Int×Zn))(t:SetTable):Prop where
 ps:t.place.size=es.size
 ris:uT t.place
 nd:t.dummies= #[]
 full:lG (t.mask+1)
 odd:t.mask % 2=1
 fit:t.place.size<=t.mask
 pl:∀i,i<es.size->CK t (es.getD i (0,.none)).1 (t.place.getD i 0)
def Jm(o:kS mask h n c):sl mask h n c<=mask:=by have:=Jx mask h n;unfold kS Sm at o;unfold sl;split at o<;>lia
theorem uW.fits(g:uW es t):t.fits es.size=true:=by unfold Vj SetTable.fill;rw[g.nd,g.ps];have:=g.fit;rw[g.ps]at this;simp[this]
theorem uW.fresh:uW #[] (SetTable.fresh 0 0 led):=⟨rfl,λi j _ hj=>RF hj (by simp[SetTable.fresh]),rfl,JH,(by show(7:Nat) % 2=1;decide),XF _,λi h=>RF h (by simp)⟩
theorem uW.put(g:uW es t)(o:kS t.mask h n c)(he:t.slot (sl t.mask h n c)=.empty)(hb:∀a b,kS t.mask h a b->iY a b n c->¬t.slot (sl t.mask h a b)=.empty)(hroom:es.size+1<=t.mask):uW (Sd es (t.put (sl t.mask h n c)).2 (h,x)) (t.put (sl t.mask h n c)).1:=by
 have hf:=(gr g.ris g.nd).mp he;have hr':uT (t.put (sl t.mask h n c)).1.place:=vA g.ris hf;have hd':(t.put (sl t.mask h n c)).1.dummies= #[]:=by show(if Vt t.dummies _ then _ else t.dummies)= #[];rw[g.nd];rfl
 have hsz:(t.put (sl t.mask h n c)).1.place.size=es.size+1:=by show(Sd t.place _ _).size=_;rw[hJ,g.ps]
 have hes:(Sd es (t.put (sl t.mask h n c)).2 (h,x)).size=es.size+1:=hJ ..;have keep:∀j,¬t.slot j=.empty->¬(t.put (sl t.mask h n c)).1.slot j=.empty:=λj hj z=>hj ((gr g.ris g.nd).mpr λk hk e=>by
  have q:=(gr hr' hd').mp z;have hm:j∈(t.put (sl t.mask h n c)).1.place.toList:=by show j∈(Sd t.place _ _).toList;rw[(TR t.place _ _).mem_iff,Yx];refine Wh _ ?_;rw[<-e,bF hk];simp
  obtain⟨k',hk',e'⟩:=Wu hm;have hk2:k'<(t.put (sl t.mask h n c)).1.place.size:=by simpa using hk'
  exact q k' hk2 (by rw[bF hk2];simpa using e'))
 refine⟨by rw[hsz,hes],hr',hd',g.full,g.odd,by rw[hsz];exact hroom,λi hi=>?_⟩;rw[hes]at hi;have hp:∀i,i<es.size+1->((Sd es (t.put (sl t.mask h n c)).2 (h,x)).getD i (0,.none)=(h,x)/\(t.put (sl t.mask h n c)).1.place.getD i 0=sl t.mask h n c)\/∃j,j<es.size/\(Sd es (t.put (sl t.mask h n c)).2 (h,x)).getD i (0,.none)=es.getD j (0,.none)/\(t.put (sl t.mask h n c)).1.place.getD i 0=t.place.getD j 0:=λi hi=>by
  have hpb:(t.put (sl t.mask h n c)).2<=es.size:=by show R0 t.place _<=_;rw[<-g.ps];exact(fc t.place _ g.ris).1
  have at1:∀{α:Type}(xs:Array α)(p:Nat)(y d:α)(i:Nat),p<=xs.size->i<xs.size+1->(Sd xs p y).getD i d=if i<p then xs.getD i d else if i=p then y else xs.getD (i - 1) d:=λ{α} xs p y d i hp hi=>by
   have hs:=hJ xs p y;have e1:(Sd xs p y).getD i d=(Sd xs p y).toList[i]'(by simpa[hs]using hi):=by rw[bF (by lia)];simp
   rw[e1];simp only[Ux]
   by_cases l1:i<p
   .rw[RC l1,Xd (by simp;lia),bF (by lia)];simp
   .rw[RB l1,Xe (by simp;lia)]
    by_cases l2:i=p
    .subst l2;rw[RC rfl];have hz:i - (xs.toList.take i).length=0:=by simp;lia
     have key:∀(l:List α)(k:Nat)(hk:k<(y::l).length),k=0->(y::l)[k]=y:=λl k hk e=>by subst e;rfl
     exact key _ _ _ hz
    .rw[RB l2];have hl:(xs.toList.take p).length=p:=by simp;lia
     have e2:i - (xs.toList.take p).length=(i - 1 - p)+1:=by lia
     rw[bF (by lia)];simp only[e2,List.getElem_cons_succ,List.getElem_drop,Yy];congr 1;lia
  have q1:=at1 es (t.put (sl t.mask h n c)).2 (h,x) (0,.none) i hpb hi;have q2:=at1 t.place (t.put (sl t.mask h n c)).2 (sl t.mask h n c) 0 i (by rw[g.ps];exact hpb) (by rw[g.ps];exact hi);have q2':(t.put (sl t.mask h n c)).1.place.getD i 0=_:=q2;rw[q1,q2']
  by_cases l1:i<(t.put (sl t.mask h n c)).2
  .rw[RC l1,RC l1];exact .inr ⟨i,by lia,rfl,rfl⟩
  .rw[RB l1,RB l1]
   by_cases l2:i=(t.put (sl t.mask h n c)).2
   .rw[RC l2,RC l2];exact .inl ⟨rfl,rfl⟩
   .rw[RB l2,RB l2];exact .inr ⟨i - 1,by lia,rfl,rfl⟩
 rcases hp i hi with⟨e1,e2⟩|⟨j,hj,e1,e2⟩
 .rw[e1,e2];exact⟨n,c,o,rfl,λa b oab lab=>keep _ (hb a b oab lab)⟩
 .rw[e1,e2];obtain⟨n',c',o',e',hb'⟩:=g.pl j hj;exact⟨n',c',o',e',λa b oab lab=>keep _ (hb' a b oab lab)⟩
noncomputable abbrev nn(owner:Array (Option Nat))(j:Nat):Bool:=(owner.getD j (some 0)).isNone
theorem BV(hN:nn owner (sl mask h N 0)=true):∀f n,n<=N->N - n<f->∃n' c',kS mask h n' c'/\SI mask owner f (lp mask h n).1 (lp mask h n).2=some (sl mask h n' c')/\nn owner (sl mask h n' c')=true/\∀a b,kS mask h a b->n<=a->iY a b n' c'->nn owner (sl mask h a b)=false
 |0,n,h1,h2=>by lia
 |f+1,n,h1,h2=>by
  unfold SI;cases e:(List.range (Sm mask (lp mask h n).1+1 - (lp mask h n).1)).find? (λk=>(owner.getD ((lp mask h n).1+k) (some 0)).isNone)with
  |some k=>
   obtain⟨hp,i,hi,ei,hb⟩:=List.find?_eq_some_iff_getElem.mp e;have hik:i=k:=by simpa using ei
   subst hik;have hir:i<Sm mask (lp mask h n).1+1 - (lp mask h n).1:=by simpa using hi
   refine⟨n,i,by unfold kS;lia,rfl,hp,λa b o ha lt=>?_⟩;have:a=n/\b<i:=by unfold iY at lt;lia
   obtain⟨rfl,hbi⟩:=this;have:=hb b hbi;simpa[nn,sl]using this
  |none=>
   have hall:=List.find?_eq_none.mp e;have hlt:n<N:=by
    rcases Nat.lt_or_ge n N with q|q
    .exact q
    .have:n=N:=by lia
     subst this;have hr0:(0:Nat)<Sm mask (lp mask h n).1+1 - (lp mask h n).1:=by unfold Sm;split<;>lia
     have:=hall 0 (V4.mpr hr0);exact RF hN this
   obtain⟨n',c',o,e2,e3,e4⟩:=BV hN f (n+1) hlt (by lia);refine⟨n',c',o,e2,e3,λa b oab ha lt=>?_⟩
   by_cases q:a=n
   .subst q;have hbr:b<Sm mask (lp mask h a).1+1 - (lp mask h a).1:=by
     unfold kS at oab;have:(lp mask h a).1<=Sm mask (lp mask h a).1:=by unfold Sm;split<;>lia
     lia
    have:=hall b (V4.mpr hbr);exact Yq.mpr this
   .exact e4 a b oab (by lia) lt
structure OI(mask:Nat)(owner:Array (Option Nat))(hs:List Int)(js:List Nat):Prop where
 sz:owner.size=mask+1
 len:js.length=hs.length
 nd:js.Nodup
 le:∀j∈js,j<=mask
 at1:∀i(hi:i<js.length),owner.getD js[i] (some 0)=some i
 at2:∀j,j<=mask->¬j∈js->owner.getD j (some 0)=none
 pl:∀i(hi:i<js.length),∃n c,kS mask (hs.getD i 0) n c/\sl mask (hs.getD i 0) n c=js[i]/\∀a b,kS mask (hs.getD i 0) a b->iY a b n c->nn owner (sl mask (hs.getD i 0) a b)=false
def vn{owner:Array (Option Nat)}{j:Nat}{o:Option Nat}(h:j<owner.size)(k:Nat):(owner.setIfInBounds j o).getD k (some 0)=if k=j then o else owner.getD k (some 0):=by
 by_cases e:k=j
 .subst e;rw[RC rfl,bF (by simpa using h)];exact Array.getElem_setIfInBounds_self ..
 .rw[RB e]
  by_cases hk:k<owner.size
  .rw[bF (by simpa using hk),bF hk];exact Array.getElem_setIfInBounds_ne hk (Ne.symm e)
  .have h1:¬k<(owner.setIfInBounds j o).size:=by simpa using hk
   simp[Array.getD,hk,h1]
def OI.step(f:lG (mask+1))(I:OI mask owner hs js)(h:Int)(hr:hs.length<=mask):∃j,SI mask owner (S0 mask) (Su h % (mask+1)) (Su h)=some j/\OI mask (owner.setIfInBounds j (some hs.length)) (hs++[h]) (js++[j]):=by
 obtain⟨e,e1,e2⟩:=qT (mask+1) js (by rw[I.len];lia);obtain⟨N,hN,eN⟩:=xI f h (Nat.le_of_lt_succ e1);have hNn:nn owner (sl mask h N 0)=true:=by show(owner.getD ((lp mask h N).1+0) (some 0)).isNone=true;rw[Nat.add_zero,eN,I.at2 e (by lia) e2];rfl
 obtain⟨n,c,o,g1,g2,g3⟩:=BV hNn (S0 mask) 0 (XF _) (by unfold S0;lia);have hj:=Jm o;refine⟨sl mask h n c,g1,?_⟩;have hlt:sl mask h n c<owner.size:=by rw[I.sz];lia
 have hnj:¬sl mask h n c∈js:=λz=>by obtain⟨i,hi,e⟩:=Wu z;have:=I.at1 i hi;rw[e]at this;unfold nn at g2;rw[this]at g2;cases g2
 have up:∀k,nn owner k=false->nn (owner.setIfInBounds (sl mask h n c) (some hs.length)) k=false:=λk hk=>by
  unfold nn;rw[vn hlt]
  by_cases e:k=sl mask h n c
  .rw[RC e];rfl
  .rw[RB e];exact hk
 refine⟨by simpa using I.sz,by simp[I.len],?_,λj hm=>?_,λi hi=>?_,λj hjm hn=>?_,λi hi=>?_⟩
 .rw[WM];refine⟨I.nd,by simp,λa ha b hb e=>hnj ?_⟩;have:b=sl mask h n c:=by simpa using hb
  rw[<-this,<-e];exact ha
 .rcases VY.mp hm with z|z
  .exact I.le j z
  .rw[VR.mp z];exact hj
 .rw[vn hlt]
  by_cases l:i<js.length
  .rw[Xd l,RB (λz:js[i]=sl mask h n c=>hnj (z▸V7 l))];exact I.at1 i l
  .have:i=js.length:=by simp at hi;lia
   subst this;rw[Xe (XD _)];simp[I.len]
 .rw[vn hlt,RB (λz=>hn (by rw[z];simp))];exact I.at2 j hjm (λz=>hn (Wh _ z))
 .by_cases l:i<js.length
  .have e:(hs++[h]).getD i 0=hs.getD i 0:=by rw[VX,WE (by rw[<-I.len];exact l),<-VX]
   rw[Xd l,e];obtain⟨n',c',o',e',hb⟩:=I.pl i l;exact⟨n',c',o',e',λa b oab lab=>up _ (hb a b oab lab)⟩
  .have:i=js.length:=by simp at hi;lia
   subst this;have e:(hs++[h]).getD js.length 0=h:=by rw[I.len];simp
   rw[e];refine⟨n,c,o,?_,λa b oab lab=>up _ (g3 a b oab (XF _) lab)⟩;rw[Xe (XD _)];simp
theorem uh(f:lG (mask+1)):∀hs2 hs1 owner js,OI mask owner hs1 js->hs1.length+hs2.length<=mask+1->∃owner' js',hs2.foldl (λacc h=>do
   let (owner,k)<-acc
   let j<-SI mask owner (S0 mask) (Su h % (mask+1)) (Su h)
   pure (owner.setIfInBounds j (some k),k+1)) (some (owner,hs1.length))=some (owner',(hs1++hs2).length)/\OI mask owner' (hs1++hs2) js'
 | [],hs1,owner,js,I,_=>⟨owner,js,by simp,by simpa using I⟩
 |h::hs2,hs1,owner,js,I,hl=>by
  simp only[V1]at hl;obtain⟨j,e,I2⟩:=I.step f h (by lia);obtain⟨owner',js',e3,I3⟩:=uh f hs2 (hs1++[h]) _ _ I2 (by simp;lia);refine⟨owner',js',?_,by simpa using I3⟩;rw[WU];have e4:(do
    let (owner,k)<-(some (owner,hs1.length):Option (Array (Option Nat)×Nat))
    let j<-SI mask owner (S0 mask) (Su h % (mask+1)) (Su h)
    pure (owner.setIfInBounds j (some k),k+1))=some (owner.setIfInBounds j (some hs1.length),(hs1++[h]).length):=by
   simp[e]
  rw[e4,e3];simp
def zI(f:lG (mask+1))(hl:hs.size<=mask+1):∃owner js,SetTable.layClean mask hs=some owner/\OI mask owner hs.toList js:=by
 have I0:OI mask (Array.replicate (mask+1) none) [] []:=⟨by simp,rfl,by simp,by simp,λi hi=>by simp at hi,λj hj _=>by rw[bF (by simp;lia)];simp,λi hi=>by simp at hi⟩;obtain⟨owner,js,e,I⟩:=uh f hs.toList [] _ _ I0 (by simpa using hl);refine⟨owner,js,?_,by simpa using I⟩;unfold SetTable.layClean;rw[<-Array.foldl_toList];have e:hs.toList.foldl (λacc h=>do
   let (owner,k)<-acc
   let j<-SI mask owner (S0 mask) (Su h % (mask+1)) (Su h)
   pure (owner.setIfInBounds j (some k),k+1)) (some (Array.replicate (mask+1) none,0))=some (owner,([]++hs.toList).length):=e
 rw[e];rfl
noncomputable def liveP(owner:Array (Option Nat))(mask:Nat):List (Nat×Nat):=(List.range (mask+1)).filterMap λj=>(owner.getD j none).map (j,·)
def iy:(j,i)∈liveP owner mask<->j<=mask/\owner.getD j none=some i:=by
 unfold liveP;rw[Wd]
 constructor
 .rintro⟨k,hk,e⟩;obtain⟨x,hx,e2⟩:=YA.mp e;cases e2;exact⟨by have:=V4.mp hk;lia,hx⟩
 .rintro⟨h1,h2⟩;exact⟨j,V4.mpr (by lia),by rw[h2];rfl⟩
def nz(I:OI mask owner hs js)(hj:j<=mask):owner.getD j none=some i<->∃h:i<js.length,js[i]=j:=by
 have e0:owner.getD j none=owner.getD j (some 0):=by
  have:j<owner.size:=by rw[I.sz];lia
  rw[bF this,bF this]
 rw[e0]
 constructor
 .intro h
  by_cases m:j∈js
  .obtain⟨k,hk,e⟩:=Wu m;have:=I.at1 k hk;rw[e,h]at this;cases this;exact⟨hk,e⟩
  .rw[I.at2 j hj m]at h;cases h
 .rintro⟨h,e⟩;rw[<-e];exact I.at1 i h
def ud(owner:Array (Option Nat))(mask:Nat):((liveP owner mask).map (·.1)).Pairwise (· < ·):=
 (jS (λj=>(owner.getD j none).map (j,·)) (λj p hp=>by
  obtain⟨a,_,rfl⟩:=YA.mp hp;rfl) (List.range (mask+1)) List.pairwise_lt_range).1
theorem tN{κ:Type}[DecidableEq κ]:∀{l ns:List κ},l.Nodup->ns.Nodup->(∀k,k∈l<->k∈ns)->ns.Perm l
 | [],ns,_,_,h=>by
   cases ns with
   |nil=>exact List.Perm.refl _
   |cons a l=>exact RF ((h a).mpr (by simp)) (by simp)
 |a::l,ns,nd,nn,h=>by
  obtain⟨n1,n2⟩:=Wk.mp nd;have ha:=(h a).mp (by simp);refine(Xv ha).trans (List.Perm.cons _ (tN n2 (nn.erase a) λk=>?_));rw[nn.mem_erase_iff,<-h k,VO]
  constructor
  .intro hk;exact⟨λe=>n1 (e▸hk),.inr hk⟩
  .rintro⟨e,z|z⟩
   .exact RF z e
   .exact z
def vH(I:OI mask owner hs js):((liveP owner mask).map (·.2)).Perm (List.range hs.length):=by
 refine tN List.nodup_range ?_ (λi=>?_)
 ·
  have hp:=ud owner mask;rw[Wl]at hp;rw[WN,Wl];refine List.Pairwise.imp_of_mem ?_ hp;intro a b ha hb lt e;obtain⟨a1,a2⟩:=iy.mp (show(a.1,a.2)∈_ from ha);obtain⟨b1,b2⟩:=iy.mp (show(b.1,b.2)∈_ from hb);obtain⟨x1,e1⟩:=(nz I a1).mp a2;obtain⟨x2,e2⟩:=(nz I b1).mp b2;have:a.1=b.1:=by rw[<-e1,<-e2];congr 1
  lia
 .rw[V4,VP]
  constructor
  .intro hi;have hi':i<js.length:=by rw[I.len];exact hi
   have hle:=I.le _ (V7 hi');exact⟨(js[i],i),iy.mpr ⟨hle,(nz I hle).mpr ⟨hi',rfl⟩⟩,rfl⟩
  .rintro⟨p,hp,rfl⟩;obtain⟨a1,a2⟩:=iy.mp (show(p.1,p.2)∈_ from hp);obtain⟨x1,e1⟩:=(nz I a1).mp a2;rw[I.len]at x1;exact x1
theorem BX{α:Type}{es:Array α}(d:α):∀{l:List Nat},(∀i∈l,i<es.size)->l.filterMap (es[·]?)=l.map λi=>es.getD i d
 | [],_=>rfl
 |i::l,h=>by have hi:=h i (by simp);rw[Wx,Yr hi,V2,BX d (λj hj=>h j (VU _ hj)),bF hi]
def yV{es:Array (Int×Zn)}{t:SetTable}{wanted:Nat}(f:lG (SM wanted - 1+1))(ho:(SM wanted - 1) % 2=1)(hl:es.size<=SM wanted - 1):∃t' order,t.relaid (es.map (·.1)) wanted=some (t',order)/\(order.filterMap (es[·]?)).size=es.size/\(order.filterMap (es[·]?)).toList.Perm es.toList/\uW (order.filterMap (es[·]?)) t'/\t'.led=t.led/\t'.mask=SM wanted - 1:=by
 generalize hm:SM wanted - 1=mask at f ho hl;obtain⟨owner,js,e,I⟩:=zI f (hs:=es.map (·.1)) (by simp;lia);have hlen:(es.map (·.1)).toList.length=es.size:=by simp
 have hop:=vH I;rw[hlen]at hop;have hin:∀i∈(liveP owner mask).map (·.2),i<es.size:=λi hi=>V4.mp (hop.mem_iff.mp hi);have hll:(liveP owner mask).length=es.size:=by have:=hop.length_eq;simpa using this
 refine⟨{mask,place:=((liveP owner mask).map (·.1)).toArray,dummies:= #[],finger:=t.finger,led:=t.led,moves:=t.movedTo mask,plain:=t.plain},((liveP owner mask).map (·.2)).toArray,?_,?_⟩
 .unfold SetTable.relaid SetTable.laid;rw[hm,e];rfl
 have hes:((((liveP owner mask).map (·.2)).toArray).filterMap (es[·]?)).toList=((liveP owner mask).map (·.2)).map λi=>es.getD i (0,.none):=by rw[Array.toList_filterMap];exact BX (0,.none) hin
 have hsz:((((liveP owner mask).map (·.2)).toArray).filterMap (es[·]?)).size=es.size:=by rw[<-Yt,hes,VN,VN,hll]
 refine⟨hsz,?_,?_,rfl,rfl⟩
 .rw[hes];refine(hop.map _).trans (List.Perm.of_eq ?_);apply Wz;intro i;have e0:es.toList[i]? =es[i]? :=Ys;rw[VT,e0]
  by_cases hi:i<es.size
  .rw[Wm hi,Yr hi];show some (es.getD i (0,.none))=some es[i];rw[bF hi]
  .rw[Wf (by simpa using hi),Yu (by lia)];rfl
 .have hris:uT ((liveP owner mask).map (·.1)).toArray:=qR.mpr (by simpa using ud owner mask);refine⟨?_,hris,rfl,f,ho,?_,λi hi=>?_⟩
  .rw[hsz];simp[hll]
  .show((liveP owner mask).map (·.1)).toArray.size<=mask;simp[hll,hl]
  .rw[hsz]at hi;have hil:i<(liveP owner mask).length:=by rw[hll];exact hi
   have e1:((((liveP owner mask).map (·.2)).toArray).filterMap (es[·]?)).getD i (0,.none)=es.getD (liveP owner mask)[i].2 (0,.none):=by
    rw[bF (by rw[hsz];exact hi)];have:((((liveP owner mask).map (·.2)).toArray).filterMap (es[·]?)).toList[i]? =some (es.getD (liveP owner mask)[i].2 (0,.none)):=by rw[hes,VT,VT,VQ hil];rfl
    rw[Ys,Yr (by rw[hsz];exact hi)]at this;exact RH this
   have e2:((liveP owner mask).map (·.1)).toArray.getD i 0=(liveP owner mask)[i].1:=by rw[bF (by simpa using hil)];simp
   obtain⟨a1,a2⟩:=iy.mp (show((liveP owner mask)[i].1,(liveP owner mask)[i].2)∈_ from V7 hil);obtain⟨x1,ex⟩:=(nz I a1).mp a2;have hxs:(liveP owner mask)[i].2<es.size:=by rw[<-hlen,<-I.len];exact x1
   obtain⟨n,c,o,es',hb⟩:=I.pl _ x1;have eh:(es.map (·.1)).toList.getD (liveP owner mask)[i].2 0=(es.getD (liveP owner mask)[i].2 (0,.none)).1:=by rw[bF hxs,VX,Ys,Array.getElem?_map,Yr hxs];rfl
   rw[eh]at o es' hb;show CK _ _ (((liveP owner mask).map (·.1)).toArray.getD i 0);rw[e1,e2];refine⟨n,c,o,by rw[es',ex],λa b oab lab z=>?_⟩;have q:=hb a b oab lab;have hle:sl mask (es.getD (liveP owner mask)[i].2 (0,.none)).1 a b<=mask:=Jm oab;have hfr:=(gr (t:={mask,place:=((liveP owner mask).map (·.1)).toArray,dummies:= #[],finger:=t.finger,led:=t.led,moves:=t.movedTo mask,plain:=t.plain}) hris rfl).mp z;cases eo:owner.getD (sl mask (es.getD (liveP owner mask)[i].2 (0,.none)).1 a b) none with
   |none=>
    have hlt:sl mask (es.getD (liveP owner mask)[i].2 (0,.none)).1 a b<owner.size:=by rw[I.sz];lia
    unfold nn at q;rw[bF hlt]at q eo;rw[eo]at q;cases q
   |some k=>
    have hm2:=iy.mpr ⟨hle,eo⟩;obtain⟨r,hr,er⟩:=Wu hm2;have hr2:r<((liveP owner mask).map (·.1)).toArray.size:=by simpa using hr
    refine hfr r hr2 ?_;show((liveP owner mask).map (·.1)).toArray.getD r 0=_;rw[bF hr2];simp[er]
end L2
namespace L2
open PySem PySem.Spec PyProof.Rows
noncomputable def uniq(ns:List Int):List Int:=firstMet (λi=>ns.getD i 0) ns.length
def vD(ns:List Int):(List.range ns.length).map (λi=>ns.getD i 0)=ns:=by
 apply Wz;intro i;rw[VT]
 by_cases h:i<ns.length
 .rw[Wm h,VQ h];show some (ns.getD i 0)=_;rw[VX,VQ h];rfl
 .rw[Wf (by rw[We];lia),Wf (by lia)];rfl
theorem jq(val:Nat->Int):∀i,(firstMet val i).length=i<->((List.range i).map val).Nodup
 |0=>by simp[firstMet_zero]
 |i+1=>by
  have ih:=jq val i;have hle:=firstMet_length_le val i;have ha:=firstMet_any val i (val i);rw[firstMet_succ,WA,VZ,WM];unfold step_dedup
  by_cases h:(firstMet val i).any (· == val i)=true
  .rw[RC h]
   constructor
   .intro e;lia
   .intro e;rw[ha,Wv]at h;obtain⟨x,hx,e2⟩:=h;have:x=val i:=beq_iff_eq.mp e2;exact RF this (e.2.2 x hx (val i) (by simp))
  .rw[RB h,VV,WV]
   constructor
   .intro e;refine⟨ih.mp (by lia),by simp,λx hx y hy=>?_⟩;have hy':y=val i:=by simpa using hy
    subst hy';intro e3;apply h;rw[ha,Wv];exact⟨x,hx,beq_iff_eq.mpr e3⟩
   .intro e;rw[ih.mpr e.1]
def AB(ns:List Int):(uniq ns).length=ns.length<->ns.Nodup:=by unfold uniq;rw[jq,vD]
section
def Kq(K:Frag)(xs:List V)(H:Hp)(Q:VK):Prop:=match xs with
 | [.ref d]=>∃ns:List Int,aR K H d (ns.map V.int)/\ns.length+1<scanBound/\∀q,H q=none->Q (.ref q) (upd H q (.set (λk=>(uniq ns).any (· == k)) (uniq ns).length))
 |_=>False
def Af(hh:X.A.handled=none):bf X (.type "set") (Kq X.K):=by
 intro Rv s σ H xs us Q I r h;unfold Kq at h;split at h
 .rename_i d;obtain⟨ns,hq,hb,q⟩:=h;obtain⟨u,rfl,rx⟩:=dU r;cases rx;obtain⟨its,r',pl,hz⟩:=I.list hq;have hlen:=r'.length;rw[VN]at hlen;have hi:Vc its.toArray.toList ns:=nU r';have hs:its.toArray.size=ns.length:=by rw[VS,<-hlen]
  refine call_set_list hh pl.isList hi (by rw[hs];exact hb) λh' tk hS kp=>?_;rw[hs]at hS;have k2:∀b u,s.heap.get? b=some u->h'.get? b=some u:=λb u e=>kp b u (RP e) e;exact⟨.ref s.heap.objs.size,_,I.laid (t':=tk) k2 (XD _) (show bp X.prog X.w _ h' _ (.set _ _)from hS),rfl,q _ (I.hok.fresh (XD _))⟩
 .exact h.elim
def Jz(xs:List V)(H:Hp)(Q:VK):Prop:=match xs with
 | [.ref d]=>∃S n,H d=some (.set S n)/\Q (.int n) H
 |_=>False
def wE:bf X (.builtin "len") Jz:=by
 intro Rv s σ H xs us Q I r h;unfold Jz at h;split at h
 .rename_i d;obtain⟨S,n,hd,q⟩:=h;obtain⟨u,rfl,rx⟩:=dU r;cases rx;obtain⟨o,es,ep,t,h1,h2,h3,_,_,h6,h7,h8⟩:=(show bp X.prog X.w H s.heap d (.set S n)from I.hok d _ hd);subst h8;have hb:es.size<4096:=h6;exact PySem.call_len_set h1 h2 h3 h7 (by lia) ⟨.int es.size,H,I.tok _,⟨_,rfl⟩,q⟩
 .exact h.elim
def AW(K:Frag)(xs:List V)(H:Hp)(Q:VK):Prop:=match xs with
 | [.ref d]=>∃ns:List Int,aR K H d (ns.map V.int)/\ns.length<64/\∀(ns':List Int) q,ns'.Perm ns->ns'.Pairwise (·<=·)->H q=none->Q (.ref q) (upd H q (.lst (ns'.map V.int)))
 |_=>False
def wz:bf X (.builtin "sorted") (AW X.K):=by
 intro Rv s σ H xs us Q I r h;unfold AW at h;split at h
 .rename_i d;obtain⟨ns,hq,hb,q⟩:=h;obtain⟨u,rfl,rx⟩:=dU r;cases rx;obtain⟨its,r',pl,hz⟩:=I.list hq;have hlen:=r'.length;rw[VN]at hlen;refine sorted_ints pl.isList (nU r') (by lia) λout ns' a1 a2 a3=>?_;obtain⟨e,he⟩:=sortedAll_at s.heap its out;have hl:=a2.length_eq;have hz':(ns'.map V.int).length<=v1:=by rw[VN,hl,RW];lia
  exact⟨.ref (s.heap.objs.size+1),_,I.laid (t':=s.toks) (λ_ _=>sortedAll_old) (XI _) (show bp X.prog X.w _ _ _ (.lst (ns'.map V.int))from⟨hz',out.toList,e,kZ a1,by simpa[Tg]using he⟩),rfl,q ns' _ a2 a3 (I.hok.fresh (XI _))⟩
 .exact h.elim
def ue(K:Frag)(xs:List V)(H:Hp)(Q:VK):Prop:=match xs with
 | [.ref d]=>∃ys,(aR K H d ys\/dF K H d ys)/\∀l,H l=none->Q (.ref l) (upd H l (.lst ys))
 |_=>False
def wC:bf X (.type "list") (ue X.K):=(rR (X:=X)).imp λxs H Q h=>by
 unfold ue at h;split at h
 .obtain⟨ys,h1,q⟩:=h;exact⟨_,ys,rfl,h1,q⟩
 .exact h.elim
def QZ(K:Frag)(hr:cw j X.A)(hK:X.K=K:=by rfl):bf X (.type "set") (Kq K):=by subst hK;exact Af hr.hd
def OO(K:Frag)(hK:X.K=K:=by rfl):bf X (.builtin "sorted") (AW K):=by subst hK;exact wz
def uk(K:Frag)(hK:X.K=K:=by rfl):bf X (.type "list") (ue K):=by subst hK;exact wC
def DZ(h:H a=some (.lst xs))(q:Q (.bl (fX .list T)) H):D0 T (.ref a) H Q:=by simp only[D0,h];exact q
end
def B5(h:flatV x=true):eqV x x=true:=by cases x<;>simp_all[flatV,eqV]
def zW(zs:List Int):(zs.map V.int).all flatV=true:=Wc.mpr λx hx=>by obtain⟨z,_,rfl⟩:=VP.mp hx;rfl
def Fl(K:Frag)(H:Hp)(p:Zo)(f:Str)(v:V):Prop:= ∃C dx fs,H p=some (.ins C dx fs)/\oY K C/\bK K C f/\fs.lookup f=some v
def Pf(K:Frag)(x:V)(f:Str)(H:Hp)(Q:VK):Prop:=match x with
 | .ref a=>∃v,Fl K H a f v/\Q v H
 |_=>False
def Er(K:Frag)(to:TE)(f:Str):TE:=λσ H Q=>to σ H λx H1=>Pf K x f H1 Q
def lT(C:Zo)(m:Str)(H:Hp)(a:Zo):Prop:= ∃dx fs,H a=some (.ins C dx fs)/\fs.lookup m=none
structure j6(P:RU)(w:RZ)(K:Frag)(mg:RJ)(Rw:R9)(C:Zo)(m:Str)(ps:List Str)(k:Nat)(sp:Sp):Prop where
 ex:∃f fd,aY P w K mg Rw cY k f fd ps sp/\LU K C m f/\gS K fd ps []
 cl:oY K C
structure lS(P:RU)(w:RZ)(K:Frag)(mg:RJ)(Rw:R9)(name:Str)(C:Zo)(ps:List Str)(k:Nat)(sp:Sp):Prop where
 ex:∃f fd,Mk K C f/\aY P w K mg Rw cY k f fd ps sp/\mg name=some (.ref C)/\gS K fd ps []
def Jw(C:Zo)(m:Str)(x:V)(H:Hp)(R:Zo->Prop):Prop:=match x with
 | .ref a=>lT C m H a/\R a
 |_=>False
def uK(C:Zo)(m:Str)(sp:Sp)(to:TE)(t:TA):TE:=λσ H Q=>to σ H λx H1=>Jw C m x H1 λa=>t σ H1 λvs H2=>sp (.ref a::vs) H2 Q E0
def yr(C:Zo)(sp:Sp)(t:TA):TE:=λσ H Q=>t σ H λvs H1=>∀x dx,H1 x=none->H1 dx=none->dx≠x->sp (.ref x::vs) (upd (upd H1 dx (.own x)) x (.ins C dx [])) (λv H2=>v=.non/\Q (.ref x) H2) E0
section
variable{X:Cx}{e o value:Sz}{te to tv:TE}{p pos pos' apos:Vb}{es:List Sz}{t:TA}{f m:Str}
def bN(K:Frag)(ho:PE X o to)(hb:SE o f X.env (Sr o X.env)=Sr o X.env:=by rfl)(hK:X.K=K:=by rfl):PE X (.Attribute o f pos) (Er K to f):=by
 subst hK;intro Rv s σ H Q I h;refine EE hb (bL (ho Rv s σ H _ I h) λu s1 ⟨x,H1,I1,rx,q1⟩=>?_);cases x with
 |ref a=>
  obtain⟨v,⟨C,dx,fs,ea,c,n,l⟩,q⟩:=q1;obtain rfl:u=RY a:=rx;exact wb I1 ea c n l λu' s2 I2 ru=>⟨v,H1,I2,ru,q⟩
 |_=>exact q1.elim
def gK(K:Frag)(ho:PE X o to)(hv:PE X value tv)(hs:TX value (some (.Attribute o f pos')) pos.line X.env=pure false:=by rfl)(hK:X.K=K:=by rfl):PS X (.Assign [.Attribute o f pos'] value pos) (lX K to tv f):=by subst hK;exact Kz ho hv hs
def nN{C:Zo}{ps:List Str}{k j:Nat}{sp:Sp}{pl:Sem Bool}(M:j6 X.prog X.w X.K X.mg X.Rw C m ps k sp)(hr:cw j X.A)(ho:PE X o to)(ha:PA X (e::es) t)(hkj:k<=j:=by decide)(hp:(e::es).all eY=true:=by rfl)(ht:Sr (.Call (.Attribute o m apos) (e::es) [] pos) X.env=(do
   let ov<-Sr o X.env
   U8 apos.atName
   let (f,first)<-TF [ov] (U9 ov m pl)
   callWith pos f first (Sj pos (RS (e::es) X.env)) (TQ pos (S6 [] X.env))):=by rfl):PE X (.Call (.Attribute o m apos) (e::es) [] pos) (uK C m sp to t):=by
 obtain⟨f,fd,F,hm,hb⟩:=M.ex;have hp':=hp;rw[Wb,Ye]at hp';intro Rv s σ H Q I h;refine Y7 (pl:=pl) (bL (ho Rv s σ H _ I h) λu s1 ⟨x,H1,I1,rx,q⟩=>?_) ht;cases x with
 |ref a=>
  obtain⟨⟨dx,fs,ea,l⟩,q⟩:=q;obtain rfl:u=RY a:=rx;refine j4 I1 ea M.cl hm l ?_;refine YX (first:=[.ref a]) (h₀:=X.Rw) I.ok.mod.kin hm.kp (bL (ha pos Rv s1 σ H1 _ I1 q) λus s2 ⟨vs,H2,I2,r,q2⟩=>⟨I2.kIn,?_⟩) (dA hp'.1) (fm hp'.2);refine vy (us:=.ref a::us) (vs:=.ref a::vs) (dvs:=[]) (ds:=[]) F (hr.mono hkj) hb .nil xC I2 (.cons rfl r) ?_;rw[V9];exact q2
 |_=>exact q.elim
def K9{C:Zo}{ps:List Str}{k j:Nat}{sp:Sp}{pl:Sem Bool}(M:j6 X.prog X.w X.K X.mg X.Rw C m ps k sp)(hr:cw j X.A)(ho:PE X o to)(hkj:k<=j:=by decide)(ht:Sr (.Call (.Attribute o m apos) [] [] pos) X.env=(do
   let ov<-Sr o X.env
   U8 apos.atName
   let (f,first)<-TF [ov] (U9 ov m pl)
   callWith pos f first (Sj pos (RS [] X.env)) (TQ pos (S6 [] X.env))):=by rfl):PE X (.Call (.Attribute o m apos) [] [] pos) (uK C m sp to bG):=by
 obtain⟨f,fd,F,hm,hb⟩:=M.ex;intro Rv s σ H Q I h;refine Y7 (pl:=pl) (bL (ho Rv s σ H _ I h) λu s1 ⟨x,H1,I1,rx,q⟩=>?_) ht;cases x with
 |ref a=>
  obtain⟨⟨dx,fs,ea,l⟩,q⟩:=q;obtain rfl:u=RY a:=rx;refine j4 I1 ea M.cl hm l ?_;refine PySem.W.callWith_K0 (first:=[.ref a]) I1.kIn hm.kp (vy (us:=[.ref a]) (vs:=[.ref a]) (dvs:=[]) (ds:=[]) F (hr.mono hkj) hb .nil xC I1 (.cons rfl .nil) ?_);exact q
 |_=>exact q.elim
def BA(M:lS X.prog X.w X.K X.mg X.Rw name C ps k sp)(hr:cw j X.A)(ha:PA X (e::es) t)(hkj:k+1<=j:=by decide)(hp:(e::es).all eY=true:=by rfl)(hg:Gl X name:=by rfl)(hdb:(name == ("__debug__":Str))=false:=by decide):PE X (.Call (.Name name p) (e::es) [] pos) (yr C sp t):=by obtain⟨f,fd,MK,F,hm,hb⟩:=M.ex;have hp':=hp;rw[Wb,Ye]at hp';refine(DC MK F (hr.mono hkj) hg hm hb .nil xC ha hdb (dA hp'.1) (fm hp'.2):PE X _ (AE C sp [] E0 t)).imp λσ H Q h=>?_;unfold AE;simp only[V9];exact h
end
def SameBut(k:Zo)(H H':Hp):Prop:= ∀b o,H b=some o->b≠k->H' b=some o
def SameBut.refl(H:Hp):SameBut k H H:=λ_ _ h _=>h
def aj.but(h:aj H H'):SameBut k H H':=λb o e _=>h b o e
def SameBut.self(a:SameBut k H H'):SameBut k H (upd H' k o):=λc ob e n=>by rw[aq n];exact a c ob e n
def SameBut.new(a:SameBut k H H')(hd:H d=none):SameBut k H (upd H' d o):=λc ob e n=>by rw[aq (aB e hd)];exact a c ob e n
def aj.put(a:aj H H')(hd:H d=none):aj H (L2.upd H' d o):=λc ob e=>by rw[aq (aB e hd)];exact a c ob e
def ix{H:Hp}{a b:Zo}{o o':HO}(ha:H a=some o)(hb:H b=some o')(h:o≠o'):a≠b:=λe=>by subst e;rw[ha]at hb;exact h (RH hb)
def Di{to tv:TE}{f:Str}{K:Frag}{u:TS}{D:mq}{σ:St}{H:Hp}(P:V->Hp->Prop)(h:∀Q:VK,(∀v H',P v H'->Q v H')->tv σ H Q)(p C dx:Zo)(hto:∀H'(Q:VK),Q (.ref p) H'->to σ H' Q)(hc:oY K C)(hn:bK K C f)(h2:∀v H',P v H'->∃fs,H' p=some (.ins C dx fs)/\fs.length<1000/\u D σ (upd H' p (.ins C dx (putF f v fs)))):bn (lX K to tv f) u D σ H:=
 h _ λv H' q=>by obtain⟨fs,e,l,r⟩:=h2 v H' q;exact hto _ _ ⟨p,C,dx,fs,rfl,e,hc,hn,l,r⟩
def wZ{to tv:TE}{f:Str}{K:Frag}{D:mq}{σ:St}{H:Hp}(P:V->Hp->Prop)(h:∀Q:VK,(∀v H',P v H'->Q v H')->tv σ H Q)(p C dx:Zo)(hto:∀H'(Q:VK),Q (.ref p) H'->to σ H' Q)(hc:oY K C)(hn:bK K C f)(h2:∀v H',P v H'->∃fs,H' p=some (.ins C dx fs)/\fs.length<1000/\D.nx σ (upd H' p (.ins C dx (putF f v fs)))):lX K to tv f D σ H:=
 h _ λv H' q=>by obtain⟨fs,e,l,r⟩:=h2 v H' q;exact hto _ _ ⟨p,C,dx,fs,rfl,e,hc,hn,l,r⟩
def vd(P:Hp->Prop)(h:∀Q:VK,(∀v H',P H'->Q v H')->te σ H Q)(h2:∀H',P H'->u D σ H'):bn (jP te) u D σ H:=h _ λ_ H' p=>h2 H' p
def Ev(t:TE)(σ:St)(H:Hp)(v:V):Prop:= ∀Q:VK,Q v H->t σ H Q
def Tv(t:TT)(σ:St)(H:Hp)(b:Bool):Prop:= ∀Q:Bool->Hp->Prop,Q b H->t σ H Q
def Av(t:TA)(σ:St)(H:Hp)(vs:List V):Prop:= ∀Q:List V->Hp->Prop,Q vs H->t σ H Q
section
variable{K:Frag}{σ:St}{H:Hp}{ta tb tc te to:TE}{x y:V}{i j k:Int}{a b:Bool}{z z':Str}
def ao:Ev (tC x) σ H x:=λQ q=>q
def ae(h:σ[n]? =some (some x)):Ev (cL n) σ H x:=λQ q=>by unfold cL;rw[h];exact q
def cj(ha:Ev ta σ H (.int i))(hb:Ev tb σ H (.int j)):Ev (mj .Add ta tb) σ H (.int (i+j)):=λQ q=>ha _ (hb _ q)
def gN(ha:Ev ta σ H (.int i))(hb:Ev tb σ H (.int j)):Ev (mj .Sub ta tb) σ H (.int (i - j)):=λQ q=>ha _ (hb _ q)
def cr(ha:Ev ta σ H (.int i))(hb:Ev tb σ H (.int j))(h:CP i j):Ev (mj .Mult ta tb) σ H (.int (i*j)):=λQ q=>ha _ (hb _ ⟨h,q⟩)
def bx(ha:Ev ta σ H (.int i))(hb:Ev tb σ H (.int j))(h:LY i j:=by exact⟨by decide,by decide⟩):Ev (mj .FloorDiv ta tb) σ H (.int (i / j)):=λQ q=>ha _ (hb _ ⟨h,q⟩)
def a7(ha:Ev ta σ H (.int i))(hb:Ev tb σ H (.int j))(h:0<j:=by decide):Ev (mj .Mod ta tb) σ H (.int (i % j)):=λQ q=>ha _ (hb _ ⟨h,q⟩)
def jr(ha:Ev ta σ H (.int i)):Ev (Pw ta) σ H (.int (-i)):=λQ q=>ha _ q
def gX(ha:Ev ta σ H (.str z))(hb:Ev tb σ H (.str z'))(h:z.length+z'.length<=v1):Ev (mj .Add ta tb) σ H (.str (z++z')):=λQ q=>ha _ (hb _ ⟨h,q⟩)
def aP(ho:Ev to σ H (.ref p))(h:Fl K H p f x):Ev (Er K to f) σ H x:=λQ q=>ho _ ⟨x,h,q⟩
def a8(ho:Ev to σ H (.ref p))(hi:Ev ta σ H (.int i))(h:aR K H p xs\/dF K H p xs)(e:atI xs i=some x):Ev (Ep K to ta) σ H x:=λQ q=>ho _ (hi _ ⟨xs,x,h,e,q⟩)
def iM(ho:Ev to σ H (.str z))(hi:Ev ta σ H (.int i))(h:z.length<=v1)(e:atI z.cps.toList i=some c):Ev (Ep K to ta) σ H (.str ⟨#[c]⟩):=λQ q=>ho _ (hi _ ⟨h,c,e,q⟩)
def cQ(ho:Ev to σ H (.ref p))(h:aR K H p xs\/dF K H p xs):Ev (cB (ug K) (aN to bG)) σ H (.int xs.length):=λQ q=>ho _ ⟨xs,h,q⟩
def mH(ho:Ev to σ H (.str z))(h:z.length<=v1):Ev (cB (ug K) (aN to bG)) σ H (.int z.length):=λQ q=>ho _ ⟨h,q⟩
def Lr(ha:Ev ta σ H (.int i))(hb:Ev tb σ H (.int j)):Ev (cB K0 (aN ta (aN tb bG))) σ H (.int (if j<i then j else i)):=λQ q=>ha _ (hb _ q)
def Ls(ho:Ev to σ H (.ref p))(h:H p=some (.lst xs)):Ev (Qe T to) σ H (.bl (fX .list T)):=λQ q=>ho _ (DZ h q)
def wj(ha:Ev ta σ H (.bl a)):Ev (JR ta) σ H (.bl (!a)):=λQ q=>ha _ q
def db(ha:Ev ta σ H (.bl a))(hb:a=true->Ev tb σ H (.bl b)):Ev (Cr ta tb) σ H (.bl (a&&b)):=λQ q=>ha _ (by
 cases a with
 |true=>exact hb rfl Q q
 |false=>exact q)
def Ph(ha:Ev ta σ H (.bl a))(hb:a=false->Ev tb σ H (.bl b)):Ev (Pu ta tb) σ H (.bl (a||b)):=λQ q=>ha _ (by
 cases a with
 |true=>exact q
 |false=>exact hb rfl Q q)
def lR(ht:Tv t σ H b)(h1:b=true->Ev ta σ H x)(h2:b=false->Ev tb σ H y):Ev (Oo t ta tb) σ H (if b=true then x else y):=λQ q=>ht _ (by
 cases b with
 |true=>exact iL (h1 rfl _ q)
 |false=>exact hG (h2 rfl _ q))
def eV(ha:Ev ta σ H (.int i))(hb:Ev tb σ H (.int j)):Ev (fL K .Eq ta tb) σ H (.bl (decide (i=j))):=λQ q=>ha _ (hb _ q)
def pZ(ha:Ev ta σ H (.int i))(hb:Ev tb σ H (.int j)):Ev (fL K .NotEq ta tb) σ H (.bl (!decide (i=j))):=λQ q=>ha _ (hb _ q)
def uw(ha:Ev ta σ H (.int i))(hb:Ev tb σ H (.int j)):Ev (fL K .Lt ta tb) σ H (.bl (decide (i<j))):=λQ q=>ha _ (hb _ q)
def yb(ha:Ev ta σ H (.int i))(hb:Ev tb σ H (.int j)):Ev (fL K .Gt ta tb) σ H (.bl (decide (j<i))):=λQ q=>ha _ (hb _ q)
def JL(ha:Ev ta σ H (.int i))(hb:Ev tb σ H (.int j)):Ev (fL K .GtE ta tb) σ H (.bl (decide (j<=i))):=λQ q=>ha _ (hb _ q)
def gO(ha:Ev ta σ H (.str z))(hb:Ev tb σ H (.str z')):Ev (fL K .Eq ta tb) σ H (.bl (decide (z=z'))):=λQ q=>ha _ (hb _ q)
def wl(ha:Ev ta σ H (.str z))(hb:Ev tb σ H (.str z')):Ev (fL K .NotEq ta tb) σ H (.bl (!decide (z=z'))):=λQ q=>ha _ (hb _ q)
def BZ(ha:Ev ta σ H (.ref p))(hb:Ev tb σ H (.ref q))(h:CU K H 20 (.ref p) (.ref q) a):Ev (fL K .NotEq ta tb) σ H (.bl (!a)):=λQ k=>ha _ (hb _ ⟨a,h,k⟩)
def BH(i:Int)(ns:List Int):D3 (.int i) (ns.map V.int)=decide (i∈ns):=by
 unfold D3;rw[Xf]
 by_cases h:i∈ns
 .rw[Ry h];exact Wv.mpr ⟨i,h,by simp[eqV]⟩
 .rw[RA h];apply WD.mpr;intro y hy;have:y≠i:=λe=>h (e▸hy);simp[eqV,this]
def Lq{ns:List Int}(ha:Ev ta σ H (.int i))(hb:Ev tb σ H (.ref p))(h:aR K H p (ns.map V.int)\/dF K H p (ns.map V.int)):Ev (fL K .NotIn ta tb) σ H (.bl (!decide (i∈ns))):=λQ q=>ha _ (hb _ (by
 rw[lY];refine⟨p,_,rfl,h,rfl,zW ns,?_⟩;rw[BH];exact q))
def n6(ha:Ev ta σ H (.int i))(hb:Ev tb σ H .non):Ev (fL K .IsNot ta tb) σ H (.bl true):=λQ q=>ha _ (hb _ q)
def nZ(ha:Ev ta σ H .non)(hb:Ev tb σ H .non):Ev (fL K .IsNot ta tb) σ H (.bl false):=λQ q=>ha _ (hb _ q)
def yd(ha:Ev ta σ H (.int i))(hb:Ev tb σ H (.int j))(hc:i<=j->Ev tc σ H (.int k)):Ev (rW K .LtE .LtE ta tb tc) σ H (.bl (decide (i<=j/\j<=k))):=λQ q=>ha _ (hb _ (by
 rw[px]
 by_cases h:i<=j
 .rw[Ry h];refine hc h _ ?_;have e:decide (i<=j/\j<=k)=decide (j<=k):=by simp[h]
  rw[e]at q;exact q
 .rw[RA h];have e:decide (i<=j/\j<=k)=false:=by simp[h]
  rw[e]at q;exact q))
def aK{sp:Sp}{t:TA}{vs:List V}(ht:Av t σ H vs)(h:∀Q:VK,Q x H->sp vs H Q E0):Ev (gQ sp t) σ H x:=λQ q=>ht _ (h Q q)
def ay:Av bG σ H []:=λQ q=>q
def aa{t:TA}{vs:List V}(ha:Ev ta σ H x)(ht:Av t σ H vs):Av (aN ta t) σ H (x::vs):=λQ q=>ha _ (ht _ q)
def uN:Av (cCs vs) σ H vs:=λQ q=>q
def bb(h:Ev te σ H (.bl b)):Tv (ju te) σ H b:=λQ q=>h _ q
def cC(h:Tv t σ H b):Tv (AD t) σ H (!b):=λQ q=>h _ q
def i6(ha:Tv t σ H a)(hb:a=true->Tv u σ H b):Tv (Ki t u) σ H (a&&b):=λQ q=>ha _ (by
 cases a with
 |true=>exact iL (hb rfl _ q)
 |false=>exact hG q)
def jO(ha:Tv t σ H a)(hb:a=false->Tv u σ H b):Tv (L4 t u) σ H (a||b):=λQ q=>ha _ (by
 cases a with
 |true=>exact iL q
 |false=>exact hG (hb rfl _ q))
def wT(ha:Ev ta σ H (.int i))(hb:Ev tb σ H (.int j))(hc:i<=j->Ev tc σ H (.int k)):Tv (rV K .LtE .Lt ta tb tc) σ H (decide (i<=j/\j<k)):=λQ q=>ha _ (hb _ (by
 rw[px]
 by_cases h:i<=j
 .rw[Ry h];refine hc h _ ?_;have e:decide (i<=j/\j<k)=decide (j<k):=by simp[h]
  rw[e]at q;exact q
 .rw[RA h];have e:decide (i<=j/\j<k)=false:=by simp[h]
  rw[e]at q;exact q))
end
section
def aO(h:Ev te σ H v)(h2:u D (σ.set i (some v)) H):bn (oA te (ck i)) u D σ H:=h _ h2
def cR(h:Ev te σ H v)(h2:D.nx (σ.set i (some v)) H):oA te (ck i) D σ H:=h _ h2
def aL(h:Ev te σ H v)(h2:D.rt v H):cD te D σ H:=h _ h2
def bB(hc:Tv c σ H b)(h1:b=true->t {D with nx:=u D} σ H)(h2:b=false->u D σ H):bn (qq c t wY) u D σ H:=hc _ (by
 cases b with
 |true=>exact iL (h1 rfl)
 |false=>exact hG (h2 rfl))
def de(hc:Tv c σ H b)(h1:b=true->t D σ H)(h2:b=false->D.nx σ H):qq c t wY D σ H:=hc _ (by
 cases b with
 |true=>exact iL (h1 rfl)
 |false=>exact hG (h2 rfl))
def Kl(hc:Tv c σ H b)(h1:b=true->t {D with nx:=u D} σ H)(h2:b=false->t' {D with nx:=u D} σ H):bn (qq c t t') u D σ H:=hc _ (by
 cases b with
 |true=>exact iL (h1 rfl)
 |false=>exact hG (h2 rfl))
end
section
variable{K:Frag}{σ rest:St}{H:Hp}{tl te:TE}{tt:TT}{src:List (Option Nat)}{Q:VK}
def fZ:Tv iS σ H true:=λQ q=>q
def uE{xs:List V}(hz:xs.length<=v1)(hs:eU src σ=none::rest)(p:V->Bool)(f:V->V)(hgo:∀i,i<xs.length->J.go i H)(hstop:J.stop xs.length H)(hyld:∀i v H',i<xs.length->J.yld i H v H'->H'=H/\xs[i]? =some v)(ht:∀x∈xs,Tv tt (some x::rest) H (p x))(he:∀x∈xs,p x=true->Ev te (some x::rest) H (f x))(q:∀d',H d'=none->Q (.ref d') (upd H d' (.lst ((xs.filter p).map f)))):eP (ck 0) tt te src σ Q J H:=by
 refine⟨λi m ys σ' H'=>m=xs.length - i/\i<=xs.length/\ys=((xs.take i).filter p).map f/\(∃o,σ'=o::rest)/\H'=H,⟨xs.length,by simp,XF _,by simp,⟨none,hs⟩,rfl⟩,?_⟩;rintro i m ys σ' H' ⟨rfl,hi,rfl,⟨o,rfl⟩,rfl⟩
 by_cases hlt:i<xs.length
 .refine .inr ⟨hgo i hlt,?_,λx H2 y=>?_⟩
  .rw[VN];have h1:=Wp p (xs.take i);rw[V8]at h1;lia
  .obtain⟨rfl,hx⟩:=hyld i x H2 hlt y;have tk:(xs.take (i+1)).filter p=(xs.take i).filter p++(if p x then [x]else []):=take_succ_filter p xs i x hx;have hm:x∈xs:=Wa hx;show tt (some x::rest) H2 _;refine ht x hm _ ?_;cases hp:p x with
   |true=>
    refine iL (he x hm hp _ ?_);refine⟨xs.length - (i+1),by lia,rfl,hlt,?_,⟨_,rfl⟩,rfl⟩;rw[tk,hp,RC rfl,VZ];rfl
   |false=>
    refine hG ?_;refine⟨xs.length - (i+1),by lia,rfl,hlt,?_,⟨_,rfl⟩,rfl⟩;rw[tk,hp,RB (by simp),V9]
 .have e:i=xs.length:=by lia
  subst e;refine .inl ⟨hstop,λd hd=>?_⟩;rw[Ww];exact q d hd
def gZ(hl:Ev tl σ H (.ref d))(hx:aR K H d xs)(hz:xs.length<=v1)(hs:eU src σ=none::rest)(p:V->Bool)(f:V->V)(ht:∀x∈xs,Tv tt (some x::rest) H (p x))(he:∀x∈xs,p x=true->Ev te (some x::rest) H (f x))(q:∀d',H d'=none->Q (.ref d') (upd H d' (.lst ((xs.filter p).map f)))):tComp (nV K tl) (ck 0) tt te src σ H Q:=
 hl _ ⟨d,rfl,⟨xs,hx⟩,uE hz hs p f (λi hi=>⟨xs,xs[i],hx,VQ hi⟩) ⟨xs,hx,XD _⟩ (λi v H' _ y=>⟨y.1,y.2 xs hx⟩) ht he q⟩
def uD(hl:Av ta σ H [.int n])(h0:0<=n)(hz:n.toNat<=v1)(h1:n<2 ^ 62)(hs:eU src σ=none::rest)(p:V->Bool)(f:V->V)(ht:∀i:Nat,i<n.toNat->Tv tt (some (.int (0+(i:Int)))::rest) H (p (.int (0+(i:Int)))))(he:∀i:Nat,i<n.toNat->p (.int (0+(i:Int)))=true->Ev te (some (.int (0+(i:Int)))::rest) H (f (.int (0+(i:Int)))))(q:∀d',H d'=none->Q (.ref d') (upd H d' (.lst ((((List.range n.toNat).map λ(i:Nat)=>V.int (0+(i:Int))).filter p).map f)))):tComp (xX ta) (ck 0) tt te src σ H Q:=by
 have hin:∀x∈(List.range n.toNat).map λ(i:Nat)=>V.int (0+(i:Int)),∃i:Nat,i<n.toNat/\x=.int (0+(i:Int)):=λx hx=>by obtain⟨i,hi,rfl⟩:=VP.mp hx;exact⟨i,V4.mp hi,rfl⟩
 have hlen:((List.range n.toNat).map λ(i:Nat)=>V.int (0+(i:Int))).length=n.toNat:=by simp
 refine hl _ ⟨n,rfl,by lia,h1,uE (xs:=(List.range n.toNat).map λ(i:Nat)=>V.int (0+(i:Int))) (by rw[hlen];exact hz) hs p f (λi hi=>by rw[hlen]at hi;exact hi) (by rw[hlen];exact XD _) (λi v H' hi y=>⟨y.1,?_⟩) (λx hx=>?_) (λx hx hp=>?_) q⟩
 .rw[hlen]at hi;rw[VT,Wm hi,y.2];rfl
 .obtain⟨i,hi,rfl⟩:=hin x hx;exact ht i hi
 .obtain⟨i,hi,rfl⟩:=hin x hx;exact he i hi hp
end
section
variable{K:Frag}{te to tv:TE}{u:TS}{D:mq}{σ:St}{H:Hp}{v x y:V}
def kO(ho:Ev to σ H (.ref p))(hi:lT C m H p)(ht:Av t σ H vs)(h:∀Q:VK,Q x H->sp (.ref p::vs) H Q E0):Ev (uK C m sp to t) σ H x:=λQ q=>ho _ ⟨hi,ht _ (h Q q)⟩
def AI(ho:Ev to σ H (.ref l))(he:Ev te σ H y)(hl:H l=some (.lst xs))(hz:xs.length<v1)(h2:u D σ (upd H l (.lst (xs++[y])))):bn (jP (Am to te)) u D σ H:=ho _ ⟨⟨xs,hl⟩,he _ ⟨xs,hl,hz,h2⟩⟩
def Dk(ho:Ev to σ H (.ref l))(he:Ev te σ H y)(hl:H l=some (.lst xs))(hz:xs.length<v1)(h2:D.nx σ (upd H l (.lst (xs++[y])))):jP (Am to te) D σ H:=ho _ ⟨⟨xs,hl⟩,he _ ⟨xs,hl,hz,h2⟩⟩
def qx(h:Ev tv σ H v)(ho:Ev to σ H (.ref p))(hp:H p=some (.ins C dx fs))(hc:oY K C)(hn:bK K C f)(hl:fs.length<1000)(h2:u D σ (upd H p (.ins C dx (putF f v fs)))):bn (lX K to tv f) u D σ H:=h _ (ho _ ⟨p,C,dx,fs,rfl,hp,hc,hn,hl,h2⟩)
def jX(h2:∀q,H q=none->u D (σ.set i (some (.ref q))) (upd H q (.lst []))):bn (oA (lV bG) (ck i)) u D σ H:=⟨XF _,λq hq=>h2 q hq⟩
end
section
variable{K:Frag}{te to ta tb ti:TE}{t:TA}{σ:St}{H:Hp}{Q:VK}{v x y:V}{vs:List V}
def kX(h:Ev te σ H v)(q:Q v H):te σ H Q:=h Q q
def cu(h:Av t σ H vs)(q:sp vs H Q E0):gQ sp t σ H Q:=h _ q
def lC(h:Av t σ H vs)(q:sp vs H (fN λc H1=>R (!c) H1) E0):AD (ju (gQ sp t)) σ H R:=h _ q
def Rg(h:Ev to σ H v)(q:r [v] H Q):cB r (aN to bG) σ H Q:=h _ q
def qo(ha:Ev ta σ H x)(hb:Ev tb σ H y)(q:∀p,H p=none->Q (.ref p) (upd H p (.tup [x,y]))):mO (aN ta (aN tb bG)) σ H Q:=ha _ (hb _ ⟨by show 2<=v1;decide,q⟩)
def pH(h:Av t σ H vs)(hz:vs.length<=1000)(hi:∀H',Ev ti σ H' (.int i))(e:atI vs i=some v)(q:∀H',aj H H'->Q v H'):Ep K (lV t) ti σ H Q:=h _ ⟨XG hz (by decide),λp hp=>hi _ _ ⟨vs,v,.inl (aR.of ag),e,q _ ((aj.refl H).upd hp)⟩⟩
end
section
def uO(ho:Ev to σ H (.ref l))(hl:∃xs,H l=some (.lst xs))(q:te σ H λy H2=>∃xs,H2 l=some (.lst xs)/\xs.length<v1/\D.nx σ (upd H2 l (.lst (xs++[y])))):jP (Am to te) D σ H:=ho _ ⟨hl,q⟩
end
noncomputable def oI:Option Int->V
 |some n=>.int n
 |none=>.non
structure jN(K:Frag)(C:Zo):Prop where
 cl:oY K C
 wide:bK K C "wide"
 high:bK K C "high"
 holes:bK K C "holes"
 firm:bK K C "firm"
noncomputable def jv(wi hi:Int)(ph pf:Zo):List (Str×V):=putF "firm" (.ref pf) (putF "holes" (.ref ph) (putF "high" (.int hi) (putF "wide" (.int wi) [])))
def Ey(wi hi:Int)(ph pf:Zo):(jv wi hi ph pf).lookup ("wide":Str)=some (.int wi):=by unfold jv;rw[av,RB (by decide+kernel),av,RB (by decide+kernel),av,RB (by decide+kernel),av,RC rfl]
def Ez(wi hi:Int)(ph pf:Zo):(jv wi hi ph pf).lookup ("high":Str)=some (.int hi):=by unfold jv;rw[av,RB (by decide+kernel),av,RB (by decide+kernel),av,RC rfl]
def Cu(wi hi:Int)(ph pf:Zo):(jv wi hi ph pf).lookup ("holes":Str)=some (.ref ph):=by unfold jv;rw[av,RB (by decide+kernel),av,RC rfl]
def EA(wi hi:Int)(ph pf:Zo):(jv wi hi ph pf).lookup ("firm":Str)=some (.ref pf):=by unfold jv;rw[av,RC rfl]
def PB(wi hi:Int)(ph pf:Zo){m:Str}(h1:¬m="wide")(h2:¬m="high")(h3:¬m="holes")(h4:¬m="firm"):(jv wi hi ph pf).lookup m=none:=by unfold jv;rw[av,RB h4,av,RB h3,av,RB h2,av,RB h1];rfl
noncomputable def firmL(wi hi:Int)(hs:List Int):List Bool:=(List.range (wi*hi).toNat).map λ(s:Nat)=> !decide ((s:Int)∈hs)
structure bU(K:Frag)(C:Zo)(H:Hp)(p:Zo)(wi hi:Int)(hs:List Int):Prop where
 ex:∃dx ph pf,H p=some (.ins C dx (jv wi hi ph pf))/\H ph=some (.lst (hs.map V.int))/\H pf=some (.lst ((firmL wi hi hs).map V.bl))
 w1:1<=wi
 w8:wi<=8
 h1:1<=hi
 h8:hi<=8
 good:∀h∈hs,0<=h/\h<wi*hi
 srt:hs.Pairwise (·<=·)
 nd:hs.Nodup
section
variable{K:Frag}{C:Zo}{H H':Hp}{p:Zo}{wi hi:Int}{hs:List Int}
def bU.same(B:bU K C H p wi hi hs)(s:aj H H'):bU K C H' p wi hi hs:=by obtain⟨⟨dx,ph,pf,a,b,c⟩,w1,w8,h1,h8,g,sr,nd⟩:=B;exact⟨⟨dx,ph,pf,s _ _ a,s _ _ b,s _ _ c⟩,w1,w8,h1,h8,g,sr,nd⟩
theorem bU.wide(B:bU K C H p wi hi hs)(D:jN K C):Fl K H p "wide" (.int wi):=by obtain⟨dx,ph,pf,a,_,_⟩:=B.ex;exact⟨C,dx,_,a,D.cl,D.wide,Ey _ _ _ _⟩
theorem bU.high(B:bU K C H p wi hi hs)(D:jN K C):Fl K H p "high" (.int hi):=by obtain⟨dx,ph,pf,a,_,_⟩:=B.ex;exact⟨C,dx,_,a,D.cl,D.high,Ez _ _ _ _⟩
theorem bU.firm(B:bU K C H p wi hi hs)(D:jN K C):∃pf,Fl K H p "firm" (.ref pf)/\H pf=some (.lst ((firmL wi hi hs).map V.bl)):=by obtain⟨dx,ph,pf,a,_,c⟩:=B.ex;exact⟨pf,⟨C,dx,_,a,D.cl,D.firm,EA _ _ _ _⟩,c⟩
theorem bU.holes(B:bU K C H p wi hi hs)(D:jN K C):∃ph,Fl K H p "holes" (.ref ph)/\H ph=some (.lst (hs.map V.int)):=by obtain⟨dx,ph,pf,a,b,c⟩:=B.ex;exact⟨ph,⟨C,dx,_,a,D.cl,D.holes,Cu _ _ _ _⟩,b⟩
def bU.no(B:bU K C H p wi hi hs){m:Str}(h1:¬m="wide":=by decide+kernel)(h2:¬m="high":=by decide+kernel)(h3:¬m="holes":=by decide+kernel)(h4:¬m="firm":=by decide+kernel):lT C m H p:=by obtain⟨dx,ph,pf,a,b,c⟩:=B.ex;exact⟨dx,_,a,PB _ _ _ _ h1 h2 h3 h4⟩
def bU.many(B:bU K C H p wi hi hs):1<=wi*hi/\wi*hi<=64:=by have a:=B.w1;have b:=B.w8;have c:=B.h1;have d:=B.h8;have e1:1*1<=wi*hi:=X5 a c (by lia) (by lia);have e2:wi*hi<=8*8:=X5 b d (by lia) (by lia);lia
def x8(h0:0<=s)(h1:s<wi*hi):atI ((firmL wi hi hs).map V.bl) s=some (.bl (!decide (s∈hs))):=by
 have e:s=((s.toNat:Nat):Int):=by lia
 have hl:s.toNat<(wi*hi).toNat:=by lia
 have:((firmL wi hi hs).map V.bl)[s.toNat]? =some (.bl (!decide (((s.toNat:Nat):Int)∈hs))):=by unfold firmL;rw[VT,VT,Wm hl];rfl
 have q:=bz this;rw[<-e]at q;exact q
def uv:(firmL wi hi hs).length=(wi*hi).toNat:=by unfold firmL;simp
end
noncomputable def P6(wi hi:Int)(hs:List Int)(s ax up:Int):Option Int:=
 if 0<=s % wi+ax/\s % wi+ax<wi/\0<=s / wi+up/\s / wi+up<hi then(if(s / wi+up)*wi+(s % wi+ax)∈hs then none else some ((s / wi+up)*wi+(s % wi+ax)))else none
noncomputable def qy(wi s ax up:Int)(k:Nat):Int:=(s / wi+k*up)*wi+(s % wi+k*ax)
def tY(wi hi:Int)(hs:List Int)(s ax up:Int)(k:Nat):Prop:=0<=s % wi+k*ax/\s % wi+k*ax<wi/\0<=s / wi+k*up/\s / wi+k*up<hi/\¬qy wi s ax up k∈hs
instance {wi hi:Int} {hs:List Int} {s ax up:Int} {k:Nat}:Decidable (tY wi hi hs s ax up k):=by unfold tY;infer_instance
def kU(wi hi:Int)(hs:List Int)(s ax up:Int)(n:Nat):Prop:=(∀j<n,tY wi hi hs s ax up (j+1))/\¬tY wi hi hs s ax up (n+1)
noncomputable def fG(wi s ax up:Int)(n:Nat):List Int:=(List.range n).map λj=>qy wi s ax up (j+1)
def kU.uniq(h:kU wi hi hs s ax up m)(h':kU wi hi hs' s ax up n)(e:∀x,x∈hs<->x∈hs'):m=n:=by
 have c:∀k,tY wi hi hs s ax up k<->tY wi hi hs' s ax up k:=λk=>by unfold tY;rw[e]
 rcases XX m n with l|l|l
 .exact RF ((c _).mpr (h'.1 m l)) h.2
 .exact l
 .exact RF ((c _).mp (h.1 n l)) h'.2
def kC:(fG wi s ax up n).length=n:=by unfold fG;simp
def yW:fG wi s ax up (n+1)=fG wi s ax up n++[qy wi s ax up (n+1)]:=by unfold fG;rw[WA,VZ];rfl
def Bm(w8:wi<=8)(h8:hi<=8)(w1:1<=wi)(s0:0<=s)(s1:s<wi*hi)(n0:¬(ax=0/\up=0))(h:tY wi hi hs s ax up k):k<8:=by
 obtain⟨a,b,c,d,_⟩:=h;have m0:=X3 s (by lia:wi≠0);have m1:=X4 s (by lia:0<wi);have d0:0<=s / wi:=Int.ediv_nonneg s0 (by lia);have d1:s / wi<hi:=Int.ediv_lt_of_lt_mul (by lia) (by rw[X6];exact s1);apply Classical.byContradiction;intro hk;have hk:8<=k:=by lia
 have k8:(8:Int)<=(k:Int):=by lia
 rcases Int.lt_trichotomy ax 0 with l|l|l
 .have:(k:Int)*ax<=(k:Int)*(-1):=X7 (by lia) (by lia);lia
 .rcases Int.lt_trichotomy up 0 with l'|l'|l'
  .have:(k:Int)*up<=(k:Int)*(-1):=X7 (by lia) (by lia);lia
  .exact n0 ⟨l,l'⟩
  .have:(k:Int)*1<=(k:Int)*up:=X7 (by lia) (by lia);lia
 .have:(k:Int)*1<=(k:Int)*ax:=X7 (by lia) (by lia);lia
def Dl{wi s ax up:Int}{k:Nat}(w1:1<=wi)(a:0<=s % wi+k*ax)(b:s % wi+k*ax<wi):qy wi s ax up k % wi=s % wi+k*ax/\qy wi s ax up k / wi=s / wi+k*up:=by
 unfold qy;rw[Int.add_comm ((s / wi+k*up)*wi)]
 constructor
 .rw[Int.add_mul_emod_self_right];exact Int.emod_eq_of_lt a b
 .rw[Int.add_mul_ediv_right _ _ (by lia),Int.ediv_eq_zero_of_lt a b];lia
def AJ(w1:1<=wi):qy wi s ax up 0=s:=by unfold qy;have e:=Int.mul_ediv_add_emod s wi;rw[X6]at e;have z:((0:Nat):Int)=0:=rfl;rw[z,Int.zero_mul,Int.zero_mul,Int.add_zero,Int.add_zero];exact e
def xE{wi hi:Int}{hs:List Int}{s ax up:Int}{k:Nat}(w1:1<=wi)(a:0<=s % wi+k*ax)(b:s % wi+k*ax<wi):P6 wi hi hs (qy wi s ax up k) ax up=if tY wi hi hs s ax up (k+1)then some (qy wi s ax up (k+1))else none:=by
 obtain⟨e1,e2⟩:=Dl (up:=up) w1 a b;unfold P6;rw[e1,e2];have ze:((k+1:Nat):Int)=(k:Int)+1:=rfl;have f1:s % wi+(k:Int)*ax+ax=s % wi+((k+1:Nat):Int)*ax:=by rw[ze,Int.add_mul,X8];lia
 have f2:s / wi+(k:Int)*up+up=s / wi+((k+1:Nat):Int)*up:=by rw[ze,Int.add_mul,X8];lia
 rw[f1,f2];have f3:(s / wi+((k+1:Nat):Int)*up)*wi+(s % wi+((k+1:Nat):Int)*ax)=qy wi s ax up (k+1):=rfl;rw[f3]
 by_cases c:0<=s % wi+((k+1:Nat):Int)*ax/\s % wi+((k+1:Nat):Int)*ax<wi/\0<=s / wi+((k+1:Nat):Int)*up/\s / wi+((k+1:Nat):Int)*up<hi
 .rw[RC c]
  by_cases m:qy wi s ax up (k+1)∈hs
  .rw[RC m,RB (show¬tY wi hi hs s ax up (k+1)from λz=>z.2.2.2.2 m)]
  .rw[RB m,RC (show tY wi hi hs s ax up (k+1)from⟨c.1,c.2.1,c.2.2.1,c.2.2.2,m⟩)]
 .rw[RB c,RB (show¬tY wi hi hs s ax up (k+1)from λz=>c ⟨z.1,z.2.1,z.2.2.1,z.2.2.2.1⟩)]
def Jl:Sp:=λvs H Q _=>∃t a b:Int,vs=[.int t,.int a,.int b]/\Q (.bl (decide (a<=t/\t<=b))) H
def Jh:Sp:=λvs H Q _=>∃w s:Int,vs=[.int w,.int s]/\0<w/\Q (.int (s % w)) H
def AN:Sp:=λvs H Q _=>∃w s:Int,vs=[.int w,.int s]/\0<w/\w<100/\Q (.int (s / w)) H
def AK:Sp:=λvs H Q _=>∃w c r:Int,vs=[.int w,.int c,.int r]/\-100<w/\w<100/\Q (.int (r*w+c)) H
def sY:Sp:=λvs H Q _=>∃(d:Zo)(m:Int)(hs:List Int),vs=[.ref d,.int m]/\H d=some (.lst (hs.map V.int))/\(∀h∈hs,0<=h/\h<m)/\hs.Nodup/\(hs.length:Int)<m/\m<=64/\∀H',aj H H'->Q (.bl true) H'
def qC(K:Frag)(C:Zo):Sp:=λvs H Q _=>∃p d dx wi hi hs,vs=[.ref p,.int wi,.int hi,.ref d]/\H p=some (.ins C dx [])/\H d=some (.lst (hs.map V.int))/\1<=wi/\wi<=8/\1<=hi/\hi<=8/\(∀h∈hs,0<=h/\h<wi*hi)/\hs.Nodup/\(hs.length:Int)<wi*hi/\
 ∀(hs':List Int) H',hs'.Perm hs->bU K C H' p wi hi hs'->SameBut p H H'->Q .non H'
def xb(K:Frag)(C:Zo):Sp:=λvs H Q _=>∃p wi hi hs s ax up,vs=[.ref p,.int s,.int ax,.int up]/\bU K C H p wi hi hs/\Q (oI (P6 wi hi hs s ax up)) H
def Je(K:Frag)(C:Zo):Sp:=λvs H Q _=>∃p wi hi hs s ax up,vs=[.ref p,.int s,.int ax,.int up]/\bU K C H p wi hi hs/\0<=s/\s<wi*hi/\¬(ax=0/\up=0)/\
 ∀n q H',kU wi hi hs s ax up n->n<=8->H q=none->H' q=some (.lst ((fG wi s ax up n).map V.int))->aj H H'->Q (.ref q) H'
structure CA(P:RU)(w:RZ)(K:Frag)(mg:RJ)(Rw:R9):Prop where
 is_among:cZ P w K mg Rw "is_among" ["thing","least","most"] 2 Jl
structure CB(P:RU)(w:RZ)(K:Frag)(mg:RJ)(Rw:R9):Prop where
 column_of:cZ P w K mg Rw "column_of" ["wide","square"] 1 Jh
 row_of:cZ P w K mg Rw "row_of" ["wide","square"] 1 AN
 square_at:cZ P w K mg Rw "square_at" ["wide","column","row"] 1 AK
structure CB2(P:RU)(w:RZ)(K:Frag)(mg:RJ)(Rw:R9):Prop extends CA P w K mg Rw where
 are_holes:cZ P w K mg Rw "are_holes" ["thing","many"] 3 sY
structure CB3(P:RU)(w:RZ)(K:Frag)(mg:RJ)(Rw:R9)(cB:Zo):Prop extends CB2 P w K mg Rw where
 Board:lS P w K mg Rw "Board" cB ["self","wide","high","holes"] 4 (qC K cB)
 Board_moved:j6 P w K mg Rw cB "moved" ["self","square","across","up"] 2 (xb K cB)
section
variable{X:Cx}{Rv:RL}{σ:St}{H:Hp}{s:RQ}{h':R9}
def aJ.turned_laid{t':Nat}{e it a:Zo}{o:HO}(I:aJ X Rv σ H s)(k:∀b ob,b≠e->b≠it->s.heap.get? b=some ob->h'.get? b=some ob)(he:jz X Rv H e)(hi:jz X Rv H it)(hp:s.heap.objs.size<=a)(new:bp X.prog X.w (upd H a o) h' a o):aJ X Rv σ (upd H a o) {s with heap:=h',toks:=t'}:=by
 obtain⟨e0,e1,e2,e3,e4,e5⟩:=he;obtain⟨i0,i1,i2,i3,i4,i5⟩:=hi;have hn:H a=none:=I.hok.fresh hp;have ne:∀b u,H b=some u->b≠e:=λb u q z=>by rw[z,e0]at q;cases q
 have nit:∀b u,H b=some u->b≠it:=λb u q z=>by rw[z,i0]at q;cases q
 have kk:∀b ob,b∉[e,it]->s.heap.get? b=some ob->h'.get? b=some ob:=λb ob hc q=>k b ob (λz=>hc (by simp[z])) (λz=>hc (by simp[z])) q;refine I.step (g':=s.gens) (d':=s.drawn) (ch:=[e,it]) (λb hb=>?_) (λb ob _ _ hc q _=>kk b ob hc q) (λb ob _ _ hc q _=>⟨ob.slots,kk b ob hc q⟩)
  (λb ob hc q n=>by rw[aq (XE (XH (RP q) hp))];exact n) (λb ob hc q=>⟨ob,kk b ob hc q⟩) (λb xs q=>by rw[aq (aB q hn)];exact q) (λb ob u q=>by rw[aq (aB q hn)];exact q)
  (λb ps q=>⟨#[],by rw[aq (aB q hn),q];simp⟩) (λm hm=>?_) (λb u q=>?_) I.bare
 .rcases VO.mp hb with rfl|hb
  .exact⟨e3,e1,e4,e5⟩
  .rw[VR.mp hb];exact⟨i3,i1,i4,i5⟩
 .obtain⟨ob,es,ep,ho,r⟩:=hm;exact⟨ob,es,ep,k _ ob (Ne.symm e1) (Ne.symm i1) ho,r⟩
 .by_cases hb:b=a
  .subst hb;rw[ag]at q;cases q;exact new
  .rw[aq hb]at q;refine(I.hok b u q).stay (λc v hc z=>k c v ?_ ?_ z) (λc z=>by rw[aq (aB z hn)];exact z) λc xs z=>by rw[aq (aB z hn)];exact z
   .rcases hc with z|z
    .rw[z];exact ne b u q
    .exact ne c _ z
   .rcases hc with z|z
    .rw[z];exact nit b u q
    .exact nit c _ z
def aJ.turned2(I:aJ X Rv σ H s)(k:∀b ob,b≠e->b≠it->s.heap.get? b=some ob->h'.get? b=some ob)(he:jz X Rv H e)(hi:jz X Rv H it):aJ X Rv σ H {s with heap:=h',toks:=t'}:=by
 obtain⟨e0,e1,e2,e3,e4,e5⟩:=he;obtain⟨i0,i1,i2,i3,i4,i5⟩:=hi;have ne:∀b u,H b=some u->b≠e:=λb u q z=>by rw[z,e0]at q;cases q
 have nit:∀b u,H b=some u->b≠it:=λb u q z=>by rw[z,i0]at q;cases q
 have kk:∀b ob,b∉[e,it]->s.heap.get? b=some ob->h'.get? b=some ob:=λb ob hc q=>k b ob (λz=>hc (by simp[z])) (λz=>hc (by simp[z])) q;refine I.step (g':=s.gens) (d':=s.drawn) (ch:=[e,it]) (λb hb=>?_) (λb ob _ _ hc q _=>kk b ob hc q) (λb ob _ _ hc q _=>⟨ob.slots,kk b ob hc q⟩)
  (λ_ _ _ _ n=>n) (λb ob hc q=>⟨ob,kk b ob hc q⟩) (λ_ _ q=>q) (λ_ _ _ q=>q)
  (λb ps q=>⟨#[],by rw[q];simp⟩) (λm hm=>?_) (λb u q=>?_) I.bare
 .rcases VO.mp hb with rfl|hb
  .exact⟨e3,e1,e4,e5⟩
  .rw[VR.mp hb];exact⟨i3,i1,i4,i5⟩
 .obtain⟨ob,es,ep,ho,r⟩:=hm;exact⟨ob,es,ep,k _ ob (Ne.symm e1) (Ne.symm i1) ho,r⟩
 .refine(I.hok b u q).stay (λc v hc z=>k c v ?_ ?_ z) (λc z=>z) λc xs z=>z
  .rcases hc with z|z
   .rw[z];exact ne b u q
   .exact ne c _ z
  .rcases hc with z|z
   .rw[z];exact nit b u q
   .exact nit c _ z
end
noncomputable def PU(K:Frag)(a:Zo):It:=
 ⟨λi H=>∃xs x,aR K H a xs/\xs[i]? =some x,λi H x H'=>∃t v,x=.ref t/\H t=none/\H'=upd H t (.tup [.int (i:Int),v])/\∀xs,aR K H a xs->xs[i]? =some v,λi H=>∃xs,aR K H a xs/\xs.length<=i⟩
def u7{P:RU}{w:RZ}{K:Frag}{elts:List Sz}{k0:Nat}{pos:Vb}(a e it:Zo)(hne:e≠it):Ao P w K (.Tuple elts k0 pos) (PU K a) [e,it] e (λi h=>(∃old,IsEnum h e it (i:Int) old)/\h.IsListIter it a i) where
 mem:=by simp
 obj:=λi h st b hb=>by
  obtain⟨⟨old,he⟩,o,ho,c,d⟩:=st
  rcases VO.mp hb with rfl|hb
  .exact⟨_,he,λv z=>by cases z⟩
  .rw[VR.mp hb];exact⟨o,ho,λv z=>by rw[d]at z;cases z⟩
 keep:=λi h h' st k=>by obtain⟨⟨old,he⟩,hi⟩:=st;exact⟨⟨old,k e (by simp) _ he⟩,hi.at λo x=>k it (by simp) o x⟩
 item:=by
  intro X hP hw hK hc i Rv s σ H E I hf st hg;subst hP hw hK;obtain⟨xs,x,hq,hx⟩:=hg;obtain⟨its,rv,p,hz⟩:=I.list hq;obtain⟨u,hu,ru⟩:=rv.get hx;obtain⟨⟨old,he⟩,hit⟩:=st;have fe:=hf e (by simp);have fi:=hf it (by simp);obtain⟨oL,hoL,hcL,nL,hdL⟩:=p.isList;have hai:a≠it:=λz=>by subst z;obtain⟨o',ho',hc',_⟩:=hit;rw[hoL]at ho';cases ho';rw[hcL]at hc';injection hc' with hz';exact RF hz' (by decide)
  have hae:a≠e:=λz=>by subst z;have he':s.heap.get? a=_:=he;rw[hoL]at he';cases he';injection hcL with hz';exact RF hz' (by decide)
  have D:=Draws.list (prog:=X.prog) (w:=X.w) (A:=X.A.in1) (by show X.A.handled=none;exact I.ok.hd hc) it a hai its.toArray;have hlt:i<its.toArray.size:=by have:=(V5.mp hu).1;simpa using this
  refine UD D he ⟨hit,p.isList⟩ hlt hne (by simp[hne,hae.symm]) λx' h1 tk hP' ho hs' hT hsz hk=>?_;have ex:x'=u:=by have:its.toArray[i]? =some x':=hP';rw[Xg,hu]at this;exact(RH this).symm
  subst ex;refine⟨_,rfl,Ud ho λh2 he2 sb=>?_⟩;have hlt2:e<s.heap.objs.size:=RP he;have kk:∀b ob,b≠e->b≠it->s.heap.get? b=some ob->h2.get? b=some ob:=λb ob b1 b2 q=>(sb.2 b b1).trans (hk b ob b1 b2 q);have hT2:h2.get? s.heap.objs.size=some {cls:=.type "tuple",data:=.seq #[.int i tk,x']}:=(sb.2 _ (XJ hlt2)).trans hT;have new:bp X.prog X.w (upd H s.heap.objs.size (.tup [.int (i:Int),x])) h2 s.heap.objs.size (.tup [.int (i:Int),x]):=
   ⟨by show 2<=v1;decide,[.int i tk,x'],.cons ⟨tk,rfl⟩ (.cons ru .nil),⟨_,hT2,rfl,_,rfl⟩⟩
  have I2:=I.turned_laid (t':=tk+1) kk fe fi (XD _) new;refine⟨.ref s.heap.objs.size,_,I2,rfl,⟨_,x,rfl,I.hok.fresh (XD _),rfl,λys hy=>by rw[I.list_inj hy hq];exact hx⟩,⟨⟨_,by simpa using he2⟩,hs'.1.at λo z=>(sb.2 it (Ne.symm hne)).trans z⟩,λb hb=>?_⟩
  rcases VO.mp hb with rfl|hb
  .rw[aq (XE hlt2)];exact fe.1
  .rw[VR.mp hb];obtain⟨o',ho',_⟩:=hit;rw[aq (XE (RP ho'))];exact fi.1
 done:=by
   intro X hP hw hK hc i Rv s σ H E I hf st hg;subst hP hw hK;obtain⟨xs,hq,hx⟩:=hg;obtain⟨its,rv,p,hz⟩:=I.list hq;obtain⟨⟨old,he⟩,hit⟩:=st;have fe:=hf e (by simp);have fi:=hf it (by simp);have hl:=rv.length;obtain⟨oL,hoL,hcL,nL,hdL⟩:=p.isList;have hai:a≠it:=λz=>by subst z;obtain⟨o',ho',hc',_⟩:=hit;rw[hoL]at ho';cases ho';rw[hcL]at hc';injection hc' with hz';exact RF hz' (by decide)
   have hT:s.TypeIs (.ref e) "enumerate":=⟨_,he,rfl⟩;unfold S7;refine RM (SZ (Sh (name:=SX "__next__") hT UY
    (Sn UY hT F.entry_enumerate_next ?_ (F.args_enumerate_next_1 _))))
   show RR _ _ (field (.ref e) 2 >>= _) _ _ _;refine RM (SO he rfl (x:=.ref it) rfl ?_);refine RM (wpAny_nextOf_list_end (by show X.A.handled=none;exact I.ok.hd hc) hit p.isList (by simp;lia) λh' x he' hx'=>?_);obtain⟨o,ho,hcx⟩:=hx';refine RM (Ts (T:="StopIteration") (b:=true) ⟨o,ho,hcx⟩ Ui ?_);exact RN ⟨rfl,I.turned2 (t':=s.toks) (λb ob _ b2 q=>he' b ob b2 q) fe fi⟩
 self:=λA i s Q E st h=>by obtain⟨⟨old,he⟩,_⟩:=st;exact TN he h
noncomputable def Aq(x:Str):It:=
 ⟨λi _=>i<x.cps.size,λi H v H'=>∃t c,v=.ref t/\H t=none/\x.cps.toList[i]? =some c/\H'=upd H t (.tup [.int (i:Int),.str ⟨#[c]⟩]),λi _=>i=x.cps.size⟩
def iA(hh:A.handled=none)(it:Zo)(x:Str)(t:VL):Draws prog w A it [it] x.cps.size (λi v=>∃c u,x.cps[i]? =some c/\v=.str ⟨#[c]⟩ u) (λi h=>h.IsStrIter it (Td x) x t i):=by
 unfold Td;split
 .exact Draws.strAscii hh it x t
 .exact Draws.strWide hh it x t
def uZ{P:RU}{w:RZ}{K:Frag}{elts:List Sz}{k0:Nat}{pos:Vb}(e it:Zo)(x:Str)(t:VL)(hne:e≠it):Ao P w K (.Tuple elts k0 pos) (Aq x) [e,it] e (λi h=>(∃old,IsEnum h e it (i:Int) old)/\h.IsStrIter it (Td x) x t i) where
 mem:=by simp
 obj:=λi h st b hb=>by
  obtain⟨⟨old,he⟩,o,ho,c,d⟩:=st
  rcases VO.mp hb with rfl|hb
  .exact⟨_,he,λv z=>by cases z⟩
  .rw[VR.mp hb];exact⟨o,ho,λv z=>by rw[d]at z;cases z⟩
 keep:=λi h h' st k=>by obtain⟨⟨old,he⟩,o,ho,r⟩:=st;exact⟨⟨old,k e (by simp) _ he⟩,o,k it (by simp) o ho,r⟩
 item:=by
  intro X hP hw hK hc i Rv s σ H E I hf st hg;subst hP hw hK;obtain⟨⟨old,he⟩,hit⟩:=st;have fe:=hf e (by simp);have fi:=hf it (by simp);have D:=iA (prog:=X.prog) (w:=X.w) (A:=X.A.in1) (by show X.A.handled=none;exact I.ok.hd hc) it x t;refine UD D he hit hg hne (by simp[hne]) λx' h1 tk hP' ho hs' hT hsz hk=>?_;obtain⟨c,u,hcx,rfl⟩:=hP';refine⟨_,rfl,Ud ho λh2 he2 sb=>?_⟩;have hlt2:e<s.heap.objs.size:=RP he;have kk:∀b ob,b≠e->b≠it->s.heap.get? b=some ob->h2.get? b=some ob:=λb ob b1 b2 q=>(sb.2 b b1).trans (hk b ob b1 b2 q);have hT2:h2.get? s.heap.objs.size=some {cls:=.type "tuple",data:=.seq #[.int i tk,.str ⟨#[c]⟩ u]}:=(sb.2 _ (XJ hlt2)).trans hT;have new:bp X.prog X.w (upd H s.heap.objs.size (.tup [.int (i:Int),.str ⟨#[c]⟩])) h2 s.heap.objs.size (.tup [.int (i:Int),.str ⟨#[c]⟩]):=
   ⟨by show 2<=v1;decide,[.int i tk,.str ⟨#[c]⟩ u],.cons ⟨tk,rfl⟩ (.cons ⟨u,rfl⟩ .nil),⟨_,hT2,rfl,_,rfl⟩⟩
  have I2:=I.turned_laid (t':=tk+1) kk fe fi (XD _) new;have hs2:h2.IsStrIter it (Td x) x t (i+1):=by obtain⟨o',ho',r⟩:=hs';exact⟨o',(sb.2 it (Ne.symm hne)).trans ho',r⟩
  refine⟨.ref s.heap.objs.size,_,I2,rfl,⟨_,c,rfl,I.hok.fresh (XD _),by rw[Ys];exact hcx,rfl⟩,⟨⟨_,by simpa using he2⟩,hs2⟩,λb hb=>?_⟩
  rcases VO.mp hb with rfl|hb
  .rw[aq (XE hlt2)];exact fe.1
  .rw[VR.mp hb];obtain⟨o',ho',_⟩:=hit;rw[aq (XE (RP ho'))];exact fi.1
 done:=by intro X hP hw hK hc i Rv s σ H E I hf st hg;subst hP hw hK;obtain⟨⟨old,he⟩,hit⟩:=st;have hg:i=x.cps.size:=hg;subst hg;have fe:=hf e (by simp);have fi:=hf it (by simp);have D:=iA (prog:=X.prog) (w:=X.w) (A:=X.A.in1) (by show X.A.handled=none;exact I.ok.hd hc) it x t;exact wpAny_pyNext_enum_endD D he hit λh' hx=>⟨rfl,I.turned2 (t':=s.toks) (λb ob _ b2 q=>hx b ob b2 q) fe fi⟩
 self:=λA i s Q E st h=>by obtain⟨⟨old,he⟩,_⟩:=st;exact TN he h
section
variable{X:Cx}{p pos pos2:Vb}{a:Sz}{elts:List Sz}{k0:Nat}{ta:TE}
def xY(K:Frag)(ta:TE):TI:=λσ H R=>ta σ H λx H1=>match x with
 | .ref d=>(∃xs,aR K H1 d xs)/\R (PU K d) H1
 | .str z=>R (Aq z) H1
 |_=>False
def Dz(hm:X.mg "enumerate"=none)(ha:PE X a ta)(hg:Gl X "enumerate":=by rfl)(hs:RS [a] X.env=[(false,Sr a X.env)]:=by rfl):PI X (.Tuple elts k0 pos2) (.Call (.Name "enumerate" p) [a] [] pos) (xY X.K ta):=by
 intro Rv s σ H R I h;have hA:PA X [a] (aN ta bG):=pa_cons ha pan (by rw[hs];rfl);refine Call_ (j3 I hg hm rY (PyProof.Rows.callWith_type1 (bL (hA pos Rv s σ H (λvs H1=>∃x,vs=[x]/\(match x with| .ref d=>(∃xs,aR X.K H1 d xs)/\R (PU X.K d) H1| .str z=>R (Aq z) H1|_=>False)) I ?_) λus s1 ⟨vs,H1,I1,r1,x,e1,q1⟩=>?_) (by rw[hs];rfl) rfl) (by decide) (by decide))
 .show ta σ H _;have e:(λ(x:V)(H1:Hp)=>match x with| .ref d=>(∃xs,aR X.K H1 d xs)/\R (PU X.K d) H1| .str z=>R (Aq z) H1|_=>False)=λx H1=>bG σ H1 λxs H2=>∃y,x::xs=[y]/\(match y with| .ref d=>(∃xs,aR X.K H2 d xs)/\R (PU X.K d) H2| .str z=>R (Aq z) H2|_=>False):=by
   funext x H1;apply propext
   constructor
   .intro q;exact⟨x,rfl,q⟩
   .rintro⟨y,e,q⟩;have:x=y:=by injection e
    subst this;exact q
  rw[<-e];exact h
 .subst e1;obtain⟨u,rfl,ru⟩:=dU r1;cases x with
  |ref d=>
   obtain⟨⟨xs,hq⟩,q⟩:=q1;cases ru;obtain⟨its,rv,pl,hz⟩:=I1.list hq;refine call_enumerate_list pl.isList λh' he hit hsz hk=>?_;have I2:aJ X Rv σ H1 {s1 with heap:=h'}:=I1.kept (t':=s1.toks) hk;refine TN he ⟨s1.heap.objs.size+1,[s1.heap.objs.size+1,s1.heap.objs.size],_,_,H1,rfl,I2,u7 d _ _ (XW _),⟨⟨_,he⟩,hit⟩,λb hb=>?_,q⟩
   rcases VO.mp hb with rfl|hb
   .exact I1.fpOk (XI _) (I1.hok.fresh (XI _))
   .rw[VR.mp hb];exact I1.fpOk (XD _) (I1.hok.fresh (XD _))
  |str z=>
   obtain⟨t,rfl⟩:=ru;refine call_enumerate_str λh' he hit hsz hk=>?_;have I2:aJ X Rv σ H1 {s1 with heap:=h'}:=I1.kept (t':=s1.toks) hk;refine TN he ⟨s1.heap.objs.size+1,[s1.heap.objs.size+1,s1.heap.objs.size],_,_,H1,rfl,I2,uZ _ _ z t (XW _),⟨⟨_,he⟩,hit⟩,λb hb=>?_,q1⟩
   rcases VO.mp hb with rfl|hb
   .exact I1.fpOk (XI _) (I1.hok.fresh (XI _))
   .rw[VR.mp hb];exact I1.fpOk (XD _) (I1.hok.fresh (XD _))
  |_=>exact q1.elim
def JD(K:Frag)(hm:X.mg "enumerate"=none)(ha:PE X a ta)(hg:Gl X "enumerate":=by rfl)(hs:RS [a] X.env=[(false,Sr a X.env)]:=by rfl)(hK:X.K=K:=by rfl):PI X (.Tuple elts k0 pos2) (.Call (.Name "enumerate" p) [a] [] pos) (xY K ta):=by subst hK;exact Dz hm ha hg hs
end
section
def OK(x:V)(vs:List V)(H:Hp)(Q:VK):Prop:=match x,vs with
 | .str a,[]=>a.length<=v1/\(∀c∈a.cps.toList,c<128)/\Q (.str ⟨a.cps.map VM⟩) H
 |_,_=>False
def KY:sH X "str.lower" OK:=by
 unfold sH;intro Rv s σ H x xs v us Q I rx r h;unfold OK at h;split at h
 .rename_i a;obtain⟨hz,ha,q⟩:=h;obtain⟨t,rfl⟩:=rx;cases r;have e:placed a (λi _=>US a.cps i)=a.cps.map VM:=placed_single a _ VM λi c hc=>by
   have hc':a.cps[i]? =some c:=by simpa using hc
   have hlt:=ha c (Wa hc);unfold US;rw[hc'];have hne:(c == 0x3A3)=false:=by rw[beq_eq_false_iff_ne];lia
   simp only[hne,Bool.false_and,Yh,if_false];exact lowerOf_ascii c hlt
  have hfit:Tz (placed a λi _=>US a.cps i).size=false:=by rw[e,Yv];unfold Tz;exact RA (by show¬a.cps.size > v1;have:a.length=a.cps.size:=rfl;lia)
  refine call_gives F.slot_str_lower (Uf _ _ _) F.entry_str_lower (F.args_str_lower_1 _) (gives_str_lower a t hfit) ?_;rw[e];exact⟨by show(a.cps.map VM).size<=v1;rw[Yv];exact hz,⟨.str _,H,I.tok _,⟨_,rfl⟩,q⟩⟩
 .exact h.elim
def v9:∀c,c<128->(Unicode.isUpper c&& !(Unicode.isLower c||Unicode.isTitle c))=decide (65<=c/\c<=90):=by decide+kernel
def Qc(x:V)(vs:List V)(H:Hp)(Q:VK):Prop:=match x,vs with
 | .str a,[]=>∃c,a=⟨#[c]⟩/\c<128/\Q (.bl (decide (65<=c/\c<=90))) H
 |_,_=>False
def KZ:sH X "str.isupper" Qc:=by
 unfold sH;intro Rv s σ H x xs v us Q I rx r h;unfold Qc at h;split at h
 .rename_i a;obtain⟨c,rfl,hc,q⟩:=h;obtain⟨t,rfl⟩:=rx;cases r;refine call_gives F.slot_str_isupper (Uf _ _ _) F.entry_str_isupper (F.args_str_isupper_1 _) (gives_str_isupper _ t) ?_;refine fin_bl I q ?_;rw[<-v9 c hc];simp
 .exact h.elim
def QT:(OK (.str a) [] H Q)=(a.length<=v1/\(∀c∈a.cps.toList,c<128)/\Q (.str ⟨a.cps.map VM⟩) H):=rfl
end
noncomputable abbrev one(c:Nat):Str:=⟨#[c]⟩
def j7(c:Nat):Prop:=97<=c/\c<=122
def Sg(c:Nat):Prop:=c=46\/c=35\/(97<=c/\c<=122)\/(65<=c/\c<=90)
def Sg.lt(h:Sg c):c<128:=by unfold Sg at h;lia
noncomputable def lP(c:Nat):V:=if c=46\/c=35 then .non else .str (one (VM c))
noncomputable def di(c:Nat):V:=if c=46\/c=35 then .non else .int (if 65<=c/\c<=90 then 0 else 1)
def CD:("abcdefghijklmnopqrstuvwxyz":Str).cps.toList=[97,98,99,100,101,102,103,104,105,106,107,108,109,110,111,112,113,114,115,116,117,118,119,120,121,122]:=by decide+kernel
def CF(h0:0<=i)(h1:i<26):atI ("abcdefghijklmnopqrstuvwxyz":Str).cps.toList i=some (97+i.toNat):=by
 have e:i=((i.toNat:Nat):Int):=by lia
 have hx:∀k<26,("abcdefghijklmnopqrstuvwxyz":Str).cps.toList[k]? =some (97+k):=by rw[CD];decide
 have q:=bz (hx i.toNat (by lia));rw[<-e]at q;exact q
def Dg:(".":Str)=one 46:=by decide+kernel
def AH:("#":Str)=one 35:=by decide+kernel
section
variable{K:Frag}{σ rest:St}{H:Hp}{te ta tb tl:TE}{tt:TT}{R:Bool->Hp->Prop}{Q:VK}{c:Nat}{z:Str}{src:List (Option Nat)}
def JF(h:Ev te σ H (.str (one c)))(ha:Ev ta σ H (.str (one 46)))(hb:Ev tb σ H (.str (one 35)))(q:∀H',aj H H'->R (decide (c=46\/c=35)) H'):ju (fL K .In te (mO (aN ta (aN tb bG)))) σ H R:=
 h _ (ha _ (hb _ ⟨by show 2<=v1;decide,λt ht=>by
  show gf K .In (.str (one c)) (.ref t) _ (fN R);rw[kD];refine⟨t,_,rfl,.inr (dF.of ag),rfl,rfl,?_⟩;have e:D3 (.str (one c)) [.str (one 46),.str (one 35)]=decide (c=46\/c=35):=by
   unfold D3;have e1:eqV (.str (one 46)) (.str (one c))=decide (c=46):=by
    show((one 46) == (one c))=_
    by_cases h:c=46
    .subst h;simp
    .rw[RA h];exact beq_eq_false_iff_ne.mpr (λe=>h (by have:=RI (λx:Str=>x.cps.toList) e;simp[one]at this;lia))
   have e2:eqV (.str (one 35)) (.str (one c))=decide (c=35):=by
    show((one 35) == (one c))=_
    by_cases h:c=35
    .subst h;simp
    .rw[RA h];exact beq_eq_false_iff_ne.mpr (λe=>h (by have:=RI (λx:Str=>x.cps.toList) e;simp[one]at this;lia))
   show(eqV (.str (one 46)) (.str (one c))||(eqV (.str (one 35)) (.str (one c))||false))=_
   rw[e1,e2]
   by_cases h1:c=46<;>by_cases h2:c=35<;>simp[h1,h2]
  show fN R (.bl (if false then _ else D3 (.str (one c)) [.str (one 46),.str (one 35)])) _;rw[e];exact q _ ((aj.refl H).upd ht)⟩))
def Lu(ha:Ev ta σ H (.str (one c)))(hb:Ev tb σ H (.str z)):Ev (fL K .In ta tb) σ H (.bl (decide (c∈z.cps.toList))):=λQ q=>ha _ (hb _ (by
 show gf K .In _ _ _ _;rw[A3,StrLaws.found_one];exact q))
def JK(ha:Ev ta σ H (.str (one c)))(hc:j7 c):Ev (Eo Oj ta) σ H (.str (one (c - 32))):=λQ q=>ha _ (by
 show Oj (.str (one c)) [] H Q;rw[QS];refine⟨by show 1<=v1;decide,λd hd=>?_,?_⟩
 .have e:d=c:=by simpa[one]using hd
  have:=hc.2;lia
 have e:(⟨(one c).cps.map up1⟩:Str)=one (c - 32):=by
  show(⟨#[c].map up1⟩:Str)=_;have:up1 c=c - 32:=by unfold up1;exact RC hc
  simp[one,this]
 rw[e];exact q)
def Pi(ha:Ev ta σ H (.str (one c)))(hc:c<128):Ev (Eo OK ta) σ H (.str (one (VM c))):=λQ q=>ha _ (by
 show OK (.str (one c)) [] H Q;rw[QT];refine⟨by show 1<=v1;decide,λd hd=>?_,?_⟩
 .have e:d=c:=by simpa[one]using hd
  lia
 have e:(⟨(one c).cps.map VM⟩:Str)=one (VM c):=by show(⟨#[c].map VM⟩:Str)=_;simp[one]
 rw[e];exact q)
def Pj(ha:Ev ta σ H (.str (one c)))(hc:c<128):Ev (Eo Qc ta) σ H (.bl (decide (65<=c/\c<=90))):=λQ q=>ha _ (by
 show Qc (.str (one c)) [] H Q;exact⟨c,rfl,hc,q⟩)
def pY{lo hi:Option Int}(ha:Ev ta σ H (.str z))(hl:∀Q:Option Int->Hp->Prop,Q lo H->tl' σ H Q)(hh:∀Q:Option Int->Hp->Prop,Q hi H->th σ H Q)(hz:z.length<=v1):Ev (L6 K ta tl' th) σ H (.str (iO z lo hi)):=λQ q=>ha _ (hl _ (hh _ ⟨hz,q⟩))
def kE:∀Q:Option Int->Hp->Prop,Q none H->mr σ H Q:=λQ q=>q
def iu(h:Ev te σ H (.int i)):∀Q:Option Int->Hp->Prop,Q (some i) H->yq te σ H Q:=λQ q=>h _ q
def Dp:gf K .Eq (di c) (.int sd) H Q=Q (.bl (decide (di c=.int sd))) H:=by
 unfold di
 by_cases h:c=46\/c=35
 .rw[RC h];show Q (.bl false) H=Q (.bl (decide (V.non=V.int sd))) H;rw[RA (by intro z;cases z)]
 .rw[RB h];show Q (.bl (decide (_=sd))) H=Q (.bl (decide (V.int _=V.int sd))) H;have:∀i:Int,decide (i=sd)=decide (V.int i=V.int sd):=λi=>by
   by_cases e:i=sd
   .rw[Ry e,Ry (RI V.int e)]
   .rw[RA e,RA (λz=>e (by injection z))]
  rw[this]
noncomputable def Ei(l:List Nat)(p:Nat->Nat->Bool)(f:Nat->Nat->V)(n:Nat):List V:=((List.range n).filter λi=>p i (l.getD i 0)).map λi=>f i (l.getD i 0)
def uA:Ei l p f (n+1)=Ei l p f n++(if p n (l.getD n 0)=true then [f n (l.getD n 0)]else []):=by
 unfold Ei;rw[WA,Xw,VZ];congr 1
 by_cases h:p n (l.getD n 0)=true
 .rw[RC h];have e:(List.filter (λi=>p i (l.getD i 0)) [n])=[n]:=by rw[WO];exact RC h
  rw[e];rfl
 .rw[RB h];have e:(List.filter (λi=>p i (l.getD i 0)) [n])=[]:=by rw[WO];exact RB h
  rw[e];rfl
def Eh:(Ei l p f n).length<=n:=by unfold Ei;rw[VN];exact XG (Wp _ _) (by rw[We];exact XD _)
def Ch(hl:Ev tl σ H (.str z))(hz:z.length<=1000)(hs:eU src σ=none::none::rest)(p:Nat->Nat->Bool)(f:Nat->Nat->V)(ht:∀i c H',z.cps.toList[i]? =some c->aj H H'->∀R:Bool->Hp->Prop,(∀H'',aj H' H''->R (p i c) H'')->tt (some (.int (i:Int))::some (.str (one c))::rest) H' R)(he:∀i c H',z.cps.toList[i]? =some c->p i c=true->aj H H'->Ev te (some (.int (i:Int))::some (.str (one c))::rest) H' (f i c))(q:∀H' d,aj H H'->H' d=none->Q (.ref d) (upd H' d (.lst (Ei z.cps.toList p f z.length)))):tComp (xY K tl) (zR K 2 (kN (ck 0) (kN (ck 1) BS))) tt te src σ H Q:=by
 refine hl _ ?_;show eP _ tt te src σ Q (Aq z) H;refine iE z.length (λi ys σ' H'=>aj H H'/\(∃o0 o1,σ'=o0::o1::rest)/\ys=Ei z.cps.toList p f i) (XG hz (by decide)) (λi ys σ H h=>by rw[h.2.2];exact Eh) (λi ys σ H h hi=>hi) (λys σ H h=>rfl) ⟨aj.refl H,⟨_,_,hs⟩,rfl⟩ ?_ ?_
 .rintro i ys _ H1 x H2 hi ⟨s1,⟨o0,o1,rfl⟩,rfl⟩ ⟨t,c,rfl,ht0,hc,rfl⟩ Kt Kf kt kf;have s2:aj H (upd H1 t (.tup [.int (i:Int),.str ⟨#[c]⟩])):=s1.upd ht0;refine⟨t,_,rfl,dF.of ag,rfl,_,_,rfl,_,_,rfl,rfl,?_⟩;have eg:z.cps.toList.getD i 0=c:=by rw[VX,hc];rfl
  show tt (some (.int (i:Int))::some (.str (one c))::rest) _ _;refine ht i c _ hc s2 _ (λH3 s3=>?_);cases hp:p i c with
  |true=>
   refine iL (he i c _ hc hp (s2.trans s3) _ (kt _ _ _ ⟨s2.trans s3,⟨_,_,rfl⟩,?_⟩));rw[uA,eg,hp,RC rfl]
  |false=>
   refine hG (kf _ _ ⟨s2.trans s3,⟨_,_,rfl⟩,?_⟩);rw[uA,eg,hp,RB (by simp),V9]
 .rintro ys σ' H' d ⟨s1,_,rfl⟩ hd;exact q H' d s1 hd
end
def pQ(cs:List Nat):Vs ("":Str) (cs.map one)=⟨cs.toArray⟩:=by
 have key:∀(r:List Nat)(acc:Array Nat),(r.map one).foldl (λacc p=>acc++("":Str).cps++p.cps) acc=acc++r.toArray:=by
  intro r
  induction r with
  |nil=>intro acc;simp
  |cons a r ih=>
   intro acc;rw[V2,WU,ih];have e:("":Str).cps= #[]:=by decide+kernel
   rw[e];apply Yw.mp;simp[one]
 unfold Vs Builtin.Str.glued;cases cs with
 |nil=>rfl
 |cons a r=>
  show(⟨((r.map one).foldl (λacc p=>acc++("":Str).cps++p.cps) (one a).cps)⟩:Str)=_;rw[key];apply qv;simp[one]
noncomputable def emptyT(wi hi:Int)(hs:List Int):Str:=⟨((List.range (wi*hi).toNat).map λ(s:Nat)=>if(s:Int)∈hs then 35 else 46).toArray⟩
def j5:(emptyT wi hi hs).length=(wi*hi).toNat:=by unfold emptyT Str.length;simp
noncomputable def putT(row:Str)(s:Int)(sg:Str):Str:=iO row none (some s)++sg++iO row (some (s+1)) none
noncomputable def sqsOf(row:Str)(sd:Int):List Int:=((List.range row.length).filter λi=>decide (di (row.cps.toList.getD i 0)=.int sd)).map λ(i:Nat)=>(i:Int)
def lm(h0:0<=s)(h1:s<row.length):(putT row s (one c)).cps.toList=row.cps.toList.take s.toNat++[c]++row.cps.toList.drop (s.toNat+1):=by
 unfold putT;have e:s=((s.toNat:Nat):Int):=by lia
 have e1:s+1=((s.toNat+1:Nat):Int):=by lia
 rw[j9,j9,iB,iB];have hl:s.toNat<row.length:=by lia
 have f1:HT.sIx row.length row.length (some s)=s.toNat:=by rw[e,HT.sIx_nat];lia
 have f2:HT.sIx row.length 0 (some (s+1))=s.toNat+1:=by rw[e1,HT.sIx_nat];lia
 have f3:HT.sIx row.length 0 none=0:=rfl;have f4:HT.sIx row.length row.length none=row.length:=rfl;rw[f1,f2,f3,f4,WZ,Nat.sub_zero];congr 1;rw[WL];rw[Wq,bP];exact XD _
def gG(h0:0<=s)(h1:s<row.length):(putT row s (one c)).length=row.length:=by rw[bP,lm h0 h1,VV,VV,V8,Wq,<-bP];show min s.toNat row.length+1+(row.length - (s.toNat+1))=row.length;lia
def mS:Sp:=λvs H Q _=>∃c sd,vs=[.str (one c),.int sd]/\j7 c/\Q (.str (one (if sd=0 then c - 32 else c))) H
def vg:Sp:=λvs H Q _=>∃c:Nat,vs=[.str (one c)]/\c<128/\∀H',aj H H'->Q (lP c) H'
def mT:Sp:=λvs H Q _=>∃c:Nat,vs=[.str (one c)]/\c<128/\∀H',aj H H'->Q (di c) H'
def Jg(K:Frag)(C:Zo):Sp:=λvs H Q _=>∃p wi hi hs s,vs=[.ref p,.int s]/\bU K C H p wi hi hs/\Q (.bl (decide (0<=s/\s<wi*hi/\¬s∈hs))) H
def xm(K:Frag)(C:Zo):Sp:=λvs H Q _=>∃p wi hi hs,vs=[.ref p]/\bU K C H p wi hi hs/\∀H',aj H H'->Q (.str (emptyT wi hi hs)) H'
def Jf:Sp:=λvs H Q _=>∃row s c,vs=[.str row,.int s,.str (one c)]/\0<=s/\row.length<=100/\Q (.str (putT row s (one c))) H
def pe:Sp:=λvs H Q _=>∃row sd,vs=[.str row,.int sd]/\row.length<=100/\(∀c∈row.cps.toList,c<128)/\∀q H',H q=none->H' q=some (.lst ((sqsOf row sd).map V.int))->aj H H'->Q (.ref q) H'
section
variable{K:Frag}{σ:St}{H:Hp}{tb:TE}{t:TA}{op:VJ}{R:Bool->Hp->Prop}{vs:List V}{sp:Sp}
def wn:Ev (tC (.str ".")) σ H (.str (one 46)):=by rw[<-Dg];exact ao
def rL:Ev (tC (.str "#")) σ H (.str (one 35)):=by rw[<-AH];exact ao
def B4(h:Av t σ H vs)(q:sp vs H (λx H1=>tb σ H1 λy H2=>gf K op x y H2 (fN R)) E0):ju (fL K op (gQ sp t) tb) σ H R:=h _ q
end
def Os(ho:Ev to σ H (.str z))(q:te σ H λx H2=>r (.str z) [x] H2 Q):Qd r to (aN te bG) σ H Q:=ho _ q
structure CP1(P:RU)(w:RZ)(K:Frag)(mg:RJ)(Rw:R9):Prop where
 side_of:cZ P w K mg Rw "side_of" ["sign"] 1 mT
structure CP2(P:RU)(w:RZ)(K:Frag)(mg:RJ)(Rw:R9)(cB:Zo):Prop where
 Board_has:j6 P w K mg Rw cB "has" ["self","square"] 3 (Jg K cB)
section
variable{K:Frag}{σ rest:St}{H:Hp}{te to ta tb tl:TE}{Q:VK}{R:Bool->Hp->Prop}
def J4(ha:Ev ta σ H x)(hb:Ev tb σ H y)(hc:Ev tc σ H z)(q:∀p,H p=none->Q (.ref p) (upd H p (.tup [x,y,z]))):mO (aN ta (aN tb (aN tc bG))) σ H Q:=ha _ (hb _ (hc _ ⟨by show 3<=v1;decide,q⟩))
def Ol(h:Tv tt σ H false)(q:u σ H R):L4 tt u σ H R:=h _ (hG q)
def pq{xs:List V}{lo hi:Option Int}(ha:Ev ta σ H (.ref d))(hl:∀Q:Option Int->Hp->Prop,Q lo H->tl' σ H Q)(hh:∀Q:Option Int->Hp->Prop,Q hi H->th σ H Q)(hx:aR K H d xs)(q:∀p,H p=none->Q (.ref p) (upd H p (.lst (oU xs lo hi)))):L6 K ta tl' th σ H Q:=ha _ (hl _ (hh _ ⟨xs,hx,q⟩))
def Ox{ns:List Int}{i:Int}(h0:0<=i)(h1:i<ns.length):∃n:Int,atI (ns.map V.int) i=some (.int n)/\n∈ns:=by
 have hlt:i.toNat<ns.length:=by lia
 have e:(ns.map V.int)[i.toNat]? =some (.int ns[i.toNat]):=by rw[VT,VQ hlt];rfl
 have q:=bz e;have ei:((i.toNat:Nat):Int)=i:=by lia
 rw[ei]at q;exact⟨_,q,V7 hlt⟩
def Jt{xs:List V}{i:Int}(h0:0<=i)(h1:i<xs.length):∃v,atI xs i=some v/\v∈xs:=by
 have hlt:i.toNat<xs.length:=by lia
 have q:=bz (VQ hlt);have ei:((i.toNat:Nat):Int)=i:=by lia
 rw[ei]at q;exact⟨_,q,V7 hlt⟩
def O8{i j:Nat}{d:Zo}{a b:V}{R:St->Hp->Prop}(h:H d=some (.tup [a,b]))(q:R ((σ.set i (some a)).set j (some b)) H):zR K 2 (kN (ck i) (kN (ck j) BS)) (.ref d) σ H R:=⟨d,_,rfl,dF.of h,rfl,_,_,rfl,_,_,rfl,rfl,q⟩
end
noncomputable def ww(ns:List Int)(k:Int):Int:=ns.getD k.toNat 0
noncomputable def strV(c:Nat):V:=.str (one c)
def mU(K:Frag):Sp:=λvs H Q _=>∃a ns k,vs=[.ref a,.int k]/\aR K H a (ns.map V.int)/\0<=k/\Q (.int (ww ns k)) H
section
variable{κ:Type}[DecidableEq κ]
noncomputable def wt(l:List κ)(x:κ):List κ:=if x∈l then l else l++[x]
noncomputable def bS(val:Nat->κ):Nat->List κ
 |0=>[]
 |i+1=>wt (bS val i) (val i)
theorem kH(val:Nat->κ):∀i,(bS val i).length<=i
 |0=>XD 0
 |i+1=>by
  have ih:=kH val i;show(wt (bS val i) (val i)).length<=i+1;unfold wt
  by_cases h:val i∈bS val i
  .rw[RC h];lia
  .rw[RB h,VV];show _+1<=_;lia
theorem nJ(val:Nat->κ)(x:κ):∀i,x∈bS val i<->x∈(List.range i).map val
 |0=>by simp[bS]
 |i+1=>by
  have ih:=nJ val x i;show x∈wt (bS val i) (val i)<->_;rw[WA,VZ,VY,<-ih];unfold wt
  by_cases h:val i∈bS val i
  .rw[RC h]
   constructor
   .exact λz=>.inl z
   .rintro(z|z)
    .exact z
    .have:x=val i:=by simpa using z
     rw[this];exact h
  .rw[RB h,VY];simp
theorem nI(val:Nat->κ):∀i,(bS val i).length=i<->((List.range i).map val).Nodup
 |0=>by simp[bS]
 |i+1=>by
  have ih:=nI val i;have hle:=kH val i;have hm:=nJ val (val i) i;show(wt (bS val i) (val i)).length=i+1<->_;rw[WA,VZ,WM];unfold wt
  by_cases h:val i∈bS val i
  .rw[RC h]
   constructor
   .intro z;lia
   .intro z;exact RF rfl (z.2.2 (val i) (hm.mp h) (val i) (by simp))
  .rw[RB h,VV]
   constructor
   .intro z;have z:(bS val i).length+1=i+1:=z;refine⟨ih.mp (by lia),by simp,λa ha b hb e=>h (hm.mpr ?_)⟩;have:b=val i:=by simpa using hb
    rw[<-this,<-e];exact ha
   .intro z;rw[ih.mpr z.1];rfl
end
section
variable{prog:RU}{w:RZ}{A:SJ}{R:Result->RQ->Prop}{I:Zo}{fp wr:List Zo}{G:Array U5->Array U5->Prop}{n:Nat}{Pt:Nat->Zn->Prop}{St:Nat->RQ->Prop}{κ:Type}[DecidableEq κ]{knd:KeyKind prog w κ}
def AY(W:WalksS prog w A.in1 I fp wr G n Pt St)(D:Zo)(hD:D∉fp)(val:Nat->κ)(hv:∀i v,Pt i v->knd.is (val i) v=true/\v.scannable=true)(hb:n+1<scanBound):∀k i s,n - i=k->i<=n->St i s->s.heap.SetOf knd D (λx=>decide (x∈bS val i)) (bS val i).length->(∀s2,Moved (D::wr) G s s2->s2.heap.SetOf knd D (λx=>decide (x∈bS val n)) (bS val n).length->R (.ok (.ret .none)) s2)->Tl (RX prog w) A (.builtin "set.update.loop" ⟨[.ref D,.ref I],[]⟩) R s:=by
 have nW:D∉wr:=λz=>hD (W.sub _ z);have up:∀b∈wr,b∈D::wr:=λb z=>VU _ z;have mv:∀{s s2:RQ}{S:κ->Bool}{m:Nat},Moved wr G s s2->s.heap.SetOf knd D S m->s2.heap.SetOf knd D S m:=λ{s s2 S m} hm ⟨o,es,ep,t,ho,r⟩=>⟨o,es,ep,t,hm.heap D _ nW ho,r⟩;intro k
 induction k with
 |zero=>
  intro i s e1 e2 st hS hR;have e3:i=n:=by lia
  subst e3;refine Sl Tc ?_;rw[Sk SC _];show RR _ A.in1 (S7 (.ref I) >>= _) _ _ s;refine RM (W.done s _ _ st λs2 hm=>?_);show RR _ A.in1 (ret SV) _ _ s2;exact RN (hR s2 (hm.mono up) (mv hm hS))
 |succ k ih=>
  intro i s e1 e2 st hS hR;have e3:i<n:=by lia
  refine Sl Tc ?_;rw[Sk SC _];show RR _ A.in1 (S7 (.ref I) >>= _) _ _ s;refine RM (W.item i s _ _ e3 st λv s2 hp st2 hm=>?_);obtain⟨kv,sv⟩:=hv i v hp;have hS2:=mv hm hS;show RR _ A.in1 (TF [v] (setAdd D v) >>= _) _ _ s2;refine RM (Sa ?_);unfold setAdd;refine Sa (RM (knd.pyHash (k:=val i) kv ?_));have room:(bS val i).length+1<scanBound:=by have:=kH val i;lia
  refine wpAny_setAddHashed_of (knd:=knd) (s:={s2 with toks:=s2.toks+1}) kv sv hS2 room λh2 sb hS3=>?_;have hS4:h2.SetOf knd D (λx=>decide (x∈bS val (i+1))) (bS val (i+1)).length:=by
   refine SetOf_congr hS3 (λx=>?_) ?_
   .show(decide (x∈bS val i)||decide (x=val i))=decide (x∈wt (bS val i) (val i))
    unfold wt
    by_cases m:val i∈bS val i
    .rw[RC m]
     by_cases e:x=val i
     .subst e;rw[Ry m];simp
     .rw[RA e,Ym]
    .rw[RB m,Yg];simp
   .show(if decide (val i∈bS val i)=true then _ else _)=(wt (bS val i) (val i)).length;unfold wt
    by_cases m:val i∈bS val i
    .rw[RC (Ry m),RC m]
    .rw[RB (by rw[RA m];decide),RB m,VV];rfl
  refine RN ⟨Ti SC _,ih (i+1) _ (by lia) e3 (W.frame _ s2 _ _ st2 (XI _) λb hb o e=>?_) hS4 λs3 hm3 hS5=>?_⟩
  .exact(sb.2 b (λz:b=D=>hD (z▸hb))).trans e
  .refine hR s3 (Moved.trans W.gtrans ((hm.mono up).then_heap (XI _) λb o hb e=>?_) hm3) hS5;exact(sb.2 b (λz:b=D=>hb (by rw[z];exact VW))).trans e
end
section
variable{prog:RU}{w:RZ}{A:SJ}{E:RK}{s:RQ}{κ:Type}[DecidableEq κ]{knd:KeyKind prog w κ}
noncomputable abbrev cF(led:Bool):Obj:={cls:=.type "set",dict:=none,data:=.set #[] 0 (.fresh 0 0 led)}
def AX{l:Zo}{its:Array Zn}{Q:RK}(val:Nat->κ)(hh:A.handled=none)(hl:s.heap.IsList l its)(hv:∀i v,its[i]? =some v->knd.is (val i) v=true/\v.scannable=true)(hb:its.size+1<scanBound)(k:∀h2 tk,h2.SetOf knd s.heap.objs.size (λx=>decide (x∈bS val its.size)) (bS val its.size).length->(∀b o,b<s.heap.objs.size->s.heap.get? b=some o->h2.get? b=some o)->Q (.ref s.heap.objs.size) {s with heap:=h2,toks:=tk}):RR (RX prog w) A (call (.type "set") [.ref l]) Q E s:=by
 obtain⟨c0,tl0,hmro⟩:=F.called_set.mro;have hmade:=F.called_set.made;have hsub:=F.called_set.sub;have n1:=F.called_set.notType;have n2:=F.called_set.canCreate;have n3:=F.typeCall_set_1 (.ref l);refine To (UR ?_);show RR _ _ (callAny (.type "set") _) _ _ _;refine RN ⟨Um _ (by decide+kernel),Sl F.entry_type_call ?_⟩;rw[Around.under_plain (UW "set" [.ref l] []) rfl]
 repeat (any_goals (first|assumption|wp_step))
 refine SB (code_set_new_1 (.ref l) (E:=E) (Q₁:=λo s1=>∃led:Bool,o=.ref s.heap.objs.size/\s1={s with heap:=s.heap.push (cF led)}) λled=>⟨led,rfl,rfl⟩) λr s1 hr=>?_;cases r with
 |error e=>exact hr
 |ok fl=>
  cases fl with
  |ret ob=>
   obtain⟨led,rfl,rfl⟩:=hr;have g0:(s.heap.push (cF led)).get? s.heap.objs.size=some (cF led):=RT _ rfl;have ty:TZ {s with heap:=s.heap.push (cF led)} (.ref s.heap.objs.size) "set":=⟨_,g0,rfl⟩;have m1:=F.called_set.init.lookup;have m2:=F.called_set.init.bind (.ref s.heap.objs.size)
   repeat (any_goals (first|assumption|wp_step))
   refine SB (Tq (R:=wants (λr s2=>r=.none/\∃h2 tk,s2={s with heap:=h2,toks:=tk}/\h2.SetOf knd s.heap.objs.size (λx=>decide (x∈bS val its.size)) (bS val its.size).length/\
     (∀b o,b<s.heap.objs.size->s.heap.get? b=some o->h2.get? b=some o)) E) F.called_set.init.plain F.entry_set_init (check_set_init_1 ty ?_)) λr2 s2 hr2=>?_
   .obtain⟨⟨oc,od,oda,osl⟩,ho,hc,nl,hd⟩:=hl;simp only at hc hd;subst hc;subst hd;have hol:(s.heap.push (cF led)).get? l=some {cls:=.type "list",dict:=od,data:=.seq its nl,slots:=osl}:=RO _ ho;have b1:=F.sub_list_set;have b2:=F.sub_list_frozenset;have b3:(Uk "list" == Uk "dict")=false:=by decide
    have hl1:(s.heap.push (cF led)).IsList l its:=⟨_,hol,rfl,nl,rfl⟩;unfold SS.«set.__init__» noKeywords T8;generalize hPI:pyIter=PI
    wp_walk
    subst hPI;refine S5 hl1 (RM (UZ ?_));have hlt:l<s.heap.objs.size:=RP ho;have h3:A.in1.in1.in1.handled=none:=by simp[hh]
    have sz:(s.heap.push (cF led)).objs.size=s.heap.objs.size+1:=Se ..;have ne1:l≠(s.heap.push (cF led)).objs.size:=by rw[sz];exact XE (XT hlt)
    have ne2:s.heap.objs.size∉[(s.heap.push (cF led)).objs.size,l]:=by
     rw[sz];intro z
     rcases VO.mp z with z|z
     .exact XW _ z.symm
     .exact XJ hlt (VR.mp z)
    refine AY (knd:=knd) ((Vl h3 _ l ne1 its).toS) s.heap.objs.size ne2 val hv hb (its.size - 0) 0 _ (by lia) (XF _) ⟨⟨_,RT _ rfl,rfl,rfl⟩,(hl1.push _)⟩ ?_ (λs3 hm hS3=>?_)
    .refine SetOf_congr ((setObjOf_fresh (knd:=knd) led).setOf (RO _ g0) (by unfold scanBound;lia)) (λx=>?_) rfl;show false=decide (x∈([]:List κ));simp
    .obtain⟨hh3,gg3,dd3,tk3,os3⟩:=s3;obtain rfl:gg3=s.gens:=hm.gens;obtain rfl:dd3=s.drawn:=hm.drawn;obtain rfl:os3=s.os:=hm.os;show RR _ _ _ _ _ _;refine RN ?_;show RR _ _ (ret SV) _ _ _;refine RN ⟨rfl,hh3,tk3,rfl,hS3,λb o hb2 e=>?_⟩;refine hm.heap b o ?_ (RO _ (RO _ e));rw[sz];intro z
     rcases VO.mp z with z|z
     .exact XE hb2 z
     .exact XE (XT hb2) (VR.mp z)
   .cases r2 with
    |error e=>exact hr2
    |ok fl2=>
     cases fl2 with
     |ret r3=>
      obtain⟨rfl,h2,tk,rfl,hS2,kp⟩:=hr2
      repeat (any_goals (first|assumption|wp_step))
      exact k _ _ hS2 kp
     |_=>exact hr2.elim
  |_=>exact hr.elim
end
noncomputable def lH(ss:List Str):List Str:=bS (λi=>ss.getD i Tb) ss.length
def jA(ss:List Str):(lH ss).length=ss.length<->ss.Nodup:=by
 unfold lH;rw[nI];have e:(List.range ss.length).map (λi=>ss.getD i Tb)=ss:=by
  apply Wz;intro i;rw[VT]
  by_cases h:i<ss.length
  .rw[Wm h,VQ h];show some (ss.getD i Tb)=_;rw[VX,VQ h];rfl
  .rw[Wf (by rw[We];lia),Wf (by lia)];rfl
 rw[e]
section
def xp(K:Frag)(xs:List V)(H:Hp)(Q:VK):Prop:=match xs with
 | [.ref d]=>∃ss:List Str,aR K H d (ss.map V.str)/\ss.length+1<scanBound/\∀q φ,H q=none->(∀h:R9,φ h->∃o es ep t,h.get? q=some o/\o.ExactSet/\o.data=.set es ep t/\t.fits es.size=true/\es.size=(lH ss).length)->Q (.ref q) (upd H q (.ext φ))
 |_=>False
def wA(hh:X.A.handled=none):bf X (.type "set") (xp X.K):=by
 intro Rv s σ H xs us Q I r h;unfold xp at h;split at h
 .rename_i d;obtain⟨ss,hq,hb,q⟩:=h;obtain⟨u,rfl,rx⟩:=dU r;cases rx;obtain⟨its,r',pl,hz⟩:=I.list hq;have hlen:=r'.length;rw[VN]at hlen;have hs:its.toArray.size=ss.length:=by rw[VS,<-hlen]
  refine AX (knd:=PySem.strKind X.prog X.w) (λi=>ss.getD i Tb) hh pl.isList (λi v hv=>?_) (by rw[hs];exact hb) λh2 tk hS kp=>?_
  .rw[Xg]at hv;have hi:i<its.length:=(V5.mp hv).1;have hx:(ss.map V.str)[i]? =some (.str (ss.getD i Tb)):=by rw[VT,VX,VQ (by lia)];rfl
   obtain⟨u,hu,ru⟩:=r'.get hx;rw[hv]at hu;cases hu;obtain⟨t,rfl⟩:=ru;exact⟨by simp[PySem.strKind,Vh],rfl⟩
  .rw[hs]at hS;have k2:∀b u,s.heap.get? b=some u->h2.get? b=some u:=λb u e=>kp b u (RP e) e;obtain⟨o,es,ep,t,h1,h2',h3,_,_,h6,h7,h8⟩:=hS;refine⟨.ref s.heap.objs.size,upd H s.heap.objs.size (.ext λh=>h.get? s.heap.objs.size=some o),I.laid (t':=tk) k2 (XD _) ?_,rfl,q _ _ (I.hok.fresh (XD _)) λh e=>⟨o,es,ep,t,e,h2',h3,h7,h8⟩⟩;exact⟨h1,⟨o,h1⟩,λh1 h2 e k=>k o e⟩
 .exact h.elim
def Bw(xs:List V)(H:Hp)(Q:VK):Prop:=match xs with
 | [.ref d]=>∃φ n,H d=some (.ext φ)/\n<=1000/\(∀h:R9,φ h->∃o es ep t,h.get? d=some o/\o.ExactSet/\o.data=.set es ep t/\t.fits es.size=true/\es.size=n)/\Q (.int n) H
 |_=>False
def on:bf X (.builtin "len") Bw:=by
 intro Rv s σ H xs us Q I r h;unfold Bw at h;split at h
 .rename_i d;obtain⟨φ,n,hd,hn,hφ,q⟩:=h;obtain⟨u,rfl,rx⟩:=dU r;cases rx;obtain⟨p,_,_⟩:=(show bp X.prog X.w H s.heap d (.ext φ)from I.hok d _ hd);obtain⟨o,es,ep,t,h1,h2,h3,h4,h5⟩:=hφ _ p;subst h5;exact PySem.call_len_set h1 h2 h3 h4 (by lia) ⟨.int es.size,H,I.tok _,⟨_,rfl⟩,q⟩
 .exact h.elim
def JA(K:Frag)(hr:cw j X.A)(hK:X.K=K:=by rfl):bf X (.type "set") (xp K):=by subst hK;exact wA hr.hd
end
def uf{K:Frag}{σ:St}{H:Hp}{Q:VK}{te:TE}{d:Zo}{ss:List Str}(h:Ev te σ H (.ref d))(hd:aR K H d (ss.map V.str))(hl:ss.length<=1000)(q:∀H',aj H H'->Q (.int (lH ss).length) H'):cB Bw (aN (cB (xp K) (aN te bG)) bG) σ H Q:=
 h _ ⟨ss,hd,by show ss.length+1<4096;lia,λp φ hp hφ=>⟨φ,_,ag,XG (kH _ _) hl,hφ,q _ ((aj.refl H).upd hp)⟩⟩
section
variable{X:Cx}
def yX(ks:List Bool):(List.range ks.length).any (λi=>ks.getD i false)=ks.any id:=by
 rw[Yg,Wv,Wv]
 constructor
 .rintro⟨i,hi,e⟩;have hi:=V4.mp hi;rw[VX,VQ hi]at e;exact⟨_,V7 hi,e⟩
 .rintro⟨b,hb,e⟩;obtain⟨i,hi,e2⟩:=Xr.mp hb;refine⟨i,V4.mpr hi,?_⟩;rw[VX,VQ hi,e2];exact e
def LL(K:Frag)(xs:List V)(H:Hp)(Q:VK):Prop:=match xs with
 | [.ref d]=>∃ks:List Bool,aR K H d (ks.map V.bl)/\Q (.bl (ks.any id)) H
 |_=>False
def Ak(hc:X.calm=true):bf X (.builtin "any") (LL X.K):=by
 intro Rv s σ H xs us Q I r h;unfold LL at h;split at h
 .rename_i p;obtain⟨ks,hp,q⟩:=h;obtain⟨u,rfl,ru⟩:=dU r;cases ru;obtain⟨its,rv,pl,hl⟩:=I.list hp;have hlen:=rv.length;rw[VN]at hlen;refine call_any_walk (S5 pl.isList ?_);have hne:p≠s.heap.objs.size:=by obtain⟨o,ho,_⟩:=pl.isList;exact XE (RP ho)
  have W:=Vl (prog:=X.prog) (w:=X.w) (A:=X.A.in1) (show X.A.in1.handled=none from I.ok.hd hc) s.heap.objs.size p hne its.toArray;have hpush:∀o b ob,s.heap.get? b=some ob->(s.heap.push o).get? b=some ob:=λo b ob e=>RO _ e;refine⟨_,_,_,_,_,_,λi=>ks.getD i false,rfl,W,⟨⟨_,RT _ rfl,rfl,rfl⟩,pl.isList.at λo e=>hpush _ _ o e⟩,sQ rv,λh' tk k=>?_⟩;have e:(List.range its.toArray.size).any (λi=>ks.getD i false)=ks.any id:=by rw[<-yX,VS,<-hlen]
  rw[e];refine⟨.bl _,H,I.kept (t':=tk) (h':=h') λb ob e=>k b ob ?_ (hpush _ b ob e),rfl,q⟩;intro hb;have:b=s.heap.objs.size:=by simpa using hb
  subst this;exact RF (RP e) (XM _)
 .exact h.elim
def Q3(K:Frag)(hc:X.calm=true:=by rfl)(hK:X.K=K:=by rfl):bf X (.builtin "any") (LL K):=by subst hK;exact Ak hc
end
def Thg(H:Hp):V->Prop
 | .non=>True
 | .bl _=>True
 | .int _=>True
 | .str z=>z.length<=1000
 | .ref a=>(∃xs,H a=some (.lst xs))\/(∃xs,H a=some (.tup xs))\/(∃kvs,H a=some (.dK kvs))
 |_=>False
noncomputable def nR(T:BT)(H:Hp):V->Bool
 | .bl _=>fX .bool T
 | .int _=>fX .int T
 | .str _=>fX .str T
 | .ref a=>match H a with
   |some (.lst _)=>fX .list T
   |some (.tup _)=>fX .tuple T
   |some (.dK _)=>fX .dict T
   |_=>false
 |_=>false
noncomputable def tupOf(H:Hp):V->Option (List V)
 | .ref a=>match H a with
   |some (.tup xs)=>some xs
   |_=>none
 |_=>none
noncomputable def lstOf(H:Hp):V->Option (List V)
 | .ref a=>match H a with
   |some (.lst xs)=>some xs
   |_=>none
 |_=>none
def cz(H:Hp):Nat->V->Prop
 |0,v=>Thg H v
 |n+1,v=>Thg H v/\∀xs,(tupOf H v=some xs\/lstOf H v=some xs)->∀x∈xs,cz H n x
def cz.thg(h:cz H n v):Thg H v:=by
 cases n with
 |zero=>exact h
 |succ n=>exact h.1
noncomputable def Aw:V->Bool
 | .int _=>true
 |_=>false
noncomputable def amongB(v:V)(a b:Int):Bool:=match v with
 | .int i=>decide (a<=i/\i<=b)
 |_=>false
noncomputable def wordB(v:V)(ws:List Str):Bool:=match v with
 | .str z=>decide (z∈ws)
 |_=>false
section
variable{K:Frag}{σ:St}{H H':Hp}{te ta tb:TE}{ws:List Str}
def Thg.same(h:Thg H v)(s:aj H H'):Thg H' v:=by
 cases v with
 |ref a=>
  rcases h with⟨xs,e⟩|⟨xs,e⟩|⟨xs,e⟩
  .exact .inl ⟨xs,s _ _ e⟩
  .exact .inr (.inl ⟨xs,s _ _ e⟩)
  .exact .inr (.inr ⟨xs,s _ _ e⟩)
 |_=>exact h
def eW(h:Thg H v)(s:aj H H'):tupOf H' v=tupOf H v:=by
 cases v with
 |ref a=>
  rcases h with⟨xs,e⟩|⟨xs,e⟩|⟨xs,e⟩<;>simp only[tupOf,e,s _ _ e]
 |_=>rfl
def iI(h:Thg H v)(s:aj H H'):lstOf H' v=lstOf H v:=by
 cases v with
 |ref a=>
  rcases h with⟨xs,e⟩|⟨xs,e⟩|⟨xs,e⟩<;>simp only[lstOf,e,s _ _ e]
 |_=>rfl
theorem cz.same:∀{v:V},cz H n v->aj H H'->cz H' n v:=by
 induction n with
 |zero=>intro v h s;exact Thg.same h s
 |succ n ih=>
  intro v h s;refine⟨h.1.same s,λxs hx x hm=>ih (h.2 xs ?_ x hm) s⟩;rw[eW h.1 s,iI h.1 s]at hx;exact hx
def gq(h:tupOf H v=some xs):∃a,v=.ref a/\H a=some (.tup xs):=by
 cases v with
 |ref a=>
  simp only[tupOf]at h;split at h
  .rename_i e;cases h;exact⟨a,rfl,e⟩
  .cases h
 |_=>cases h
def gJ(h:lstOf H v=some xs):∃a,v=.ref a/\H a=some (.lst xs):=by
 cases v with
 |ref a=>
  simp only[lstOf]at h;split at h
  .rename_i e;cases h;exact⟨a,rfl,e⟩
  .cases h
 |_=>cases h
def n9(h:Ev te σ H v)(t:Thg H v):Ev (Qe T te) σ H (.bl (nR T H v)):=λQ q=>h _ (by
 cases v with
 |ref a=>
  rcases t with⟨xs,e⟩|⟨xs,e⟩|⟨xs,e⟩<;>(simp only[D0,e];simp only[nR,e]at q;exact q)
 |non=>exact q
 |bl b=>exact q
 |int b=>exact q
 |str b=>exact q
 |_=>exact t.elim)
def Au(t:Thg H v):(nR .int H v&& !nR .bool H v)=Aw v:=by
 cases v with
 |ref a=>rcases t with⟨xs,e⟩|⟨xs,e⟩|⟨xs,e⟩<;>(simp only[nR,e];rfl)
 |non=>rfl
 |bl b=>rfl
 |int b=>rfl
 |str b=>rfl
 |_=>exact t.elim
def vb(t:Thg H v):nR .str H v=(match v with| .str _=>true|_=>false):=by
 cases v with
 |ref a=>rcases t with⟨xs,e⟩|⟨xs,e⟩|⟨xs,e⟩<;>(simp only[nR,e];rfl)
 |non=>rfl
 |bl b=>rfl
 |int b=>rfl
 |str b=>rfl
 |_=>exact t.elim
def J3(t:Thg H v):nR .tuple H v=(tupOf H v).isSome:=by
 cases v with
 |ref a=>rcases t with⟨xs,e⟩|⟨xs,e⟩|⟨xs,e⟩<;>(simp only[nR,tupOf,e];rfl)
 |non=>rfl
 |bl b=>rfl
 |int b=>rfl
 |str b=>rfl
 |_=>exact t.elim
def K3(t:Thg H v):nR .list H v=(lstOf H v).isSome:=by
 cases v with
 |ref a=>rcases t with⟨xs,e⟩|⟨xs,e⟩|⟨xs,e⟩<;>(simp only[nR,lstOf,e];rfl)
 |non=>rfl
 |bl b=>rfl
 |int b=>rfl
 |str b=>rfl
 |_=>exact t.elim
def BG(z:Str)(ws:List Str):D3 (.str z) (ws.map V.str)=decide (z∈ws):=by
 unfold D3;rw[Xf]
 by_cases h:z∈ws
 .rw[Ry h];exact Wv.mpr ⟨z,h,by simp[eqV]⟩
 .rw[RA h];apply WD.mpr;intro y hy;have:y≠z:=λe=>h (e▸hy);simp[eqV,this]
def zV(ss:List Str):(ss.map V.str).all flatV=true:=Wc.mpr λx hx=>by obtain⟨z,_,rfl⟩:=VP.mp hx;rfl
def rK(ha:Ev ta σ H (.str z))(hb:Ev tb σ H (.ref p))(h:aR K H p (ws.map V.str)\/dF K H p (ws.map V.str)):Ev (fL K .In ta tb) σ H (.bl (decide (z∈ws))):=λQ q=>ha _ (hb _ (by
 show gf K .In (.str z) (.ref p) H Q;rw[kD];refine⟨p,_,rfl,h,rfl,zV ws,?_⟩;rw[BG];exact q))
end
noncomputable def sortsL:List Str:=["leap","slide","jump"]
noncomputable def aimsL:List Str:=["go","hit","any"]
noncomputable def gY:List Str:=["without","home"]
noncomputable def jW:List Str:=["lost","even","won"]
noncomputable def tupB(H:Hp)(v:V)(n:Int):Bool:=match tupOf H v with
 |some xs=>decide ((xs.length:Int)=n)
 |none=>false
noncomputable def lx(H:Hp)(v:V)(a b:Int):Bool:=match lstOf H v with
 |some xs=>decide (a<=(xs.length:Int)/\(xs.length:Int)<=b)
 |none=>false
noncomputable def limS(so:Str):Int:=if so="leap"then 3 else 1
noncomputable def lI(so:Str)(x y:V):Bool:=amongB x (-limS so) (limS so)&&amongB y (-limS so) (limS so)&& !(decide (x=.int 0)&&decide (y=.int 0))
noncomputable def jR(xs:List V)(ws:List Str):Bool:=match xs with
 | [k,.str so,.str ai,x,y]=>wordB k ws&&decide (so∈sortsL)&&decide (ai∈aimsL)&& !(decide (so="jump")&& !decide (ai="hit"))&&lI so x y
 |_=>false
noncomputable def eK(H:Hp)(v:V)(ws:List Str):Bool:=match tupOf H v with
 |some xs=>jR xs ws
 |none=>false
noncomputable def tQ(xs:List V)(A B:List Str):Bool:=match xs with
 | [a,b]=>wordB a A&&wordB b B
 |_=>false
noncomputable def eM(H:Hp)(v:V)(A B:List Str):Bool:=match tupOf H v with
 |some xs=>tQ xs A B
 |none=>false
noncomputable def pairsB(H:Hp)(v:V)(A B:List Str):Bool:=match lstOf H v with
 |some vs=>decide (vs.length<=6)&&vs.all (λx=>eM H x A B)
 |none=>false
noncomputable def cH(H:Hp)(v:V):Str:=match tupOf H v with
 |some (.str a::_)=>a
 |_=>Tb
noncomputable def hZ(H:Hp)(v:V):Str:=match tupOf H v with
 |some (_:: .str b::_)=>b
 |_=>Tb
noncomputable def gk(H:Hp)(v:V)(ws:List Str):Bool:=pairsB H v ws ws&&match lstOf H v with
 |some vs=> !(vs.any λx=>decide (hZ H x∈vs.map (cH H)))&&decide ((vs.map (cH H)).Nodup)
 |none=>false
def mQ:Sp:=λvs H Q _=>∃v,vs=[v]/\Thg H v/\Q (.bl (Aw v)) H
def ja:Sp:=λvs H Q _=>∃v a b,vs=[v,.int a,.int b]/\Thg H v/\Q (.bl (amongB v a b)) H
def iV(K:Frag)(H:Hp)(d:Zo)(ws:List Str):Prop:=aR K H d (ws.map V.str)\/dF K H d (ws.map V.str)
def jC(K:Frag):Sp:=λvs H Q _=>∃v d ws,vs=[v,.ref d]/\Thg H v/\iV K H d ws/\Q (.bl (wordB v ws)) H
def i9:Sp:=λvs H Q _=>∃v n,vs=[v,.int n]/\Thg H v/\Q (.bl (tupB H v n)) H
def qA:Sp:=λvs H Q _=>∃v a b,vs=[v,.int a,.int b]/\Thg H v/\Q (.bl (lx H v a b)) H
def w4:Sp:=λvs H Q _=>∃so x y,vs=[.str so,x,y]/\Thg H x/\Thg H y/\Q (.bl (lI so x y)) H
def w6(K:Frag):Sp:=λvs H Q _=>∃v d ws,vs=[v,.ref d]/\cz H 1 v/\iV K H d ws/\Q (.bl (eK H v ws)) H
def xa(K:Frag):Sp:=λvs H Q _=>∃v d e A B,vs=[v,.ref d,.ref e]/\cz H 1 v/\iV K H d A/\iV K H e B/\Q (.bl (eM H v A B)) H
def sW(K:Frag):Sp:=λvs H Q _=>∃v d e A B,vs=[v,.ref d,.ref e]/\cz H 2 v/\iV K H d A/\iV K H e B/\∀H',aj H H'->Q (.bl (pairsB H v A B)) H'
def sS(K:Frag):Sp:=λvs H Q _=>∃v d ws,vs=[v,.ref d]/\cz H 2 v/\iV K H d ws/\∀H',aj H H'->Q (.bl (gk H v ws)) H'
def xk(K:Frag):Sp:=λvs H Q _=>∃v d ws,vs=[v,.ref d]/\cz H 2 v/\iV K H d ws/\∀H',aj H H'->Q (.bl (pairsB H v gY ws)) H'
def wK(ha:Ev ta σ H (.bl a))(h1:a=true->tb σ H Q)(h2:a=false->Q (.bl false) H):Cr ta tb σ H Q:=ha _ (by
 cases a with
 |true=>exact h1 rfl
 |false=>exact h2 rfl)
def Cj{K:Frag}{σ:St}{H:Hp}{Q:VK}{ta tb:TE}{op:VJ}(h:ta σ H λx H1=>tb σ H1 λy H2=>gf K op x y H2 Q):fL K op ta tb σ H Q:=h
def zi(h:pairsB H v A B=true):∃xs,lstOf H v=some xs/\xs.length<=6/\∀x∈xs,∃c f1 f2,x=.ref c/\H c=some (.tup [.str f1,.str f2]):=by
 unfold pairsB at h;cases e1:lstOf H v with
 |none=>rw[e1]at h;cases h
 |some xs=>
  rw[e1]at h;have h:(decide (xs.length<=6)&&xs.all (λx=>eM H x A B))=true:=h;rw[Ye]at h;refine⟨xs,rfl,RD h.1,λx hx=>?_⟩;have hp:=Wc.mp h.2 x hx;unfold eM at hp;cases e2:tupOf H x with
  |none=>rw[e2]at hp;cases hp
  |some ys=>
   rw[e2]at hp;obtain⟨c,rfl,hc⟩:=gq e2;have hp:tQ ys A B=true:=hp
   match ys,hp,hc with
   | [a,b],hp,hc=>
     have hp:(wordB a A&&wordB b B)=true:=hp;rw[Ye]at hp;cases a with
     |str f1=>
      cases b with
      |str f2=>exact⟨c,f1,f2,rfl,hc⟩
      |_=>cases hp.2
     |_=>cases hp.1
   | [],hp,_=>cases hp
   | [_],hp,_=>cases hp
   |_::_::_::_,hp,_=>cases hp
structure RG0(P:RU)(w:RZ)(K:Frag)(mg:RJ)(Rw:R9):Prop where
 is_whole:cZ P w K mg Rw "is_whole" ["thing"] 1 mQ
structure RG1(P:RU)(w:RZ)(K:Frag)(mg:RJ)(Rw:R9):Prop where
 is_among:cZ P w K mg Rw "is_among" ["thing","least","most"] 2 ja
structure RG2(P:RU)(w:RZ)(K:Frag)(mg:RJ)(Rw:R9):Prop where
 is_word:cZ P w K mg Rw "is_word" ["thing","words"] 1 (jC K)
 is_tuple_of:cZ P w K mg Rw "is_tuple_of" ["thing","many"] 1 i9
structure RG3(P:RU)(w:RZ)(K:Frag)(mg:RJ)(Rw:R9):Prop extends RG2 P w K mg Rw where
 is_step:cZ P w K mg Rw "is_step" ["sort","across","up"] 3 w4
structure RG4(P:RU)(w:RZ)(K:Frag)(mg:RJ)(Rw:R9):Prop where
 is_list_of:cZ P w K mg Rw "is_list_of" ["thing","least","most"] 1 qA
 is_pair:cZ P w K mg Rw "is_pair" ["thing","firsts","seconds"] 2 (xa K)
structure RG5(P:RU)(w:RZ)(K:Frag)(mg:RJ)(Rw:R9):Prop where
 are_pairs:cZ P w K mg Rw "are_pairs" ["thing","firsts","seconds"] 3 (sW K)
noncomputable def letB:V->Bool
 | .str z=>match z.cps.toList with
   | [c]=>decide (97<=c/\c<=122)
   |_=>false
 |_=>false
noncomputable def i7:V->Str
 | .str z=>z
 |_=>Tb
noncomputable def nO(H:Hp)(v:V):Bool:=match lstOf H v with
 |some xs=>decide (1<=xs.length/\xs.length<=6)&&xs.all letB&&decide ((xs.map i7).Nodup)
 |none=>false
noncomputable def fR(H:Hp)(v:V)(ws:List Str):Bool:=match lstOf H v with
 |some xs=>decide (xs.length<=24)&&xs.all (λx=>eK H x ws)
 |none=>false
def Oq:("a":Str).cps.toList=[97]:=by decide+kernel
def Op:("z":Str).cps.toList=[122]:=by decide+kernel
def K2{c d:Nat}:([c]<[d])<->c<d:=by
 constructor
 .intro h;cases h with
  |rel h=>exact h
  |cons h=>cases h
 .intro h;exact List.Lex.rel h
def Ef{K:Frag}{σ:St}{H:Hp}{ta tb tc:TE}{x y z:Str}(ha:Ev ta σ H (.str x))(hb:Ev tb σ H (.str y))(hc:Ev tc σ H (.str z)):Ev (rW K .LtE .LtE ta tb tc) σ H (.bl (!decide (y.cps.toList<x.cps.toList)&& !decide (z.cps.toList<y.cps.toList))):=λQ q=>ha _ (hb _ (by
 show gf K .LtE (.str x) (.str y) H _;rw[yZ,r_b];cases h: !decide (y.cps.toList<x.cps.toList)with
 |true=>
  rw[h]at q;exact hc _ q
 |false=>
  rw[h]at q;exact q))
def pj:Sp:=λvs H Q _=>∃v,vs=[v]/\Thg H v/\Q (.bl (letB v)) H
def sX:Sp:=λvs H Q _=>∃v,vs=[v]/\cz H 1 v/\∀H',aj H H'->Q (.bl (nO H v)) H'
def sU(K:Frag):Sp:=λvs H Q _=>∃v d ws,vs=[v,.ref d]/\cz H 2 v/\iV K H d ws/\∀H',aj H H'->Q (.bl (fR H v ws)) H'
def Bv(h:letB v=true):∃c,v=.str (one c)/\j7 c:=by
 cases v with
 |str z=>
  match e:z.cps.toList with
  | [c]=>
    simp only[letB,e]at h;exact⟨c,by rw[qv (x:=z) (y:=one c) (by rw[e])],RD (p:=97<=c/\c<=122) h⟩
  | []=>simp only[letB,e]at h;cases h
  |_::_::_=>simp only[letB,e]at h;cases h
 |_=>cases h
structure uU(K:Frag)(C:Zo):Prop where
 cl:oY K C
 board:bK K C "board"
 kinds:bK K C "kinds"
 rules:bK K C "rules"
 turns:bK K C "turns"
 ends:bK K C "ends"
 stuck:bK K C "stuck"
noncomputable def gf1(b:Zo):List (Str×V):=putF "board" (.ref b) []
noncomputable def gf2(b k:Zo):List (Str×V):=putF "kinds" (.ref k) (gf1 b)
noncomputable def gf3(b k r:Zo):List (Str×V):=putF "rules" (.ref r) (gf2 b k)
noncomputable def gf4(b k r t:Zo):List (Str×V):=putF "turns" (.ref t) (gf3 b k r)
noncomputable def CS(b k r t e:Zo):List (Str×V):=putF "ends" (.ref e) (gf4 b k r t)
noncomputable def gM(b k r t e:Zo)(st:Str):List (Str×V):=putF "stuck" (.str st) (CS b k r t e)
section
variable{b k r t e:Zo}{st:Str}
def BP:(gM b k r t e st).lookup ("board":Str)=some (.ref b):=by unfold gM CS gf4 gf3 gf2 gf1;rw[av,RB (by decide+kernel),av,RB (by decide+kernel),av,RB (by decide+kernel),av,RB (by decide+kernel),av,RB (by decide+kernel),av,RC rfl]
def BO:(gM b k r t e st).lookup ("kinds":Str)=some (.ref k):=by unfold gM CS gf4 gf3 gf2;rw[av,RB (by decide+kernel),av,RB (by decide+kernel),av,RB (by decide+kernel),av,RB (by decide+kernel),av,RC rfl]
def BN:(gM b k r t e st).lookup ("rules":Str)=some (.ref r):=by unfold gM CS gf4 gf3;rw[av,RB (by decide+kernel),av,RB (by decide+kernel),av,RB (by decide+kernel),av,RC rfl]
def BL:(gM b k r t e st).lookup ("turns":Str)=some (.ref t):=by unfold gM CS gf4;rw[av,RB (by decide+kernel),av,RB (by decide+kernel),av,RC rfl]
def D7:(gM b k r t e st).lookup ("ends":Str)=some (.ref e):=by unfold gM CS;rw[av,RB (by decide+kernel),av,RC rfl]
def BM:(gM b k r t e st).lookup ("stuck":Str)=some (.str st):=by unfold gM;rw[av,RC rfl]
def O9{m:Str}(h1:¬m="board")(h2:¬m="kinds")(h3:¬m="rules")(h4:¬m="turns")(h5:¬m="ends")(h6:¬m="stuck"):(gM b k r t e st).lookup m=none:=by unfold gM CS gf4 gf3 gf2 gf1;rw[av,RB h6,av,RB h5,av,RB h4,av,RB h3,av,RB h2,av,RB h1];rfl
def Ln:(gf1 b).length<=1/\(gf2 b k).length<=2/\(gf3 b k r).length<=3/\(gf4 b k r t).length<=4/\(CS b k r t e).length<=5:=by have a1:(gf1 b).length<=1:=bu "board" (.ref b) [];have a2:(gf2 b k).length<=(gf1 b).length+1:=bu "kinds" (.ref k) (gf1 b);have a3:(gf3 b k r).length<=(gf2 b k).length+1:=bu "rules" (.ref r) (gf2 b k);have a4:(gf4 b k r t).length<=(gf3 b k r).length+1:=bu "turns" (.ref t) (gf3 b k r);have a5:(CS b k r t e).length<=(gf4 b k r t).length+1:=bu "ends" (.ref e) (gf4 b k r t);lia
end
structure fV(C:Zo)(H:Hp)(p b:Zo)(ks rs ts es:List V)(st:Str):Prop where
 ex:∃dx kq rq tq eq,H p=some (.ins C dx (gM b kq rq tq eq st))/\H kq=some (.lst ks)/\H rq=some (.lst rs)/\H tq=some (.lst ts)/\H eq=some (.lst es)
section
variable{K:Frag}{C:Zo}{H H':Hp}{p b:Zo}{ks rs ts es:List V}{st:Str}
def fV.same(G:fV C H p b ks rs ts es st)(s:aj H H'):fV C H' p b ks rs ts es st:=by obtain⟨dx,kq,rq,tq,eq,a,c,d,e,f⟩:=G.ex;exact⟨dx,kq,rq,tq,eq,s _ _ a,s _ _ c,s _ _ d,s _ _ e,s _ _ f⟩
theorem fV.board(G:fV C H p b ks rs ts es st)(D:uU K C):Fl K H p "board" (.ref b):=by obtain⟨dx,kq,rq,tq,eq,a,_⟩:=G.ex;exact⟨C,dx,_,a,D.cl,D.board,BP⟩
theorem fV.kinds(G:fV C H p b ks rs ts es st)(D:uU K C):∃q,Fl K H p "kinds" (.ref q)/\H q=some (.lst ks):=by obtain⟨dx,kq,rq,tq,eq,a,c,d,e,f⟩:=G.ex;exact⟨kq,⟨C,dx,_,a,D.cl,D.kinds,BO⟩,c⟩
theorem fV.rules(G:fV C H p b ks rs ts es st)(D:uU K C):∃q,Fl K H p "rules" (.ref q)/\H q=some (.lst rs):=by obtain⟨dx,kq,rq,tq,eq,a,c,d,e,f⟩:=G.ex;exact⟨rq,⟨C,dx,_,a,D.cl,D.rules,BN⟩,d⟩
theorem fV.turns(G:fV C H p b ks rs ts es st)(D:uU K C):∃q,Fl K H p "turns" (.ref q)/\H q=some (.lst ts):=by obtain⟨dx,kq,rq,tq,eq,a,c,d,e,f⟩:=G.ex;exact⟨tq,⟨C,dx,_,a,D.cl,D.turns,BL⟩,e⟩
theorem fV.ends(G:fV C H p b ks rs ts es st)(D:uU K C):∃q,Fl K H p "ends" (.ref q)/\H q=some (.lst es):=by obtain⟨dx,kq,rq,tq,eq,a,c,d,e,f⟩:=G.ex;exact⟨eq,⟨C,dx,_,a,D.cl,D.ends,D7⟩,f⟩
theorem fV.stuck(G:fV C H p b ks rs ts es st)(D:uU K C):Fl K H p "stuck" (.str st):=by obtain⟨dx,kq,rq,tq,eq,a,_⟩:=G.ex;exact⟨C,dx,_,a,D.cl,D.stuck,BM⟩
def fV.no(G:fV C H p b ks rs ts es st){m:Str}(h1:¬m="board":=by decide+kernel)(h2:¬m="kinds":=by decide+kernel)(h3:¬m="rules":=by decide+kernel)(h4:¬m="turns":=by decide+kernel)(h5:¬m="ends":=by decide+kernel)(h6:¬m="stuck":=by decide+kernel):lT C m H p:=by obtain⟨dx,kq,rq,tq,eq,a,_⟩:=G.ex;exact⟨dx,_,a,O9 h1 h2 h3 h4 h5 h6⟩
end
section
def vG(t:Thg H v)(s:aj H H'):eM H' v A B=eM H v A B:=by unfold eM;rw[eW t s]
def vz(t:Thg H v)(s:aj H H'):eK H' v ws=eK H v ws:=by unfold eK;rw[eW t s]
def zT(t:Thg H v)(s:aj H H'):cH H' v=cH H v:=by unfold cH;rw[eW t s]
def yI(t:Thg H v)(s:aj H H'):hZ H' v=hZ H v:=by unfold hZ;rw[eW t s]
def uP{xs:List V}(h:∀x∈xs,f x=g x):xs.all f=xs.all g:=by
 induction xs with
 |nil=>rfl
 |cons a r ih=>rw[Wb,Wb,h a (by simp),ih λx hx=>h x (by simp[hx])]
def Cz{xs:List V}(h:∀x∈xs,f x=g x):xs.any f=xs.any g:=by
 induction xs with
 |nil=>rfl
 |cons a r ih=>rw[Wr,Wr,h a (by simp),ih λx hx=>h x (by simp[hx])]
def lM(t:cz H 2 v)(s:aj H H'):pairsB H' v A B=pairsB H v A B:=by
 unfold pairsB;rw[iI t.1 s];cases e:lstOf H v with
 |none=>rfl
 |some xs=>
  show(_&&xs.all _)=(_&&xs.all _);rw[uP (g:=λx=>eM H x A B) λx hx=>vG (t.2 xs (.inr e) x hx).thg s]
def tK(t:cz H 2 v)(s:aj H H'):fR H' v ws=fR H v ws:=by
 unfold fR;rw[iI t.1 s];cases e:lstOf H v with
 |none=>rfl
 |some xs=>
  show(_&&xs.all _)=(_&&xs.all _);rw[uP (g:=λx=>eK H x ws) λx hx=>vz (t.2 xs (.inr e) x hx).thg s]
def sN(t:cz H 2 v)(s:aj H H'):gk H' v ws=gk H v ws:=by
 unfold gk;rw[lM t s,iI t.1 s];cases e:lstOf H v with
 |none=>rfl
 |some xs=>
  have tx:∀x∈xs,Thg H x:=λx hx=>(t.2 xs (.inr e) x hx).thg;have em:xs.map (cH H')=xs.map (cH H):=Wo λx hx=>zT (tx x hx) s;show(_&&((!xs.any λx=>decide (hZ H' x∈xs.map (cH H')))&&decide ((xs.map (cH H')).Nodup)))=(_&&((!xs.any λx=>decide (hZ H x∈xs.map (cH H)))&&decide ((xs.map (cH H)).Nodup)));rw[em,Cz (g:=λx=>decide (hZ H x∈xs.map (cH H))) λx hx=>by rw[yI (tx x hx) s]]
end
def xj(K:Frag)(C:Zo):Sp:=λvs H Q _=>∃p b kd rd td ed dx ws rs ts es st,vs=[.ref p,.ref b,.ref kd,.ref rd,.ref td,.ref ed,.str st]/\H p=some (.ins C dx [])/\H kd=some (.lst (ws.map V.str))/\H rd=some (.lst rs)/\H td=some (.lst ts)/\H ed=some (.lst es)/\
 cz H 1 (.ref kd)/\cz H 2 (.ref rd)/\cz H 2 (.ref td)/\cz H 2 (.ref ed)/\nO H (.ref kd)=true/\fR H (.ref rd) ws=true/\gk H (.ref td) ws=true/\pairsB H (.ref ed) gY ws=true/\st∈jW/\st.length<=1000/\
 ∀H',fV C H' p b (ws.map V.str) rs ts es st->SameBut p H H'->Q .non H'
structure Ro(P:RU)(w:RZ)(K:Frag)(mg:RJ)(Rw:R9):Prop where
 is_list_of:cZ P w K mg Rw "is_list_of" ["thing","least","most"] 1 qA
 is_letter:cZ P w K mg Rw "is_letter" ["thing"] 1 pj
 is_rule:cZ P w K mg Rw "is_rule" ["thing","kinds"] 4 (w6 K)
structure GG2(P:RU)(w:RZ)(K:Frag)(mg:RJ)(Rw:R9):Prop where
 are_kinds:cZ P w K mg Rw "are_kinds" ["thing"] 2 sX
 are_rules:cZ P w K mg Rw "are_rules" ["thing","kinds"] 5 (sU K)
 is_turns:cZ P w K mg Rw "is_turns" ["thing","kinds"] 4 (sS K)
 is_ends:cZ P w K mg Rw "is_ends" ["thing","kinds"] 4 (xk K)
 is_word:cZ P w K mg Rw "is_word" ["thing","words"] 1 (jC K)
def mw{K:Frag}{σ:St}{H:Hp}{to te:TE}{u:TS}{D:mq}{f:Str}{p C dx d:Zo}{fs:List (Str×V)}{xs:List V}(he:Ev te σ H (.ref d))(hd:H d=some (.lst xs))(ho:∀H',Ev to σ H' (.ref p))(hp:H p=some (.ins C dx fs))(hc:oY K C)(hn:bK K C f)(hl:fs.length<1000)(h2:∀q,H q=none->u D σ (upd (upd H q (.lst xs)) p (.ins C dx (putF f (.ref q) fs)))):bn (lX K to (cB (ue K) (aN te bG)) f) u D σ H:=
 he _ ⟨xs,.inl (aR.of hd),λq hq=>ho _ _ ⟨p,C,dx,fs,rfl,by rw[aq (aB hp hq)];exact hp,hc,hn,hl,h2 q hq⟩⟩
end L2
namespace L2
open PySem
def dS{N P:List Str}{sc:TV}(a:sc.kind=.function:=by rfl)(b:sc.isCoroutine=false:=by rfl)(c:sc.isGenerator=false:=by rfl)(d:N.Nodup:=by decide+kernel)(e:N.take P.length=P:=by rfl)(f:∀x∈P,sc.names.lookup x=some .local\/sc.names.lookup x=some .cell:=by decide+kernel)(g:∀y∈sc.names,y.2≠.free:=by decide+kernel):aD N P sc:=⟨a,b,c,d,e,f,g⟩
end L2
namespace L2
open PySem PySem.Spec PyProof.Rows
def Ap(H:Hp):V->Prop
 | .non=>True
 | .bl _=>True
 | .int _=>True
 | .str z=>z.length<=1000
 | .ref a=>(∃xs,H a=some (.lst xs))\/(∃xs,H a=some (.tup xs))
 |_=>False
def lF(H:Hp):Nat->V->Prop
 |0,v=>Ap H v
 |n+1,v=>Ap H v/\∀xs,(tupOf H v=some xs\/lstOf H v=some xs)->∀x∈xs,lF H n x
def Ap.thg(h:Ap H v):Thg H v:=by
 cases v with
 |ref a=>
  rcases h with h|h
  .exact .inl h
  .exact .inr (.inl h)
 |_=>exact h
theorem lF.n:∀{n:Nat}{v:V},lF H n v->cz H n v
 |0,v,h=>Ap.thg h
 |n+1,v,h=>⟨h.1.thg,λxs hx x hm=>(h.2 xs hx x hm).n⟩
def lF.flat{n:Nat}(h:Ap H v)(f:flatV v=true):lF H n v:=by
 cases n with
 |zero=>exact h
 |succ n=>
  refine⟨h,λxs hx=>?_⟩;cases v with
  |ref a=>cases f
  |_=>rcases hx with z|z<;>cases z
theorem lF.lst{n:Nat}{xs:List V}(h:H a=some (.lst xs))(hx:∀x∈xs,lF H n x):lF H (n+1) (.ref a):=⟨.inl ⟨xs,h⟩,λys hy=>by
 rcases hy with z|z
 .simp only[tupOf,h]at z;cases z
 .simp only[lstOf,h]at z;cases z;exact hx⟩
theorem lF.tup{n:Nat}{xs:List V}(h:H a=some (.tup xs))(hx:∀x∈xs,lF H n x):lF H (n+1) (.ref a):=⟨.inr ⟨xs,h⟩,λys hy=>by
 rcases hy with z|z
 .simp only[tupOf,h]at z;cases z;exact hx
 .simp only[lstOf,h]at z;cases z⟩
noncomputable def xU:V->Bool
 | .ref _=>true
 |_=>false
def B7{K:Frag}{H:Hp}{n:Nat}{x:V}(h:(flatV x||xU x)=true):yv K H n x x true:=by
 cases hf:flatV x with
 |true=>
  have:=yv.flat (K:=K) (H:=H) (n:=n) hf hf;rw[B5 hf]at this;exact this
 |false=>
  cases x with
  |ref a=>exact .same
  |_=>first|(cases hf;done)|(rw[hf]at h;cases h)
def ux{K:Frag}{H:Hp}{n:Nat}{a b:Zo}{xs:List V}(ha:aR K H a xs)(hb:aR K H b xs)(hf:∀x∈xs,(flatV x||xU x)=true):CU K H (n+1) (.ref a) (.ref b) true:=by
 have h:=CU.lst (es:=λ_=>true) (n:=n) ha hb rfl (λi x y hx hy=>by
  rw[hx]at hy;cases hy;exact B7 (hf x (Wa hx)))
 rw[show((List.range xs.length).all λ_=>true)=true from Wc.mpr λ_ _=>rfl]at h;exact h
section
def Q0(ha:PE X a ta)(hb:PE X b tb):PE X (.BinOp a .Mult b pos) (P0 Ot ta tb):=Ju KG ha hb
def Cp(to te:TE):TE:=λσ H Q=>to σ H λx H1=>match x with
 | .ref l=>(∃xs,H1 l=some (.lst xs))/\te σ H1 λy H2=>vE (.ref l) [y] H2 Q
 |_=>False
def Ck{apos cpos:Vb}(ho:PE X o to)(he:PE X e te)(hbase:SE o "pop" X.env (Sr o X.env)=Sr o X.env:=by rfl)(hfew:((Sj cpos (RS [e] X.env)).all (λx=> !x.1)&&(TQ cpos (S6 [] X.env)).all (λx=>x.1.isSome)
   &&decide ([e].length+([]:List Tw).length+(if([]:List Tw).isEmpty then 0 else 1)<30))=true:=by rfl) (hline:(apos.endLine == cpos.line)=true:=by rfl) (hs:RS [e] X.env=(false,Sr e X.env)::RS [] X.env:=by rfl) (hplain:(Sj cpos (RS [] X.env)).any (·.1)=false:=by rfl):PE X (.Call (.Attribute o "pop" apos) [e] [] cpos) (Cp to te):=by
 intro Rv s σ H Q I h;refine SH hbase hfew hline rfl (bL (ho Rv s σ H _ I h) λv s1 ⟨x,H1,I1,r1,q1⟩=>?_);cases x with
 |ref l=>
  obtain⟨⟨xs0,e0⟩,q1⟩:=q1;have ty:IZ X.K "list" (.ref l) H1:=.inl ⟨rfl,xs0,aR.of e0⟩;obtain⟨h1,h2⟩:=jV I1 r1 ty;refine⟨"list","list.pop",PySem.F.plainAttrs_list,PySem.F.slot_list_pop,PySem.F.type_list_pop,h1,h2,?_⟩;have hA:=(pa_cons he pan hs:PA X [e] (aN te bG)) cpos Rv s1 σ H1 (λvs H2=>vE (.ref l) vs H2 Q) I1 q1;rw[hs]at hA ⊢;refine Sw (by show(false||(Sj cpos (RS [] X.env)).any (·.1))=false;rw[hplain]<;>rfl) (SD ?_)
  exact bL hA λus s2 ⟨vs,H2,I2,r2,q2⟩=>Br Rv s2 σ H2 _ vs v us Q I2 r1 r2 q2
 |_=>exact q1.elim
end
section
def Js{l:Zo}{i:Int}{P:V->Hp->Prop}(h:∀Q:VK,(∀v H',P v H'->Q v H')->te σ H Q)(h2:∀v H',P v H'->Ev to σ H' (.ref l)/\Ev ti σ H' (.int i)/\∃xs,H' l=some (.lst xs)/\0<=i/\i<xs.length/\D.nx σ (upd H' l (.lst (xs.set i.toNat v)))):oA te (gSub to ti A4) D σ H:=
 h _ λv H' p=>by obtain⟨ho,hi,xs,hl,h0,h1,q⟩:=h2 v H' p;refine ho _ (hi _ ⟨l,xs,i,i.toNat,rfl,rfl,hl,?_,q⟩);unfold ixN;rw[RC h0,RC h1]
end
structure PJ(z TI TO i1 i2:Zo):Prop where
 a:TI≠z
 b:TO≠z
 c:i1≠z
 d:i2≠z
 e:TI≠TO
 f:TO≠i1
 g:TO≠i2
 h:i1≠i2
 i:TI≠i1
 j:TI≠i2
section
variable{prog:RU}{w:RZ}{A:SJ}{E:RK}{s:RQ}{z TI TO i1 i2:Zo}{n1 n2 i:Nat}{P1 P2:Nat->Zn->Prop}{S1 S2:Nat->R9->Prop}{a b:Zn}
def CY{Q:RK}(D1:Draws prog w A i1 [i1] n1 P1 S1)(D2:Draws prog w A i2 [i2] n2 P2 S2)(ap:PJ z TI TO i1 i2)(hz:Uv s.heap z TI TO .none)(hTI:Tk s.heap TI (.ref i1) (.ref i2))(hTO:Tk s.heap TO a b)(h1:S1 i s.heap)(h2:S2 i s.heap)(l1:i<n1)(l2:i<n2)(hQ:∀x y h' tk,P1 i x->P2 i y->Uv h' z TI TO (T5 s.heap.objs.size)->Tk h' TO x y->S1 (i+1) h'->S2 (i+1) h'->Tk h' s.heap.objs.size x y->(∀c o,c≠z->c≠TO->c≠i1->c≠i2->s.heap.get? c=some o->h'.get? c=some o)->Q (.ref s.heap.objs.size) {s with heap:=h',toks:=tk}):RR (RX prog w) A (SS.«zip.__next__» ⟨[.ref z],[]⟩) (λfin s'=>∃v,fin=.done (.ret v)/\Q v s') E s:=by
 have f1:∀{k:Nat}{c:Zo}{g g':R9},S1 k g->So c g g'->i1≠c->S1 k g':=λst sb ne=>D1.frame _ _ _ st λq hq o ho=>by rw[VR.mp hq]at ho ⊢;exact sb.extBut _ _ ne ho
 have f2:∀{k:Nat}{c:Zo}{g g':R9},S2 k g->So c g g'->i2≠c->S2 k g':=λst sb ne=>D2.frame _ _ _ st λq hq o ho=>by rw[VR.mp hq]at ho ⊢;exact sb.extBut _ _ ne ho
 refine RM (m:=field (.ref z) 2) (SO hz rfl (x:=.bool false) rfl (RM (m:=field (.ref z) 3) (SO hz rfl (x:=.ref TI) rfl (RM (Ss hTI rfl ?_)))));refine RM (m:=SA (.ref z)) ?_;unfold SA;refine RM (SO hz rfl (x:=.none) rfl (RN ?_));rw[RC rfl];refine RM (UJ ?_);refine RM (SO hz rfl (x:=.ref TO) rfl (RM (Tf hz (by simp) λg1 zz1 b1=>RM ?_)));have z1:Uv g1 z TI TO .ellipsis:=zz1;simp only[List.zipIdx_cons,List.zipIdx_nil,WX,List.forIn_nil];refine RM (RM (Ve (RM (m:=Tx (.ref i1)) (D1.item i _ _ _ l1 (f1 h1 b1 ap.c) λx g2 k2 p1 t2 b2=>RN ?_))));have o2:Tk g2 TO a b:=b2.extBut _ _ ap.f (b1.extBut _ _ ap.b hTO);refine RM (Ss o2 rfl (RM (wpAny_updateSeq_pair o2 λg3 oo3 b3=>RM (wpAny_letGo (RN ?_)))));have o3:Tk g3 TO x b:=oo3;refine RM (RM (Ve (RM (m:=Tx (.ref i2)) (D2.item i _ _ _ l2 (f2 (f2 (f2 h2 b1 ap.d) b2 ap.h.symm) b3 ap.g.symm) λy g4 k4 p2 t4 b4=>RN ?_))));have o4:Tk g4 TO x b:=b4.extBut _ _ ap.g o3;refine RM (Ss o4 rfl (RM (wpAny_updateSeq_pair o4 λg5 oo5 b5=>RM (wpAny_letGo (RN (RN ?_))))));have o5:Tk g5 TO x y:=oo5;have n5:g5.objs.size=s.heap.objs.size:=by rw[b5.1,b4.1,b3.1,b2.1,b1.1]
 have z5:Uv g5 z TI TO .ellipsis:=b5.extBut _ _ ap.b.symm (b4.extBut _ _ ap.d.symm (b3.extBut _ _ ap.b.symm (b2.extBut _ _ ap.c.symm z1)));have u1:S1 (i+1) g5:=f1 (f1 (f1 t2 b3 ap.f.symm) b4 ap.h) b5 ap.f.symm;have u2:S2 (i+1) g5:=f2 t4 b5 ap.g.symm;have zl:z<g5.objs.size:=RP z5;refine RM (Ss o5 rfl (RM (wpAny_newTuple (RM (m:=TB (.ref z) (.ref g5.objs.size)) ?_))));unfold TB;have z6:Uv (g5.push {cls:=.type "tuple",data:=.seq #[x,y]}) z TI TO .ellipsis:=RO _ z5;refine RM (Tf z6 (by simp) λg7 zz7 b7=>Tf (show Uv g7 z TI TO (T5 g5.objs.size)from zz7) (by simp) λg8 zz8 b8=>RN ⟨_,rfl,?_⟩);have z8:Uv g8 z TI TO (T5 g5.objs.size):=zz8;have up:∀c o,c≠z->g5.get? c=some o->g8.get? c=some o:=λc o c1 e=>b8.extBut _ _ c1 (b7.extBut _ _ c1 (RO _ e));have t8:Tk g8 g5.objs.size x y:=b8.extBut _ _ (XJ zl) (b7.extBut _ _ (XJ zl) (RT _ rfl));show Q (.ref g5.objs.size) _;rw[n5]at z8 t8 ⊢;exact hQ x y g8 k4 p1 p2 z8 (up _ _ ap.b o5) (D1.frame _ _ _ u1 λq hq o ho=>by rw[VR.mp hq]at ho ⊢;exact up _ _ ap.c ho) (D2.frame _ _ _ u2 λq hq o ho=>by rw[VR.mp hq]at ho ⊢;exact up _ _ ap.d ho) t8 λc o c1 c2 c3 c4 e=>up c o c1 (b5.extBut _ _ c2 (b4.extBut _ _ c4 (b3.extBut _ _ c2 (b2.extBut _ _ c3 (b1.extBut _ _ c1 e)))))
def JV(D1:Draws prog w A i1 [i1] n1 P1 S1)(ap:PJ z TI TO i1 i2)(hz:Uv s.heap z TI TO .none)(hTI:Tk s.heap TI (.ref i1) (.ref i2))(h1:S1 n1 s.heap)(hE:∀h' e,(∀c o,c≠z->c≠i1->s.heap.get? c=some o->h'.get? c=some o)->(∃o,h'.get? e=some o/\o.cls=.type "StopIteration")->E (.ref e) {s with heap:=h'}):RR (RX prog w) A (SS.«zip.__next__» ⟨[.ref z],[]⟩) Q E s:=by
 have f1:∀{k:Nat}{c:Zo}{g g':R9},S1 k g->So c g g'->i1≠c->S1 k g':=λst sb ne=>D1.frame _ _ _ st λq hq o ho=>by rw[VR.mp hq]at ho ⊢;exact sb.extBut _ _ ne ho
 refine RM (m:=field (.ref z) 2) (SO hz rfl (x:=.bool false) rfl (RM (m:=field (.ref z) 3) (SO hz rfl (x:=.ref TI) rfl (RM (Ss hTI rfl ?_)))));refine RM (m:=SA (.ref z)) ?_;unfold SA;refine RM (SO hz rfl (x:=.none) rfl (RN ?_));rw[RC rfl];refine RM (UJ ?_);refine RM (SO hz rfl (x:=.ref TO) rfl (RM (Tf hz (by simp) λg1 zz1 b1=>RM ?_)));have z1:Uv g1 z TI TO .ellipsis:=zz1;simp only[List.zipIdx_cons,List.zipIdx_nil,WX,List.forIn_nil];refine RM (RM (Ve (RM (m:=Tx (.ref i1)) (D1.done _ _ _ (f1 h1 b1 ap.c) λg2 e b2 he=>?_))));obtain⟨oe,hoe,hce⟩:=he;have z2:Uv g2 z TI TO .ellipsis:=b2 _ _ ap.c.symm z1;have ne:e≠z:=λq=>by rw[q]at hoe;have z2':g2.get? z=_:=z2;rw[z2']at hoe;cases hoe;simp at hce
 exact Tf z2 (by simp) λg3 _ b3=>hE g3 e (λc o c1 c3 q=>b3.extBut _ _ c1 (b2 _ _ c3 (b1.extBut _ _ c1 q))) ⟨oe,b3.extBut _ _ ne hoe,hce⟩
def CW(D1:Draws prog w A.in1 i1 [i1] n1 P1 S1)(D2:Draws prog w A.in1 i2 [i2] n2 P2 S2)(ap:PJ z TI TO i1 i2)(hz:Uv s.heap z TI TO .none)(hTI:Tk s.heap TI (.ref i1) (.ref i2))(hTO:Tk s.heap TO a b)(h1:S1 i s.heap)(h2:S2 i s.heap)(l1:i<n1)(l2:i<n2)(hQ:∀x y h' tk,P1 i x->P2 i y->Uv h' z TI TO (T5 s.heap.objs.size)->Tk h' TO x y->S1 (i+1) h'->S2 (i+1) h'->Tk h' s.heap.objs.size x y->(∀c o,c≠z->c≠TO->c≠i1->c≠i2->s.heap.get? c=some o->h'.get? c=some o)->Q (some (.ref s.heap.objs.size)) {s with heap:=h',toks:=tk}):RR (RX prog w) A (S7 (.ref z)) Q E s:=by have hT:s.TypeIs (.ref z) "zip":=⟨_,hz,rfl⟩;unfold S7;exact RM (SZ (Sh (name:=SX "__next__") hT T7 (Sn T7 hT F.entry_zip_next (CY D1 D2 ap hz hTI hTO h1 h2 l1 l2 λx y h' tk q1 q2 q3 q4 q5 q6 q7 q8=>RN (hQ x y h' tk q1 q2 q3 q4 q5 q6 q7 q8)) (F.args_zip_next_1 _))))
def CV(D1:Draws prog w A.in1 i1 [i1] n1 P1 S1)(ap:PJ z TI TO i1 i2)(hz:Uv s.heap z TI TO .none)(hTI:Tk s.heap TI (.ref i1) (.ref i2))(h1:S1 n1 s.heap)(hQ:∀h',(∀c o,c≠z->c≠i1->s.heap.get? c=some o->h'.get? c=some o)->Q none {s with heap:=h'}):RR (RX prog w) A (S7 (.ref z)) Q E s:=by have hT:s.TypeIs (.ref z) "zip":=⟨_,hz,rfl⟩;unfold S7;refine RM (SZ (Sh (name:=SX "__next__") hT T7 (Sn T7 hT F.entry_zip_next (JV D1 ap hz hTI h1 λh' e hk he=>?_) (F.args_zip_next_1 _))));obtain⟨o,ho,hc⟩:=he;exact RM (Ts (T:="StopIteration") (b:=true) ⟨o,ho,hc⟩ Ui (RN (hQ _ hk)))
end
noncomputable def sI(x:Str)(t:VL):Obj:={cls:=.type (Td x),data:=.fields #[.str x t,.int 0 0]}
noncomputable def CZ(h:R9)(x:Str)(t:VL)(y:Str)(u:VL):R9:=(h.push (sI x t)).push (sI y u)
noncomputable def Of(h:R9)(x:Str)(t:VL)(y:Str)(u:VL):R9:=((CZ h x t y u).push {cls:=.type "tuple",data:=.seq #[.ref h.objs.size,.ref (h.push (sI x t)).objs.size]}).push {cls:=.type "tuple",data:=.seq #[.none,.none]}
noncomputable def JW(h:R9)(x:Str)(t:VL)(y:Str)(u:VL):R9:=(Of h x t y u).push {cls:=.type "zip",data:=.fields #[.none,.bool false,.bool false,.ref (CZ h x t y u).objs.size,.ref ((CZ h x t y u).push {cls:=.type "tuple",data:=.seq #[.ref h.objs.size,.ref (h.push (sI x t)).objs.size]}).objs.size]}
def vW(x:Str)(t:VL)(y:Str)(u:VL):Meets (SS.«zip.__new__» ⟨[.type "zip",.str x t,.str y u],[]⟩) (λ_ R s=>R (.ok (.ret (.ref (Of s.heap x t y u).objs.size))) {s with heap:=JW s.heap x t y u}):=
 .of_wp λprog w A R s h=>by
  obtain⟨hp,g,d,tk,os⟩:=s;have hsub:=sub_zip
  wp_walk using wpAny_pyIter_strU
  exact⟨_,rfl,h⟩
section
def Ae(h:∀h',Uv h' (s.heap.objs.size+4) (s.heap.objs.size+2) (s.heap.objs.size+3) .none->Tk h' (s.heap.objs.size+2) (.ref s.heap.objs.size) (.ref (s.heap.objs.size+1))->Tk h' (s.heap.objs.size+3) .none .none->
   h'.IsStrIter s.heap.objs.size (Td x) x t 0->h'.IsStrIter (s.heap.objs.size+1) (Td y) y u 0->(∀c o,s.heap.get? c=some o->h'.get? c=some o)->Q (.ref (s.heap.objs.size+4)) {s with heap:=h'}):RR (RX prog w) A (call (.type "zip") [.str x t,.str y u]) Q E s:=by
 refine callType_new F.called_zip (by decide) (F.typeCall_zip_2 _ _) (F.newCall_zip_2 _ _) (λobj=>F.args_object_init_3 obj _ _) F.entry_zip_new (vW x t y u) ?_;have y1:(s.heap.push (sI x t)).objs.size=s.heap.objs.size+1:=Se ..;have y2:(CZ s.heap x t y u).objs.size=s.heap.objs.size+2:=by unfold CZ;rw[Se,y1]
 have y3:((CZ s.heap x t y u).push {cls:=.type "tuple",data:=.seq #[.ref s.heap.objs.size,.ref (s.heap.push (sI x t)).objs.size]}).objs.size=s.heap.objs.size+3:=by rw[Se,y2]
 have y4:(Of s.heap x t y u).objs.size=s.heap.objs.size+4:=by unfold Of;rw[Se,y3]
 have g5:(JW s.heap x t y u).get? (Of s.heap x t y u).objs.size=some _:=RT _ rfl;have up:∀c o,(CZ s.heap x t y u).get? c=some o->(JW s.heap x t y u).get? c=some o:=λc o e=>RO _ (RO _ (RO _ e));have g3:(JW s.heap x t y u).get? (CZ s.heap x t y u).objs.size=some _:=RO _ (RO _ (RT _ rfl));have g4:(JW s.heap x t y u).get? ((CZ s.heap x t y u).push {cls:=.type "tuple",data:=.seq #[.ref s.heap.objs.size,.ref (s.heap.push (sI x t)).objs.size]}).objs.size=some _:=RO _ (RT _ rfl);have g1:(JW s.heap x t y u).get? s.heap.objs.size=some (sI x t):=up _ _ (RO _ (RT _ rfl));have g2:(JW s.heap x t y u).get? (s.heap.push (sI x t)).objs.size=some (sI y u):=up _ _ (RT _ rfl);show _/\_;rw[y2,y3,y4]at g5;rw[y1,y2]at g3;rw[y3]at g4;rw[y1]at g2;rw[y4];exact⟨⟨_,g5,rfl⟩,h _ g5 g3 g4 ⟨_,g1,rfl,rfl⟩ ⟨_,g2,rfl,rfl⟩ λc o e=>up _ _ (RO _ (RO _ e))⟩
end
section
variable{X:Cx}{Rv:RL}{σ:St}{H:Hp}{s:RQ}{h':R9}
def aJ.turnedN{t':Nat}{fp:List Zo}(I:aJ X Rv σ H s)(k:∀b ob,b∉fp->s.heap.get? b=some ob->h'.get? b=some ob)(hf:∀b∈fp,jz X Rv H b):aJ X Rv σ H {s with heap:=h',toks:=t'}:=by
 have nf:∀b u,H b=some u->b∉fp:=λb u q z=>by rw[(hf b z).1]at q;cases q
 have nl:X.env.locals∉fp:=λz=>(hf _ z).2.1 rfl;refine I.step (g':=s.gens) (d':=s.drawn) (ch:=fp) (λb hb=>⟨(hf b hb).2.2.2.1,(hf b hb).2.1,(hf b hb).2.2.2.2.1,(hf b hb).2.2.2.2.2⟩) (λb ob _ _ hc q _=>k b ob hc q) (λb ob _ _ hc q _=>⟨ob.slots,k b ob hc q⟩)
  (λ_ _ _ _ n=>n) (λb ob hc q=>⟨ob,k b ob hc q⟩) (λ_ _ q=>q) (λ_ _ _ q=>q) (λb ps q=>⟨#[],by rw[q];simp⟩) (λm hm=>?_) (λb u q=>?_) I.bare
 .obtain⟨ob,es,ep,ho,r⟩:=hm;exact⟨ob,es,ep,k _ ob nl ho,r⟩
 .refine(I.hok b u q).stay (λc v hc z=>k c v ?_ z) (λc z=>z) λc xs z=>z
  rcases hc with z|z
  .rw[z];exact nf b u q
  .exact nf c _ z
def aJ.turned_laidN{t':Nat}{fp:List Zo}{a:Zo}{o:HO}(I:aJ X Rv σ H s)(k:∀b ob,b∉fp->s.heap.get? b=some ob->h'.get? b=some ob)(hf:∀b∈fp,jz X Rv H b)(hp:s.heap.objs.size<=a)(new:bp X.prog X.w (upd H a o) h' a o):aJ X Rv σ (upd H a o) {s with heap:=h',toks:=t'}:=by
 have hn:H a=none:=I.hok.fresh hp;have nf:∀b u,H b=some u->b∉fp:=λb u q z=>by rw[(hf b z).1]at q;cases q
 have nl:X.env.locals∉fp:=λz=>(hf _ z).2.1 rfl;refine I.step (g':=s.gens) (d':=s.drawn) (ch:=fp) (λb hb=>⟨(hf b hb).2.2.2.1,(hf b hb).2.1,(hf b hb).2.2.2.2.1,(hf b hb).2.2.2.2.2⟩) (λb ob _ _ hc q _=>k b ob hc q) (λb ob _ _ hc q _=>⟨ob.slots,k b ob hc q⟩)
  (λb ob hc q n=>by rw[aq (XE (XH (RP q) hp))];exact n) (λb ob hc q=>⟨ob,k b ob hc q⟩) (λb xs q=>by rw[aq (aB q hn)];exact q) (λb ob u q=>by rw[aq (aB q hn)];exact q)
  (λb ps q=>⟨#[],by rw[aq (aB q hn),q];simp⟩) (λm hm=>?_) (λb u q=>?_) I.bare
 .obtain⟨ob,es,ep,ho,r⟩:=hm;exact⟨ob,es,ep,k _ ob nl ho,r⟩
 .by_cases hb:b=a
  .subst hb;rw[ag]at q;cases q;exact new
  .rw[aq hb]at q;refine(I.hok b u q).stay (λc v hc z=>k c v ?_ z) (λc z=>by rw[aq (aB z hn)];exact z) λc xs z=>by rw[aq (aB z hn)];exact z
   rcases hc with z|z
   .rw[z];exact nf b u q
   .exact nf c _ z
end
noncomputable def LW(x y:Str):It:=
 ⟨λi _=>i<x.cps.size,λi H v H'=>∃t c e,v=.ref t/\H t=none/\x.cps.toList[i]? =some c/\y.cps.toList[i]? =some e/\H'=upd H t (.tup [.str ⟨#[c]⟩,.str ⟨#[e]⟩]),λi _=>i=x.cps.size⟩
def ZSt(z TI TO i1 i2:Zo)(x:Str)(t:VL)(y:Str)(u:VL)(i:Nat)(h:R9):Prop:=Uv h z TI TO .none/\Tk h TI (.ref i1) (.ref i2)/\(∃a b,Tk h TO a b)/\h.IsStrIter i1 (Td x) x t i/\h.IsStrIter i2 (Td y) y u i
def yF{P:RU}{w:RZ}{K:Frag}{elts:List Sz}{k0:Nat}{pos:Vb}(z TI TO i1 i2:Zo)(x:Str)(t:VL)(y:Str)(u:VL)(ap:PJ z TI TO i1 i2)(hl:x.cps.size=y.cps.size):Ao P w K (.Tuple elts k0 pos) (LW x y) [z,TI,TO,i1,i2] z (ZSt z TI TO i1 i2 x t y u) where
 mem:=by simp
 obj:=λi h st b hb=>by
  obtain⟨hz,hTI,⟨a,a',hTO⟩,⟨o1,q1,c1,d1⟩,o2,q2,c2,d2⟩:=st;simp only[VO,V3,or_false]at hb
  rcases hb with rfl|rfl|rfl|rfl|rfl
  .exact⟨_,hz,λv e=>by cases e⟩
  .exact⟨_,hTI,λv e=>by cases e⟩
  .exact⟨_,hTO,λv e=>by cases e⟩
  .exact⟨o1,q1,λv e=>by rw[d1]at e;cases e⟩
  .exact⟨o2,q2,λv e=>by rw[d2]at e;cases e⟩
 keep:=λi h h' st k=>by obtain⟨hz,hTI,⟨a,a',hTO⟩,⟨o1,q1,r1⟩,o2,q2,r2⟩:=st;exact⟨k z (by simp) _ hz,k TI (by simp) _ hTI,⟨a,a',k TO (by simp) _ hTO⟩,⟨o1,k i1 (by simp) _ q1,r1⟩,o2,k i2 (by simp) _ q2,r2⟩
 item:=by
  intro X hP hw hK hc i Rv s σ H E I hf st hg;subst hP hw hK;obtain⟨hz,hTI,⟨a,a',hTO⟩,h1,h2⟩:=st;have hh:X.A.in1.handled=none:=by show X.A.handled=none;exact I.ok.hd hc
  have D1:=iA (prog:=X.prog) (w:=X.w) hh i1 x t;have D2:=iA (prog:=X.prog) (w:=X.w) hh i2 y u;have hg:i<x.cps.size:=hg;refine CW D1 D2 ap hz hTI hTO h1 h2 hg (by lia) λv1 v2 g1 tk p1 p2 z1 o1 s1 s2 t1 k1=>?_;obtain⟨c,u1,hc1,rfl⟩:=p1;obtain⟨e,u2,hc2,rfl⟩:=p2;refine⟨_,rfl,wpAny_letOwnedTupleGo_zip z1 λg2 z2 sb=>?_⟩;have lz:z<s.heap.objs.size:=RP hz;have kk:∀b ob,b∉[z,TI,TO,i1,i2]->s.heap.get? b=some ob->g2.get? b=some ob:=λb ob hb q=>by simp only[VO,V3,or_false,not_or]at hb;exact(sb.2 b hb.1).trans (k1 b ob hb.1 hb.2.2.1 hb.2.2.2.1 hb.2.2.2.2 q)
  have t2:g2.get? s.heap.objs.size=some {cls:=.type "tuple",data:=.seq #[.str ⟨#[c]⟩ u1,.str ⟨#[e]⟩ u2]}:=(sb.2 _ (XJ lz)).trans t1;have new:bp X.prog X.w (upd H s.heap.objs.size (.tup [.str ⟨#[c]⟩,.str ⟨#[e]⟩])) g2 s.heap.objs.size (.tup [.str ⟨#[c]⟩,.str ⟨#[e]⟩]):=
   ⟨by show 2<=v1;decide,[.str ⟨#[c]⟩ u1,.str ⟨#[e]⟩ u2],.cons ⟨u1,rfl⟩ (.cons ⟨u2,rfl⟩ .nil),⟨_,t2,rfl,_,rfl⟩⟩
  have I2:=I.turned_laidN (t':=tk) kk hf (XD _) new;obtain⟨q1,w1,r1⟩:=s1;obtain⟨q2,w2,r2⟩:=s2;have kTI:g1.get? TI=_:=k1 _ _ ap.a ap.e ap.i ap.j hTI;refine⟨.ref s.heap.objs.size,_,I2,rfl,⟨_,c,e,rfl,I.hok.fresh (XD _),by rw[Ys];exact hc1,by rw[Ys];exact hc2,rfl⟩,⟨z2,(sb.2 _ ap.a).trans kTI,⟨_,_,(sb.2 _ ap.b).trans o1⟩,⟨q1,(sb.2 _ ap.c).trans w1,r1⟩,q2,(sb.2 _ ap.d).trans w2,r2⟩,λb hb=>?_⟩;have hlt:b<s.heap.objs.size:=by
   simp only[VO,V3,or_false]at hb
   rcases hb with rfl|rfl|rfl|rfl|rfl
   .exact lz
   .exact RP hTI
   .exact RP hTO
   .obtain⟨o,ho,_⟩:=h1;exact RP ho
   .obtain⟨o,ho,_⟩:=h2;exact RP ho
  rw[aq (XE hlt)];exact(hf b hb).1
 done:=by
   intro X hP hw hK hc i Rv s σ H E I hf st hg;subst hP hw hK;obtain⟨hz,hTI,⟨a,a',hTO⟩,h1,h2⟩:=st;have hg:i=x.cps.size:=hg;subst hg;have D1:=iA (prog:=X.prog) (w:=X.w) (A:=X.A.in1) (by show X.A.handled=none;exact I.ok.hd hc) i1 x t;exact CV D1 ap hz hTI h1 λh' hx=>⟨rfl,I.turnedN (t':=s.toks) (λb ob hb q=>by
    simp only[VO,V3,or_false,not_or]at hb;exact hx b ob hb.1 hb.2.2.2.1 q) hf⟩
 self:=λA i s Q E st h=>wpAny_pyIter_zip st.1 h
section
variable{X:Cx}{p pos pos2:Vb}{a b:Sz}{elts:List Sz}{k0:Nat}
def Du(R:It->Hp->Prop)(vs:List V)(H:Hp):Prop:=match vs with
 | [.str x,.str y]=>x.cps.size=y.cps.size/\R (LW x y) H
 |_=>False
def OZ(t:TA):TI:=λσ H R=>t σ H λvs H1=>Du R vs H1
def QY(hm:X.mg "zip"=none)(hA:PA X [a,b] t)(hg:Gl X "zip":=by rfl)(hs:RS [a,b] X.env=(false,Sr a X.env)::RS [b] X.env:=by rfl)(hp:(Sj pos (RS [b] X.env)).any (·.1)=false:=by rfl):PI X (.Tuple elts k0 pos2) (.Call (.Name "zip" p) [a,b] [] pos) (OZ t):=by
 intro Rv s σ H R I h;refine Call_ (j3 I hg hm LG (PyProof.Rows.callWith_type1 (bL (hA pos Rv s σ H (λvs H1=>Du R vs H1) I h) λus s1 ⟨vs,H1,I1,r1,q1⟩=>?_) hs hp) (by decide) (by decide))
 replace q1:Du R vs H1:=q1
 unfold Du at q1;split at q1
 .rename_i x y;obtain⟨u1,u2,rfl,⟨t1,rfl⟩,t2,rfl⟩:=Az r1;refine Ae λh' q2 q3 q4 q5 q6 hk=>?_;have I2:aJ X Rv σ H1 {s1 with heap:=h'}:=I1.kept (t':=s1.toks) hk;refine wpAny_pyIter_zip q2 ⟨s1.heap.objs.size+4,[s1.heap.objs.size+4,s1.heap.objs.size+2,s1.heap.objs.size+3,s1.heap.objs.size,s1.heap.objs.size+1],_,_,H1,rfl,I2,yF _ _ _ _ _ x t1 y t2 ?_ q1.1,⟨q2,q3,⟨_,_,q4⟩,q5,q6⟩,λb hb=>?_,q1.2⟩
  .have f:∀i j:Nat,i≠j->s1.heap.objs.size+i≠s1.heap.objs.size+j:=λi j h=>by lia
   exact⟨f 2 4 (by decide),f 3 4 (by decide),f 0 4 (by decide),f 1 4 (by decide),f 2 3 (by decide),f 3 0 (by decide),f 3 1 (by decide),f 0 1 (by decide),f 2 0 (by decide),f 2 1 (by decide)⟩
  .have hb2:s1.heap.objs.size<=b:=by
    simp only[VO,V3,or_false]at hb
    rcases hb with rfl|rfl|rfl|rfl|rfl
    .exact XR _ _
    .exact XR _ _
    .exact XR _ _
    .exact XD _
    .exact XR _ _
   exact I1.fpOk hb2 (I1.hok.fresh hb2)
 .exact q1.elim
end
section
variable{K:Frag}{σ rest:St}{H:Hp}{t:TA}{te:TE}{src:List (Option Nat)}{Q:VK}{x y:Str}
def Ab(hl:Av t σ H [.str x,.str y])(hlen:x.cps.size=y.cps.size)(hz:x.length<=1000)(hs:eU src σ=none::none::rest)(f:Nat->Nat->V)(he:∀(i c e:Nat)(H':Hp),x.cps.toList[i]? =some c->y.cps.toList[i]? =some e->aj H H'->Ev te (some (.str (one c))::some (.str (one e))::rest) H' (f c e))(q:∀H' d,aj H H'->H' d=none->Q (.ref d) (upd H' d (.lst (List.zipWith f x.cps.toList y.cps.toList)))):tComp (OZ t) (zR K 2 (kN (ck 0) (kN (ck 1) BS))) iS te src σ H Q:=by
 have hx:x.cps.toList.length=x.length:=Yt;have hy:y.cps.toList.length=x.length:=by rw[Yt];exact hlen.symm
 refine hl _ ⟨hlen,?_⟩;show eP _ iS te src σ Q (LW x y) H;refine iE x.length (λi ys σ' H'=>aj H H'/\(∃o0 o1,σ'=o0::o1::rest)/\ys=List.zipWith f (x.cps.toList.take i) (y.cps.toList.take i)) (XG hz (by decide)) (λi ys σ H h=>?_) (λi ys σ H h hi=>hi) (λys σ H h=>rfl) ⟨aj.refl H,⟨_,_,hs⟩,by simp⟩ ?_ ?_
 .rw[h.2.2,List.length_zipWith,V8,V8];lia
 .rintro i ys _ H1 v H2 hi ⟨s1,⟨o0,o1,rfl⟩,rfl⟩ ⟨tq,c,e,rfl,ht0,hc,hd,rfl⟩ Kt Kf kt kf;have s2:aj H (upd H1 tq (.tup [.str ⟨#[c]⟩,.str ⟨#[e]⟩])):=s1.upd ht0;refine⟨tq,_,rfl,dF.of ag,rfl,_,_,rfl,_,_,rfl,rfl,?_⟩;simp only[iS,if_true];refine he i c e _ hc hd s2 _ (kt _ _ _ ⟨s2,⟨_,_,rfl⟩,?_⟩);rw[WH,WH,hc,hd];rw[List.zipWith_append (by rw[V8,V8,hx,hy])];rfl
 .rintro ys σ' H' d ⟨s1,_,rfl⟩ hd;rw[WL (by lia),WL (by lia)];exact q H' d s1 hd
end
noncomputable def gP(ks:List Nat)(c e:Nat):Bool:=if e=35 then decide (c=35)else decide (c=46\/c∈ks\/c∈ks.map (· - 32))
noncomputable def rowB(wi hi:Int)(hs:List Int)(ks:List Nat)(v:V):Bool:=match v with
 | .str z=>decide (z.length=(emptyT wi hi hs).length)&&(List.zipWith (gP ks) z.cps.toList (emptyT wi hi hs).cps.toList).all id
 |_=>false
noncomputable def ci(wi hi:Int)(hs:List Int)(ks:List Nat)(H:Hp)(v:V):Bool:=match tupOf H v with
 |some [a,b]=>rowB wi hi hs ks a&&amongB b 0 1
 |_=>false
def j1(e:tupOf H v=some [a,b]):ci wi hi hs ks H v=(rowB wi hi hs ks a&&amongB b 0 1):=by unfold ci;rw[e]
def zb(h:tupB H v 2=false):ci wi hi hs ks H v=false:=by
 unfold tupB at h;unfold ci;split
 .rename_i e1;rw[e1]at h;cases h
 .rfl
def ve(K:Frag)(cB cG:Zo):Sp:=λvs H Q _=>∃g b v wi hi hs ks rs ts es st,vs=[.ref g,v]/\fV cG H g b (ks.map strV) rs ts es st/\bU K cB H b wi hi hs/\(∀k∈ks,j7 k)/\ks.length<=6/\Thg H v/\∀H',aj H H'->Q (.bl (rowB wi hi hs ks v)) H'
def sV(K:Frag)(cB cG:Zo):Sp:=λvs H Q _=>∃g b v wi hi hs ks rs ts es st,vs=[.ref g,v]/\fV cG H g b (ks.map strV) rs ts es st/\bU K cB H b wi hi hs/\(∀k∈ks,j7 k)/\ks.length<=6/\cz H 1 v/\∀H',aj H H'->Q (.bl (ci wi hi hs ks H v)) H'
structure CR1(P:RU)(w:RZ)(K:Frag)(mg:RJ)(Rw:R9)(cB:Zo):Prop where
 sign_of:cZ P w K mg Rw "sign_of" ["kind","side"] 1 mS
 empty_row:cZ P w K mg Rw "empty_row" ["board"] 4 (xm K cB)
structure CR2(P:RU)(w:RZ)(K:Frag)(mg:RJ)(Rw:R9)(cB cG:Zo):Prop where
 is_tuple_of:cZ P w K mg Rw "is_tuple_of" ["thing","many"] 1 i9
 is_among:cZ P w K mg Rw "is_among" ["thing","least","most"] 2 ja
 is_row:cZ P w K mg Rw "is_row" ["game","thing"] 5 (ve K cB cG)
section
variable{K:Frag}{te ta tb:TE}{σ:St}{H:Hp}{Q:VK}
def kc(P:St->Hp->Prop)(hu:∀σ' H',P σ' H'->u D σ' H')(h:(∀σ' H',P σ' H'->u D σ' H')->bn (qq c t1 e) u D σ H):bn (qq c t1 e) u D σ H:=h hu
def OM(h:Ev te σ H (.ref d))(hd:aR K H d ys\/dF K H d ys)(q:∀l,H l=none->Q (.ref l) (upd H l (.lst ys))):cB (ue K) (aN te bG) σ H Q:=h _ ⟨ys,hd,q⟩
def Cw(h:te σ H (λv H'=>D.nx (σ.set i (some v)) H')):oA te (ck i) D σ H:=h
def bI(h:Ev te σ H v)(q:ta' σ H (λxs H2=>R (v::xs) H2)):aN te ta' σ H R:=h _ q
def cf(h:te σ H (λx H1=>ta' σ H1 (λxs H2=>R (x::xs) H2))):aN te ta' σ H R:=h
def cU(q:R [] H):bG σ H R:=q
def fI(q:t σ H (λvs H2=>vs.length<=v1/\∀p,H2 p=none->Q (.ref p) (upd H2 p (.lst vs)))):lV t σ H Q:=q
def JQ(h:ta σ H λx H1=>tb σ H1 λy H2=>wH .Add x y H2 Q):mj .Add ta tb σ H Q:=h
def yo(ha:H a=some (.lst xs))(hb:H b=some (.lst ys))(hz:xs.length+ys.length<=1000)(q:∀p,H p=none->Q (.ref p) (upd H p (.lst (xs++ys)))):wH .Add (.ref a) (.ref b) H Q:=by rw[Kv];exact⟨a,b,xs,ys,rfl,rfl,ha,hb,XG hz (by decide),q⟩
end
def qY:(one a=one b)<->a=b:=by
 constructor
 .intro h;have h:(one a).cps.toList=(one b).cps.toList:=by rw[h]
  have h:[a]=[b]:=h;injection h
 .intro h;rw[h]
def ut:("#":Str)=one 35:=by decide+kernel
def Ej:(".":Str)=one 46:=by decide+kernel
def rN{p q:Prop}[Decidable p][Decidable q](h:p<->q):decide p=decide q:=by
 by_cases hp:p
 .rw[Ry hp,Ry (h.mp hp)]
 .rw[RA hp,RA (λz=>hp (h.mpr z))]
noncomputable def upV:V->V
 | .str z=>.str (one (z.cps.toList.getD 0 0 - 32))
 |v=>v
theorem wS:∀{xs:List V}{us:List Zn},xs.length=us.length->(∀(i:Nat) x u,xs[i]? =some x->us[i]? =some u->aQ x u)->aT xs us
 | [],[],_,_=>.nil
 | [],_::_,h,_=>by simp at h
 |_::_,[],h,_=>by simp at h
 |x::xs,u::us,h,r=>.cons (r 0 x u rfl rfl) (wS (by simpa using h) λi a b h1 h2=>r (i+1) a b (by simpa using h1) (by simpa using h2))
section
def xK(xs:List V)(H:Hp)(Q:VK):Prop:=match xs with
 | [.str z]=>z.length<=1000/\∀l,H l=none->Q (.ref l) (upd H l (.lst (z.cps.toList.map strV)))
 |_=>False
def wD(hc:X.calm=true):bf X (.type "list") xK:=by
 intro Rv s σ H xs us Q I r h;unfold xK at h;split at h
 .rename_i z;obtain⟨hz,q⟩:=h;obtain⟨u,rfl,t,rfl⟩:=dU r;have hz2:z.cps.size<=1000:=hz;refine call_list_str (I.ok.hd hc) z t (hn:=XG hz2 (by decide)) λh' tk acc c' hk hS hacc=>?_;have rel:aT (z.cps.toList.map strV) acc.toList:=by refine wS (by rw[VN,Yt,Yt,hacc.1]) λi x u h1 h2=>?_;rw[Ys]at h2;obtain⟨c,u',h3,rfl⟩:=hacc.2 i u h2;rw[VT,Ys,h3]at h1;cases h1;exact⟨u',rfl⟩
  exact⟨.ref s.heap.objs.size,_,I.laid (t':=tk) hk (XD _) (show bp X.prog X.w _ h' _ (.lst (z.cps.toList.map strV))from⟨by rw[VN,Yt];exact XG hz2 (by decide),acc.toList,c',rel,by simpa using hS⟩),rfl,q _ (I.hok.fresh (XD _))⟩
 .exact h.elim
end
section
def Ps(K:Frag)(ta:TE):TT:=λσ H Q=>ta σ H λx H'=>∃k,CI K x H' k/\Q k H'
def ON(K:Frag)(ha:PE X a ta)(he:∀whole,Vz a X.env whole=(do let v<-whole;U8 a.pos;TF [v] (truthy v)):=by exact λ_=>rfl)(hK:X.K=K:=by rfl):PT X a (Ps K ta):=by subst hK;exact A7 ha he
end
section
def x9(ha:Ev ta σ H (.int i))(h:i.natAbs.log2<1920):Ev (cB Kj (aN ta bG)) σ H (.str (toString i)):=λQ q=>ha _ ⟨h,q⟩
def Ka(h:Tv tt σ H b)(q1:b=true->R true H)(q2:b=false->u σ H R):L4 tt u σ H R:=h _ (by
 cases b with
 |true=>exact iL (q1 rfl)
 |false=>exact hG (q2 rfl))
end
section
variable{K:Frag}{te tl:TE}{src:List (Option Nat)}{σ rest:St}{H:Hp}{Q:VK}
def Ac(hl:Ev tl σ H (.ref d))(hx:H d=some (.lst xs))(hz:xs.length<=v1)(hs:eU src σ=none::rest)(f:V->V)(he:∀x∈xs,∀H',aj H H'->∀Q:VK,(∀H2,aj H' H2->Q (f x) H2)->te (some x::rest) H' Q)(q:∀H' d',aj H H'->H' d'=none->Q (.ref d') (upd H' d' (.lst (xs.map f)))):tComp (nV K tl) (ck 0) iS te src σ H Q:=by
 refine hl _ ⟨d,rfl,⟨xs,aR.of hx⟩,?_⟩;refine iE xs.length (λi ys σ' H'=>aj H H'/\(∃v,σ'=v::rest)/\ys=(xs.take i).map f) hz (λi ys σ H h=>by rw[h.2.2,VN,V8];lia)
  (λi ys σ H' h hi=>⟨xs,xs[i],aR.of (h.1 _ _ hx),VQ hi⟩) (λys σ H' h=>⟨xs,aR.of (h.1 _ _ hx),XD _⟩) ⟨aj.refl H,⟨none,hs⟩,by simp⟩ ?_ ?_
 .rintro i ys _ H1 x H2 hi ⟨s1,⟨v0,rfl⟩,rfl⟩ ⟨rfl,hy⟩ Kt Kf ht hf;have ex:=hy xs (aR.of (s1 _ _ hx));simp only[ck,iS,WB,if_true];refine he x (Wa ex) _ s1 _ λH2 s2=>ht _ _ _ ⟨s1.trans s2,⟨_,rfl⟩,?_⟩;rw[WH,ex,VZ];rfl
 .rintro ys _ H1 dd ⟨s1,_,rfl⟩ hd;rw[Ww];exact q H1 dd s1 hd
end
end L2
namespace L2
open PySem
def cg:Slot "set_iterator" "__next__" "set_iterator.__next__":=
 .of (owner:="set_iterator") (n:="__next__") (by rw[T4,Tj];kernel_rfl) (by decide+kernel) (by decide+kernel) (by decide+kernel) (by first|exact .inl (by decide+kernel)|exact .inr (by decide+kernel)) (by rw[U2];kernel_rfl)
def iN:entryFor table "set_iterator.__next__"=some SS.«set_iterator.__next__» :=entryFor_of_tree (by kernel_rfl)
def iQ(a:Zn):argsOk "set_iterator.__next__" ⟨[a],[]⟩:=by unfold argsOk;kernel_rfl
def mZ:Slot "set_iterator" "__iter__" "set_iterator.__iter__":=
 .of (owner:="set_iterator") (n:="__iter__") (by rw[T4,Tj];kernel_rfl) (by decide+kernel) (by decide+kernel) (by decide+kernel) (by first|exact .inl (by decide+kernel)|exact .inr (by decide+kernel)) (by rw[U2];kernel_rfl)
def wp:entryFor table "set_iterator.__iter__"=some SS.«dict_keyiterator.__iter__» :=
 entryFor_alias (id':="dict_keyiterator.__iter__") (by kernel_rfl) rfl (by decide+kernel) (by kernel_rfl)
def wJ(a:Zn):argsOk "set_iterator.__iter__" ⟨[a],[]⟩:=by unfold argsOk;kernel_rfl
def uz:entryFor table "set.__iter__"=some SS.«frozenset.__iter__» :=
 entryFor_alias (id':="frozenset.__iter__") (by kernel_rfl) rfl (by decide+kernel) (by kernel_rfl)
def eT(h:R9)(D:Zo)(es:Array (Int×Zn))(ep:Nat)(t:SetTable):Prop:= ∃o,h.get? D=some o/\o.ExactSet/\o.data=.set es ep t
def uS(h:R9)(I D:Zo)(first:Zn)(i n ep:Nat):Prop:= ∃o,h.get? I=some o/\o.cls=.type "set_iterator"/\o.data=.fields #[first,.int i 0,.ref D,.int n 0,.int ep 0]
section
variable{s:RQ}
def uS.ty(h:uS s.heap I D f i n ep):s.TypeIs (.ref I) "set_iterator":=let ⟨o,h1,h2,_⟩:=h;⟨o,h1,h2⟩
def uS.keep(x:uS h I D f i n ep)(k:∀o,h.get? I=some o->h'.get? I=some o):uS h' I D f i n ep:=let ⟨o,h1,r⟩:=x;⟨o,k o h1,r⟩
def eT.keep(x:eT h D es ep t)(k:∀o,h.get? D=some o->h'.get? D=some o):eT h' D es ep t:=let ⟨o,h1,r⟩:=x;⟨o,k o h1,r⟩
def J1{m:Sem Unit}{α:Type}{k:Unit->Sem α}{Q:α->RQ->Prop}(hm:∀Q':Unit->RQ->Prop,Q' () s->RR M A m Q' E s)(h:RR M A (k ()) Q E s):RR M A (m >>= k) Q E s:=RM (hm _ h)
def i8(hS:eT s.heap D es ep t)(hf:t.fits es.size=true)(h:Q (es,ep,t) s):RR (RX prog w) A (setState D) Q E s:=by obtain⟨o,ho,_,hd⟩:=hS;exact wpAny_setState_of ho hd hf h
def kQ(h:Q (w.params.followText "set-order") s):RR (RX prog w) A setsByText Q E s:=by unfold setsByText;exact RM (UG (RN h))
def pD(hS:eT s.heap D es ep t)(g:SG (!w.params.followText "set-order") es.size t)(hb:w.params.followText "set-order"=false)(hp:t.plain=true\/es.size<=1)(hi:R0 t.place slot=i)(h:Q (match es[i]?,t.place[i]? with|some (_,x),some j=>some (x,j+1)|_,_=>none) s):RR (RX prog w) A (UN D slot given ep) Q E s:=by
 unfold UN;refine RM (i8 hS g.fits ?_);dsimp only;refine RM (kQ ?_);rw[hb,RB Yd];split
 .rename_i q;have q:(!t.plain&&decide (es.size > 1))=true:=q
  rcases hp with hp|hp
  .rw[hp]at q;cases q
  .rw[RA (by lia:¬es.size > 1),Yn]at q;cases q
 .refine J1 (λQ' q=>?_) ?_
  .show RR _ _ (if(!t.led&& !es.isEmpty)=true then _ else _) _ _ _;rw[g.led,hb];exact RN q
  .rw[hi];exact RN h
def pC(hS:eT s.heap D es ep t)(hf:t.fits es.size=true)(hb:w.params.followText "set-order"=true)(h:Q (((TM (w.params.setOrder D ep) es)[given]?).map λe=>(e.2,slot)) s):RR (RX prog w) A (UN D slot given ep) Q E s:=by unfold UN;refine RM (i8 hS hf ?_);dsimp only;refine RM (kQ ?_);rw[hb];show RR _ _ (if(ep != ep)=true then _ else _) _ _ _;rw[RB (by simp)];refine RM ?_;unfold setWalk;refine RM (i8 hS hf ?_);dsimp only;refine RM (kQ ?_);rw[hb];show RR _ _ (do let x<-ask;pure _) _ _ _;exact RM (UG (RN (RN h)))
def vV(hS:eT s.heap D es ep t)(hf:t.fits es.size=true)(he:es[place]? =some e)(h:Q e.2 s):RR (RX prog w) A (setNextDrawn D place ep) Q E s:=by unfold setNextDrawn;refine RM (i8 hS hf ?_);dsimp only;rw[RB (by simp),he];exact RN h
end
noncomputable def slotAt(t:SetTable)(i:Nat):Nat:=if i=0 then 0 else t.place.getD (i - 1) 0+1
def ke(hr:uT t.place)(hi:i<=t.place.size):R0 t.place (slotAt t i)=i:=by
 unfold slotAt
 by_cases h:i=0
 .rw[RC h,h];exact uL hr
 .rw[RB h,wI hr (by lia)];lia
section
def rG{I D:Zo}{o:Obj}{vs:Array Zn}{h:R9}{i:Nat}{x:Zn}(ho:h.get? I=some o)(hc:o.cls=.type "set_iterator")(hd:o.data=.fields vs):∃o',(h.update I (Obj.mapFields (·.setIfInBounds i x))).get? I=some o'/\o'.cls=.type "set_iterator"/\o'.data=.fields (vs.setIfInBounds i x):=
 ⟨_,S3 _ ho (Obj.isFreed_of_fields (Obj.data_mapFields hd _)),(Obj.cls_mapFields ..).trans hc,Obj.data_mapFields hd _⟩
end
section
def ur{es:Array (Int×Zn)}{ep slot i next:Nat}{x:Zn}{Q:Option Zn->RQ->Prop}(hi:uS s.heap I D (.int slot 0) i es.size ep)(hS:eT s.heap D es ep t)(hf:t.fits es.size=true)(hn:∀(Q':Option (Zn×Nat)->RQ->Prop)(E':RK),Q' (some (x,next)) s->RR (RX prog w) A.in1 (UN D slot i ep) Q' E' s)(hQ:∀h',uS h' I D (.int next 0) (i+1) es.size ep->So I s.heap h'->Q (some x) {s with heap:=h'}):RR (RX prog w) A (S7 (.ref I)) Q E s:=by have ty:=hi.ty;obtain⟨o,ho,hc,hd⟩:=hi;unfold S7;refine RM (SZ (Sh (name:=SX "__next__") ty cg (Sn cg ty iN ?_ (iQ _))));show RR _ _ (fieldsOf (.ref I) >>= _) _ _ s;refine RM (Ue ho hd ?_);show RR _ _ (Tp D >>= _) _ _ s;unfold Tp;refine RM (RM (i8 hS hf (RN ?_)));dsimp only;rw[RB (by simp)];show RR _ _ (UN D (Int.toNat slot) (Int.toNat i) (Int.toNat ep) >>= _) _ _ s;rw[X2,X2,X2];refine RM (hn _ _ ?_);dsimp only;refine RM (Tn ho hd (by simp) ?_);obtain⟨o2,ho2,hc2,hd2⟩:=rG (D:=D) (i:=0) (x:=T5 next) ho hc hd;refine RM (Tn ho2 hd2 (by simp) (RN ⟨x,rfl,RN (hQ _ ?_ ((Sy ..).trans (Sy ..)))⟩));obtain⟨o3,ho3,hc3,hd3⟩:=rG (D:=D) (i:=1) (x:=T5 ((i:Int)+1)) ho2 hc2 hd2;exact⟨o3,ho3,hc3,by rw[hd3];rfl⟩
def yf{es:Array (Int×Zn)}{ep slot i:Nat}{Q:Option Zn->RQ->Prop}(hh:A.handled=none)(hi:uS s.heap I D (.int slot 0) i es.size ep)(hS:eT s.heap D es ep t)(hf:t.fits es.size=true)(hn:∀(Q':Option (Zn×Nat)->RQ->Prop)(E':RK),Q' none s->RR (RX prog w) A.in1 (UN D slot i ep) Q' E' s)(hQ:∀h',Heap.ExtBut I s.heap h'->Q none {s with heap:=h'}):RR (RX prog w) A (S7 (.ref I)) Q E s:=by
 have ty:=hi.ty;obtain⟨o,ho,hc,hd⟩:=hi;unfold S7;refine RM (SZ (Sh (name:=SX "__next__") ty cg (Sn cg ty iN ?_ (iQ _))));show RR _ _ (fieldsOf (.ref I) >>= _) _ _ s;refine RM (Ue ho hd ?_);show RR _ _ (Tp D >>= _) _ _ s;unfold Tp;refine RM (RM (i8 hS hf (RN ?_)));dsimp only;rw[RB (by simp)];show RR _ _ (UN D (Int.toNat slot) (Int.toNat i) (Int.toNat ep) >>= _) _ _ s;rw[X2,X2,X2];refine RM (hn _ _ ?_);dsimp only;refine RM (Tn ho hd (by simp) ?_);refine RM ?_;simp only[newExc,newTuple];refine RM (SF ?_ (by size_fits));refine RM (m:=Uj _ _) (Ur (a:=SV) (by first|rfl|(simp only[Uj];rfl)) ?_)
 refine SF ?_ (by size_fits);simp only[raiseNew];refine RM (wpAny_handled ?_);rw[show A.in1.handled=none from hh];refine RM (RN (wpAny_throw ?_));refine RM (Ts (T:="StopIteration") (b:=true) ⟨_,RT _ rfl,rfl⟩ Ui ?_);exact RN (hQ _ (((Sy ..).extBut.push _).push _))
def DY{es:Array (Int×Zn)}{ps:Array Zn}{ep i c k:Nat}{e:Int×Zn}{ot:Obj}{Q:Option Zn->RQ->Prop}(hi:uS s.heap I D (.ref T) i es.size ep)(hS:eT s.heap D es ep t)(hf:t.fits es.size=true)(hT:s.heap.get? T=some ot)(hTd:ot.data=.seq ps c)(hp:ps[i]? =some (.int k 0))(he:es[k]? =some e)(hQ:∀h',uS h' I D (.ref T) (i+1) es.size ep->So I s.heap h'->Q (some e.2) {s with heap:=h'}):RR (RX prog w) A (S7 (.ref I)) Q E s:=by have ty:=hi.ty;obtain⟨o,ho,hc,hd⟩:=hi;unfold S7;refine RM (SZ (Sh (name:=SX "__next__") ty cg (Sn cg ty iN ?_ (iQ _))));show RR _ _ (fieldsOf (.ref I) >>= _) _ _ s;refine RM (Ue ho hd ?_);show RR _ _ (Tp D >>= _) _ _ s;unfold Tp;refine RM (RM (i8 hS hf (RN ?_)));dsimp only;rw[RB (by simp)];show RR _ _ (seqItems? (.ref T) >>= _) _ _ s;refine RM (Ss hT hTd ?_);dsimp only;rw[X2,hp];dsimp only;rw[X2,X2];refine RM (vV hS hf he ?_);obtain⟨o3,ho3,hc3,hd3⟩:=rG (D:=D) (i:=1) (x:=T5 ((i:Int)+1)) ho hc hd;exact RM (Tn ho hd (by simp) (RN ⟨_,rfl,RN (hQ _ ⟨o3,ho3,hc3,by rw[hd3];rfl⟩ (Sy ..))⟩))
def Lv(hh:A.handled=none)(hi:uS s.heap I D (.ref T) i es.size ep)(hS:eT s.heap D es ep t)(hf:t.fits es.size=true)(hT:s.heap.get? T=some ot)(hTd:ot.data=.seq ps c)(hp:ps[i]? =none)(hQ:∀h',Heap.ExtBut I s.heap h'->Q none {s with heap:=h'}):RR (RX prog w) A (S7 (.ref I)) Q E s:=by
 have ty:=hi.ty;obtain⟨o,ho,hc,hd⟩:=hi;unfold S7;refine RM (SZ (Sh (name:=SX "__next__") ty cg (Sn cg ty iN ?_ (iQ _))));show RR _ _ (fieldsOf (.ref I) >>= _) _ _ s;refine RM (Ue ho hd ?_);show RR _ _ (Tp D >>= _) _ _ s;unfold Tp;refine RM (RM (i8 hS hf (RN ?_)));dsimp only;rw[RB (by simp)];show RR _ _ (seqItems? (.ref T) >>= _) _ _ s;refine RM (Ss hT hTd ?_);dsimp only;rw[X2,hp];dsimp only;refine RM (Tn ho hd (by simp) ?_);obtain⟨o2,ho2,hc2,hd2⟩:=rG (D:=D) (i:=0) (x:=T5 0) ho hc hd;refine RM (Tn ho2 hd2 (by simp) ?_);refine RM ?_;simp only[newExc,newTuple];refine RM (SF ?_ (by size_fits));refine RM (m:=Uj _ _) (Ur (a:=SV) (by first|rfl|(simp only[Uj];rfl)) ?_)
 refine SF ?_ (by size_fits);simp only[raiseNew];refine RM (wpAny_handled ?_);rw[show A.in1.handled=none from hh];refine RM (RN (wpAny_throw ?_));refine RM (Ts (T:="StopIteration") (b:=true) ⟨_,RT _ rfl,rfl⟩ Ui ?_);exact RN (hQ _ ((((Sy ..).trans (Sy ..)).extBut.push _).push _))
def qF(hi:uS s.heap I D f i n ep)(h:Q (.ref I) s):RR (RX prog w) A (pyIter (.ref I)) Q E s:=by refine wpAny_pyIter_slot hi.ty mZ (Sn mZ hi.ty wp ?_ (wJ _));show RR _ _ (ret (.ref I)) _ _ s;exact RN ⟨_,rfl,"set_iterator",_,hi.ty,cg.lookup,h⟩
end
noncomputable def dw(es:Array (Int×Zn)):List Zn:=es.toList.map (·.2)
structure WS3(prog:RU)(w:RZ)(s:RQ)(D:Zo)(vs:List Zn)(h':R9)(I:Zo):Prop where
 ex:∃fp St,(∀A':SJ,A'.handled=none->Walks prog w A' I fp [I] vs.length (λi v=>vs[i]? =some v) St)/\St 0 h'/\(∀b∈fp,b=D\/s.heap.objs.size<=b)/\I∈fp/\(∀b∈fp,b<h'.objs.size)/\s.heap.objs.size<=I
section
def yD(hne:D≠I)(g:SG (!w.params.followText "set-order") es.size t)(hb:w.params.followText "set-order"=false)(hp:t.plain=true\/es.size<=1)(hh:A.handled=none):Walks prog w A I [I,D] [I] (dw es).length (λi v=>(dw es)[i]? =some v) (λi h=>i<=es.size/\uS h I D (.int (slotAt t i:Nat) 0) i es.size ep/\eT h D es ep t) where
 sub:=λb hb=>by
  have:b=I:=by simpa using hb
  simp[this]
 frame:=λi h h' st k=>⟨st.1,st.2.1.keep λo e=>k I (by simp) o e,st.2.2.keep λo e=>k D (by simp) o e⟩
 item:=λi s Q E hi st hQ=>by
  have hl:(dw es).length=es.size:=by simp[dw]
  have hi':i<es.size:=by lia
  have hps:t.place.size=es.size:=by have:=g.fits;unfold Vj at this;rw[Ye]at this;exact beq_iff_eq.mp this.1
  have hv:(dw es)[i]? =some es[i].2:=by unfold dw;rw[VT,Ys,Yr hi'];rfl
  refine ur (x:=es[i].2) (next:=slotAt t (i+1)) st.2.1 st.2.2 g.fits (λQ' E' q=>pD st.2.2 g hb hp (ke g.ris (by lia)) ?_) λh' a b=>?_
  .rw[Yr hi',Yr (by lia)];have e:slotAt t (i+1)=t.place[i]+1:=by unfold slotAt;rw[RB (Nat.succ_ne_zero i),Nat.add_sub_cancel,bF (by lia)]
   rw[e]at q;exact q
  .exact hQ _ h' s.toks hv ⟨hi',a,st.2.2.keep λo e=>b.extBut D o hne e⟩ λc o hc e=>b.extBut c o (λz=>hc (by simp[z])) e
 done:=λs Q E st hQ=>by
   have hl:(dw es).length=es.size:=by simp[dw]
   have hps:t.place.size=es.size:=by have:=g.fits;unfold Vj at this;rw[Ye]at this;exact beq_iff_eq.mp this.1
   rw[hl]at st;refine yf hh st.2.1 st.2.2 g.fits (λQ' E' q=>pD st.2.2 g hb hp (ke g.ris (by lia)) ?_) λh' a=>hQ h' s.toks λc o hc e=>a c o (λz=>hc (by simp[z])) e;rw[Yu (XD _)];exact q
 self:=λ_ _ _ _ st hQ=>qF st.2.1 hQ
def yB(hne:D≠I)(hf:t.fits es.size=true)(hb:w.params.followText "set-order"=true)(hh:A.handled=none):Walks prog w A I [I,D] [I] (dw (TM (w.params.setOrder D ep) es)).length (λi v=>(dw (TM (w.params.setOrder D ep) es))[i]? =some v) (λi h=>uS h I D (.int (0:Nat) 0) i es.size ep/\eT h D es ep t) where
 sub:=λb hb=>by
  have:b=I:=by simpa using hb
  simp[this]
 frame:=λi h h' st k=>⟨st.1.keep λo e=>k I (by simp) o e,st.2.keep λo e=>k D (by simp) o e⟩
 item:=λi s Q E hi st hQ=>by
  have hi':i<(TM (w.params.setOrder D ep) es).size:=by simpa[dw]using hi
  have hv:(dw (TM (w.params.setOrder D ep) es))[i]? =some (TM (w.params.setOrder D ep) es)[i].2:=by unfold dw;rw[VT,Ys,Yr hi'];rfl
  refine ur (x:=(TM (w.params.setOrder D ep) es)[i].2) (next:=0) st.1 st.2 hf (λQ' E' q=>pC st.2 hf hb ?_) λh' a b=>?_
  .rw[Yr hi'];exact q
  .exact hQ _ h' s.toks hv ⟨a,st.2.keep λo e=>b.extBut D o hne e⟩ λc o hc e=>b.extBut c o (λz=>hc (by simp[z])) e
 done:=λs Q E st hQ=>by refine yf hh st.1 st.2 hf (λQ' E' q=>pC st.2 hf hb ?_) λh' a=>hQ h' s.toks λc o hc e=>a c o (λz=>hc (by simp[z])) e;rw[Yu (by simp[dw])];exact q
 self:=λ_ _ _ _ st hQ=>qF st.1 hQ
def Da(hne:D≠I)(hT:T≠I)(hf:t.fits es.size=true)(ks:List Nat)(hk:∀k∈ks,k<es.size)(hh:A.handled=none):Walks prog w A I [I,D,T] [I] (ks.map λk=>(es.getD k (0,.none)).2).length (λi v=>(ks.map λk=>(es.getD k (0,.none)).2)[i]? =some v) (λi h=>uS h I D (.ref T) i es.size ep/\eT h D es ep t/\∃ot c,h.get? T=some ot/\ot.data=.seq (ks.map λ(k:Nat)=>Tu k 0).toArray c) where
 sub:=λb hb=>by
  have:b=I:=by simpa using hb
  simp[this]
 frame:=λi h h' st k=>⟨st.1.keep λo e=>k I (by simp) o e,st.2.1.keep λo e=>k D (by simp) o e,let ⟨ot,c,h1,h2⟩:=st.2.2;⟨ot,c,k T (by simp) ot h1,h2⟩⟩
 item:=λi s Q E hi st hQ=>by
  have hi':i<ks.length:=by simpa using hi
  obtain⟨s1,s2,ot,c,h1,h2⟩:=st;have hki:ks[i]<es.size:=hk _ (V7 hi');refine DY (k:=ks[i]) (e:=es[ks[i]]) s1 s2 hf h1 h2 (by simp[hi']) (Yr hki) λh' a b=>?_;refine hQ _ h' s.toks ?_ ⟨a,s2.keep λo e=>b.extBut D o hne e,ot,c,b.extBut T ot hT h1,h2⟩ λc o hc e=>b.extBut c o (λz=>hc (by simp[z])) e;rw[VT,VQ hi'];show some (es.getD ks[i] (0,.none)).2=_;rw[bF hki]
 done:=λs Q E st hQ=>by obtain⟨s1,s2,ot,c,h1,h2⟩:=st;exact Lv hh s1 s2 hf h1 h2 (by simp) λh' a=>hQ h' s.toks λc o hc e=>a c o (λz=>hc (by simp[z])) e
 self:=λ_ _ _ _ st hQ=>qF st.1 hQ
end
section
theorem Cc:∀(n:Nat)(xs:List α)(s:RQ)(Q:List α->RQ->Prop),xs.length=n->(∀l d,l.Perm xs->Q l {s with drawn:=d})->RR (RX prog w) A (drawOrder n xs) Q E s
 |0,xs,s,Q,hn,h=>by have:xs=[]:=WY.mp hn;subst this;exact RN (h [] s.drawn (List.Perm.refl _))
 |n+1,[],s,Q,hn,h=>by cases hn
 |n+1,x::xs,s,Q,hn,h=>by
  show RR _ _ (do let i<-choose .order (x::xs).length;_) _ _ s;refine RM ?_;intro Γ p hΓ;unfold choose;rw[Sem.wp_choose];refine⟨Nat.succ_ne_zero _,?_⟩;have hi:(RX prog w).w.draws Source.order (s.drawn.get Source.order) % (x::xs).length<(x::xs).length:=XY _ (XZ _);refine(RN (M:=RX prog w) (A:=A) (E:=E) ?_) Γ p hΓ;rw[VQ hi];dsimp only;refine RM (Cc n _ _ _ ?_ λl d hp=>?_)
  .rw[W9 hi];lia
  .exact RN (h _ d ((List.Perm.cons _ hp).trans (oa (VQ hi))))
end
section
def vC{es:Array (Int×Zn)}{l:List Nat}(h:l.Perm (List.range es.size)):(l.map λk=>(es.getD k (0,.none)).2).Perm (dw es):=by
 refine(h.map _).trans (List.Perm.of_eq ?_);unfold dw;apply Wz;intro i;have e0:es.toList[i]? =es[i]? :=Ys;rw[VT,VT,e0]
 by_cases hi:i<es.size
 .rw[Wm hi,Yr hi];show some (es.getD i (0,.none)).2=some es[i].2;rw[bF hi]
 .rw[Wf (by simpa using hi),Yu (by lia)];rfl
def BD(hS:eT s.heap D es ep t)(g:SG (!w.params.followText "set-order") es.size t)(hz:es.size<=v1)(hQ:∀(vs:List Zn)(h':R9)(I:Zo) d,vs.Perm (dw es)->WS3 prog w s D vs h' I->(∀b o,s.heap.get? b=some o->h'.get? b=some o)->Q (.ref I) {s with heap:=h',drawn:=d}):RR (RX prog w) A (pyIter (.ref D)) Q E s:=by
 have ty:s.TypeIs (.ref D) "set":=let ⟨o,h1,h2,_⟩:=hS;⟨o,h1,h2.1⟩;have hlt:D<s.heap.objs.size:=let ⟨o,h1,_⟩:=hS;RP h1;refine wpAny_pyIter_slot ty F.slot_set_iter (Sn F.slot_set_iter ty uz ?_ (F.args_set_iter_1 _));show RR _ _ (UC D >>= _) _ _ s;unfold UC Tp;refine RM (RM (RM (i8 hS g.fits (RN (RN ?_)))));dsimp only;refine RM ?_;unfold setDrawn;refine RM (i8 hS g.fits ?_);dsimp only;refine RM (kQ (RN ?_));have fin:∀(first:Zn)(h1:R9)(d:Drawn),(∀b o,s.heap.get? b=some o->h1.get? b=some o)->s.heap.objs.size<=h1.objs.size->(∀I h',uS h' I D first 0 es.size ep->eT h' D es ep t->D<I->s.heap.objs.size<=I->h1.objs.size<=I->I<h'.objs.size->(∀b o,h1.get? b=some o->h'.get? b=some o)->∃vs:List Zn,vs.Perm (dw es)/\WS3 prog w s D vs h' I)->
   RR (RX prog w) A.in1 (do let n<-setEpoch D;let x<-newFields "set_iterator" [first,T5 0,.ref D,T5 es.size,T5 n];ret x) (λr s'=>∃v,r=.done (.ret v)/\∃T' r',s'.TypeIs v T'/\UL (.type T') "__next__"=pure (some r')/\Q v s') E {s with heap:=h1,drawn:=d}:=λfirst h1 d k hs f=>by
  have hS1:eT h1 D es ep t:=hS.keep λo e=>k D o e;unfold setEpoch;refine RM (RM (i8 hS1 g.fits (RN ?_)));refine RM (SF (RN ?_) (by size_fits));have k2:∀b o,h1.get? b=some o->(h1.push {cls:=.type "set_iterator",data:=.fields #[first,.int 0 0,.ref D,.int es.size 0,.int ep 0]}).get? b=some o:=λb o e=>RO _ e;have hI:uS (h1.push {cls:=.type "set_iterator",data:=.fields #[first,.int 0 0,.ref D,.int es.size 0,.int ep 0]}) h1.objs.size D first 0 es.size ep:=⟨_,RT _ rfl,rfl,rfl⟩;obtain⟨vs,p,W⟩:=f _ _ hI (hS1.keep λo e=>k2 D o e) (XH hlt hs) hs (XD _) (by rw[Se];exact XQ _) k2;exact⟨_,rfl,"set_iterator",_,⟨_,RT _ rfl,rfl⟩,cg.lookup,hQ vs _ _ d p W λb o e=>k2 b o (k b o e)⟩
 cases hb:w.params.followText "set-order"with
 |true=>
  rw[RB (by simp)];refine RM (RN (fin _ s.heap s.drawn (λ_ _ e=>e) (XD _) λI h' a b c1 c2 c3 c4 k=>⟨_,(zd (w.params.setOrder D ep) es).map _,⟨[I,D],_,λA' hA=>yB (XE c1) g.fits hb hA,⟨a,b⟩,?_,by simp,?_,c2⟩⟩))
  .intro x hx;simp only[VO,V3,or_false]at hx
   rcases hx with rfl|rfl
   .exact .inr c2
   .exact .inl rfl
  .intro x hx;simp only[VO,V3,or_false]at hx
   rcases hx with rfl|rfl
   .exact c4
   .exact XO c1 c4
 |false=>
  split
  .rename_i hd;have hd:(!t.plain&&decide (es.size > 1))=true:=hd;refine RM (Cc es.size (List.range es.size) s _ (by simp) λl d hp=>?_);refine RM (SF ?_ ?_)
   .refine fin _ _ d (λb o e=>RO _ e) (by rw[Se];exact XI _) λI h' a b c1 c2 c3 c4 k=>⟨_,vC hp,⟨[I,D,s.heap.objs.size],_,λA' hA=>Da (T:=s.heap.objs.size) (XE c1) (XE (XH (by rw[Se];exact XQ _) c3)) g.fits l (λx hx=>by simpa using hp.mem_iff.mp hx) hA,⟨a,b,_,_,k _ _ (RT _ rfl),rfl⟩,?_,by simp,?_,c2⟩⟩
    .intro x hx;simp only[VO,V3,or_false]at hx
     rcases hx with rfl|rfl|rfl
     .exact .inr c2
     .exact .inl rfl
     .exact .inr (XD _)
    .intro x hx;simp only[VO,V3,or_false]at hx
     rcases hx with rfl|rfl|rfl
     .exact c4
     .exact XO c1 c4
     .exact Nat.lt_of_le_of_lt c2 c4
   .have:=hp.length_eq;simp only[We]at this;simp[sizeOk,this,hz]
  .rename_i hd;have hd:¬(!t.plain&&decide (es.size > 1))=true:=hd;have hp:t.plain=true\/es.size<=1:=by
    cases e:t.plain with
    |true=>exact .inl rfl
    |false=>
     right
     rw[e]at hd;simp at hd;lia
   refine RM (RN (fin _ s.heap s.drawn (λ_ _ e=>e) (XD _) λI h' a b c1 c2 c3 c4 k=>⟨_,List.Perm.refl _,⟨[I,D],_,λA' hA=>yD (XE c1) g hb hp hA,⟨XF _,a,b⟩,?_,by simp,?_,c2⟩⟩))
   .intro x hx;simp only[VO,V3,or_false]at hx
    rcases hx with rfl|rfl
    .exact .inr c2
    .exact .inl rfl
   .intro x hx;simp only[VO,V3,or_false]at hx
    rcases hx with rfl|rfl
    .exact c4
    .exact XO c1 c4
end
def v6:UL (.type "set") "__len__"=pure (some (.builtin "set.__len__")):=by rw[T4,Tj];kernel_rfl
section
def BI(ty:s.TypeIs (.ref D) "set")(q:Q false s):RR (RX prog w) A (Ua (.ref D)) Q E s:=by
 unfold Ua;refine RM (T3 ty v6 ?_);generalize hx:("set.__len__":String)=x0
 wp_delta
 rw[show splitId x0=some ("set","__len__")from by subst hx;decide+kernel];subst hx;refine RM (Ts (T:="set") (b:=true) ty (by rw[U2];kernel_rfl) ?_);refine UQ (λz=>RF z (by decide)) (λ_=>UQ (λ_=>?_) (λz=>RF (by decide+kernel) z));exact RM (Tr ty (RN q))
noncomputable abbrev lN:Obj:={cls:=.type "list",data:=.seq ([]:List Zn).toArray}
def uF(hh:A.handled=none)(hS:eT s.heap D es ep t)(g:SG (!w.params.followText "set-order") es.size t)(hz:es.size<=v1)(q:∀(vs:List Zn)(h':R9) d tk,vs.Perm (dw es)->(∀b o,s.heap.get? b=some o->h'.get? b=some o)->s.heap.objs.size<h'.objs.size->s.toks<=tk->Q vs {s with heap:=h',drawn:=d,toks:=tk}):RR (RX prog w) A (collect (.ref D)) Q E s:=by
 have hlt:D<s.heap.objs.size:=let ⟨o,h1,_⟩:=hS;RP h1;unfold collect;refine RM (UZ (Sl F.entry_proto_collect ?_));rw[Sk F.plain_proto_collect _];show RR _ A.in1 (newList [] >>= λl=>again (.builtin "list.__iadd__" ⟨[l,.ref D],[]⟩)) _ _ s;refine RM (SF (RN ⟨Ti F.plain_list_iadd _,Sl F.entry_list_iadd ?_⟩));rw[Sk F.plain_list_iadd _];have kp:∀b o,s.heap.get? b=some o->(s.heap.push lN).get? b=some o:=λb o e=>RO _ e;have hS1:eT (s.heap.push lN) D es ep t:=hS.keep λo e=>kp D o e;have ty1:TZ {s with heap:=s.heap.push lN} (.ref D) "set":=let ⟨o,h1,h2,_⟩:=hS1;⟨o,h1,h2.1⟩;have gL:(s.heap.push lN).get? s.heap.objs.size=some lN:=RT _ rfl;show RR _ A.in1 (Ub (.ref s.heap.objs.size) (.ref D) (.ref s.heap.objs.size)) _ _ _;unfold Ub;refine RM (Tr ty1 ?_);have n1:Ta (.ref s.heap.objs.size) (.ref D)=false:=by simp[Ta,XJ hlt]
 rw[RB (by rw[n1];decide)];refine RM (BD (s:={s with heap:=s.heap.push lN}) hS1 g hz λvs h' I d hp W k=>?_);obtain⟨fp,St,W,st,f1,f2,f3,f4⟩:=W.ex;have hvl:vs.length<=v1:=by
  have:=hp.length_eq;have e:(dw es).length=es.size:=by simp[dw]
  lia
 have nS:s.heap.objs.size∉fp:=λz=>by
  rcases f1 _ z with e|e
  .exact XJ hlt e
  .have e:(s.heap.push lN).objs.size<=s.heap.objs.size:=e;rw[Se]at e;exact XM _ e
 have ty2:TZ {s with heap:=h',drawn:=d} (.ref D) "set":=let ⟨o,h1,h2,_⟩:=hS1;⟨o,k _ _ h1,h2.1⟩;refine RM (Sa (BI ty2 ?_));have gL2:=k _ _ gL;refine UQ (λ_=>?_) (λz=>RF (by decide+kernel) z);refine RM (UJ (RM ?_));show RR _ _ (updateSeq s.heap.objs.size (·.push .none) >>= λ_=>updateSeq s.heap.objs.size (·.pop)) _ _ _;refine RM (UP gL2 rfl ?_);have gL3:=S3 (SN (·.push SV)) gL2 rfl;refine UP (hz:=by seq_fits) gL3 rfl ?_;have gL4:=S3 (SN (·.pop)) gL3 rfl;have oth:∀b o,b≠s.heap.objs.size->h'.get? b=some o->((h'.update s.heap.objs.size (SN (·.push SV))).update s.heap.objs.size (SN (·.pop))).get? b=some o:=
  λb o hb e=>(SY _ _ (Ne.symm hb)).trans ((SY _ _ (Ne.symm hb)).trans e)
 refine RN ⟨Ti F.plain_extend_loop _,codeAny_extend_loopS (A:=A) (W A.in1 hh).toS hvl _ nS _ vs.length 0 _ _ _ rfl (XF _) ((W A.in1 hh).frame 0 _ _ st λb hb o e=>oth b o (λz=>nS (z▸hb)) e) gL4 (ItemsOf.nil _) λs2 acc c hm gA hacc=>?_⟩;show RR _ A (load s.heap.objs.size >>= _) _ _ s2;refine RM (wpAny_load gA ?_);have ea:acc.toList=vs:=by
  apply Wz;intro i;rw[Ys]
  by_cases hi:i<acc.size
  .have:=hacc.2 i acc[i] (Yr hi);rw[Yr hi,this]
  .rw[Yu (by lia),Wf (by have:=hacc.1;lia)]
 refine RN ?_;rw[ea];obtain⟨h2,g2,d2,t2,o2⟩:=s2;obtain rfl:g2=s.gens:=hm.gens;obtain rfl:d2=d:=hm.drawn;obtain rfl:o2=s.os:=hm.os;refine q vs _ _ _ hp (λb o e=>?_) (RP gA) ?_
 .have hb:b≠s.heap.objs.size:=XE (RP e);refine hm.heap b o (λz=>?_) (oth b o hb (k b o (kp b o e)))
  rcases VO.mp z with z|z
  .exact hb z
  .have z:b=I:=VR.mp z;have e2:(s.heap.push lN).objs.size<=I:=f4;rw[Se]at e2;exact RF (RP e) (by rw[z];exact Nat.not_lt.mpr (Nat.le_of_succ_le e2))
 .exact hm.toks
end
section
variable [DecidableEq κ]
def eT.put(x:eT h D es ep t)(es':Array (Int×Zn))(t':SetTable):eT (h.update D (UO es' t')) D es' (ep+1) t':=by obtain⟨o,ho,hx,hd⟩:=x;have e:=S3 (UO es' t') ho (by rw[putSet_of es' t' hd];rfl);rw[putSet_of es' t' hd]at e;exact⟨_,e,hx,rfl⟩
def A5(x:eT s.heap D es ep t)(hz:es'.size<scanBound)(q:Q () {s with heap:=s.heap.update D (UO es' t')}):RR (RX prog w) A (storeSet D es' t') Q E s:=by obtain⟨o,ho,_,hd⟩:=x;exact wpAny_storeSet_of ho hd q (fits_of_scanBound hz)
end
section
def pB(hk:Sc (intKind prog w) s.heap k a)(h:Q false s):RR (RX prog w) A (Us 8 (.ref a)) Q E s:=by
 have hT:=hk.typeIs;obtain⟨o,items,n,ho,_,hd,hi⟩:=hk;unfold Us;refine RM (Tr hT ?_);dsimp only;rw[RC (by decide)];refine RM (RN ?_);simp only[Yp,Yh,if_false];refine RM (Ss ho hd ?_);dsimp only;refine RM ?_;rw[<-Yz];refine UE _ (λrest r s'=>r.1=none/\s'=s/\∀v∈rest,carriedByValue v=true) _ ?_ ?_ _ _ ⟨rfl,rfl,hi.byValue⟩
 .rintro v rest r s' ⟨hr,rfl,hall⟩;have hv:=hall v VW;have e:Us 7 v=pure false:=by
   cases v<;>first|rfl|(simp[carriedByValue]at hv)
  rw[e];refine RM (RN ?_);simp only[Yh,if_false];exact RN ⟨rfl,rfl,λu hu'=>hall u (VU _ hu')⟩
 .rintro⟨r1,r2⟩ s' ⟨hr,rfl,_⟩;simp only at hr;subst hr;exact RN h
def El(prog:RU)(w:RZ)(m:Zo->Prop)(h:R9)(k:List Int)(e:Int×Zn):Prop:= ∃a,m a/\e=(tupleKeyHash (intKind prog w) k,.ref a)/\Sc (intKind prog w) h k a
def Kr(hx:Sc (intKind prog w) s.heap k x)(hy:∀y∈ys,∃ki a,y=.ref a/\Sc (intKind prog w) s.heap ki a)(h:Q false s):RR (RX prog w) A (searchCouldBeSeen (.ref x) ys) Q E s:=by
 unfold searchCouldBeSeen;refine RM ?_;refine UE _ (λrest r s'=>r.1=none/\s'=s/\∀v∈rest,∃ki a,v=.ref a/\Sc (intKind prog w) s.heap ki a) _ ?_ ?_ _ _ ⟨rfl,rfl,hy⟩
 .rintro v rest r s' ⟨hr,rfl,hall⟩;obtain⟨ki,a,rfl,ha⟩:=hall v VW;dsimp only;split
  .exact RN ⟨rfl,rfl,λu hu'=>hall u (VU _ hu')⟩
  .refine RM (UV hx ?_);simp only[Yp,Yh,if_false];refine RM (UV ha ?_);simp only[Yp,Yh,if_false];refine RM (pB hx ?_);simp only[Yh,if_false];refine RM (pB ha ?_);simp only[Yh,if_false];exact RN ⟨rfl,rfl,λu hu'=>hall u (VU _ hu')⟩
 .rintro⟨r1,r2⟩ s' ⟨hr,rfl,_⟩;simp only at hr;subst hr;exact RN h
theorem El.inj(x:El prog w m h k e)(y:El prog w m h k' e):k=k':=by obtain⟨a,_,rfl,h1⟩:=x;obtain⟨b,_,e2,h2⟩:=y;injection e2 with _ e3;injection e3 with e4;subst e4;exact h1.inj h2
theorem jb(eh:h=tupleKeyHash (intKind prog w) k)(hS:eT s.heap D es ep t)(g:uW es t)(hes:∀i,i<es.size->∃ki,El prog w m s.heap ki (es.getD i (0,.none)))(hx:Sc (intKind prog w) s.heap k x)(hu:A.units<SK)(he:t.slot (sl t.mask h N 0)=.empty)(hN:N<=t.mask+13)(q1:∀i,i<es.size->El prog w m s.heap k (es.getD i (0,.none))->Q (.there none) s)(q2:(∀i,i<es.size->¬El prog w m s.heap k (es.getD i (0,.none)))->∀n c,kS t.mask h n c->t.slot (sl t.mask h n c)=.empty->(∀a b,kS t.mask h a b->iY a b n c->¬t.slot (sl t.mask h a b)=.empty)->Q (.free (sl t.mask h n c) false) s):∀f n c stand,wN t.mask h n c (stand.getD (t.probeStart h))->(stand.getD (t.probeStart h)).dummy=none->(n<N\/(n=N/\c=0))->(∀a b,kS t.mask h a b->iY a b n c->∃i,t.slot (sl t.mask h a b)=.live i/\¬El prog w m s.heap k (es.getD i (0,.none)))->10*(N - n)+1<=f+c->RR (RX prog w) A (Vg D (.ref x) h true f stand) Q E s
 |0,n,c,stand,a,hd,hn,hv,hf=>by have:=nv t.mask (lp t.mask h n).1;have:=a.ok;unfold kS at this;lia
 |f+1,n,c,stand,a,hd,hn,hv,hf=>by
  have hgw:t.gaveWay=false:=by unfold SetTable.gaveWay;have:=g.odd;simp;lia
  have c9:c<=9:=by have h1:=nv t.mask (lp t.mask h n).1;have h2:=a.ok;unfold kS at h2;lia
  have live_ix:∀{j i},t.slot j=.live i->i<es.size:=λ{j i} e=>by rw[<-g.ps];exact((la g.ris).mp e).1
  unfold Vg;refine RM (i8 hS g.fits ?_);dsimp only;rw[hgw,RB Yd];have fin:∀(hashAt:Nat->Int),(∀i,hashAt i=(es[i]?.map (·.1)).getD 0)->∃n' c' p',wN t.mask h n' c' p'/\(n'<N\/(n'=N/\c'=0))/\(iY n c n' c'\/(n=n'/\c=c'))/\(∀a b,kS t.mask h a b->(iY n c a b\/(n=a/\c=b))->iY a b n' c'->∃i,t.slot (sl t.mask h a b)=.live i/\¬hashAt i=h)/\
   ((t.slot (sl t.mask h n' c')=.empty/\t.probe hashAt h (stand.getD (t.probeStart h))=some (.empty (sl t.mask h n' c') none))\/
    (∃i,t.slot (sl t.mask h n' c')=.live i/\hashAt i=h/\t.probe hashAt h (stand.getD (t.probeStart h))=some (.candidate (sl t.mask h n' c') i (t.advance p'))/\n'<N/\p'.dummy=none)):=λhashAt _=>by
   obtain⟨n',c',p',b1,b2,b3,b4,b5⟩:=rJ g.nd hashAt he (10*S0 t.mask) n c _ a hn (by unfold S0;lia);rw[hd]at b5;exact⟨n',c',p',b1,b2,b3,b4,b5⟩
  split
  .rename_i met hm;obtain⟨hashAt,hha,hm⟩:∃fh:Nat->Int,(∀i,fh i=(es[i]?.map (·.1)).getD 0)/\t.probe fh h (stand.getD (t.probeStart h))=some met:=⟨_,λi=>rfl,hm⟩;obtain⟨n',c',p',b1,b2,b3,b4,b5⟩:=fin hashAt hha;have hv':∀a b,kS t.mask h a b->iY a b n' c'->∃i,t.slot (sl t.mask h a b)=.live i/\¬El prog w m s.heap k (es.getD i (0,.none)):=λa b o l=>by
    by_cases l2:iY a b n c
    .exact hv a b o l2
    .obtain⟨i,h1,h2⟩:=b4 a b o (by unfold iY at *;lia) l;refine⟨i,h1,λ⟨y,_,e,_⟩=>h2 ?_⟩;have hi:=live_ix h1;rw[hha i,Yr hi];rw[bF hi]at e;rw[e,eh];rfl
   rcases b5 with⟨e1,e2⟩|⟨i,e1,e2,e3,e4,e5⟩
   .rw[e2]at hm;injection hm with hm;subst hm;dsimp only;refine RN (q2 (λi hi hE=>?_) n' c' b1.ok e1 λa b o l z=>?_)
    .obtain⟨n0,c0,o0,e0,hb⟩:=g.pl i hi;have hh:(es.getD i (0,.none)).1=h:=by obtain⟨y,_,e,_⟩:=hE;rw[e,eh]
     rw[hh]at o0 e0 hb;have hsl:t.slot (t.place.getD i 0)=.live i:=(la g.ris).mpr ⟨by rw[g.ps];exact hi,rfl⟩
     by_cases l1:iY n0 c0 n' c'
     .obtain⟨j,z1,z2⟩:=hv' n0 c0 o0 l1;rw[e0,hsl]at z1;injection z1 with z1;subst z1;exact z2 hE
     .by_cases l2:iY n' c' n0 c0
      .exact hb n' c' b1.ok l2 e1
      .have:n0=n'/\c0=c':=by unfold iY at *;lia
       obtain⟨rfl,rfl⟩:=this;rw[e0,hsl]at e1;cases e1
    .obtain⟨i,z1,_⟩:=hv' a b o l;rw[z1]at z;cases z
   .rw[e3]at hm;injection hm with hm;subst hm;have hi:=live_ix e1;obtain⟨ki,y,my,ey,hy⟩:=hes i hi;have eg:es[i]? =some (tupleKeyHash (intKind prog w) ki,RY y):=by rw[Yr hi,<-bF hi,ey]
    have hsm:t.sameMemory t.moves t.mask=some true:=by unfold SetTable.sameMemory;rw[RC (by simp)]
    have hmo:∀n2 c2,kS t.mask h n2 c2->iY n' c' n2 c2\/(n'=n2/\c'=c2)\/iY n2 c2 n' c':=λn2 c2 _=>by unfold iY;lia
    have again:¬ki=k->RR (RX prog w) A (Vg D (.ref x) h true f (some (t.advance p'))) Q E s:=λne=>by
     have hd':(t.advance p').dummy=none:=by unfold TY;split<;>exact e5
     have hvn:∀n2 c2,(∀a b,kS t.mask h a b->iY a b n2 c2->iY a b n' c'\/(a=n'/\b=c'))->∀a b,kS t.mask h a b->iY a b n2 c2->∃i,t.slot (sl t.mask h a b)=.live i/\¬El prog w m s.heap k (es.getD i (0,.none)):=λn2 c2 z a b o l=>by
      rcases z a b o l with q|⟨rfl,rfl⟩
      .exact hv' a b o q
      .exact⟨i,e1,λq=>ne (El.inj ⟨y,my,ey,hy⟩ q)⟩
     by_cases hm:0<p'.more
     .refine jb eh hS g hes hx hu he hN q1 q2 f n' (c'+1) (some (t.advance p')) (b1.more hm) hd' (.inl e4) (hvn _ _ λa b o l=>by unfold iY at *;lia) ?_;unfold iY at b3;lia
     .have hck:=b1.2.2.2;have hc9:=nv t.mask (lp t.mask h n').1;refine jb eh hS g hes hx hu he hN q1 q2 f (n'+1) 0 (some (t.advance p')) (b1.leap hm) hd' (by lia) (hvn _ _ λa b o l=>?_) ?_
      .unfold kS at o;unfold iY at*
       by_cases e2:a=n'
       .subst e2;lia
       .lia
      .have:=b1.ok;unfold kS at this;unfold iY at b3;lia
    dsimp only;rw[eg];dsimp only;split
    .refine RM (Kr hx (λv hv2=>?_) ?_)
     .rw[VP]at hv2;obtain⟨e,he2,rfl⟩:=hv2;rw[Array.toList_filter,Wg]at he2;obtain⟨r,hr,rfl⟩:=Wu he2.1;have hr2:r<es.size:=by simpa using hr
      obtain⟨kr,z,_,ez,hz⟩:=hes r hr2;rw[bF hr2]at ez;exact⟨kr,z,by rw[Yy,ez],hz⟩
     .rw[RB Yd];refine RM (Sa (wpAny_eqBool_tuple hu hy hx (RM (i8 hS g.fits ?_))));dsimp only
      by_cases ek:ki=k
      .rw[Ry ek,RC (by decide)];subst ek;exact RN (q1 i hi ⟨y,my,ey,hy⟩)
      .rw[RA ek,RB (by simp),hsm];dsimp only;rw[RC rfl,e1];dsimp only;rw[eg];dsimp only;refine RM ?_;unfold isSame;dsimp only;rw[RC (by simp)];refine RN ?_;rw[RC rfl];refine RM (RN ?_);dsimp only;rw[RB Yd];exact again ek
    .refine RM (Sa (wpAny_eqBool_tuple hu hy hx (RM (i8 hS g.fits ?_))));dsimp only
     by_cases ek:ki=k
     .rw[Ry ek,RC (by decide)];subst ek;exact RN (q1 i hi ⟨y,my,ey,hy⟩)
     .rw[RA ek,RB (by simp),hsm];dsimp only;rw[RC rfl,e1];dsimp only;rw[eg];dsimp only;refine RM ?_;unfold isSame;dsimp only;rw[RC (by simp)];refine RN ?_;rw[RC rfl];refine RM (RN ?_);dsimp only;rw[RB Yd];exact again ek
  .rename_i hm;exfalso;obtain⟨hashAt,hha,hm⟩:∃fh:Nat->Int,(∀i,fh i=(es[i]?.map (·.1)).getD 0)/\∀met,t.probe fh h (stand.getD (t.probeStart h))=some met->False:=⟨_,λi=>rfl,hm⟩;obtain⟨n',c',p',b1,b2,b3,b4,b5⟩:=fin hashAt hha
   rcases b5 with⟨e1,e2⟩|⟨i,e1,e2,e3,_⟩
   .exact hm _ e2
   .exact hm _ e3
end
section
def BK(hk:Sc (intKind prog w) s.heap k a)(h:∀b,Q b s):RR (RX prog w) A (hashByValue 8 (.ref a)) Q E s:=by
 have hT:=hk.typeIs;obtain⟨o,items,n,ho,_,hd,hi⟩:=hk;unfold hashByValue;refine RM (T3 hT F.slot_tuple_hash.lookup ?_);dsimp only;refine RM (Ss ho hd ?_);refine RM ?_;show RR _ _ (forIn items _ _) _ _ s;rw[<-Yz];refine UE _ (λrest r s'=>s'=s/\∀v∈rest,carriedByValue v=true) _ ?_ ?_ _ _ ⟨rfl,hi.byValue⟩
 .rintro v rest r s' ⟨rfl,hall⟩;have hv:=hall v VW;have e:∃b,hashByValue 7 v=pure b:=by
   cases v<;>first|exact⟨_,rfl⟩|(simp[carriedByValue]at hv)
  obtain⟨b,e⟩:=e;rw[e];refine RM (RN ?_);split
  .exact RN (RN (h _))
  .exact RN ⟨rfl,λu hu'=>hall u (VU _ hu')⟩
 .rintro⟨r1,r2⟩ s' ⟨rfl,_⟩;cases r1 with
  |none=>exact RN (h _)
  |some b=>exact RN (h _)
def TK.same(x:Sc (intKind prog w) h k a)(hS:eT h D es ep t)(b:So D h h'):Sc (intKind prog w) h' k a:=by
 obtain⟨o,items,n,ho,hc,hd,hi⟩:=x;obtain⟨o',ho',hx',hd'⟩:=hS;have hne:a≠D:=by rintro rfl;obtain rfl:o=o':=RH (ho.symm.trans ho');rw[hd]at hd';exact nomatch hd'
 exact⟨o,items,n,(b.2 a hne).trans ho,hc,hd,hi⟩
theorem El.same(x:El prog w m h k e)(hS:eT h D es ep t)(b:So D h h'):El prog w m h' k e:=let ⟨a,h0,h1,h2⟩:=x;⟨a,h0,h1,TK.same h2 hS b⟩
def Rm(mask n:Nat):Prop:=(mask=7\/mask=31\/mask=127\/mask=511)/\n*5<mask*3
structure ST(prog:RU)(w:RZ)(m:Zo->Prop)(h:R9)(es:Array (Int×Zn))(t:SetTable):Prop where
 el:∀e∈es.toList,∃k,El prog w m h k e
 nd:es.toList.Pairwise λe e'=>∀k,El prog w m h k e->¬El prog w m h k e'
 tg:uW es t
 led:t.led= !w.params.followText "set-order"
 rm:Rm t.mask es.size
def jw(prog:RU)(w:RZ)(m:Zo->Prop)(h:R9)(D:Zo)(S:List Int->Bool)(n:Nat):Prop:= ∃es ep t,eT h D es ep t/\ST prog w m h es t/\(∀k,S k=true<->∃e∈es.toList,El prog w m h k e)/\es.size=n
def Dt(r:Rm mask n):lG (mask+1):=by
 obtain⟨rfl|rfl|rfl|rfl,_⟩:=r
 .exact JH
 .exact Lp
 .exact Eb
 .exact Ea
def uW.off(g:uW es t)(b:Bool):uW es {t with plain:=b}:=⟨g.ps,g.ris,g.nd,g.full,g.odd,g.fit,g.pl⟩
def PH(hx:Sc (intKind prog w) s.heap k x)(hxm:m x)(hu:A.units<SK)(hS:jw prog w m s.heap D S n)(hr:n+1<307)(q:∀h',So D s.heap h'->jw prog w m h' D (λk'=>S k'||decide (k'=k)) (if S k then n else n+1)->Q (!S k) {s with heap:=h'}):RR (RX prog w) A (setAddHashed D (.ref x) (tupleKeyHash (intKind prog w) k)) Q E s:=by
 obtain⟨es,ep,t,o1,st,hm,rfl⟩:=hS;have g:=st.tg;unfold setAddHashed setAddHashedIn;refine Sa (RM (i8 o1 g.fits ?_));dsimp only;have hbs:byScan (.ref x) es=false:=rfl;rw[hbs,RB Yd];refine RM ?_;unfold setSearch;obtain⟨e0,he0,hee⟩:=zX g.ris g.nd g.fit;obtain⟨N,hN,eN⟩:=xI g.full (tupleKeyHash (intKind prog w) k) he0;have hb:t.mask<=511:=by obtain⟨h1,_⟩:=st.rm;lia
 refine jb (m:=m) (N:=N) rfl o1 g (λi hi=>?_) hx hu ?_ hN (λi hi hE=>?_) (λhno n' c' ok em before=>?_) 100000 0 0 none wN.start rfl ?_ (λa b _ l=>?_) ?_
 .refine st.el _ ?_;rw[bF hi];simp
 .show t.slot ((lp t.mask _ N).1+0)=_;rw[Nat.add_zero,eN];exact hee
 .dsimp only;have hs:S k=true:=(hm k).mpr ⟨_,by rw[bF hi];simp,hE⟩;refine RN ?_;have z:=q s.heap (Heap.SameBut.refl D s.heap) ⟨es,ep,t,o1,st,λk'=>?_,by rw[hs];rfl⟩
  .rw[hs]at z;exact z
  .rw[Yo,decide_eq_true_eq,<-hm k'];exact⟨λy=>y.elim id (λe=>e▸hs),.inl⟩
 .dsimp only;have hs:S k=false:=by
   cases y:S k with
   |false=>rfl
   |true=>
    obtain⟨e,a1,a2⟩:=(hm k).mp y;obtain⟨i,hi,rfl⟩:=Wu a1;have hi2:i<es.size:=by simpa using hi
    exact RF (by rw[bF hi2];simpa using a2) (hno i hi2)
  have hroom:es.size+1<=t.mask:=by obtain⟨h1,h2⟩:=st.rm;lia
  have g1:=g.put (x:=.ref x) ok em before hroom;refine RM (i8 o1 g.fits ?_);dsimp only;have hled:(t.put (sl t.mask (tupleKeyHash (intKind prog w) k) n' c')).1.led=t.led:=rfl;have hmask:(t.put (sl t.mask (tupleKeyHash (intKind prog w) k) n' c')).1.mask=t.mask:=rfl;have p1:=TR es (t.put (sl t.mask (tupleKeyHash (intKind prog w) k) n' c')).2 (tupleKeyHash (intKind prog w) k,RY x);generalize t.put (sl t.mask (tupleKeyHash (intKind prog w) k) n' c')=P at g1 hled hmask p1 ⊢;obtain⟨t1,p⟩:=P;dsimp only at g1 hled hmask p1 ⊢;generalize Sd es p (tupleKeyHash (intKind prog w) k,RY x)=es1 at g1 p1 ⊢;rw[Yx]at p1;have hz1:es1.size=es.size+1:=by have:=p1.length_eq;simpa using this
  have hex:El prog w m s.heap k (tupleKeyHash (intKind prog w) k,RY x):=⟨x,hxm,rfl,hx⟩;have el1:∀e∈es1.toList,∃k,El prog w m s.heap k e:=λe he=>by
   rcases VY.mp (p1.mem_iff.mp he)with y|y
   .exact st.el e y
   .rw[VR]at y;subst y;exact⟨k,hex⟩
  have nd1:es1.toList.Pairwise λe e'=>∀k,El prog w m s.heap k e->¬El prog w m s.heap k e':=by refine(p1.pairwise_iff (λ{e e'} z k h1 h2=>z k h2 h1)).mpr (Xs.mpr ⟨st.nd,Xx ..,λe he e' he' k' h1 h2=>?_⟩);rw[VR]at he';subst he';obtain rfl:=h2.inj hex;have:=(hm k').mpr ⟨e,he,h1⟩;rw[hs]at this;cases this
  have hm1:∀k',(S k'||decide (k'=k))=true<->∃e∈es1.toList,El prog w m s.heap k' e:=λk'=>by
   rw[Yo,decide_eq_true_eq,hm k']
   constructor
   .rintro(⟨e,a1,a2⟩|rfl)
    .exact⟨e,p1.mem_iff.mpr (Wh _ a1),a2⟩
    .exact⟨_,p1.mem_iff.mpr (V6 _ (VR.mpr rfl)),hex⟩
   .rintro⟨e,a1,a2⟩
    rcases VY.mp (p1.mem_iff.mp a1)with y|y
    .exact .inl ⟨e,y,a2⟩
    .rw[VR]at y;subst y;exact .inr (a2.inj hex)
  have back:∀{h':R9},So D s.heap h'->∀{k' e},e∈es1.toList->El prog w m h' k' e->El prog w m s.heap k' e:=λ{h'} b{k' e} he z=>by obtain⟨k2,y⟩:=el1 e he;obtain rfl:=z.inj (y.same o1 b);exact y
  have out:∀{h':R9}{es':Array (Int×Zn)}{ep':Nat}{t':SetTable},So D s.heap h'->eT h' D es' ep' t'->es'.toList.Perm es1.toList->uW es' t'->t'.led=t.led->Rm t'.mask es'.size->Q true {s with heap:=h'}:=λ{h' es' ep' t'} b o' pp g' l' r'=>by
   have z:=q h' b ⟨es',ep',t',o',⟨λe he=>?_,?_,g',l'.trans st.led,r'⟩,λk'=>?_,?_⟩
   .rw[hs]at z;exact z
   .obtain⟨k2,y⟩:=el1 e (pp.mem_iff.mp he);exact⟨k2,y.same o1 b⟩
   .refine(pp.pairwise_iff (λ{e e'} z k h1 h2=>z k h2 h1)).mpr ?_;refine nd1.imp_of_mem ?_;intro e e' he he' z k' h1 h2;exact z k' (back b he h1) (back b he' h2)
   .rw[hm1 k']
    constructor
    .rintro⟨e,a1,a2⟩;exact⟨e,pp.mem_iff.mpr a1,a2.same o1 b⟩
    .rintro⟨e,a1,a2⟩;have a3:=pp.mem_iff.mp a1;exact⟨e,a3,back b a3 a2⟩
   .rw[hs];have:=pp.length_eq;simp only[Yt]at this;rw[this,hz1];rfl
  have hsb:es1.size<scanBound:=by unfold scanBound;lia
  have fin:∀t2,uW es1 t2->t2.led=t.led->t2.mask=t.mask->RR (RX prog w) A (do
    storeSet D es1 t2
    if(!false&&t2.tooFull)=true then do
     setRelay D (Ul (es.size+1))
     pure true
    else pure true) Q E s:=λt2 g2 l2 m2=>by
   refine RM (A5 o1 hsb ?_);have o2:=o1.put es1 t2;have b2:=Sy s.heap D (UO es1 t2);have hfill:t2.fill=es.size+1:=by unfold SetTable.fill;rw[g2.nd,g2.ps,hz1];rfl
   split
   .rename_i hfull;have hfull:t2.tooFull=true:=by simpa using hfull
    unfold SetTable.tooFull at hfull;rw[hfill,m2]at hfull;have hfull:t.mask*3<=(es.size+1)*5:=by simpa using hfull
    have hsz:(t.mask=7/\es.size+1=5)\/(t.mask=31/\es.size+1=19)\/(t.mask=127/\es.size+1=77):=by obtain⟨h1,h2⟩:=st.rm;lia
    have hw:∃M,SM (Ul (es.size+1))=M+1/\Rm M (es.size+1):=by
     rcases hsz with⟨_,e⟩|⟨_,e⟩|⟨_,e⟩
     .rw[e];exact⟨31,by decide,by unfold Rm;lia⟩
     .rw[e];exact⟨127,by decide,by unfold Rm;lia⟩
     .rw[e];exact⟨511,by decide,by unfold Rm;lia⟩
    obtain⟨M,hM,hRm⟩:=hw;have hM1:SM (Ul (es.size+1)) - 1=M:=by lia
    obtain⟨t3,order,r1,r2,r3,r4,r5,r6⟩:=yV (es:=es1) (t:=t2) (wanted:=Ul (es.size+1)) (by rw[hM1];exact Dt hRm) (by rw[hM1];obtain⟨h1,_⟩:=hRm;lia) (by rw[hM1,hz1];obtain⟨h1,h2⟩:=hRm;lia);refine RM ?_;unfold setRelay;refine RM (i8 o2 g2.fits ?_);dsimp only;rw[RB (by rw[hM];obtain⟨h1,_⟩:=hRm;unfold v1;lia),r1];refine RM ?_;show RR _ _ (if((order.filterMap (es1[·]?)).size != es1.size)=true then _ else pure (order.filterMap (es1[·]?),t3)) _ _ _;rw[RB (by rw[r2];simp)];refine RN (A5 o2 (by rw[r2];exact hsb) (RN ?_));exact out (b2.trans (Sy _ D (UO _ t3))) (o2.put _ t3) r3 r4 (r5.trans l2) (by rw[r6,hM1,r2,hz1];exact hRm)
   .rename_i hfull;have hfull:t2.tooFull=false:=by simpa using hfull
    unfold SetTable.tooFull at hfull;rw[hfill,m2]at hfull;have hfull:(es.size+1)*5<t.mask*3:=by simpa using hfull
    refine RN (out b2 o2 (List.Perm.refl _) g2 l2 ?_);rw[m2,hz1];exact⟨st.rm.1,hfull⟩
  split
  .refine RM (BK hx λbv=>?_);cases bv with
   |true=>exact fin t1 g1 hled hmask
   |false=>exact fin _ (g1.off false) hled hmask
  .exact RM (RN (fin t1 g1 hled hmask))
 .lia
 .unfold iY at l;lia
 .lia
def El.low(x:El prog w m h k e)(kp:∀b o,m b->h.get? b=some o->h'.get? b=some o):El prog w m h' k e:=let ⟨a,h0,h1,o,items,n,ho,r⟩:=x;⟨a,h0,h1,o,items,n,kp a o h0 ho,r⟩
theorem jw.low(x:jw prog w m h D S n)(kd:∀o,h.get? D=some o->h'.get? D=some o)(kp:∀b o,m b->h.get? b=some o->h'.get? b=some o):jw prog w m h' D S n:=by
 obtain⟨es,ep,t,o1,st,hm,e⟩:=x;have back:∀{k' e},e∈es.toList->El prog w m h' k' e->El prog w m h k' e:=λ{k' e} he z=>by obtain⟨k2,y⟩:=st.el e he;obtain rfl:=z.inj (y.low kp);exact y
 refine⟨es,ep,t,o1.keep kd,⟨λe he=>let ⟨k,y⟩:=st.el e he;⟨k,y.low kp⟩,?_,st.tg,st.led,st.rm⟩,λk=>?_,e⟩
 .refine st.nd.imp_of_mem ?_;intro e e' he he' z k' h1 h2;exact z k' (back he h1) (back he' h2)
 .rw[hm k];exact⟨λ⟨e,a1,a2⟩=>⟨e,a1,a2.low kp⟩,λ⟨e,a1,a2⟩=>⟨e,a1,back a1 a2⟩⟩
def jw.congr(x:jw prog w m h D S n)(e1:∀k,S k=S' k)(e2:n=n'):jw prog w m h D S' n':=by obtain rfl:S=S':=funext e1;subst e2;exact x
end
end L2
namespace L2
open PySem PySem.Spec PyProof.Rows
section
variable [DecidableEq κ]
def yN(a:Zn)(q:Q1 (.ref s.heap.objs.size) {s with heap:=s.heap.push (cF (!w.params.followText "set-order"))}):Tl (RX prog w) A (.call (.builtin "set.__new__") ⟨[.type "set",a],[]⟩) (wants Q1 E) s:=by
 refine UR ?_;show RR _ A.in1 (do UH "set.__new__" ⟨[.type "set",a],[]⟩;again _) _ _ s;refine RM (Ur (F.newCall_set_1 a) (RN ⟨Ti F.plain_set_new _,Sl F.entry_set_new ?_⟩));rw[Sk F.plain_set_new _];unfold SS.«set.__new__» Builtin.Frozenset.newClass;have hsub:=sub_set_self;obtain⟨hp,g,d,tk,os⟩:=s;dsimp only
 wp_walk
 refine UG (RN ?_);dsimp only;simp only[newObj];refine RM (wpAny_alloc (RN (RN q)))
end
section
variable{prog:RU}{w:RZ}{A:SJ}{R:Result->RQ->Prop}{I:Zo}{fp wr:List Zo}{G:Array U5->Array U5->Prop}{n:Nat}{Pt:Nat->Zn->Prop}{St:Nat->RQ->Prop}
def yQ(W:WalksS prog w A.in1 I fp wr G n Pt St)(D:Zo)(hD:D∉fp)(hDm:¬m D)(hwr:∀b∈wr,¬m b)(hu:A.units+1<SK)(val:Nat->List Int)(hv:∀i v,Pt i v->∃a,v=.ref a/\m a/\Sc (intKind prog w) h0 (val i) a)(hb:n+1<307):∀k i s,n - i=k->i<=n->St i s->(∀b o,m b->h0.get? b=some o->s.heap.get? b=some o)->jw prog w m s.heap D (λx=>decide (x∈bS val i)) (bS val i).length->(∀s2,Moved (D::wr) G s s2->jw prog w m s2.heap D (λx=>decide (x∈bS val n)) (bS val n).length->R (.ok (.ret .none)) s2)->Tl (RX prog w) A (.builtin "set.update.loop" ⟨[.ref D,.ref I],[]⟩) R s:=by
 have nW:D∉wr:=λz=>hD (W.sub _ z);have up:∀b∈wr,b∈D::wr:=λb z=>VU _ z;have mv:∀{s s2:RQ}{S:List Int->Bool}{r:Nat},Moved wr G s s2->jw prog w m s.heap D S r->jw prog w m s2.heap D S r:=λhm x=>x.low (λo e=>hm.heap D _ nW e) λb o hb e=>hm.heap b _ (λz=>hwr b z hb) e;intro k
 induction k with
 |zero=>
  intro i s e1 e2 st kp hS hR;have e3:i=n:=by lia
  subst e3;refine Sl Tc ?_;rw[Sk SC _];show RR _ A.in1 (S7 (.ref I) >>= _) _ _ s;refine RM (W.done s _ _ st λs2 hm=>?_);show RR _ A.in1 (ret SV) _ _ s2;exact RN (hR s2 (hm.mono up) (mv hm hS))
 |succ k ih=>
  intro i s e1 e2 st kp hS hR;have e3:i<n:=by lia
  refine Sl Tc ?_;rw[Sk SC _];show RR _ A.in1 (S7 (.ref I) >>= _) _ _ s;refine RM (W.item i s _ _ e3 st λv s2 hp st2 hm=>?_);obtain⟨a,rfl,ha,ka⟩:=hv i v hp;have kp2:∀b o,m b->h0.get? b=some o->s2.heap.get? b=some o:=λb o hb e=>hm.heap b _ (λz=>hwr b z hb) (kp b o hb e);have ka2:Sc (intKind prog w) s2.heap (val i) a:=let ⟨o,items,r,ho,rr⟩:=ka;⟨o,items,r,kp2 a o ha ho,rr⟩;have hS2:=mv hm hS;show RR _ A.in1 (TF [.ref a] (setAdd D (.ref a)) >>= _) _ _ s2;refine RM (Sa ?_);unfold setAdd;refine Sa (RM (wpAny_pyHash_tuple hu ka2 ?_));have room:(bS val i).length+1<307:=by have:=kH val i;lia
  refine PH (m:=m) (s:={s2 with toks:=s2.toks+((val i).length+1)}) ka2 ha hu hS2 room λh2 sb hS3=>?_;have hS4:jw prog w m h2 D (λx=>decide (x∈bS val (i+1))) (bS val (i+1)).length:=by
   refine hS3.congr (λx=>?_) ?_
   .show(decide (x∈bS val i)||decide (x=val i))=decide (x∈wt (bS val i) (val i))
    unfold wt
    by_cases m:val i∈bS val i
    .rw[RC m]
     by_cases e:x=val i
     .subst e;rw[Ry m];simp
     .rw[RA e,Ym]
    .rw[RB m,Yg];simp
   .show(if decide (val i∈bS val i)=true then _ else _)=(wt (bS val i) (val i)).length;unfold wt
    by_cases m:val i∈bS val i
    .rw[RC (Ry m),RC m]
    .rw[RB (by rw[RA m];decide),RB m,VV];rfl
  refine RN ⟨Ti SC _,ih (i+1) _ (by lia) e3 (W.frame _ s2 _ _ st2 (XR _ _) λb hb o e=>?_) (λb o hb e=>?_) hS4 λs3 hm3 hS5=>?_⟩
  .exact(sb.2 b (λz:b=D=>hD (z▸hb))).trans e
  .exact(sb.2 b (λz:b=D=>hDm (z▸hb))).trans (kp2 b o hb e)
  .refine hR s3 (Moved.trans W.gtrans ((hm.mono up).then_heap (XR _ _) λb o hb e=>?_) hm3) hS5;exact(sb.2 b (λz:b=D=>hb (by rw[z];exact VW))).trans e
end
section
variable{prog:RU}{w:RZ}{A:SJ}{E:RK}{s:RQ}
def yO(M:Zo->Prop)(val:Nat->List Int)(hh:A.handled=none)(hl:s.heap.IsList l its)(hu:A.units+4<SK)(hv:∀i v,its[i]? =some v->∃a,v=.ref a/\M a/\Sc (intKind prog w) s.heap (val i) a)(hM:∀a,M a->a<s.heap.objs.size)(hb:its.size+1<307)(k:∀h2 tk,jw prog w M h2 s.heap.objs.size (λx=>decide (x∈bS val its.size)) (bS val its.size).length->(∀b o,b<s.heap.objs.size->s.heap.get? b=some o->h2.get? b=some o)->Q (.ref s.heap.objs.size) {s with heap:=h2,toks:=tk}):RR (RX prog w) A (call (.type "set") [.ref l]) Q E s:=by
 obtain⟨c0,tl0,hmro⟩:=F.called_set.mro;have hmade:=F.called_set.made;have hsub:=F.called_set.sub;have n1:=F.called_set.notType;have n2:=F.called_set.canCreate;have n3:=F.typeCall_set_1 (.ref l);refine To (UR ?_);show RR _ _ (callAny (.type "set") _) _ _ _;refine RN ⟨Um _ (by decide+kernel),Sl F.entry_type_call ?_⟩;rw[Around.under_plain (UW "set" [.ref l] []) rfl]
 repeat (any_goals (first|assumption|wp_step))
 refine SB (yN (.ref l) (E:=E) (Q1:=λo s1=>o=.ref s.heap.objs.size/\s1={s with heap:=s.heap.push (cF (!w.params.followText "set-order"))}) ⟨rfl,rfl⟩) λr s1 hr=>?_;cases r with
 |error e=>exact hr
 |ok fl=>
  cases fl with
  |ret ob=>
   obtain⟨rfl,rfl⟩:=hr;generalize hld:(!w.params.followText "set-order")=led;have g0:(s.heap.push (cF led)).get? s.heap.objs.size=some (cF led):=RT _ rfl;have ty:TZ {s with heap:=s.heap.push (cF led)} (.ref s.heap.objs.size) "set":=⟨_,g0,rfl⟩;have m1:=F.called_set.init.lookup;have m2:=F.called_set.init.bind (.ref s.heap.objs.size)
   repeat (any_goals (first|assumption|wp_step))
   refine SB (Tq (R:=wants (λr s2=>r=.none/\∃h2 tk,s2={s with heap:=h2,toks:=tk}/\jw prog w M h2 s.heap.objs.size (λx=>decide (x∈bS val its.size)) (bS val its.size).length/\
     (∀b o,b<s.heap.objs.size->s.heap.get? b=some o->h2.get? b=some o)) E) F.called_set.init.plain F.entry_set_init (check_set_init_1 ty ?_)) λr2 s2 hr2=>?_
   .obtain⟨⟨oc,od,oda,osl⟩,ho,hc,nl,hd⟩:=hl;simp only at hc hd;subst hc;subst hd;have hol:(s.heap.push (cF led)).get? l=some {cls:=.type "list",dict:=od,data:=.seq its nl,slots:=osl}:=RO _ ho;have b1:=F.sub_list_set;have b2:=F.sub_list_frozenset;have b3:(Uk "list" == Uk "dict")=false:=by decide
    have hl1:(s.heap.push (cF led)).IsList l its:=⟨_,hol,rfl,nl,rfl⟩;unfold SS.«set.__init__» noKeywords T8;generalize hPI:pyIter=PI
    wp_walk
    subst hPI;refine S5 hl1 (RM (UZ ?_));have hlt:l<s.heap.objs.size:=RP ho;have h3:A.in1.in1.in1.handled=none:=by simp[hh]
    have sz:(s.heap.push (cF led)).objs.size=s.heap.objs.size+1:=Se ..;have ne1:l≠(s.heap.push (cF led)).objs.size:=by rw[sz];exact XE (XT hlt)
    have ne2:s.heap.objs.size∉[(s.heap.push (cF led)).objs.size,l]:=by
     rw[sz];intro z
     rcases VO.mp z with z|z
     .exact XW _ z.symm
     .exact XJ hlt (VR.mp z)
    refine yQ (m:=M) (h0:=s.heap) ((Vl h3 _ l ne1 its).toS) s.heap.objs.size ne2 (λz=>XM _ (hM _ z)) (λb hb z=>by rw[VR.mp hb,sz]at z;exact RF (hM _ z) (Nat.not_lt.mpr (XI _))) (by show A.units+1+1+1<SK;lia) val (λi v hp=>?_) hb (its.size - 0) 0 _ (by lia) (XF _) ⟨⟨_,RT _ rfl,rfl,rfl⟩,(hl1.push _)⟩ (λb o _ e=>RO _ (RO _ e)) ?_ (λs3 hm hS3=>?_)
    .exact hv i v hp
    .refine⟨#[],0,.fresh 0 0 led,⟨_,RO _ g0,⟨rfl,rfl,rfl⟩,rfl⟩,⟨λe he=>by simp at he,List.Pairwise.nil,uW.fresh,by rw[hld];rfl,⟨.inl rfl,by show 0*5<7*3;decide⟩⟩,λx=>?_,rfl⟩;show decide (x∈([]:List (List Int)))=true<->_;simp
    .obtain⟨hh3,gg3,dd3,tk3,os3⟩:=s3;obtain rfl:gg3=s.gens:=hm.gens;obtain rfl:dd3=s.drawn:=hm.drawn;obtain rfl:os3=s.os:=hm.os;show RR _ _ _ _ _ _;refine RN ?_;show RR _ _ (ret SV) _ _ _;refine RN ⟨rfl,hh3,tk3,rfl,hS3,λb o hb2 e=>?_⟩;refine hm.heap b o ?_ (RO _ (RO _ e));rw[sz];intro z
     rcases VO.mp z with z|z
     .exact XE hb2 z
     .exact XE (XT hb2) (VR.mp z)
   .cases r2 with
    |error e=>exact hr2
    |ok fl2=>
     cases fl2 with
     |ret r3=>
      obtain⟨rfl,h2,tk,rfl,hS2,kp⟩:=hr2
      repeat (any_goals (first|assumption|wp_step))
      exact k _ _ hS2 kp
     |_=>exact hr2.elim
  |_=>exact hr.elim
end
end L2
namespace L2
open PySem PySem.W PyProof.Rows
structure PL(n:Nat)(lt:Nat->Nat->Bool):Prop where
 tr:∀a b c,a<n->b<n->c<n->lt a b=true->lt b c=true->lt a c=true
 as:∀a b,a<n->b<n->lt a b=true->lt b a=false
 tt:∀a b,a<n->b<n->a≠b->lt a b=false->lt b a=true
noncomputable abbrev gp(p:Array Nat)(i:Nat):Nat:=p.getD i 0
structure PR(n:Nat)(p:Array Nat):Prop where
 sz:p.size=n
 lo:∀i,i<n->gp p i<n
 nd:∀i j,i<n->j<n->gp p i=gp p j->i=j
def pU(p:Array Nat)(i:Nat):gp p i=(p[i]?).getD 0:=by unfold gp;simp[Array.getD_eq_getD_getElem?]
def PR.of(h:p.toList.Perm (List.range n)):PR n p:=by
 have hs:p.size=n:=by have:=h.length_eq;simpa using this
 have hn:p.toList.Nodup:=h.nodup_iff.mpr List.nodup_range;have at_:∀i(hi:i<n),gp p i=p.toList[i]'(by simpa[hs]using hi):=λi hi=>by
  have:i<p.size:=by lia
  simp[gp,this]
 refine⟨hs,λi hi=>?_,λi j hi hj e=>?_⟩
 .rw[at_ i hi];exact V4.mp (h.mem_iff.mp (V7 _))
 .rw[at_ i hi,at_ j hj]at e;have hw:=W1.mp hn
  rcases XX i j with z|z|z
  .exact RF e (hw i j _ _ z)
  .exact z
  .exact RF e.symm (hw j i _ _ z)
def Up(lt:Nat->Nat->Bool)(p:Array Nat)(k:Nat):Prop:= ∀i j,i<j->j<k->lt (gp p i) (gp p j)=true
def Dn(lt:Nat->Nat->Bool)(p:Array Nat)(k:Nat):Prop:= ∀i j,i<j->j<k->lt (gp p j) (gp p i)=true
section
variable{n:Nat}{lt:Nat->Nat->Bool}{s:RQ}{cmp:Nat->Nat->(Bool->RQ->Prop)->RQ->Prop}(O:PL n lt)(hc:∀i j(C:Bool->RQ->Prop),i<n->j<n->C (lt i j) s->cmp i j C s)
include O hc
theorem Cy(P:PR n p):∀(f a:Nat){Q:Nat->RQ->Prop},1<=a->a+f<=n->Up lt p a->(∀m,a<=m->m<=a+f->Up lt p m->(m=a+f\/lt (gp p m) (gp p (m - 1))=true)->Q m s)->(kas_asc p f a).kasWp cmp Q s
 |0,a,Q,_,_,u,q=>q a (XD _) (XD _) u (.inl rfl)
 |f+1,a,Q,h1,h2,u,q=>by
  refine hc _ _ _ (P.lo a (by lia)) (P.lo (a - 1) (by lia)) ?_;cases e:lt (p.getD a 0) (p.getD (a - 1) 0)with
  |true=>exact q a (XD _) (by lia) u (.inr e)
  |false=>
   refine Cy P f (a+1) (by lia) (by lia) ?_ λm m1 m2 m3 m4=>q m (by lia) (by lia) m3 (m4.imp (λz=>by lia) id);have e2:lt (gp p (a - 1)) (gp p a)=true:=O.tt _ _ (P.lo a (by lia)) (P.lo (a - 1) (by lia)) (λz=>by have:=P.nd a (a - 1) (by lia) (by lia) z;lia) e;intro i j hij hj
   by_cases ej:j=a
   .subst ej
    by_cases ei:i=j - 1
    .subst ei;exact e2
    .exact O.tr _ _ _ (P.lo i (by lia)) (P.lo (j - 1) (by lia)) (P.lo j (by lia)) (u i (j - 1) (by lia) (by lia)) e2
   .exact u i j hij (by lia)
theorem Cd(P:PR n p):∀(f a:Nat){Q:Array Nat×Nat×Nat->RQ->Prop},1<=a->a+f<=n->Dn lt p a->(∀m,a<=m->m<=a+f->Dn lt p m->Q (p,m,0) s)->(kas_desc f p a 0).kasWp cmp Q s
 |0,a,Q,_,_,u,q=>q a (XD _) (XD _) u
 |f+1,a,Q,h1,h2,u,q=>by
  refine hc _ _ _ (P.lo a (by lia)) (P.lo (a - 1) (by lia)) ?_;cases e:lt (p.getD a 0) (p.getD (a - 1) 0)with
  |true=>
   show(kas_desc f p (a+1) 0).kasWp cmp Q s;refine Cd P f (a+1) (by lia) (by lia) ?_ λm m1 m2 m3=>q m (by lia) (by lia) m3;intro i j hij hj
   by_cases ej:j=a
   .subst ej
    by_cases ei:i=j - 1
    .subst ei;exact e
    .exact O.tr _ _ _ (P.lo j (by lia)) (P.lo (j - 1) (by lia)) (P.lo i (by lia)) e (u i (j - 1) (by lia) (by lia))
   .exact u i j hij (by lia)
  |false=>
   have e2:lt (p.getD (a - 1) 0) (p.getD a 0)=true:=O.tt _ _ (P.lo a (by lia)) (P.lo (a - 1) (by lia)) (λz=>by have:=P.nd a (a - 1) (by lia) (by lia) z;lia) e;show KasT.kasWp cmp (KasT.ask _ _ _) Q s;refine hc _ _ _ (P.lo (a - 1) (by lia)) (P.lo a (by lia)) ?_;rw[e2];exact q a (XD _) (by lia) u
theorem qS(P:PR n p)(hk:k<n)(u:Up lt p k):∀(f l r:Nat){Q:Nat->RQ->Prop},l<=r->r<=k->r - l<=f->(∀i,i<l->lt (gp p i) (gp p k)=true)->(∀i,r<=i->i<k->lt (gp p k) (gp p i)=true)->(∀m,m<=k->(∀i,i<m->lt (gp p i) (gp p k)=true)->(∀i,m<=i->i<k->lt (gp p k) (gp p i)=true)->Q m s)->(Vy p k f l r).kasWp cmp Q s
 |0,l,r,Q,h1,h2,h3,a,b,q=>by
  have:l=r:=by lia
  subst this;exact q l h2 a b
 |f+1,l,r,Q,h1,h2,h3,a,b,q=>by
  unfold Vy
  by_cases hlr:l≥r
  .rw[RC hlr];have:l=r:=by lia
   subst this;exact q l h2 a b
  .rw[RB hlr];refine hc _ _ _ (P.lo k hk) (P.lo ((l+r) / 2) (by lia)) ?_;cases e:lt (p.getD k 0) (p.getD ((l+r) / 2) 0)with
   |true=>
    show(Vy p k f l ((l+r) / 2)).kasWp cmp Q s;refine qS P hk u f l ((l+r) / 2) (by lia) (by lia) (by lia) a (λi i1 i2=>?_) q
    by_cases ei:i=(l+r) / 2
    .subst ei;exact e
    .exact O.tr _ _ _ (P.lo k hk) (P.lo ((l+r) / 2) (by lia)) (P.lo i (by lia)) e (u _ _ (by lia) i2)
   |false=>
    show(Vy p k f ((l+r) / 2+1) r).kasWp cmp Q s;have e2:lt (gp p ((l+r) / 2)) (gp p k)=true:=O.tt _ _ (P.lo k hk) (P.lo ((l+r) / 2) (by lia)) (λz=>by have:=P.nd k ((l+r) / 2) hk (by lia) z;lia) e;refine qS P hk u f ((l+r) / 2+1) r (by lia) h2 (by lia) (λi i1=>?_) b q
    by_cases ei:i=(l+r) / 2
    .subst ei;exact e2
    .exact O.tr _ _ _ (P.lo i (by lia)) (P.lo ((l+r) / 2) (by lia)) (P.lo k hk) (u _ _ (by lia) (by lia)) e2
omit O hc in
def Bf{p q:Array Nat}{n:Nat}(h:p.toList.Perm (List.range n))(e:q.Perm p):q.toList.Perm (List.range n):=(Array.perm_iff_toList_perm.mp e).trans h
theorem JS:∀(f k:Nat)(p:Array Nat){Q:Array Nat->RQ->Prop},p.toList.Perm (List.range n)->1<=k->k+f=n->Up lt p k->(∀p',p'.toList.Perm (List.range n)->Up lt p' n->Q p' s)->(kas_bin f p k).kasWp cmp Q s
 |0,k,p,Q,hp,h1,h2,u,q=>q p hp (by rw[<-h2];exact u)
 |f+1,k,p,Q,hp,h1,h2,u,q=>by
  have P:=PR.of hp;unfold kas_bin;rw[TH];refine qS O hc P (by lia) u k 0 k (XF _) (XD _) (by lia) (λi z=>RF z (Nat.not_lt_zero _)) (λi z1 z2=>by lia) λm hm a b=>?_;refine JS f (k+1) _ (Bf hp (bubble_perm _ _ _)) (by lia) (by lia) ?_ q;have ge:∀i,gp (bubble p k (k - m)) i=if i=m then gp p k else if m<i/\i<=k then gp p (i - 1)else gp p i:=λi=>by
   rw[pU,getElem?_bubble (by rw[P.sz];lia) (k - m) (by lia) i,show k - (k - m)=m by lia];split
   .rw[pU]
   .split<;>rw[pU]
  intro i j hij hj;rw[ge,ge]
  by_cases e1:i=m
  .rw[RC e1]
   by_cases e2:j=m
   .lia
   .rw[RB e2,RC (by lia)];exact b (j - 1) (by lia) (by lia)
  .rw[RB e1]
   by_cases e2:j=m
   .rw[RC e2,RB (by lia)];exact a i (by lia)
   .rw[RB e2]
    by_cases e3:m<i/\i<=k
    .rw[RC e3,RC (by lia)];exact u (i - 1) (j - 1) (by lia) (by lia)
    .rw[RB e3]
     by_cases e4:m<j/\j<=k
     .rw[RC e4];exact u i (j - 1) (by lia) (by lia)
     .rw[RB e4];exact u i j hij (by lia)
def Lx(hp:p.toList.Perm (List.range n))(h2:2<=n)(hd:lt (gp p 1) (gp p 0)=true)(q:∀m p',p'.toList.Perm (List.range n)->1<=m->m<=n->Up lt p' m->Q (m,p') s):(kas_descPart 1 n p).kasWp cmp Q s:=by
 have P:=PR.of hp;unfold kas_descPart;rw[TH];refine Cd O hc P (n - (1+1)) (1+1) (by lia) (by lia) (λi j hij hj=>?_) λm m1 m2 m3=>?_
 .have e1:i=0:=by lia
  have e2:j=1:=by lia
  subst e1;subst e2;exact hd
 .show(kas_tail3 m n p).kasWp cmp Q s;unfold kas_tail3;rw[TH];have hp2:(kas_rev p 0 m).toList.Perm (List.range n):=Bf hp (mirror_perm _ _ _ _);have ge:∀i,gp (kas_rev p 0 m) i=if i<m then gp p (m - 1 - i)else gp p i:=λi=>by
   unfold kas_rev;rw[pU,getElem?_mirror_all (by rw[P.sz];lia)]
   by_cases e:i<m
   .rw[RC ⟨XF _,e⟩,RC e,pU,XU]
   .rw[RB (λz=>e z.2),RB e,pU]
  refine Cy O hc (PR.of hp2) (n - m) m (by lia) (by lia) (λi j hij hj=>?_) λr r1 r2 r3 _=>q r _ hp2 (by lia) (by lia) r3;rw[ge,ge,RC (by lia),RC hj];exact m3 _ _ (by lia) (by lia)
def Kn(h2:2<=n)(q:∀p,p.toList.Perm (List.range n)->Up lt p n->Q p s):(kas_sort n).kasWp cmp Q s:=by
 have hp:(List.toArray (List.range n)).toList.Perm (List.range n):=List.Perm.refl _;have P:=PR.of hp;unfold kas_sort kas_count;rw[TH,TH];have fin:∀m p',p'.toList.Perm (List.range n)->1<=m->m<=n->Up lt p' m->KasT.kasWp cmp (if m<n then kas_bin (n - max m 1) p' (max m 1)else KasT.ret p') Q s:=λm p' hp' m1 m2 u=>by
  by_cases e:m<n
  .rw[RC e,show max m 1=m by lia];exact JS O hc (n - m) m p' hp' m1 (by lia) u q
  .rw[RB e];have:m=n:=by lia
   subst this;exact q p' hp' u
 refine Cy O hc P (n - 1) 1 (XD _) (by lia) (λi j hij hj=>by lia) λm m1 m2 m3 m4=>?_
 by_cases e:m=n
 .rw[RC (by simp[e])];exact fin m _ hp m1 (by lia) m3
 .rw[RB (by simp[e])]
  by_cases e1:m > 1
  .rw[RC e1];refine hc _ _ _ (P.lo 0 (by lia)) (P.lo (m - 1) (by lia)) ?_;have:lt ((List.toArray (List.range n)).getD 0 0) ((List.toArray (List.range n)).getD (m - 1) 0)=true:=m3 0 (m - 1) (by lia) (by lia);rw[this];exact fin m _ hp m1 (by lia) m3
  .rw[RB e1];have:m=1:=by lia
   subst this;refine Lx O hc hp h2 (by rcases m4 with z|z;exact RF z (by lia);exact z) λm p' a b c d=>fin m p' a b c d
end
end L2
namespace L2
open PySem PySem.W PySem.Calls PyProof.Rows
noncomputable def fJ:List Int->List Int->Bool
 | [],[]=>false
 | [],_::_=>true
 |_::_,[]=>false
 |a::x,b::y=>if a=b then fJ x y else decide (a<b)
theorem kI:∀x,fJ x x=false
 | []=>rfl
 |a::x=>by unfold fJ;rw[RC rfl];exact kI x
theorem xL:∀x y,x≠y->fJ x y=false->fJ y x=true
 | [],[],h,_=>RF rfl h
 | [],_::_,_,e=>by cases e
 |_::_,[],_,_=>rfl
 |a::x,b::y,h,e=>by
  unfold fJ at e ⊢
  by_cases ab:a=b
  .subst ab;rw[RC rfl]at e ⊢;exact xL x y (λz=>h (by rw[z])) e
  .rw[RB ab]at e;rw[RB (Ne.symm ab)];have:=RE e;exact Ry (by lia)
theorem rE:∀x y,fJ x y=true->fJ y x=false
 | [],[],e=>by cases e
 | [],_::_,_=>rfl
 |_::_,[],e=>by cases e
 |a::x,b::y,e=>by
  unfold fJ at e ⊢
  by_cases ab:a=b
  .subst ab;rw[RC rfl]at e ⊢;exact rE x y e
  .rw[RB ab]at e;rw[RB (Ne.symm ab)];have:=RD e;exact RA (by lia)
theorem xM:∀x y z,fJ x y=true->fJ y z=true->fJ x z=true
 | [],[],_,e,_=>by cases e
 | [],_::_,[],_,e=>by cases e
 | [],_::_,_::_,_,_=>rfl
 |_::_,[],_,e,_=>by cases e
 |_::_,_::_,[],_,e=>by cases e
 |a::x,b::y,c::z,e,f=>by
  unfold fJ at e f ⊢
  by_cases ab:a=b
  .subst ab;rw[RC rfl]at e
   by_cases ac:a=c
   .subst ac;rw[RC rfl]at f ⊢;exact xM x y z e f
   .rw[RB ac]at f ⊢;exact f
  .rw[RB ab]at e;have e:=RD e
   by_cases bc:b=c
   .subst bc;rw[RB ab];exact Ry e
   .rw[RB bc]at f;have f:=RD f;rw[RB (by lia)];exact Ry (by lia)
section
theorem Jy:∀x y us vs i,ItemsAre (intKind prog w) x us->ItemsAre (intKind prog w) y vs->(x.length<y.length<->fin=true)->Q (fJ x y) s->KatLex prog w A true fin Q (us.zip vs) i s
 | [],[],_,_,i,.nil,.nil,hf,q=>by
   refine kat_nil ?_;have:fin=false:=by cases fin with|false=>rfl|true=>exact RF (hf.mpr rfl) (by simp)
   rw[this];exact q
 | [],_::_,_,_,i,.nil,.cons _ _,hf,q=>by refine kat_nil ?_;rw[hf.mp (by simp)];exact q
 |_::_,[],_,_,i,.cons _ _,.nil,hf,q=>by
  show KatLex prog w A true fin Q [] i s;refine kat_nil ?_;have:fin=false:=by cases fin with|false=>rfl|true=>exact RF (hf.mpr rfl) (by simp)
  rw[this];exact q
 |a::x,b::y,u::us,v::vs,i,.cons h1 t1,.cons h2 t2,hf,q=>by
  obtain⟨t,rfl⟩:∃t,u=.int a t:=by cases u<;>simp[intKind,Uu]at h1;exact⟨_,by rw[h1]⟩
  obtain⟨t',rfl⟩:∃t',v=.int b t':=by cases v<;>simp[intKind,Uu]at h2;exact⟨_,by rw[h2]⟩
  show KatLex prog w A true fin Q ((Tu a t,Tu b t')::us.zip vs) i s;refine kat_cons (wpAny_eqBool_int ?_);unfold fJ at q
  by_cases ab:a=b
  .subst ab;rw[RC rfl]at q;rw[show(a == a)=true by simp];exact kat_yes (Jy x y us vs (i+1) t1 t2 (by simpa using hf) q)
  .rw[RB ab]at q;rw[show(a == b)=false by simp[ab]];refine kat_no ?_
   by_cases hi:i=0
   .subst hi;exact oneLt_int q
   .have:(true&&i == 0)=false:=by simp[hi]
    rw[this];exact kat_one _ _ (PyProof.Rows.lt_int q)
def OJ(hx:Sc (intKind prog w) s.heap kx x)(hy:Sc (intKind prog w) s.heap ky y)(q:Q (fJ kx ky) s):RR (RX prog w) A (keyLt' (tuples' true) (.ref x) (.ref y)) Q E s:=by obtain⟨ox,xs,n,h1,_,h2,h3⟩:=hx;obtain⟨oy,ys,k,h4,_,h5,h6⟩:=hy;refine kat_lt h1 h2 h4 h5 (Jy kx ky _ _ 0 h3 h6 ?_ q);rw[h3.length,h6.length];simp
def v5{B:R9}{m:RJ}{vs:List Zn}{ks:List (List Int)}{n:Nat}(F:Fr B L s.heap m)(ho:s.heap.get? a=some (Tg "list" vs.toArray n))(haL:a≠L)(ha0:B.get? a=none)(hl:ks.length=vs.length)(hv:∀i,i<vs.length->∃x,vs.getD i .none=.ref x/\x≠L/\x≠a/\Sc (intKind prog w) s.heap (ks.getD i []) x/\ks.getD i []≠[])(nd:ks.Nodup)(h2:2<=vs.length)(h64:vs.length<64)(h:∀p h' c,p.toList.Perm (List.range vs.length)->(∀i j,i<j->j<vs.length->fJ (ks.getD (gp p i) []) (ks.getD (gp p j) [])=true)->Fr B L h' m->(∀b o,b≠L->b≠a->s.heap.get? b=some o->h'.get? b=some o)->
   h'.get? a=some (Tg "list" (p.toList.map λi=>vs.getD i .none).toArray c)->P (.done (.ret .none)) {s with heap:=h'}):RR (RX prog w) A (SS.«list.sort» ⟨[.ref a],[]⟩) P E s:=by
 have N:News B L s.heap (rest B s.heap L a):=λp hp=>DP haL ha0 ho p (VU _ hp);refine kat_list_sort F N ho haL ha0 rest_ne h2 h64 λe1 h' F' N'=>?_;have kp:∀b o,b≠L->b≠a->s.heap.get? b=some o->h'.get? b=some o:=kJ F.keep F' λp hp=>N' p (VU _ hp);have key:∀i,i<vs.length->∃x,vs.getD i .none=.ref x/\Sc (intKind prog w) h' (ks.getD i []) x/\ks.getD i []≠[]:=λi hi=>by obtain⟨x,e1,e2,e3,⟨o,items,r,e4,e5⟩,e6⟩:=hv i hi;exact⟨x,e1,⟨o,items,r,kp x o e2 e3 e4,e5⟩,e6⟩
 have hkk:∀i j,i<vs.length->j<vs.length->ks.getD i []=ks.getD j []->i=j:=λi j hi hj e=>by rw[VX,VX,VQ (by lia),VQ (by lia)]at e;exact(List.getElem_inj nd).mp (by simpa using e)
 have O:PL vs.length λi j=>fJ (ks.getD i []) (ks.getD j []):=⟨λx y z _ _ _ h1 h2=>xM _ _ _ h1 h2,λx y _ _ h1=>rE _ _ h1,λx y hx hy ne h1=>xL _ _ (λe=>ne (hkk x y hx hy e)) h1⟩;obtain⟨fs,tp,fl,fi⟩:∃fs,KatTups h' vs fs/\fs.length=vs.length/\∀f∈fs,∃n t,f=Tu n t:=by
  have go:∀(us:List Zn)(f:Nat->List Int),(∀i,i<us.length->∃x,us.getD i .none=.ref x/\Sc (intKind prog w) h' (f i) x/\f i≠[])->∃fs,KatTups h' us fs/\fs.length=us.length/\∀f∈fs,∃n t,f=Tu n t:=by
   intro us
   induction us with
   |nil=>exact λf _=>⟨[],.nil,rfl,λf z=>nomatch z⟩
   |cons u us ih=>
    intro f hf;obtain⟨fs,t1,t2,t3⟩:=ih (λi=>f (i+1)) λi hi=>hf (i+1) (by simpa using hi);obtain⟨x,e1,⟨o,items,r,e4,e5,e6,e7⟩,e8⟩:=hf 0 (by simp);have e1:u=.ref x:=e1;subst e1;generalize f 0=kk at e7 e8;generalize hit:items.toList=its at e7;cases e7 with
    |nil=>exact RF rfl e8
    | @cons k v ks' vs' h1 h2=>
      obtain⟨t,rfl⟩:∃t,v=.int k t:=by cases v<;>simp[intKind,Uu]at h1;exact⟨_,by rw[h1]⟩
      refine⟨.int k t::fs,KatTups.cons e4 e5 e6 ?_ t1,by simp[t2],λf z=>?_⟩
      .rw[<-Ys,hit];rfl
      .rcases VO.mp z with rfl|z
       .exact⟨k,t,rfl⟩
       .exact t3 f z
  exact go vs (λi=>ks.getD i []) key
 refine kat_kind (T:=.type "int") tp (by lia) (λf hf=>?_) (by decide) ?_
 .obtain⟨k,t,rfl⟩:=fi f hf;exact Looks.of_pure rfl
 .show(kas_sort vs.length).kasWp (kas_ask prog w A (tuples' true) vs) _ _;refine Kn O (λi j C hi hj hC=>?_) h2 λp hp up=>?_
  .obtain⟨x,e1,kx,_⟩:=key i hi;obtain⟨y,e2,ky,_⟩:=key j hj;unfold kas_ask;rw[e1,e2];exact OJ (s:={s with heap:=h'}) kx ky hC
  .refine KasFin.intro F' N' (UpdF.head rest_ne) λh'' c F'' N''=>?_;exact h p h'' c hp up F'' (kJ F.keep F'' λq hq=>N'' q (VU _ hq)) (N'' _ (.head _)).1
end
end L2
namespace L2
open PySem PySem.Spec PyProof.Rows
def OS(hu:X.A.units+20<SK)(ho:PE X o td)(hi:PE X i ty)(hs:LS i:=by exact λ_ _=>rfl):PE X (.Subscript o i pos) (Jd td ty):=DE (by lia) ho hi hs
end L2
namespace L2
open PySem PySem.W PySem.Calls PySem.Spec PyProof.Rows
theorem xy{α β:Type}[DecidableEq α](f:α->β):∀{vs:List β}{l:List α},vs.Perm (l.map f)->∃l':List α,l'.Perm l/\vs=l'.map f
 | [],l,h=>by
   have:l=[]:=by have:=h.length_eq;simpa using this.symm
   subst this;exact⟨[],List.Perm.refl _,rfl⟩
 |v::vs,l,h=>by obtain⟨x,hx,rfl⟩:=VP.mp (h.mem_iff.mp VW);have hp:=Xv hx;have h2:vs.Perm ((l.erase x).map f):=(h.trans (hp.map f)).cons_inv;obtain⟨l',p1,rfl⟩:=xy f h2;exact⟨x::l',(List.Perm.cons x p1).trans hp.symm,rfl⟩
def DB{α:Type}(d:α){l:List α}{p:List Nat}(h:p.Perm (List.range l.length)):(p.map λi=>l.getD i d).Perm l:=by
 refine(h.map _).trans (List.Perm.of_eq ?_);apply Wz;intro i;rw[VT]
 by_cases hi:i<l.length
 .rw[Wm hi,VQ hi];simp[VX,hi]
 .rw[Wf (by simpa using hi),Wf (by lia)];rfl
section
variable{prog:RU}{w:RZ}{A:SJ}{E:RK}{s:RQ}
def oS(ho:s.heap.get? a=some (Tg "list" vs.toArray n))(h1:vs.length<2)(h:P (.done (.ret .none)) {s with heap:=sortedHeap s.heap a vs vs.toArray}):RR (RX prog w) A (SS.«list.sort» ⟨[.ref a],[]⟩) P E s:=by
 obtain⟨e1,g1⟩:∃e1,(s.heap.update a (SN λ_=> #[])).get? a=some (Tg "list" #[] e1):=⟨_,get?_update_seq ho (λ_=> #[])⟩;have lt:a<s.heap.objs.size:=RP ho;have g2:(((s.heap.update a (SN λ_=> #[])).push (Tg "tuple" vs.toArray 0)).push (Tg "list" #[] 0)).get? a=some (Tg "list" #[] e1):=RO _ (RO _ g1);have few:vs.toArray.size<2:=by rw[VS];exact h1
 have zz:(vs.toArray.zip vs.toArray).map (·.2)=vs.toArray:=by apply Yw.mp;simp;exact List.map_snd_zip (XD _)
 have sm:vs.toArray.size<=v1:=by rw[RW];lia
 rw[list_sort_plain];refine RM (listItems_at ho rfl (RM (listUpdate_at ho rfl (RM (seqEpoch_at g1 rfl (RM (wpAny_newTuple (RM (wpAny_newList (Sa ?_))))))))));dsimp only;rw[RC few,RC few];refine RM (RN ?_);rw[StateT.run_pure];refine RM (RN ?_);dsimp only;refine RM (seqEpoch_at g2 rfl (RM (listUpdate_at g2 rfl ?_ (hsz2:=?_))))
 .simp only[bne_self_eq_false,Yh,if_false];refine RN ?_;rw[show Array.map (λx=>x.snd) (arrOf (SortSt.mk' general' (vs.toArray.zip vs.toArray) #[] 7 none))=vs.toArray from zz];exact h
 .rw[show Array.map (λx=>x.snd) (arrOf (SortSt.mk' general' (vs.toArray.zip vs.toArray) #[] 7 none))=vs.toArray from zz];lia
structure EF(prog:RU)(w:RZ)(h:R9)(L:Zo)(ps:List (List Int×Zo)):Prop where
 at_:∀p∈ps,p.2≠L/\p.1≠[]/\Sc (intKind prog w) h p.1 p.2
 nd:(ps.map (·.1)).Nodup
def EF.perm(x:EF prog w h L ps)(p:ps'.Perm ps):EF prog w h L ps':=⟨λq hq=>x.at_ q (p.mem_iff.mp hq),(p.map _).nodup_iff.mpr x.nd⟩
def EF.keep(x:EF prog w h L ps)(k:∀b o,b≠L->h.get? b=some o->h'.get? b=some o):EF prog w h' L ps:=⟨λq hq=>let ⟨a,b,o,its,r,e,rr⟩:=x.at_ q hq;⟨a,b,o,its,r,k _ o a e,rr⟩,x.nd⟩
def zw{B:R9}{m:RJ}{ps:List (List Int×Zo)}{Q:RK}(F:Fr B L s.heap m)(T:EF prog w s.heap L ps)(h64:ps.length<64)(q:∀(ps':List (List Int×Zo))(h':R9)(c:Nat),ps'.Perm ps->ps'.Pairwise (λx y=>fJ x.1 y.1=true)->Fr B L h' m->(∀b o,b≠L->s.heap.get? b=some o->h'.get? b=some o)->
   h'.get? s.heap.objs.size=some (Tg "list" (ps'.map λz=>RY z.2).toArray c)->Q .none {s with heap:=h'}):RR (RX prog w) A (SS.«list.sort» ⟨[.ref s.heap.objs.size],[]⟩) (λr s'=>r=.done (.ret .none)/\Q .none s') E {s with heap:=s.heap.push (Tg "list" (ps.map λz=>RY z.2).toArray 0)}:=by
 have hL:L<s.heap.objs.size:=F.ns.lt;have gL:(s.heap.push (Tg "list" (ps.map λz=>RY z.2).toArray 0)).get? s.heap.objs.size=some (Tg "list" (ps.map λz=>RY z.2).toArray 0):=RT _ rfl;have kp:∀b o,s.heap.get? b=some o->(s.heap.push (Tg "list" (ps.map λz=>RY z.2).toArray 0)).get? b=some o:=λb o e=>RO _ e;have F1:Fr B L (s.heap.push (Tg "list" (ps.map λz=>RY z.2).toArray 0)) m:=F.kept kp;have hlen:(ps.map λz=>RY z.2).length=ps.length:=VN ..
 by_cases h2:2<=ps.length
 .have hat:∀i(hi:i<ps.length),(ps.map λz=>RY z.2).getD i .none=.ref (ps.getD i ([],0)).2/\(ps.map (·.1)).getD i []=(ps.getD i ([],0)).1/\ps.getD i ([],0)∈ps:=λi hi=>by simp[VX,VQ hi]
  refine v5 (ks:=ps.map (·.1)) F1 gL (XJ hL) (T2 (XG F.above (XV hL))) (by simp) (λi hi=>?_) T.nd (by rw[hlen];exact h2) (by rw[hlen];exact h64) λp h' c hp up F' k' ga=>?_
  .rw[hlen]at hi;obtain⟨e1,e2,e3⟩:=hat i hi;obtain⟨a1,a2,o,its,r,e,rr⟩:=T.at_ _ e3;exact⟨_,e1,a1,XE (RP e),by rw[e2];exact⟨o,its,r,kp _ _ e,rr⟩,by rw[e2];exact a2⟩
  .rw[hlen]at hp up;have P:=PR.of hp;refine⟨rfl,q (p.toList.map λi=>ps.getD i ([],0)) h' c (DB _ hp) ?_ F' (λb o n e=>k' b o n (XE (RP e)) (kp b o e)) ?_⟩
   .rw[Wl,W1];intro i j hi hj hij;have hi2:i<ps.length:=by rw[<-P.sz];simpa using hi
    have hj2:j<ps.length:=by rw[<-P.sz];simpa using hj
    have z:=up i j hij hj2;have gi:gp p i=p.toList[i]:=by
     have:i<p.size:=by rw[P.sz];exact hi2
     simp[gp,this]
    have gj:gp p j=p.toList[j]:=by
     have:j<p.size:=by rw[P.sz];exact hj2
     simp[gp,this]
    rw[gi,gj]at z;rw[<-(hat _ (by rw[<-gi];exact P.lo i hi2)).2.1,<-(hat _ (by rw[<-gj];exact P.lo j hj2)).2.1];exact z
   .rw[ga,V0];congr 3;refine Wo λi hi=>?_;exact(hat i (V4.mp (hp.mem_iff.mp hi))).1
 .refine oS gL (by rw[hlen];lia) ?_;obtain⟨e,he⟩:=sortedHeap_at (out:=(ps.map λz=>RY z.2).toArray) gL;have k2:∀b o,s.heap.get? b=some o->(sortedHeap (s.heap.push (Tg "list" (ps.map λz=>RY z.2).toArray 0)) s.heap.objs.size (ps.map λz=>RY z.2) (ps.map λz=>RY z.2).toArray).get? b=some o:=λb o e=>by rw[sortedHeap_old (XE (RP e)) (by rw[Se];exact XT (RP e))];exact kp b o e
  refine⟨rfl,q ps _ e (List.Perm.refl _) ?_ (F.kept k2) (λb o _ e=>k2 b o e) he⟩
  match ps,h2 with
  | [],_=>exact List.Pairwise.nil
  | [_],_=>exact Xx ..
  |_::_::_,h=>exact RF (by simp) h
end
section
def uR(prog:RU)(w:RZ)(h:R9)(D:Zo)(ps:List (List Int×Zo)):Prop:= ∃es ep t,eT h D es ep t/\es.toList.Perm (ps.map λp=>(tupleKeyHash (intKind prog w) p.1,RY p.2))/\SG (!w.params.followText "set-order") es.size t
theorem uR.keep(x:uR prog w h D ps)(k:∀o,h.get? D=some o->h'.get? D=some o):uR prog w h' D ps:=let ⟨es,ep,t,h1,r⟩:=x;⟨es,ep,t,h1.keep k,r⟩
theorem B9:∀{l:List (Int×Zn)},(∀e∈l,∃k,El prog w M h k e)->∃ps:List (List Int×Zo),l=ps.map (λp=>(tupleKeyHash (intKind prog w) p.1,RY p.2))/\∀p∈ps,M p.2/\Sc (intKind prog w) h p.1 p.2
 | [],_=>⟨[],rfl,λ_ z=>nomatch z⟩
 |e::l,hl=>by obtain⟨ps,rfl,h1⟩:=B9 λe' he=>hl e' (VU _ he);obtain⟨k,a,h2,rfl,h3⟩:=hl e VW;exact⟨(k,a)::ps,rfl,λp hp=>(VO.mp hp).elim (λz=>z▸⟨h2,h3⟩) (h1 p)⟩
def jw.toP(x:jw prog w M h D S n):∃ps:List (List Int×Zo),uR prog w h D ps/\(∀p∈ps,M p.2/\Sc (intKind prog w) h p.1 p.2)/\(ps.map (·.1)).Nodup/\(∀k,S k=true<->k∈ps.map (·.1))/\ps.length=n:=by
 obtain⟨es,ep,t,o1,st,hm,hz⟩:=x;obtain⟨ps,e,h1⟩:=B9 st.el;refine⟨ps,⟨es,ep,t,o1,List.Perm.of_eq e,st.tg.fits,st.led,st.tg.ris⟩,h1,?_,λk=>?_,?_⟩
 .have z:=st.nd;rw[e,Wl]at z;rw[WN,Wl];refine z.imp_of_mem ?_;intro p p' hp hp' q e2;exact q p.1 ⟨p.2,(h1 p hp).1,rfl,(h1 p hp).2⟩ ⟨p'.2,(h1 p' hp').1,by rw[e2],by rw[e2];exact(h1 p' hp').2⟩
 .rw[hm k,e,VP]
  constructor
  .rintro⟨e',he,z⟩;obtain⟨p,hp,rfl⟩:=VP.mp he;exact⟨p,hp,(El.inj (m:=M) ⟨p.2,(h1 p hp).1,rfl,(h1 p hp).2⟩ z)⟩
  .rintro⟨p,hp,rfl⟩;exact⟨_,VP.mpr ⟨p,hp,rfl⟩,p.2,(h1 p hp).1,rfl,(h1 p hp).2⟩
 .have:=RI List.length e;rw[VN,Yt]at this;lia
def tm(F:Fr B L s.heap m)(hh:A.handled=none)(hS:uR prog w s.heap D ps)(T:EF prog w s.heap L ps)(h64:ps.length<64)(q:∀(ps':List (List Int×Zo))(h':R9)(p:Zo)(e:Nat) d tk,ps'.Perm ps->ps'.Pairwise (λx y=>fJ x.1 y.1=true)->Fr B L h' m->(∀b o,b≠L->s.heap.get? b=some o->h'.get? b=some o)->s.heap.objs.size<=p->h'.get? p=some (Tg "list" (ps'.map λz=>RY z.2).toArray e)->s.toks<=tk->Q (.ref p) {s with heap:=h',drawn:=d,toks:=tk}):RR (RX prog w) A (call (.builtin "sorted") [.ref D]) Q E s:=by
 obtain⟨es,ep,t,o1,hp,g⟩:=hS;have hz:es.size=ps.length:=by have:=hp.length_eq;simpa using this
 refine Calls.call_function_entry kind_sorted plain_sorted entry_sorted (args_sorted1 _) ?_;unfold SS.«sorted»;refine RM (m:=checkCount "sorted" 1 1 _) (RN ?_);refine RM (uF (by exact hh) o1 g (by rw[RW];lia) λvs h1 d1 tk1 hv k1 hsz ht1=>?_);obtain⟨ps1,p1,rfl⟩:=xy (λp:List Int×Zo=>RY p.2) (hv.trans (by
  have z:=hp.map (·.2);rw[V0]at z;exact z))
 refine RM (wpAny_newList ?_ (by rw[VN,p1.length_eq,RW];lia));have gL:(h1.push (Tg "list" (ps1.map λz=>RY z.2).toArray 0)).get? h1.objs.size=some (Tg "list" (ps1.map λz=>RY z.2).toArray 0):=RT _ rfl;refine RM (Sa (Sn slot_list_sort ⟨_,gL,rfl⟩ entry_list_sort (Sx (zw (s:={s with heap:=h1,drawn:=d1,toks:=tk1}) (Q:=λ_ s'=>RR (RX prog w) A.in1 (ret (.ref h1.objs.size)) (λr s''=>∃v,r=.done (.ret v)/\Q v s'') E s') (F.kept k1) ((T.perm p1).keep λb o _ e=>k1 b o e) (by rw[p1.length_eq];exact h64) λps' h' c hp' pw F' k' ga=>?_) (λr s' z=>⟨_,z.1,z.2⟩) λ_ _ z=>z) (args_list_sort _)));exact RN ⟨_,rfl,q ps' h' _ c _ _ (hp'.trans p1) pw F' (λb o n e=>k' b o n (k1 b o e)) (XV hsz) ga ht1⟩
end
def bp.hereS(x:bp P w H h a o):∃u,h.get? a=some u:=by
 cases o with
 |lst xs=>obtain⟨_,_,_,_,e⟩:=x;exact⟨_,e⟩
 |tup xs=>obtain⟨_,_,_,o,e,_⟩:=x;exact⟨_,e⟩
 |dK kvs=>obtain⟨_,_,_,_,o,_,_,e,_⟩:=x;exact⟨_,e⟩
 |dT kvs=>obtain⟨_,_,_,_,o,_,_,e,_⟩:=x;exact⟨_,e⟩
 |set S n=>obtain⟨o,_,_,_,e,_⟩:=x;exact⟨_,e⟩
 |ins C dx fs=>obtain⟨_,_,_,e,_⟩:=x;exact⟨_,e⟩
 |own y=>obtain⟨_,e⟩:=x;exact⟨_,e⟩
 |xd fs=>obtain⟨_,⟨_,_,_,e,_⟩,_⟩:=x;exact⟨_,e⟩
 |rng lo hi=>obtain⟨_,_,_,e⟩:=x;exact⟨_,e⟩
 |frz ob u=>obtain⟨e,_⟩:=x;exact⟨_,e⟩
 |tbl ps=>exact⟨_,(show h.get? a=some _ from x)⟩
 |met f y=>exact⟨_,(show h.get? a=some _ from x)⟩
 |ext φ=>obtain⟨_,⟨_,e⟩,_⟩:=x;exact⟨_,e⟩
section
theorem o9:∀(ps:List (List Int×Zo)),aT (ps.map λz=>V.ref z.2) (ps.map λz=>RY z.2)
 | []=>.nil
 |p::ps=>.cons rfl (o9 ps)
theorem uq:∀{k:List Int}{us:List Zn},aT (k.map V.int) us->ItemsAre (intKind P w) k us
 | [],_,.nil=>.nil
 |n::k,_,.cons r t=>by obtain⟨tk,rfl⟩:=r;exact .cons (intKind_is _ _ _ _) (uq t)
def wW(x:bp P w H h a (.tup (k.map V.int))):Sc (intKind P w) h k a:=by obtain⟨_,its,r,o,ho,hc,n,hd⟩:=x;exact⟨o,_,n,ho,hc,hd,uq r⟩
def Ar{Rv:RL}{σ:St}{H:Hp}{s:RQ}{Q:VK}(I:aJ X Rv σ H s){m:RJ}(F:Fr X.Rw X.env.locals s.heap m){h':R9}{p:Zo}{e tk:Nat}{d:Drawn}{ps':List (List Int×Zo)}(F':Fr X.Rw X.env.locals h' m)(kp:∀b o,b≠X.env.locals->s.heap.get? b=some o->h'.get? b=some o)(hle:s.heap.objs.size<=p)(ga:h'.get? p=some (Tg "list" (ps'.map λz=>RY z.2).toArray e))(hz:ps'.length<64)(q:H p=none->Q (.ref p) (upd H p (.lst (ps'.map λz=>V.ref z.2)))):EP X Rv σ Q (.ref p) {s with heap:=h',drawn:=d,toks:=tk}:=by
 have hD:s.heap.get? p=none:=T2 hle;have hHD:H p=none:=by
  cases z:H p with
  |none=>rfl
  |some u=>
   obtain⟨o,e⟩:=(I.hok p u z).hereS;rw[hD]at e;cases e
 refine⟨.ref p,upd H p (.lst (ps'.map λz=>V.ref z.2)),?_,rfl,q hHD⟩;have hlenZ:(ps'.map λz=>V.ref z.2).length<=v1:=by rw[VN,RW];lia
 have neD:∀b u,H b=some u->b≠p:=λb u e=>aB e hHD;have neLH:∀b u,H b=some u->b≠X.env.locals:=λb u e=>aB e I.free;refine I.step (g':=s.gens) (d':=d) (ch:=[]) (λ_ z=>nomatch z) (λb o n _ _ e _=>kp b o n e) (λb o n _ _ e _=>⟨o.slots,kp b o n e⟩) (λb o _ e n=>?_) (λb o _ e=>?_)
  (λb xs e=>by rw[aq (neD b _ e)];exact e) (λb o u e=>by rw[aq (neD b _ e)];exact e) (λb ps e=>⟨#[],by rw[aq (neD b _ e),e];simp⟩) (λm' hm=>?_) (λb u e=>?_) I.bare
 .rw[aq (λz=>by rw[z,hD]at e;cases e)];exact n
 .by_cases hb:b=X.env.locals
  .obtain⟨o',_,_,e',_⟩:=F'.ns;rw[hb];exact⟨o',e'⟩
  .exact⟨o,kp b o hb e⟩
 .rw[hm.eq_nsMap,<-F.ns.eq_nsMap];exact F'.ns
 .by_cases hb:b=p
  .subst hb;rw[ag]at e;cases e;exact⟨hlenZ,_,_,o9 ps',by simpa[Tg]using ga⟩
  .rw[aq hb]at e;refine(I.hok b u e).stay (λb' v hb' z=>kp b' v ?_ z) (λb' z=>by rw[aq (neD b' _ z)];exact z) λb' xs z=>by rw[aq (neD b' _ z)];exact z
   rcases hb' with rfl|hb'
   .exact neLH _ _ e
   .exact neLH _ _ hb'
def tD(P:RU)(w:RZ)(K:Frag)(xs:List V)(H:Hp)(Q:VK):Prop:= ∃(d:Zo)(ps:List (List Int×Zo)),xs=[.ref d]/\aR K H d (ps.map λz=>V.ref z.2)/\(∀p∈ps,H p.2=some (.tup (p.1.map V.int)))/\ps.length+1<307/\
 ∀(q:Zo)(ps':List (List Int×Zo)),H q=none->(∀p∈ps',p∈ps)->(ps'.map (·.1)).Nodup->(∀k,k∈ps'.map (·.1)<->k∈ps.map (·.1))->Q (.ref q) (upd H q (.ext λh=>uR P w h q ps'))
def mW(P:RU)(w:RZ)(xs:List V)(H:Hp)(Q:VK):Prop:= ∃d ps,xs=[.ref d]/\H d=some (.ext λh=>uR P w h d ps)/\(∀p∈ps,p.1≠[]/\H p.2=some (.tup (p.1.map V.int)))/\(ps.map (·.1)).Nodup/\ps.length<64/\
 ∀(ps':List (List Int×Zo))(q:Zo),ps'.Perm ps->ps'.Pairwise (λx y=>fJ x.1 y.1=true)->H q=none->Q (.ref q) (upd H q (.lst (ps'.map λz=>V.ref z.2)))
def J9{Rv:RL}{σ:St}{H:Hp}{s:RQ}(I:aJ X Rv σ H s){ps:List (List Int×Zo)}(hp:∀p∈ps,p.1≠[]/\H p.2=some (.tup (p.1.map V.int)))(nd:(ps.map (·.1)).Nodup):EF X.prog X.w s.heap X.env.locals ps:=
 ⟨λp h=>⟨aB (hp p h).2 I.free,(hp p h).1,wW (I.hok _ _ (hp p h).2)⟩,nd⟩
def uI(hh:X.A.handled=none):bf X (.builtin "sorted") (mW X.prog X.w):=by intro Rv s σ H xs us Q I r h;obtain⟨d,ps,rfl,hd,hp,nd,h64,q⟩:=h;obtain⟨u,rfl,rx⟩:=dU r;cases rx;obtain⟨pS,_,_⟩:=(show bp X.prog X.w H s.heap d (.ext _)from I.hok d _ hd);obtain⟨m,F⟩:=I.fr;refine tm F hh pS (J9 I hp nd) h64 λps' h' p e dr tk a1 a2 F' kp hle ga _=>?_;exact Ar I F F' kp hle ga (by rw[a1.length_eq];exact h64) (q ps' p a1 a2)
def wB(hh:X.A.handled=none)(hu:X.A.units+4<SK):bf X (.type "set") (tD X.prog X.w X.K):=by
 intro Rv s σ H xs us Q I r h;obtain⟨d,ps,rfl,hq,hp,hb,q⟩:=h;obtain⟨u,rfl,rx⟩:=dU r;cases rx;obtain⟨its,r',pl,hz⟩:=I.list hq;have hlen:=r'.length;rw[VN]at hlen;have hs:its.toArray.size=ps.length:=by rw[VS,<-hlen]
 have hM:∀p∈ps,Sc (intKind X.prog X.w) s.heap p.1 p.2:=λp h=>wW (I.hok _ _ (hp p h));refine yO (λa=>∃p∈ps,p.2=a) (λi=>(ps.getD i ([],0)).1) hh pl.isList hu (λi v hv=>?_) (λa ⟨p,hp1,e⟩=>?_) (by rw[hs];exact hb) λh2 tk hS kp=>?_
 .rw[Xg]at hv;have hi:i<its.length:=(V5.mp hv).1;have hi2:i<ps.length:=by lia
  have hx:(ps.map λz=>V.ref z.2)[i]? =some (.ref ps[i].2):=by rw[VT,VQ hi2];rfl
  obtain⟨u,hu,ru⟩:=r'.get hx;rw[hv]at hu;cases hu;have eg:ps.getD i ([],0)=ps[i]:=by simp[VX,hi2]
  rw[eg];exact⟨_,ru,⟨_,V7 hi2,rfl⟩,hM _ (V7 hi2)⟩
 .obtain⟨o,_,_,ho,_⟩:=hM p hp1;rw[<-e];exact RP ho
 .rw[hs]at hS;have k2:∀b u,s.heap.get? b=some u->h2.get? b=some u:=λb u e=>kp b u (RP e) e;obtain⟨ps',s1,s2,s3,s4,_⟩:=hS.toP;have ho:∃o,h2.get? s.heap.objs.size=some o:=let ⟨_,_,_,⟨o,h1,_⟩,_⟩:=s1;⟨o,h1⟩;refine⟨.ref s.heap.objs.size,_,I.laid (t':=tk) k2 (XD _) (show bp X.prog X.w _ h2 _ (.ext λh=>uR X.prog X.w h s.heap.objs.size ps')from⟨s1,ho,λh1 h2 e k=>e.keep k⟩),rfl,q _ ps' (I.hok.fresh (XD _)) (λp h=>?_) s3 λk=>?_⟩
  .obtain⟨⟨p2,h2p,e2⟩,kk⟩:=s2 p h;obtain⟨o,items,n,g1,rr⟩:=hM p2 h2p;have:p2.1=p.1:=IsTupleKey.inj (knd:=intKind X.prog X.w) (h:=h2) (a:=p.2) (e2▸⟨o,items,n,k2 _ _ g1,rr⟩) kk;have:p2=p:=Prod.ext this e2;exact this▸h2p
  .rw[<-s4 k,decide_eq_true_eq,nJ,VP,VP]
   constructor
   .rintro⟨i,hi,rfl⟩;have hi2:=V4.mp hi;exact⟨ps[i],V7 hi2,by simp[VX,hi2]⟩
   .rintro⟨p,h,rfl⟩;obtain⟨i,hi,rfl⟩:=Wu h;exact⟨i,V4.mpr hi,by simp[VX,hi]⟩
end
end L2
namespace L2
open PySem PySem.Spec PyProof.Rows
section
variable{X:Cx}
def Py(to te:TE):TE:=λσ H Q=>to σ H λx H1=>match x with
 | .ref l=>(∃xs,H1 l=some (.lst xs))/\te σ H1 λy H2=>∃b xs zs,y=.ref b/\H2 l=some (.lst xs)/\H2 b=some (.lst zs)/\xs.length+zs.length<=v1/\Q .non (upd H2 l (.lst (xs++zs)))
 |_=>False
def Cm{apos cpos:Vb}(ho:PE X o to)(he:PE X e te)(hbase:SE o "extend" X.env (Sr o X.env)=Sr o X.env:=by rfl)(hfew:((Sj cpos (RS [e] X.env)).all (λx=> !x.1)&&(TQ cpos (S6 [] X.env)).all (λx=>x.1.isSome)
   &&decide ([e].length+([]:List Tw).length+(if([]:List Tw).isEmpty then 0 else 1)<30))=true:=by rfl) (hline:(apos.endLine == cpos.line)=true:=by rfl) (hs:RS [e] X.env=(false,Sr e X.env)::RS [] X.env:=by rfl) (hplain:(Sj cpos (RS [] X.env)).any (·.1)=false:=by rfl):PE X (.Call (.Attribute o "extend" apos) [e] [] cpos) (Py to te):=by
 intro Rv s σ H Q I h;refine SH hbase hfew hline rfl (bL (ho Rv s σ H _ I h) λv s1 ⟨x,H1,I1,r1,q1⟩=>?_);cases x with
 |ref l=>
  obtain⟨⟨xs0,e0⟩,q1⟩:=q1;have ty:IZ X.K "list" (.ref l) H1:=.inl ⟨rfl,xs0,aR.of e0⟩;obtain⟨h1,h2⟩:=jV I1 r1 ty;refine⟨"list","list.extend",PySem.F.plainAttrs_list,PySem.F.slot_list_extend,PySem.F.type_list_extend,h1,h2,?_⟩;have hA:=(pa_cons he pan hs:PA X [e] (aN te bG)) cpos Rv s1 σ H1 (λvs H2=>mz (.ref l) vs H2 Q) I1 (by
   show te σ H1 λy H2=>mz (.ref l) [y] H2 Q;have:(λ(y:V)(H2:Hp)=>∃b xs zs,y=.ref b/\H2 l=some (.lst xs)/\H2 b=some (.lst zs)/\xs.length+zs.length<=v1/\Q .non (upd H2 l (.lst (xs++zs))))=λy H2=>mz (.ref l) [y] H2 Q:=by
    funext y H2;apply propext
    constructor
    .rintro⟨b,xs,zs,rfl,z⟩;exact⟨l,b,xs,zs,rfl,rfl,z⟩
    .rintro⟨l',b,xs,zs,e1,e2,z⟩;cases e1;have:y=.ref b:=by injection e2
     exact⟨b,xs,zs,this,z⟩
   rw[<-this];exact q1)
  rw[hs]at hA ⊢;refine Sw (by show(false||(Sj cpos (RS [] X.env)).any (·.1))=false;rw[hplain]<;>rfl) (SD ?_)
  exact bL hA λus s2 ⟨vs,H2,I2,r2,q3⟩=>zx Rv s2 σ H2 _ vs v us Q I2 r1 r2 q3
 |_=>exact q1.elim
def OP(P:RU)(w:RZ)(K:Frag)(hr:cw j X.A)(hP:X.prog=P:=by rfl)(hw:X.w=w:=by rfl)(hK:X.K=K:=by rfl):bf X (.type "set") (tD P w K):=by subst hP hw hK;exact wB hr.hd (by have:=hr.units;lia)
def K7(P:RU)(w:RZ)(hr:cw j X.A)(hP:X.prog=P:=by rfl)(hw:X.w=w:=by rfl):bf X (.builtin "sorted") (mW P w):=by subst hP hw;exact uI hr.hd
end
section
variable{P:RU}{w:RZ}{K:Frag}{σ:St}{H:Hp}{Q:VK}{te to:TE}{u:TS}
def vi(h:te σ H λv H1=>tD P w K [v] H1 λu H2=>mW P w [u] H2 Q):cB (mW P w) (aN (cB (tD P w K) (aN te bG)) bG) σ H Q:=h
noncomputable def pk(x:Int×Int):List Int:=[x.1,x.2]
def KA(h:pk x=pk y):x=y:=by unfold pk at h;injection h with h1 h2;injection h2 with h2 _;exact Prod.ext h1 h2
def vk{ps:List (List Int×Zo)}(hd:aR K H d (ps.map λz=>V.ref z.2))(hp:∀p∈ps,p.1≠[]/\H p.2=some (.tup (p.1.map V.int)))(hl:ps.length+1<307)(h64:∀l:List (List Int),l.Nodup->(∀k,k∈l<->k∈ps.map (·.1))->l.length<64)(q:∀(ps':List (List Int×Zo))(q:Zo)(H':Hp),(∀p∈ps',p∈ps)->(∀k,k∈ps'.map (·.1)<->k∈ps.map (·.1))->ps'.Pairwise (λx y=>fJ x.1 y.1=true)->H q=none->aj H H'->H' q=some (.lst (ps'.map λz=>V.ref z.2))->Q (.ref q) H'):tD P w K [.ref d] H λu H2=>mW P w [u] H2 Q:=by
 refine⟨d,ps,rfl,hd,λp h=>(hp p h).2,hl,λq1 ps1 hq1 sub nd mem=>?_⟩;have z1:ps1.length<64:=by have:=h64 _ nd mem;rwa[VN]at this
 refine⟨q1,ps1,rfl,ag,λp h=>⟨(hp p (sub p h)).1,?_⟩,nd,z1,λps2 q2 pm pw hq2=>?_⟩
 .rw[aq (aB (hp p (sub p h)).2 hq1)];exact(hp p (sub p h)).2
 .have n12:q2≠q1:=λz=>by rw[z,ag]at hq2;cases hq2
  have hq2':H q2=none:=by rw[aq n12]at hq2;exact hq2
  refine q ps2 q2 _ (λp h=>sub p (pm.mem_iff.mp h)) (λk=>?_) pw hq2' (((aj.refl H).upd hq1).upd hq2) ag;rw[<-mem k];exact(pm.map _).mem_iff
end
noncomputable def sdV(row:Str)(s:Int):V:=di (row.cps.toList.getD s.toNat 0)
noncomputable def fW(row:Str)(sd:Int)(aim:Str):List Int->List (Int×Int)
 | []=>[]
 |g::r=>if sdV row g=.non then(if aim="hit"then fW row sd aim r else(g, -1)::fW row sd aim r)else if¬sdV row g=.int sd/\¬aim="go"then [(g,g)]else []
noncomputable def nP(row:Str)(sd:Int):List Int->List (Int×Int)
 |g::b::_=>if sdV row g=.int (1 - sd)/\sdV row b=.non then [(b,g)]else []
 |_=>[]
theorem lb(row:Str)(sd:Int)(aim:Str):∀l,(fW row sd aim l).length<=l.length
 | []=>XD _
 |g::r=>by
  have:=lb row sd aim r;unfold fW;split
  .split<;>simp<;>lia
  .split<;>simp
def pP(row:Str)(sd:Int):∀l,(nP row sd l).length<=1
 | []=>XF _
 | [_]=>XF _
 |g::b::r=>by
  show(if sdV row g=.int (1 - sd)/\sdV row b=.non then [(b,g)]else []).length<=1;split
  .exact XD _
  .exact XF _
def cX(H H':Hp)(q:Zo)(l:List (Int×Int)):Prop:= ∃ps:List (List Int×Zo),ps.map (·.1)=l.map pk/\H' q=some (.lst (ps.map λz=>V.ref z.2))/\∀p∈ps,H p.2=none/\H' p.2=some (.tup (p.1.map V.int))
def mY:fW row sd aim (g::r)=if sdV row g=.non then(if aim="hit"then fW row sd aim r else(g, -1)::fW row sd aim r)else if¬sdV row g=.int sd/\¬aim="go"then [(g,g)]else []:=rfl
structure RowS(row:Str):Prop where
 len:row.length<=64
 asc:∀c∈row.cps.toList,c<128
def AM(K:Frag):Sp:=λvs H Q _=>∃(row aim:Str)(sd:Int)(p:Zo)(path:List Int),vs=[.str row,.int sd,.str aim,.ref p]/\aR K H p (path.map V.int)/\RowS row/\(∀g∈path,0<=g/\g<row.length)/\path.length<=8/\
 ∀(q:Zo)(H':Hp),H q=none->cX H H' q (fW row sd aim path)->aj H H'->Q (.ref q) H'
def AR(K:Frag):Sp:=λvs H Q _=>∃(row:Str)(sd:Int)(p:Zo)(path:List Int),vs=[.str row,.int sd,.ref p]/\aR K H p (path.map V.int)/\RowS row/\(∀g∈path,0<=g/\g<row.length)/\(sd=0\/sd=1)/\
 ∀(q:Zo)(H':Hp),H q=none->cX H H' q (nP row sd path)->aj H H'->Q (.ref q) H'
structure CRs(P:RU)(w:RZ)(K:Frag)(mg:RJ)(Rw:R9):Prop where
 side_of:cZ P w K mg Rw "side_of" ["sign"] 1 mT
def RowS.at{row:Str}(R:RowS row){s:Int}(h0:0<=s)(h1:s<row.length):atI row.cps.toList s=some (row.cps.toList.getD s.toNat 0)/\row.cps.toList.getD s.toNat 0<128:=by
 have hl:s.toNat<row.cps.toList.length:=by have:row.length=row.cps.toList.length:=rfl;lia
 have e:row.cps.toList[s.toNat]? =some (row.cps.toList.getD s.toNat 0):=by rw[VX,VQ hl];rfl
 have z:=bz e;rw[Yb h0]at z;exact⟨z,R.asc _ (Wa e)⟩
def cX.nil:cX H (upd H q (.lst [])) q []:=⟨[],rfl,ag,λ_ z=>nomatch z⟩
def cX.add{l:List (Int×Int)}{x y:Int}{ps:List (List Int×Zo)}(h1:ps.map (·.1)=l.map pk)(h2:H1 q=some (.lst (ps.map λz=>V.ref z.2)))(h3:∀p∈ps,H p.2=none/\H1 p.2=some (.tup (p.1.map V.int)))(s:aj H H1)(ht:H1 t=none):cX H (upd (upd H1 t (.tup [.int x,.int y])) q (.lst ((ps.map λz=>V.ref z.2)++[.ref t]))) q (l++[(x,y)]):=by
 have hqt:q≠t:=λz=>by rw[<-z,h2]at ht;cases ht
 refine⟨ps++[([x,y],t)],by rw[VZ,VZ,h1];rfl,by rw[ag,VZ];rfl,λp hp=>?_⟩
 rcases VY.mp hp with z|z
 .obtain⟨a1,a2⟩:=h3 p z;refine⟨a1,?_⟩;rw[aq (λw=>by rw[w]at a2;rw[h2]at a2;cases a2),aq (λw=>by rw[w,ht]at a2;cases a2)];exact a2
 .rw[VR.mp z];refine⟨?_,by rw[aq (Ne.symm hqt),ag];rfl⟩;cases w:H t with
  |none=>rfl
  |some u=>have:=s t u w;rw[ht]at this;cases this
def sR(h:t σ H λc H1=>if c=true then R true H1 else u σ H1 R):L4 t u σ H R:=h
section
variable{K:Frag}{c:Nat}{H:Hp}{Q:VK}
def Do:gf K .NotEq (di c) (.int sd) H Q=Q (.bl (!decide (di c=.int sd))) H:=by
 unfold di
 by_cases h:c=46\/c=35
 .rw[RC h];show Q (.bl true) H=Q (.bl (!decide (V.non=V.int sd))) H;rw[RA (by intro z;cases z)];rfl
 .rw[RB h];show Q (.bl (!decide (_=sd))) H=Q (.bl (!decide (V.int _=V.int sd))) H;have:∀i:Int,decide (i=sd)=decide (V.int i=V.int sd):=λi=>by
   by_cases e:i=sd
   .rw[Ry e,Ry (RI V.int e)]
   .rw[RA e,RA (λz=>e (by injection z))]
  rw[this]
def vj:gf K .IsNot (di c) .non H Q=Q (.bl (!decide (di c=.non))) H:=by
 unfold di
 by_cases h:c=46\/c=35
 .rw[RC h];show Q (.bl false) H=Q (.bl (!decide (V.non=V.non))) H;rw[Ry rfl];rfl
 .rw[RB h];show Q (.bl true) H=Q (.bl (!decide (V.int _=V.non))) H;rw[RA (by intro z;cases z)];rfl
end
def Jb(hc:Tv t σ H b)(h1:b=true->ta σ H Q)(h2:b=false->tb σ H Q):Oo t ta tb σ H Q:=hc _ (by
 cases b with
 |true=>exact iL (h1 rfl)
 |false=>exact hG (h2 rfl))
noncomputable def wF(row:Str)(sd:Int)(so ai:Str)(path:List Int):List (Int×Int):=if so="jump"then nP row sd path else fW row sd ai (if so="leap"then path.take 1 else path)
def Et(row:Str)(sd:Int)(so ai:Str)(h:path.length<=8):(wF row sd so ai path).length<=8:=by
 unfold wF;split
 .have:=pP row sd path;lia
 .have:=lb row sd ai (if so="leap"then path.take 1 else path);have:(if so="leap"then path.take 1 else path).length<=8:=by
   split
   .rw[V8];lia
   .exact h
  lia
structure bw where
 kd:Str
 so:Str
 ai:Str
 ax:Int
 up:Int
noncomputable abbrev bw.vs(r:bw):List V:=[.str r.kd,.str r.so,.str r.ai,.int r.ax,.int r.up]
noncomputable abbrev bw.dy(r:bw)(sd:Int):Int:=if sd=0 then r.up else -r.up
def tf(K:Frag)(cB:Zo):Sp:=λvs H Q _=>∃(b r:Zo)(row:Str)(sq sd wi hi:Int)(hs:List Int)(u:bw),vs=[.ref b,.str row,.int sq,.ref r]/\bU K cB H b wi hi hs/\dF K H r u.vs/\RowS row/\(row.length:Int)=wi*hi/\0<=sq/\sq<wi*hi/\
 sdV row sq=.int sd/\(sd=0\/sd=1)/\¬(u.ax=0/\u.up=0)/\∀(n:Nat)(q:Zo)(H':Hp),kU wi hi hs sq u.ax (u.dy sd) n->n<=8->H q=none->cX H H' q (wF row sd u.so u.ai (fG wi sq u.ax (u.dy sd) n))->aj H H'->Q (.ref q) H'
structure CRb(P:RU)(w:RZ)(K:Frag)(mg:RJ)(Rw:R9)(cB:Zo):Prop extends CRs P w K mg Rw where
 ray:cZ P w K mg Rw "ray" ["board","square","across","up"] 3 (Je K cB)
 jumped:cZ P w K mg Rw "jumped" ["row","side","path"] 2 (AR K)
 slid:cZ P w K mg Rw "slid" ["row","side","aim","path"] 2 (AM K)
def vB(w1:1<=wi)(R:kU wi hi hs s ax up n):∀g∈fG wi s ax up n,0<=g/\g<wi*hi/\¬g∈hs:=λg hg=>by
 unfold fG at hg;obtain⟨j,hj,rfl⟩:=VP.mp hg;obtain⟨a,b,c,d,e⟩:=R.1 j (V4.mp hj);refine⟨?_,?_,e⟩
 .unfold qy;have:=X9 c (by lia:0<=wi);lia
 .unfold qy;have z:(s / wi+((j+1:Nat):Int)*up)*wi<=(hi - 1)*wi:=Yc (by lia) (by lia);rw[Int.sub_mul,X8,X6 hi wi]at z;lia
def cX.from(h:cX H1 H' q l)(s:aj H H1):cX H H' q l:=by
 obtain⟨ps,a,b,c⟩:=h;refine⟨ps,a,b,λp hp=>⟨?_,(c p hp).2⟩⟩;cases w:H p.2 with
 |none=>rfl
 |some u=>have:=s _ u w;rw[(c p hp).1]at this;cases this
def Jn(h:t σ H λvs H1=>sp vs H1 D.rt E0):cD (gQ sp t) D σ H:=h
def Pl(xs:List Int):oU (xs.map V.int) none (some 1)=(xs.take 1).map V.int:=by
 unfold oU;rw[HT.sIx_none];have:HT.sIx (xs.map V.int).length (xs.map V.int).length (some 1)=min 1 (xs.map V.int).length:=HT.sIx_nat _ _ 1;rw[this,WZ,Nat.sub_zero,List.map_take];cases xs with
 |nil=>rfl
 |cons a l=>simp
def aj.tupY{K:Frag}{H H':Hp}{a:Zo}{xs:List V}(e:aj H H')(h:dF K H a xs):dF K H' a xs:=by
 rcases h with(h|⟨o,h⟩)|h
 .exact .inl (.inl (e _ _ h))
 .exact .inl (.inr ⟨o,e _ _ h⟩)
 .exact .inr h
def dQ(H:Hp)(us:List (bw×Zo)):Prop:= ∀z∈us,H z.2=some (.tup z.1.vs)
def dQ.same(h:dQ H us)(s:aj H H'):dQ H' us:=λz hz=>s _ _ (h z hz)
noncomputable abbrev rRefs(us:List (bw×Zo)):List V:=us.map λz=>V.ref z.2
noncomputable def ofKind(us:List (bw×Zo))(kd:Str):List (bw×Zo):=us.filter λz=>decide (z.1.kd=kd)
noncomputable def Qa(us:List (bw×Zo))(kd:Str)(v:V):Bool:=us.any λz=>decide (V.ref z.2=v/\z.1.kd=kd)
def BB(h:dQ H us)(hz:z∈us):Qa us kd (.ref z.2)=decide (z.1.kd=kd):=by
 unfold Qa
 by_cases e:z.1.kd=kd
 .rw[Ry e,Wv];exact⟨z,hz,Ry ⟨rfl,e⟩⟩
 .rw[RA e,WD];intro y hy w;obtain⟨e1,e2⟩:=RD w;have e1:y.2=z.2:=by injection e1
  have a:=h y hy;rw[e1,h z hz]at a;injection a with a;injection a with a;injection a with a _;injection a with a;exact e (a.trans e2)
def v7(h:dQ H us):(rRefs us).filter (Qa us kd)=rRefs (ofKind us kd):=by unfold rRefs ofKind;rw[List.filter_map];congr 1;refine Xy λz hz=>?_;exact BB h hz
def pi(cG:Zo):Sp:=λvs H Q _=>∃g b kd ks ts es st us,vs=[.ref g,.str kd]/\fV cG H g b ks (rRefs us) ts es st/\dQ H us/\us.length<=24/\
 ∀q H',H q=none->H' q=some (.lst (rRefs (ofKind us kd)))->aj H H'->Q (.ref q) H'
def jx(wi hi:Int)(hs:List Int)(row:Str)(sq sd:Int)(u:bw)(l:List (Int×Int)):Prop:= ∃n:Nat,kU wi hi hs sq u.ax (u.dy sd) n/\n<=8/\l=wF row sd u.so u.ai (fG wi sq u.ax (u.dy sd) n)
theorem jx.uniq(h:jx wi hi hs row sq sd u l)(h':jx wi hi hs row sq sd u l'):l=l':=by obtain⟨n,a,_,rfl⟩:=h;obtain⟨m,b,_,rfl⟩:=h';rw[a.uniq b λ_=>Iff.rfl]
def jx.len(h:jx wi hi hs row sq sd u l):l.length<=8:=by obtain⟨n,a,b,rfl⟩:=h;exact Et _ _ _ _ (by rw[kC];exact b)
inductive a9(wi hi:Int)(hs:List Int)(row:Str)(sq sd:Int):List (bw×Zo)->List (Int×Int)->Prop
 |nil:a9 wi hi hs row sq sd [] []
 |cons {z us l r}:jx wi hi hs row sq sd z.1 l->a9 wi hi hs row sq sd us r->a9 wi hi hs row sq sd (z::us) (l++r)
theorem a9.uniq:∀{us:List (bw×Zo)}{l l':List (Int×Int)},a9 wi hi hs row sq sd us l->a9 wi hi hs row sq sd us l'->l=l'
 |_,_,_,.nil,.nil=>rfl
 |_,_,_,.cons a b,.cons c d=>by rw[a.uniq c,a9.uniq b d]
theorem a9.len:∀{us:List (bw×Zo)}{l:List (Int×Int)},a9 wi hi hs row sq sd us l->l.length<=8*us.length
 |_,_,.nil=>XF _
 |_,_,.cons a b=>by have:=a.len;have:=a9.len b;rw[VV,V1];lia
theorem a9.add(h:jx wi hi hs row sq sd z.1 l):∀{us:List (bw×Zo)}{r:List (Int×Int)},a9 wi hi hs row sq sd us r->a9 wi hi hs row sq sd (us++[z]) (r++l)
 |_,_,.nil=>by
  have:=a9.cons h a9.nil
  rwa[V9]at this
 |_,_,.cons a b=>by rw[Wi];exact .cons a (a9.add h b)
def uQ(l l':List (Int×Int)):Prop:=(∀x,x∈l'<->x∈l)/\l'.Pairwise λx y=>fJ (pk x) (pk y)=true
def uQ.uniq:∀{a b:List (Int×Int)},uQ l a->uQ l b->a=b:=by
 have key:∀(a b:List (Int×Int)),(∀x,x∈a<->x∈b)->a.Pairwise (λx y=>fJ (pk x) (pk y)=true)->b.Pairwise (λx y=>fJ (pk x) (pk y)=true)->a=b:=by
  intro a
  induction a with
  |nil=>
   intro b h _ _;cases b with
   |nil=>rfl
   |cons y b=>exact RF ((h y).mpr VW) (by simp)
  |cons x a ih=>
   intro b h pa pb;cases b with
   |nil=>exact RF ((h x).mp VW) (by simp)
   |cons y b=>
    obtain⟨a1,a2⟩:=WG.mp pa;obtain⟨b1,b2⟩:=WG.mp pb;have e:x=y:=by
     rcases VO.mp ((h x).mp VW)with z|z
     .exact z
     .rcases VO.mp ((h y).mpr VW)with w|w
      .exact w.symm
      .have t1:=b1 x z;have t2:=a1 y w;rw[rE _ _ t1]at t2;cases t2
    subst e;rw[ih b (λz=>?_) a2 b2]
    constructor
    .intro hz
     rcases VO.mp ((h z).mp (VU _ hz))with w|w
     .rw[w]at hz;have:=a1 x hz;rw[kI]at this;cases this
     .exact w
    .intro hz
     rcases VO.mp ((h z).mpr (VU _ hz))with w|w
     .rw[w]at hz;have:=b1 x hz;rw[kI]at this;cases this
     .exact w
 intro a b ha hb;exact key a b (λx=>(ha.1 x).trans (hb.1 x).symm) ha.2 hb.2
def qB(K:Frag)(cB cG:Zo):Sp:=λvs H Q _=>∃g b row kd sq sd wi hi hs ks ts es st us,vs=[.ref g,.str row,.int sq]/\fV cG H g b ks (rRefs us) ts es st/\bU K cB H b wi hi hs/\dQ H us/\us.length<=12/\(∀z∈us,¬(z.1.ax=0/\z.1.up=0))/\
 RowS row/\(row.length:Int)=wi*hi/\0<=sq/\sq<wi*hi/\sdV row sq=.int sd/\(sd=0\/sd=1)/\lP (row.cps.toList.getD sq.toNat 0)=.str kd/\(∀l,a9 wi hi hs row sq sd (ofKind us kd) l->∀m:List (Int×Int),m.Nodup->(∀x∈m,x∈l)->m.length<64)/\
 ∀l l' q H',a9 wi hi hs row sq sd (ofKind us kd) l->uQ l l'->H q=none->cX H H' q l'->aj H H'->Q (.ref q) H'
structure CRg(P:RU)(w:RZ)(K:Frag)(mg:RJ)(Rw:R9)(cB cG:Zo):Prop where
 kind_of:cZ P w K mg Rw "kind_of" ["sign"] 1 vg
 by_rule:cZ P w K mg Rw "by_rule" ["board","row","square","rule"] 4 (tf K cB)
 Game_rules_of:j6 P w K mg Rw cG "rules_of" ["self","kind"] 1 (pi cG)
theorem J0{l:List (Int×Int)}:∀{L:List (List Int)},(∀k∈L,k∈l.map pk)->∃m:List (Int×Int),L=m.map pk/\∀x∈m,x∈l
 | [],_=>⟨[],rfl,λ_ z=>nomatch z⟩
 |k::L,h=>by obtain⟨m,rfl,hm⟩:=J0 λk' hk'=>h k' (VU _ hk');obtain⟨x,hx,rfl⟩:=VP.mp (h k VW);exact⟨x::m,rfl,λy hy=>(VO.mp hy).elim (λz=>z▸hx) (hm y)⟩
def cX.cat{l l2:List (Int×Int)}{ps ps2:List (List Int×Zo)}(h1:ps.map (·.1)=l.map pk)(h2:H2 q=some (.lst (ps.map λz=>V.ref z.2)))(h3:∀p∈ps,H p.2=none/\H2 p.2=some (.tup (p.1.map V.int)))(s:aj H H1)(g1:ps2.map (·.1)=l2.map pk)(g3:∀p∈ps2,H1 p.2=none/\H2 p.2=some (.tup (p.1.map V.int))):cX H (upd H2 q (.lst ((ps.map λz=>V.ref z.2)++ps2.map λz=>V.ref z.2))) q (l++l2):=by
 refine⟨ps++ps2,by rw[VZ,VZ,h1,g1],by rw[ag,VZ],λp hp=>?_⟩;have ne:∀{p:Zo}{xs:List V},H2 p=some (.tup xs)->p≠q:=λa e=>by rw[e,h2]at a;cases a
 rcases VY.mp hp with z|z
 .obtain⟨a1,a2⟩:=h3 p z;exact⟨a1,by rw[aq (ne a2)];exact a2⟩
 .obtain⟨a1,a2⟩:=g3 p z;exact⟨s.free a1,by rw[aq (ne a2)];exact a2⟩
def JJ(ho:Ev to σ H (.ref l))(hl:H l=some (.lst xs))(q:te σ H λy H2=>∃b xs zs,y=.ref b/\H2 l=some (.lst xs)/\H2 b=some (.lst zs)/\xs.length+zs.length<=v1/\D.nx σ (upd H2 l (.lst (xs++zs)))):jP (Py to te) D σ H:=ho _ ⟨⟨xs,hl⟩,q⟩
def PF(h:t' σ H λvs H1=>sp vs H1 (λx H2=>t σ H2 λxs H3=>R (x::xs) H3) E0):aN (gQ sp t') t σ H R:=h
structure kT(H:Hp)(d:Zo)(ks:List Nat):Prop where
 at_:H d=some (.lst (ks.map strV))
 ltr:∀k∈ks,j7 k
 l1:1<=ks.length
 l6:ks.length<=6
 nd:ks.Nodup
def kT.same(h:kT H d ks)(s:aj H H'):kT H' d ks:=⟨s _ _ h.at_,h.ltr,h.l1,h.l6,h.nd⟩
def xv{ss:List Str}{i:Int}(h0:0<=i)(h1:i<ss.length):∃s,atI (ss.map V.str) i=some (.str s)/\s∈ss:=by obtain⟨v,e1,e2⟩:=Jt (xs:=ss.map V.str) h0 (by rw[VN];exact h1);obtain⟨s,hs,rfl⟩:=VP.mp e2;exact⟨s,e1,hs⟩
def kT.pick(h:kT H d ks)(i:Int):∃k∈ks,atI (ks.map strV) (i % ((ks.map strV).length:Int))=some (strV k):=by
 have hl:(0:Int)<((ks.map strV).length:Int):=by rw[VN];have:=h.l1;lia
 obtain⟨v,e1,e2⟩:=Jt (xs:=ks.map strV) (X3 i (by lia)) (X4 i hl);obtain⟨k,hk,rfl⟩:=VP.mp e2;exact⟨k,hk,e1⟩
def iD(h:Ev te σ H v)(q:ta σ H (λxs H2=>Q (v::xs) H2)):aN te ta σ H Q:=h _ q
def tupY(q:t σ H (λvs H2=>vs.length<=v1/\∀p,H2 p=none->Q (.ref p) (upd H2 p (.tup vs)))):mO t σ H Q:=q
def KW(q:Q [] H):bG σ H Q:=q
structure gR(ks:List Nat)(u:bw):Prop where
 kd:∃c∈ks,u.kd=one c
 so:u.so∈sortsL
 ai:u.ai∈aimsL
 jh:u.so="jump"->u.ai="hit"
 ax: -(if u.so="leap"then 3 else 1)<=u.ax/\u.ax<=(if u.so="leap"then 3 else 1)
 up: -(if u.so="leap"then 3 else 1)<=u.up/\u.up<=(if u.so="leap"then 3 else 1)
 n0:¬(u.ax=0/\u.up=0)
def xg:Sp:=λvs H Q _=>∃c d ks,vs=[.int c,.ref d]/\kT H d ks/\∀t u H',gR ks u->H t=none->H' t=some (.tup u.vs)->aj H H'->Q (.ref t) H'
def mn(H:Hp)(zs:List ((Str×Str)×Zo)):Prop:= ∀z∈zs,H z.2=some (.tup [.str z.1.1,.str z.1.2])
def mn.same(h:mn H zs)(s:aj H H'):mn H' zs:=λz hz=>s _ _ (h z hz)
noncomputable abbrev cA(zs:List ((Str×Str)×Zo)):List V:=zs.map λz=>V.ref z.2
structure lU(ks:List Nat)(zs:List ((Str×Str)×Zo)):Prop where
 len:zs.length<=6
 kd:∀z∈zs,(∃a∈ks,z.1.1=one a)/\∃b∈ks,z.1.2=one b
 nd:(zs.map λz=>z.1.1).Nodup
 ap:∀z∈zs,∀y∈zs,¬z.1.2=y.1.1
def DL(h:one a=one b):a=b:=by unfold one at h;simp only[Str.mk.injEq]at h;have:=RI Array.toList h;simpa using this
def pE(s:aj H H1)(nx:H1 x=none)(nd:H1 dx=none)(sb:SameBut x (upd (upd H1 dx o1) x o2) H'):aj H H':=λb o e=>by have e1:=s b o e;have nbx:=aB e1 nx;have nbd:=aB e1 nd;exact sb b o (by rw[aq nbx,aq nbd];exact e1) nbx
def zJ{ks:List Nat}(h:H q=some (.lst (ks.map strV)))(hl:∀k∈ks,j7 k)(nd:ks.Nodup)(k1:1<=ks.length)(k6:ks.length<=6):nO H (.ref q)=true:=by
 have e:lstOf H (.ref q)=some (ks.map strV):=by simp only[lstOf,h]
 unfold nO;rw[e];dsimp only;rw[VN,Ry ⟨k1,k6⟩,Yj,Ye];refine⟨Wc.mpr λx hx=>?_,Ry ?_⟩
 .obtain⟨k,hk,rfl⟩:=VP.mp hx;exact Ry (p:=97<=k/\k<=122) (hl k hk)
 .rw[V0];exact Wl.mpr (nd.imp λhab e=>hab (qY.mp e))
theorem cZ.imp{P:RU}{w:RZ}{K:Frag}{mg:RJ}{Rw:R9}{name:Str}{ps:List Str}{k:Nat}{sp sp':Sp}(C:cZ P w K mg Rw name ps k sp)(h:∀vs H Q E,sp' vs H Q E->sp vs H Q E):cZ P w K mg Rw name ps k sp':=by obtain⟨f,fd,F,a,b,c⟩:=C.ex;exact⟨f,fd,F.imp h,a,b,c⟩
def LM{P:RU}{w:RZ}{K:Frag}{mg:RJ}{Rw:R9}(C:cZ P w K mg Rw "is_among" ["thing","least","most"] 2 ja):cZ P w K mg Rw "is_among" ["thing","least","most"] 2 Jl:=cZ.imp C λvs H Q E h=>by obtain⟨t,a,b,rfl,q⟩:=h;exact⟨.int t,a,b,rfl,trivial,q⟩
def D5(g:gR ks u):jR u.vs (ks.map one)=true:=by
 obtain⟨c,hc,e⟩:=g.kd;show(wordB (.str u.kd) (ks.map one)&&decide (u.so∈sortsL)&&decide (u.ai∈aimsL)&& !(decide (u.so="jump")&& !decide (u.ai="hit"))&&lI u.so (.int u.ax) (.int u.up))=true;have h1:wordB (.str u.kd) (ks.map one)=true:=Ry (VP.mpr ⟨c,hc,e.symm⟩);have h2:(!(decide (u.so="jump")&& !decide (u.ai="hit")))=true:=by
  by_cases z:u.so="jump"
  .rw[g.jh z];simp
  .simp[z]
 have h3:lI u.so (.int u.ax) (.int u.up)=true:=by
  have a:=g.ax;have b:=g.up;have n:=g.n0;unfold lI amongB limS;have e1:decide (-(if u.so="leap"then(3:Int)else 1)<=u.ax/\u.ax<=if u.so="leap"then 3 else 1)=true:=Ry a;have e2:decide (-(if u.so="leap"then(3:Int)else 1)<=u.up/\u.up<=if u.so="leap"then 3 else 1)=true:=Ry b;dsimp only;rw[e1,e2]
  by_cases z:u.ax=0
  .have z2:¬u.up=0:=λw=>n ⟨z,w⟩;simp[z,z2]
  .simp[z]
 rw[h1,Ry g.so,Ry g.ai,h2,h3];rfl
def v4(h:H a=some (.lst xs)):lstOf H (.ref a)=some xs:=by simp only[lstOf,h]
def qm(h:H a=some (.tup xs)):tupOf H (.ref a)=some xs:=by simp only[tupOf,h]
def yU(h:H d=some (.lst (rRefs us)))(R:dQ H us)(g:∀z∈us,gR ks z.1)(h24:us.length<=24):fR H (.ref d) (ks.map one)=true:=by unfold fR;rw[v4 h];show(decide ((rRefs us).length<=24)&&(rRefs us).all λx=>eK H x (ks.map one))=true;rw[VN,Ry h24,Yj,Wc];intro x hx;obtain⟨z,hz,rfl⟩:=VP.mp hx;unfold eK;rw[qm (R z hz)];exact D5 (g z hz)
def pz(h:H d=some (.lst (cA zs)))(R:mn H zs)(g:∀z∈zs,z.1.1∈A/\z.1.2∈B)(h6:zs.length<=6):pairsB H (.ref d) A B=true:=by unfold pairsB;rw[v4 h];show(decide ((cA zs).length<=6)&&(cA zs).all λx=>eM H x A B)=true;rw[VN,Ry h6,Yj,Wc];intro x hx;obtain⟨z,hz,rfl⟩:=VP.mp hx;unfold eM;rw[qm (R z hz)];show(decide (z.1.1∈A)&&decide (z.1.2∈B))=true;rw[Ry (g z hz).1,Ry (g z hz).2];rfl
def yE(h:H d=some (.lst (cA zs)))(R:mn H zs)(g:lU ks zs):gk H (.ref d) (ks.map one)=true:=by
 unfold gk;rw[pz h R (λz hz=>?_) g.len,v4 h,Yj]
 .have e1:(cA zs).map (cH H)=zs.map λz=>z.1.1:=by rw[V0];refine Wo λz hz=>?_;show cH H (.ref z.2)=_;unfold cH;rw[qm (R z hz)]
  show(!((cA zs).any λx=>decide (hZ H x∈(cA zs).map (cH H)))&&decide (((cA zs).map (cH H)).Nodup))=true;rw[e1,Ry g.nd,Bool.and_true,Yi,WD];intro x hx w;obtain⟨z,hz,rfl⟩:=VP.mp hx;have w:=RD w;have e2:hZ H (.ref z.2)=z.1.2:=by unfold hZ;rw[qm (R z hz)]
  rw[e2]at w;obtain⟨y,hy,e⟩:=VP.mp w;exact g.ap z hz y hy e.symm
 .obtain⟨⟨a,ha,e1⟩,b,hb,e2⟩:=g.kd z hz;exact⟨VP.mpr ⟨a,ha,e1.symm⟩,VP.mpr ⟨b,hb,e2.symm⟩⟩
def jl(a:Nat):(one a).length<=1000:=by show 1<=1000;decide
def Ko(h:s∈sortsL):s.length<=1000:=(by decide:∀s∈sortsL,s.length<=1000) s h
def LO(h:s∈aimsL):s.length<=1000:=(by decide:∀s∈aimsL,s.length<=1000) s h
def Lw(h:s∈gY):s.length<=1000:=(by decide:∀s∈gY,s.length<=1000) s h
def Ku(h:H d=some (.lst (rRefs us)))(R:dQ H us)(g:∀z∈us,gR ks z.1):cz H 2 (.ref d):=by
 refine lF.n (lF.lst h λx hx=>?_);obtain⟨z,hz,rfl⟩:=VP.mp hx;refine lF.tup (R z hz) λy hy=>?_;obtain⟨c,_,e⟩:=(g z hz).kd;simp only[bw.vs,VO,V3,or_false]at hy
 rcases hy with rfl|rfl|rfl|rfl|rfl
 .exact lF.flat (show z.1.kd.length<=1000 by rw[e];exact jl c) rfl
 .exact lF.flat (Ko (g z hz).so) rfl
 .exact lF.flat (LO (g z hz).ai) rfl
 .exact lF.flat trivial rfl
 .exact lF.flat trivial rfl
def A9(h:H d=some (.lst (cA zs)))(R:mn H zs)(g:∀z∈zs,z.1.1.length<=1000/\z.1.2.length<=1000):cz H 2 (.ref d):=by
 refine lF.n (lF.lst h λx hx=>?_);obtain⟨z,hz,rfl⟩:=VP.mp hx;refine lF.tup (R z hz) λy hy=>?_;simp only[VO,V3,or_false]at hy
 rcases hy with rfl|rfl
 .exact lF.flat (g z hz).1 rfl
 .exact lF.flat (g z hz).2 rfl
def Le(h:kT H d ks):cz H 1 (.ref d):=by refine lF.n (lF.lst h.at_ λx hx=>?_);obtain⟨c,_,rfl⟩:=VP.mp hx;exact lF.flat (jl c) rfl
structure fY(K:Frag)(cB cG:Zo)(H:Hp)(g b kq:Zo)(wi hi:Int)(hs:List Int)(ks:List Nat)(us:List (bw×Zo))(ts es:List ((Str×Str)×Zo))(st:Str):Prop where
 gm:fV cG H g b (ks.map strV) (rRefs us) (cA ts) (cA es) st
 bd:bU K cB H b wi hi hs
 ltr:∀k∈ks,j7 k
 k1:1<=ks.length
 k6:ks.length<=6
 knd:ks.Nodup
 rl:dQ H us
 r12:us.length<=12
 rg:∀z∈us,gR ks z.1
 tt:mn H ts
 tg:lU ks ts
 et:mn H es
 e6:es.length<=6
 eg:∀z∈es,z.1.1∈gY/\∃b∈ks,z.1.2=one b
 sg:st∈jW
theorem fY.same{K:Frag}{cB cG:Zo}{H H':Hp}{g b kq:Zo}{wi hi:Int}{hs:List Int}{ks:List Nat}{us:List (bw×Zo)}{ts es:List ((Str×Str)×Zo)}{st:Str}(x:fY K cB cG H g b kq wi hi hs ks us ts es st)(s:aj H H'):fY K cB cG H' g b kq wi hi hs ks us ts es st:=
 ⟨x.gm.same s,x.bd.same s,x.ltr,x.k1,x.k6,x.knd,x.rl.same s,x.r12,x.rg,x.tt.same s,x.tg,x.et.same s,x.e6,x.eg,x.sg⟩
def Bu(h:t σ H λvs H1=>∀x dx,H1 x=none->H1 dx=none->dx≠x->sp (.ref x::vs) (upd (upd H1 dx (.own x)) x (.ins C dx [])) (λv H2=>v=.non/\Q (.ref x) H2) E0):yr C sp t σ H Q:=h
def dQ.add(h:dQ H us)(s:aj H H')(ht:H' t=some (.tup u.vs)):dQ H' (us++[(u,t)]):=λz hz=>by
 rcases VY.mp hz with w|w
 .exact s _ _ (h z w)
 .rw[VR.mp w];exact ht
def dQ.put(h:dQ H us)(hq:H q=some (.lst xs)):dQ (upd H q (.lst ys)) us:=λz hz=>by rw[aq (λw=>by have:=h z hz;rw[w,hq]at this;cases this)];exact h z hz
def Jo(h:yr C sp t σ H D.rt):cD (yr C sp t) D σ H:=h
structure CJ(row:Str)(hs:List Int):Prop extends RowS row where
 sg:∀c∈row.cps.toList,Sg c
 nh:∀s:Int,0<=s->s<row.length->¬s∈hs->¬row.cps.toList.getD s.toNat 0=35
theorem nH{α:Type}[DecidableEq α]:∀{m C:List α},m.Nodup->(∀x∈m,x∈C)->m.length<=C.length
 | [],_,_,_=>XF _
 |x::m,C,nd,h=>by obtain⟨n1,n2⟩:=Wk.mp nd;have hx:=h x VW;have z:=nH (C:=C.erase x) n2 (λy hy=>(Xc (a:=y) (b:=x) (λe=>n1 (by rw[<-e];exact hy))).mpr (h y (VU _ hy)));rw[Xa hx]at z;have:0<C.length:=Xb hx;rw[V1];lia
noncomputable def prG(row:Str)(g:Int):Int×Int:=(g,if sdV row g=.non then -1 else g)
theorem qD(row:Str)(sd:Int)(ai:Str):∀path:List Int,(fW row sd ai path).Sublist (path.map (prG row))
 | []=>List.Sublist.refl _
 |g::r=>by
  rw[mY,V2];have ih:=qD row sd ai r
  by_cases h:sdV row g=.non
  .rw[RC h]
   by_cases a:ai="hit"
   .rw[RC a];exact ih.cons _
   .rw[RB a];have:prG row g=(g, -1):=by unfold prG;rw[RC h]
    rw[this];exact ih.cons₂ _
  .rw[RB h];have:prG row g=(g,g):=by unfold prG;rw[RB h]
   rw[this];split
   .exact(List.nil_sublist _).cons₂ _
   .exact List.nil_sublist _
def Ca{u:bw}{sd:Int}(n0:¬(u.ax=0/\u.up=0)):¬(u.ax=0/\u.dy sd=0):=λz=>n0 ⟨z.1,by have:=z.2;unfold bw.dy at this;split at this<;>lia⟩
noncomputable def JO:List (Int×Int):=[(-1, -1),(-1,0),(-1,1),(0, -1),(0,1),(1, -1),(1,0),(1,1)]
def Ek(x1: -1<=x)(x2:x<=1)(y1: -1<=y)(y2:y<=1)(n0:¬(x=0/\y=0)):(x,y)∈JO:=by
 have hx:x= -1\/x=0\/x=1:=by lia
 have hy:y= -1\/y=0\/y=1:=by lia
 rcases hx with rfl|rfl|rfl<;>rcases hy with rfl|rfl|rfl<;>first|decide|exact RF ⟨rfl,rfl⟩ n0
theorem JP(w8:wi<=8)(h8:hi<=8)(w1:1<=wi)(s0:0<=sq)(s1:sq<wi*hi):∀{us:List (bw×Zo)}{l:List (Int×Int)},a9 wi hi hs row sq sd us l->(∀z∈us,gR ks z.1)->∃(D C:List (Int×Int))(a:Nat),D.Nodup/\(∀e∈D,e∈JO)/\D.length+a<=us.length/\C.length<=7*D.length+a/\(∀e∈D,∃n,kU wi hi hs sq e.1 e.2 n/\∀g∈fG wi sq e.1 e.2 n,prG row g∈C)/\∀x∈l,x∈C
 |_,_,.nil,_=>⟨[],[],0,Wy,λ_ z=>(nomatch z),XD _,XD _,λ_ z=>(nomatch z),λ_ z=>(nomatch z)⟩
 |_,_,@a9.cons _ _ _ _ _ _ z us l r hl hr,hg=>by
  obtain⟨D,C,a,c1,c2,c3,c4,c5,c6⟩:=JP w8 h8 w1 s0 s1 hr λy hy=>hg y (VU _ hy);have g:=hg z VW;obtain⟨n,ry,n8,rfl⟩:=hl
  by_cases hs':z.1.so="slide"
  .have e:wF row sd z.1.so z.1.ai (fG wi sq z.1.ax (z.1.dy sd) n)=fW row sd z.1.ai (fG wi sq z.1.ax (z.1.dy sd) n):=by unfold wF;rw[hs',RB (by decide),RB (by decide)]
   rw[e];have sub:=λx hx=>(qD row sd z.1.ai (fG wi sq z.1.ax (z.1.dy sd) n)).subset (a:=x) hx
   by_cases hD:(z.1.ax,z.1.dy sd)∈D
   .refine⟨D,C,a,c1,c2,by rw[V1];lia,c4,c5,λx hx=>?_⟩
    rcases VY.mp hx with hx|hx
    .obtain⟨m,rm,hm⟩:=c5 _ hD;have:=rm.uniq ry λ_=>Iff.rfl;subst this;obtain⟨gg,g1,rfl⟩:=VP.mp (sub x hx);exact hm gg g1
    .exact c6 x hx
   .have n7:n<=7:=by
     rcases X1 n with h|h
     .lia
     .have:=Bm w8 h8 w1 s0 s1 (Ca g.n0) (ry.1 (n - 1) (by lia));lia
    have ax:=g.ax;have up:=g.up;rw[hs',RB (by decide)]at ax up;have dyb: -1<=z.1.dy sd/\z.1.dy sd<=1:=by unfold bw.dy;split<;>lia
    refine⟨(z.1.ax,z.1.dy sd)::D,(fG wi sq z.1.ax (z.1.dy sd) n).map (prG row)++C,a,Wk.mpr ⟨hD,c1⟩,λe he=>?_,by rw[V1,V1];lia,by rw[VV,VN,kC,V1];lia,λe he=>?_,λx hx=>?_⟩
    .rcases VO.mp he with rfl|he
     .exact Ek ax.1 ax.2 dyb.1 dyb.2 (Ca g.n0)
     .exact c2 e he
    .rcases VO.mp he with rfl|he
     .exact⟨n,ry,λgg hgg=>Wh _ (VP.mpr ⟨gg,hgg,rfl⟩)⟩
     .obtain⟨m,rm,hm⟩:=c5 e he;exact⟨m,rm,λgg hgg=>V6 _ (hm gg hgg)⟩
    .rcases VY.mp hx with hx|hx
     .exact Wh _ (sub x hx)
     .exact V6 _ (c6 x hx)
  .have l1:(wF row sd z.1.so z.1.ai (fG wi sq z.1.ax (z.1.dy sd) n)).length<=1:=by
    have so:=g.so;simp only[sortsL,VO,V3,or_false]at so;unfold wF
    rcases so with e|e|e
    .rw[e,RB (by decide),RC rfl];refine XG (lb ..) ?_;rw[V8];lia
    .exact RF e hs'
    .rw[e,RC rfl];exact pP ..
   refine⟨D,wF row sd z.1.so z.1.ai (fG wi sq z.1.ax (z.1.dy sd) n)++C,a+1,c1,c2,by rw[V1];lia,by rw[VV];lia,λe he=>?_,λx hx=>?_⟩
   .obtain⟨m,rm,hm⟩:=c5 e he;exact⟨m,rm,λgg hgg=>V6 _ (hm gg hgg)⟩
   .rcases VY.mp hx with hx|hx
    .exact Wh _ hx
    .exact V6 _ (c6 x hx)
def Pg(w8:wi<=8)(h8:hi<=8)(w1:1<=wi)(s0:0<=sq)(s1:sq<wi*hi)(h12:us.length<=12)(hg:∀z∈us,gR ks z.1)(h:a9 wi hi hs row sq sd us l)(m:List (Int×Int))(nd:m.Nodup)(hm:∀x∈m,x∈l):m.length<64:=by obtain⟨D,C,a,c1,c2,c3,c4,_,c6⟩:=JP w8 h8 w1 s0 s1 h hg;have d8:D.length<=8:=nH c1 c2;have:=nH nd λx hx=>c6 x (hm x hx);lia
def AQ(K:Frag)(cB cG:Zo):Sp:=λvs H Q _=>∃g b row kd sq sd wi hi hs ks ts es st us,vs=[.ref g,.str row,.int sq]/\fV cG H g b ks (rRefs us) ts es st/\bU K cB H b wi hi hs/\dQ H us/\us.length<=12/\(∀z∈us,¬(z.1.ax=0/\z.1.up=0))/\
 CJ row hs/\(row.length:Int)=wi*hi/\0<=sq/\sq<wi*hi/\sdV row sq=.int sd/\(sd=0\/sd=1)/\lP (row.cps.toList.getD sq.toNat 0)=.str kd/\(∀l,a9 wi hi hs row sq sd (ofKind us kd) l->∀m:List (Int×Int),m.Nodup->(∀x∈m,x∈l)->m.length<64)/\
 ∀l l' q H',a9 wi hi hs row sq sd (ofKind us kd) l->uQ l l'->H q=none->cX H H' q l'->aj H H'->Q (.ref q) H'
def ym{K:Frag}{sp:Sp}{t:TA}{vs:List V}{g:TG}{tt:TT}{te:TE}{src:List (Option Nat)}{σ:St}{H:Hp}{Q:VK}(h:Av t σ H vs)(q:sp vs H (λx H2=>∃a,x=.ref a/\(∃xs,aR K H2 a xs)/\eP g tt te src σ Q (JU K a) H2) E0):tComp (nV K (gQ sp t)) g tt te src σ H Q:=h _ q
noncomputable abbrev jT(ps:List (List Int×Zo)):List V:=ps.map λz=>V.ref z.2
def yM(h:di c=.int v):lP c=.str (one (VM c))/\(v=0\/v=1):=by
 unfold di at h;unfold lP;split at h
 .cases h
 .rename_i z;rw[RB z];injection h with h;refine⟨rfl,?_⟩;rw[<-h];split
  .exact .inl rfl
  .exact .inr rfl
structure iR(wi hi:Int)(hs:List Int)(ks:List Nat)(z:Str):Prop where
 len:z.length=(wi*hi).toNat
 at_:∀(s c:Nat),z.cps.toList[s]? =some c->gP ks c (if(s:Int)∈hs then 35 else 46)=true
def dE{ks:List Nat}{c:Nat}{hs:List Int}{s:Int}(h:gP ks c (if s∈hs then 35 else 46)=true):(s∈hs/\c=35)\/(¬s∈hs/\(c=46\/c∈ks\/c∈ks.map (· - 32))):=by
 unfold gP at h
 by_cases m:s∈hs
 .rw[RC m,RC rfl]at h;exact .inl ⟨m,RD h⟩
 .rw[RB m,RB (by decide)]at h;exact .inr ⟨m,RD h⟩
def yn{ks:List Nat}{c:Nat}(hl:∀k∈ks,j7 k)(h:c=46\/c∈ks\/c∈ks.map (· - 32)):Sg c/\c≠35:=by
 unfold Sg
 rcases h with h|h|h
 .lia
 .have:=hl c h;unfold j7 at this;lia
 .obtain⟨k,hk,rfl⟩:=VP.mp h;have:=hl k hk;unfold j7 at this;lia
def iR.g(R:iR wi hi hs ks z)(hl:∀k∈ks,j7 k)(m:wi*hi<=64):CJ z hs:=by
 have sg:∀c∈z.cps.toList,Sg c:=λc hc=>by
  obtain⟨s,hs'⟩:=Xh hc
  rcases dE (R.at_ s c hs')with⟨_,h⟩|⟨_,h⟩
  .exact .inr (.inl h)
  .exact(yn hl h).1
 refine⟨⟨by rw[R.len];lia,λc hc=>(sg c hc).lt⟩,sg,λs s0 s1 hn=>?_⟩;have hlt:s.toNat<z.cps.toList.length:=by have:z.length=z.cps.toList.length:=rfl;lia
 have e:z.cps.toList[s.toNat]? =some (z.cps.toList.getD s.toNat 0):=by rw[VX,VQ hlt];rfl
 have:=R.at_ _ _ e;rw[show((s.toNat:Nat):Int)=s by lia]at this
 rcases dE this with⟨h,_⟩|⟨_,h⟩
 .exact RF h hn
 .exact(yn hl h).2
def iR.put{wi hi:Int}{hs:List Int}{ks:List Nat}{z:Str}{s:Int}{c:Nat}(R:iR wi hi hs ks z)(s0:0<=s)(s1:s<z.length)(hn:¬s∈hs)(hc:c=46\/c∈ks\/c∈ks.map (· - 32)):iR wi hi hs ks (putT z s (one c)):=by
 refine⟨by rw[gG s0 s1];exact R.len,λj d hd=>?_⟩;rw[lm s0 s1]at hd;have ll:z.length=z.cps.toList.length:=rfl;have lt:(z.cps.toList.take s.toNat).length=s.toNat:=by rw[V8];lia
 by_cases h1:j<s.toNat
 .rw[Wi,WE (by lia),Xo h1]at hd;exact R.at_ j d hd
 .by_cases h2:j=s.toNat
  .subst h2;rw[Wi,WR (by lia),lt,Nat.sub_self]at hd;have:c=d:=by simpa using hd
   subst this;rw[show((s.toNat:Nat):Int)=s by lia,RB hn];unfold gP;rw[RB (by decide)];exact Ry hc
  .rw[WR (by rw[VV,lt];show s.toNat+1<=j;lia),VV,lt,List.getElem?_drop]at hd;have e:s.toNat+1+(j - (s.toNat+[c].length))=j:=by show s.toNat+1+(j - (s.toNat+1))=j;lia
   rw[e]at hd;exact R.at_ j d hd
def fS(h:te σ H D.rt):cD te D σ H:=h
def sL{K:Frag}{te:TE}{src:List (Option Nat)}{σ rest:St}{H:Hp}{Q:VK}{d:Zo}{xs:List V}(hx:H d=some (.lst xs))(hz:xs.length<=v1)(hs:eU src σ=none::rest)(R:Nat->Hp->V->Prop)(hR:∀i H H' v,R i H v->aj H H'->R i H' v)(he:∀(i:Nat) x H',xs[i]? =some x->aj H H'->∀Q:VK,(∀v H2,R i H2 v->aj H' H2->Q v H2)->te (some x::rest) H' Q)(q:∀d' H' ys,aj H H'->H' d'=none->ys.length=xs.length->(∀i y,ys[i]? =some y->R i H' y)->Q (.ref d') (upd H' d' (.lst ys))):eP (ck 0) iS te src σ Q (JU K d) H:=by
 refine iE xs.length (λi ys σ' H'=>aj H H'/\(∃v,σ'=v::rest)/\ys.length=i/\∀j y,ys[j]? =some y->R j H' y) hz (λi ys σ H h=>XS h.2.2.1)
  (λi ys σ H' h hi=>⟨xs,xs[i],aR.of (h.1 _ _ hx),VQ hi⟩) (λys σ H' h=>⟨xs,aR.of (h.1 _ _ hx),XD _⟩) ⟨aj.refl H,⟨none,hs⟩,rfl,λj y e=>by simp at e⟩ ?_ ?_
 .rintro i ys _ H1 x H2 hi ⟨s1,⟨v0,rfl⟩,hl,hy⟩ ⟨rfl,hyy⟩ Kt Kf ht hf;have ex:=hyy xs (aR.of (s1 _ _ hx));simp only[ck,iS,WB,if_true];refine he i x _ ex s1 _ λv H2 rv s2=>ht _ _ _ ⟨s1.trans s2,⟨_,rfl⟩,by simp[hl],λj y e=>?_⟩
  by_cases q:j<ys.length
  .rw[WE q]at e;exact hR _ _ _ _ (hy j y e) s2
  .by_cases q2:j=ys.length
   .subst q2;simp at e;subst e;rw[hl];exact rv
   .rw[Wf (by simp;lia)]at e;cases e
 .rintro ys _ H1 dd ⟨s1,_,hl,hy⟩ hd;exact q dd H1 ys s1 hd hl hy
theorem xQ{α:Type}{H0 H:Hp}(f:α->List Int):∀(l:List α)(ys:List V),ys.length=l.length->(∀(i:Nat)(y:V),ys[i]? =some y->∃x t,l[i]? =some x/\y=.ref t/\H0 t=none/\H t=some (.tup ((f x).map V.int)))->∃ps:List (List Int×Zo),ys=jT ps/\ps.map (·.1)=l.map f/\∀p∈ps,H0 p.2=none/\H p.2=some (.tup (p.1.map V.int))
 | [],[],_,_=>⟨[],rfl,rfl,λ_ z=>nomatch z⟩
 |x::l,y::ys,hl,h=>by
  obtain⟨x',t,e1,rfl,e3,e4⟩:=h 0 y rfl;have e1:x=x':=by simpa using e1
  subst e1;obtain⟨ps,rfl,p2,p3⟩:=xQ f l ys (by simpa using hl) λi y hy=>h (i+1) y (by simpa using hy);refine⟨(f x,t)::ps,rfl,by rw[V2,V2,p2],λp hp=>?_⟩
  rcases VO.mp hp with rfl|hp
  .exact⟨e3,e4⟩
  .exact p3 p hp
 | [],_::_,hl,_=>by simp at hl
 |_::_,[],hl,_=>by simp at hl
def L9(wi hi:Int)(hs:List Int)(row:Str)(us:List (bw×Zo))(sd sq:Int)(l':List (Int×Int)):Prop:= ∃l,a9 wi hi hs row sq sd (ofKind us (one (VM (row.cps.toList.getD sq.toNat 0)))) l/\uQ l l'
theorem L9.uniq(h:L9 wi hi hs row us sd sq l)(h':L9 wi hi hs row us sd sq l'):l=l':=by obtain⟨m,a,b⟩:=h;obtain⟨m',a',b'⟩:=h';have e:=a.uniq a';subst e;exact b.uniq b'
noncomputable def tk3(s:Int)(x:Int×Int):List Int:=[s,x.1,x.2]
inductive mJ(wi hi:Int)(hs:List Int)(row:Str)(us:List (bw×Zo))(sd:Int):List Int->List (List Int)->Prop
 |nil:mJ wi hi hs row us sd [] []
 |cons {s ss l m}:L9 wi hi hs row us sd s l->mJ wi hi hs row us sd ss m->mJ wi hi hs row us sd (s::ss) (l.map (tk3 s)++m)
theorem mJ.uniq:∀{ss:List Int}{m m':List (List Int)},mJ wi hi hs row us sd ss m->mJ wi hi hs row us sd ss m'->m=m'
 |_,_,_,.nil,.nil=>rfl
 |_,_,_,.cons a b,.cons c d=>by rw[a.uniq c,mJ.uniq b d]
theorem mJ.add(h:L9 wi hi hs row us sd s l):∀{ss:List Int}{m:List (List Int)},mJ wi hi hs row us sd ss m->mJ wi hi hs row us sd (ss++[s]) (m++l.map (tk3 s))
 |_,_,.nil=>by
  have:=mJ.cons h mJ.nil
  rwa[V9]at this
 |_,_,.cons a b=>by rw[Wi];exact .cons a (mJ.add h b)
def yt(H H':Hp)(q:Zo)(m:List (List Int)):Prop:= ∃ps:List (List Int×Zo),ps.map (·.1)=m/\H' q=some (.lst (jT ps))/\∀p∈ps,H p.2=none/\H' p.2=some (.tup (p.1.map V.int))
def Dd(h1:ps.map (·.1)=m)(hq:∀xs,¬H2 q=some (.tup xs))(h3:∀p∈ps,H p.2=none/\H2 p.2=some (.tup (p.1.map V.int)))(s:aj H H1)(g1:ps2.map (·.1)=m2)(g3:∀p∈ps2,H1 p.2=none/\H2 p.2=some (.tup (p.1.map V.int))):yt H (upd H2 q (.lst (jT ps++jT ps2))) q (m++m2):=by
 refine⟨ps++ps2,by rw[VZ,h1,g1],by rw[ag,show jT (ps++ps2)=jT ps++jT ps2 from VZ ..],λp hp=>?_⟩;have ne:∀{p:Zo}{xs:List V},H2 p=some (.tup xs)->p≠q:=λa e=>hq _ (e▸a)
 rcases VY.mp hp with z|z
 .obtain⟨a1,a2⟩:=h3 p z;exact⟨a1,by rw[aq (ne a2)];exact a2⟩
 .obtain⟨a1,a2⟩:=g3 p z;exact⟨s.free a1,by rw[aq (ne a2)];exact a2⟩
def jB(h:s∈sqsOf row sd):0<=s/\s<row.length/\sdV row s=.int sd:=by obtain⟨n,hn,rfl⟩:=VP.mp h;obtain⟨a,b⟩:=Wg.mp hn;have:=V4.mp a;exact⟨by lia,by lia,RD b⟩
def pd:(sqsOf row sd).length<=row.length:=by unfold sqsOf;rw[VN];refine XG (Wp _ _) ?_;rw[We];exact XD _
def Km(h:uQ l l'):l'.Nodup:=by rw[WN];refine h.2.imp λh e=>?_;rw[e,kI]at h;cases h
def D6{K:Frag}{cB cG:Zo}{H:Hp}{g b kq:Zo}{wi hi:Int}{hs:List Int}{ks:List Nat}{us:List (bw×Zo)}{ts es:List ((Str×Str)×Zo)}{st row:Str}{sq sd:Int}{Q:VK}(G:fY K cB cG H g b kq wi hi hs ks us ts es st)(R:CJ row hs)(rl:(row.length:Int)=wi*hi)(s0:0<=sq)(s1:sq<row.length)(hsd:sdV row sq=.int sd)(q:∀l' q H',L9 wi hi hs row us sd sq l'->l'.length<64->H q=none->cX H H' q l'->aj H H'->Q (.ref q) H'):qB K cB cG [.ref g,.str row,.int sq] H Q E0/\AQ K cB cG [.ref g,.str row,.int sq] H Q E0:=by
 have B:=G.bd;obtain⟨ekd,sd2⟩:=yM (c:=row.cps.toList.getD sq.toNat 0) hsd;have few:∀l,a9 wi hi hs row sq sd (ofKind us (one (VM (row.cps.toList.getD sq.toNat 0)))) l->∀m:List (Int×Int),m.Nodup->(∀x∈m,x∈l)->m.length<64:=λl hl m nd hm=>
  Pg B.w8 B.h8 B.w1 s0 (by lia) (XG (Wp _ _) G.r12) (λz hz=>G.rg z (Wg.mp hz).1) hl m nd hm
 have rg0:∀z∈us,¬(z.1.ax=0/\z.1.up=0):=λz hz=>(G.rg z hz).n0;have k:∀(l l':List (Int×Int))(q:Zo)(H':Hp),a9 wi hi hs row sq sd (ofKind us (one (VM (row.cps.toList.getD sq.toNat 0)))) l->uQ l l'->H q=none->cX H H' q l'->aj H H'->Q (.ref q) H':=λl l' t H' h1 h2 h3 h4 h5=>
  q l' t H' ⟨l,h1,h2⟩ (few l h1 l' (Km h2) λx hx=>(h2.1 x).mp hx) h3 h4 h5
 exact⟨⟨g,b,row,_,sq,sd,wi,hi,hs,ks.map strV,cA ts,cA es,st,us,rfl,G.gm,G.bd,G.rl,G.r12,rg0,R.toRowS,rl,s0,by lia,hsd,sd2,ekd,few,k⟩,
  ⟨g,b,row,_,sq,sd,wi,hi,hs,ks.map strV,cA ts,cA es,st,us,rfl,G.gm,G.bd,G.rl,G.r12,rg0,R,rl,s0,by lia,hsd,sd2,ekd,few,k⟩⟩
def qz(K:Frag)(cB cG:Zo):Sp:=λvs H Q _=>∃g b kq p row sd wi hi hs ks us ts es st,vs=[.ref g,.ref p]/\fY K cB cG H g b kq wi hi hs ks us ts es st/\dF K H p [.str row,.int sd]/\CJ row hs/\(row.length:Int)=wi*hi/\
 ∀m q H',mJ wi hi hs row us sd (sqsOf row sd) m->m.length<=4096->H q=none->yt H H' q m->aj H H'->Q (.ref q) H'
structure CMv(P:RU)(w:RZ)(K:Frag)(mg:RJ)(Rw:R9)(cB cG:Zo):Prop where
 squares_of:cZ P w K mg Rw "squares_of" ["row","side"] 2 pe
 goals:cZ P w K mg Rw "goals" ["game","row","square"] 5 (qB K cB cG)
def C8{K:Frag}{src:List (Option Nat)}{σ:St}{H0 H:Hp}{Q:VK}{d:Zo}{l':List (Int×Int)}{ps:List (List Int×Zo)}{sq:Int}{te:TE}(s0:aj H0 H)(p1:ps.map (·.1)=l'.map pk)(hx:H d=some (.lst (jT ps)))(p3:∀p∈ps,H p.2=some (.tup (p.1.map V.int)))(l64:l'.length<64)(hs:eU src σ=[none,some (.int sq)])(ht:∀a x y H' Q,H' a=some (.tup [.int x,.int y])->(∀t,H' t=none->Q (.ref t) (upd H' t (.tup [.int sq,.int x,.int y])))->te [oR a,oJ sq] H' Q)(q:∀d' H' ps2,aj H H'->H' d'=none->ps2.map (·.1)=l'.map (tk3 sq)->(∀p∈ps2,H0 p.2=none/\H' p.2=some (.tup (p.1.map V.int)))->Q (.ref d') (upd H' d' (.lst (jT ps2)))):eP (ck 0) iS te src σ Q (JU K d) H:=by
 have z:=RI List.length p1;rw[VN,VN]at z;refine sL (rest:=[oJ sq]) hx (by rw[VN,RW];lia) hs (λj H' v=>∃x t,l'[j]? =some x/\v=.ref t/\H0 t=none/\H' t=some (.tup ((tk3 sq x).map V.int))) (λi H H' v h s=>?_) (λi x H' hx' s' Q' q'=>?_) (λd' H' ys s' hd hl hy=>?_)
 .obtain⟨x,t,a,b,c,e⟩:=h;exact⟨x,t,a,b,c,s _ _ e⟩
 .have hi:i<ps.length:=by
   have:=(V5.mp hx').1
   rwa[VN]at this
  have hi2:i<l'.length:=by lia
  rw[VT,VQ hi]at hx';obtain rfl:V.ref ps[i].2=x:=RH hx';have e:ps[i].1=pk l'[i]:=by
   have a:(ps.map (·.1))[i]? =some ps[i].1:=by rw[VT,VQ hi];rfl
   rw[p1,VT,VQ hi2]at a;exact(RH a).symm
  have h4:=s' _ _ (p3 _ (V7 hi));rw[e]at h4;refine ht _ l'[i].1 l'[i].2 H' Q' h4 λt ht=>q' _ _ ⟨l'[i],t,VQ hi2,rfl,(s0.trans s').free ht,ag⟩ ((aj.refl H').upd ht)
 .obtain⟨ps2,rfl,e1,e2⟩:=xQ (tk3 sq) l' ys (by rw[hl,VN];exact z) hy;exact q d' H' ps2 s' hd e1 e2
def LF(h:t σ H λvs H1=>sp vs H1 Q E0):gQ sp t σ H Q:=h
def OT{b:Bool}{A B:Prop}(h:b=true)(a:A):if b=true then A else B:=by rw[RC h];exact a
def OU{b:Bool}{A B:Prop}(h:b=false)(a:B):if b=true then A else B:=by rw[RB (by rw[h];decide)];exact a
noncomputable def P3(c:Nat)(sd:Int):Nat:=if sd=0 then c - 32 else c
noncomputable def kL(z:Str)(c:Nat)(sd:Int):Bool:=decide (P3 c sd∈z.cps.toList)
noncomputable def me(hi sd:Int):Int:=if sd=0 then hi - 1 else 0
noncomputable def wg(row:Str)(wi hi sd:Int):Str:=iO row (some (me hi sd*wi)) (some (me hi sd*wi+wi))
noncomputable def xJ(row:Str)(wi hi sd:Int)(en:Str)(c:Nat):Bool:=if en="without"then !kL row c sd else kL (wg row wi hi (1 - sd)) c (1 - sd)
noncomputable def C3(row:Str)(wi hi sd:Int)(en:Str)(c:Nat):Bool:=if en="without"then !kL row c (1 - sd)else kL (wg row wi hi sd) c sd
noncomputable def Eg(row:Str)(wi hi sd:Int)(en:Str)(c:Nat):V:=if xJ row wi hi sd en c=true then .str "lost"else if C3 row wi hi sd en c=true then .str "won"else .non
noncomputable def og(row:Str)(wi hi sd:Int)(z:(Str×Str)×Zo):V:=Eg row wi hi sd z.1.1 (z.1.2.cps.toList.getD 0 0)
noncomputable def uV(row:Str)(wi hi sd:Int)(es:List ((Str×Str)×Zo)):List V:=es.map (og row wi hi sd)
noncomputable def cO:List V->V
 | []=>.non
 |w::ws=>if w=.non then cO ws else w
theorem jp:∀{a b:List V},(∀w∈a,w=.non)->cO (a++b)=cO b
 | [],_,_=>rfl
 |w::a,b,h=>by show(if w=.non then cO (a++b)else w)=_;rw[RC (h w VW)];exact jp λx hx=>h x (VU _ hx)
def PV(wi hi:Int)(hs:List Int)(row:Str)(us:List (bw×Zo))(es:List ((Str×Str)×Zo))(st:Str)(sd:Int)(x:V):Prop:=(¬cO (uV row wi hi sd es)=.non->x=cO (uV row wi hi sd es))/\(cO (uV row wi hi sd es)=.non->∃m,mJ wi hi hs row us sd (sqsOf row sd) m/\x=if m=[]then .str st else .non)
def vh:Sp:=λvs H Q _=>∃z c sd,vs=[.str z,.str (one c),.int sd]/\j7 c/\Q (.bl (kL z c sd)) H
def AV(K:Frag)(cB:Zo):Sp:=λvs H Q _=>∃p wi hi hs sd,vs=[.ref p,.int sd]/\bU K cB H p wi hi hs/\Q (.int (me hi sd)) H
def AS(K:Frag)(cB:Zo):Sp:=λvs H Q _=>∃b row c sd wi hi hs,vs=[.ref b,.str row,.str (one c),.int sd]/\bU K cB H b wi hi hs/\j7 c/\row.length<=64/\Q (.bl (kL (wg row wi hi sd) c sd)) H
def xn(K:Frag)(cB:Zo):Sp:=λvs H Q _=>∃b p e row en c sd wi hi hs,vs=[.ref b,.ref p,.ref e]/\bU K cB H b wi hi hs/\dF K H p [.str row,.int sd]/\dF K H e [.str en,.str (one c)]/\j7 c/\row.length<=64/\Q (Eg row wi hi sd en c) H
def mV(K:Frag)(cB cG:Zo):Sp:=λvs H Q _=>∃g b kq p row sd wi hi hs ks us ts es st,vs=[.ref g,.ref p]/\fY K cB cG H g b kq wi hi hs ks us ts es st/\dF K H p [.str row,.int sd]/\row.length<=64/\Q (cO (uV row wi hi sd es)) H
def sZ(K:Frag)(cB cG:Zo):Sp:=λvs H Q _=>∃g b kq p row sd wi hi hs ks us ts es st,vs=[.ref g,.ref p]/\fY K cB cG H g b kq wi hi hs ks us ts es st/\dF K H p [.str row,.int sd]/\CJ row hs/\(row.length:Int)=wi*hi/\(sd=0\/sd=1)/\
 ∀x H',PV wi hi hs row us es st sd x->aj H H'->Q x H'
structure CE1(P:RU)(w:RZ)(K:Frag)(mg:RJ)(Rw:R9):Prop where
 sign_of:cZ P w K mg Rw "sign_of" ["kind","side"] 1 mS
structure CE2(P:RU)(w:RZ)(K:Frag)(mg:RJ)(Rw:R9)(cB:Zo):Prop where
 has_kind:cZ P w K mg Rw "has_kind" ["row","kind","side"] 2 vh
 Board_far_row:j6 P w K mg Rw cB "far_row" ["self","side"] 1 (AV K cB)
structure CE3(P:RU)(w:RZ)(K:Frag)(mg:RJ)(Rw:R9)(cB:Zo):Prop where
 has_kind:cZ P w K mg Rw "has_kind" ["row","kind","side"] 2 vh
 is_home:cZ P w K mg Rw "is_home" ["board","row","kind","side"] 3 (AS K cB)
structure CE4(P:RU)(w:RZ)(K:Frag)(mg:RJ)(Rw:R9)(cB:Zo):Prop where
 by_end:cZ P w K mg Rw "by_end" ["board","place","end"] 4 (xn K cB)
structure CE5(P:RU)(w:RZ)(K:Frag)(mg:RJ)(Rw:R9)(cB cG:Zo):Prop where
 by_ends:cZ P w K mg Rw "by_ends" ["game","place"] 5 (mV K cB cG)
 moves:cZ P w K mg Rw "moves" ["game","place"] 6 (qz K cB cG)
section
variable{K:Frag}{σ:St}{H:Hp}{ta tb te:TE}{x:V}
def ya(ha:Ev ta σ H x)(hb:Ev tb σ H .non):Ev (fL K .IsNot ta tb) σ H (.bl (!decide (x=.non))):=λQ q=>ha _ (hb _ (by
 cases x<;>exact q))
def B2(ha:Ev ta σ H x)(hb:Ev tb σ H .non):Ev (fL K .Is ta tb) σ H (.bl (decide (x=.non))):=λQ q=>ha _ (hb _ (by
 cases x<;>exact q))
end
def AC(h:t σ H λc H1=>if c=true then u σ H1 R else R false H1):Ki t u σ H R:=h
def Kb(h:t σ H λc H1=>R (!c) H1):AD t σ H R:=h
def Ja{K:Frag}{ta:TE}{σ:St}{H:Hp}{R:Bool->Hp->Prop}(h:ta σ H λx H1=>∃k,CI K x H1 k/\R k H1):Ps K ta σ H R:=h
def K5{K:Frag}{to:TE}{σ:St}{H:Hp}{Q:VK}(h:to σ H λx H1=>ug K [x] H1 Q):cB (ug K) (aN to bG) σ H Q:=h
def JE{K:Frag}{ta ti:TE}{σ:St}{H:Hp}{Q:VK}(h:ta σ H λx H1=>ti σ H1 λy H2=>Qb K x y H2 Q):Ep K ta ti σ H Q:=h
def jF:plainId "dict.update.loop"=true:=by decide+kernel
def qa:entryFor table "dict.update.loop"=some SS.«dict.update.loop» :=entryFor_of_fast (by kernel_rfl)
def rD:UL (.type "list") "keys"=pure none:=by rw[T4,Tj];kernel_rfl
section
variable{prog:RU}{w:RZ}{A:SJ}{E:RK}{s:RQ}
def DO(hx:s.heap.get? a=some o)(hc:o.cls=.type "list")(hdat:o.data=.seq xs k)(hd:o.dict=none)(hA:A.handled=none)(h:∀h' tk,(∀b ob,s.heap.get? b=some ob->h'.get? b=some ob)->Q none {s with heap:=h',toks:=tk}):RR (RX prog w) A (getAttr? (.ref a) "keys") Q E s:=by
 obtain⟨c,dct,dat,sl⟩:=o;simp only at hc hdat hd;subst hc hdat hd;obtain⟨hp,g,d,tk,os⟩:=s;have hT:∀tk',(⟨hp,g,d,tk',os⟩:RQ).TypeIs (.ref a) "list":=λ_=>⟨_,hx,rfl⟩;have f1:=sub_AttributeError;have f3:=PySem.F.slot_list_getattribute.lookup;have f4:=PySem.F.slot_list_getattribute.bind (.ref a);have f5:=am_list_getattr_none;unfold getAttr? getAttrBy? getAttrBy
 repeat (any_goals (first|assumption|exact hT _|((with_reducible show RR _ _ (call (Vi "list.__getattribute__") _ _) _ _ _);refine TJ PySem.F.slot_list_getattribute (hT _) am_entry_list_getattribute (PySem.F.args_list_getattribute_2 _ _) (meets_getattribute_miss_list a xs k sl "keys" _ rD (by decide+kernel) (by decide)) ⟨hx,hA,λh' tk' e hx'=>?_⟩)|wp_step))
 obtain⟨t',u',he⟩:=hx'.there;have hTe:∀tk'',(⟨h',g,d,tk'',os⟩:RQ).TypeIs (.ref e) "AttributeError":=λ_=>⟨_,he,rfl⟩;show RR _ _ (getattributeRaised _ _ _ _ _ _ _) _ _ _;unfold getattributeRaised
 repeat (any_goals (first|assumption|exact hTe _|wp_step))
 exact h h' tk' hx'.keeps
variable{K:Type}[DecidableEq K]{knd:KeyKind prog w K}
noncomputable def hV(kvs:List (K×Zn)):List (K×Zn)->List (K×Zn)
 | []=>kvs
 |p::ps=>hV (VF kvs p.1 p.2) ps
def vc{kvs:List (K×Zn)}{k:K}{v:Zn}:(VF kvs k v).length<=kvs.length+1:=by
 unfold VF;split
 .rw[VN];lia
 .rw[VV];exact XD _
def Ci{d it l:Zo}{items:Array Zn}{R:Result->RQ->Prop}(hA:A.handled=none)(hdi:d≠it)(hdl:d≠l)(hil:it≠l):∀rest i s kvs tk,i+rest.length=items.size->s.heap.IsListIter it l i->s.heap.IsList l items->s.heap.DictOf knd d kvs->(∀j p,rest[j]? =some p->∃t key,items[i+j]? =some (.ref t)/\s.heap.IsTuple t #[key,p.2]/\knd.is p.1 key=true/\t≠d/\t≠it)->kvs.length+rest.length<=v1->(∀s',s'.heap.DictOf knd d (hV kvs rest)->(∀b o,b≠d->b≠it->s.heap.get? b=some o->s'.heap.get? b=some o)->s'.gens=s.gens->s'.drawn=s.drawn->s'.os=s.os->s.toks<=s'.toks->R (.ok (.ret .none)) s')->Tl (RX prog w) A (.builtin "dict.update.loop" ⟨[.ref d,.ref it,.int i tk,.none],[]⟩) R s:=by
 intro rest
 induction rest with
 |nil=>
  intro i s kvs tk hi hit hl hd hp hz hR;refine Sl qa ?_;rw[Sk jF _];show RR _ A.in1 (S7 (.ref it) >>= _) _ _ s;refine RM (UT (show A.in1.handled=none from hA) hit hl (by rw[Yu];simp at hi;lia) λh' ext=>?_);show RR _ _ (Builtin.Dict.addKeywords d [] >>= _) _ _ _;exact RM (RN (RN (hR _ (hd.extBut ext hdi) (λb o _ hb e=>ext b o hb e) rfl rfl rfl (XD _))))
 |cons p rest ih=>
  intro i s kvs tk hi hit hl hd hp hz hR;obtain⟨t,key,hx,ht,hk,htd,hti⟩:=hp 0 p rfl;refine Sl qa ?_;rw[Sk jF _];show RR _ A.in1 (S7 (.ref it) >>= _) _ _ s;refine RM (UK hit hl hx λh1 hit1 sb1=>?_);obtain⟨ot,hot,hct,nt,hdt⟩:=ht;have hot1:h1.get? t=some ot:=(sb1.2 t hti).trans hot;have hT:(⟨h1,s.gens,s.drawn,s.toks,s.os⟩:RQ).TypeIs (.ref t) "tuple":=⟨_,hot1,hct⟩;refine RM (Sa (RM (wpAny_tryCatch ?_)));unfold Builtin.Dict.pairItems;refine RM (Tr hT ?_);show RR _ _ (if _ then _ else _) _ _ _;rw[RC (by decide)];refine RM (Ss hot1 hdt (RN ?_));show RR _ _ (TF [key,p.2] (dictSet d key p.2)) _ _ _;have hd1:h1.DictOf knd d kvs:=hd.extBut (λb o hb e=>(sb1.2 b hb).trans e) hdi;refine Sa (wpAny_dictSet_pairs hk hd1 (λh2 hd2 sb2=>?_) (by simp at hz;lia));refine RN ⟨Ti jF _,?_⟩;have hb2:∀b o,b≠d->b≠it->s.heap.get? b=some o->h2.get? b=some o:=λb o nd ni e=>(sb2.2 b nd).trans ((sb1.2 b ni).trans e);have sl:=vc (kvs:=kvs) (k:=p.1) (v:=p.2);rw[V1]at hi hz;refine ih (i+1) ⟨h2,s.gens,s.drawn,s.toks+1,s.os⟩ (VF kvs p.1 p.2) _ (by lia) ?_ ?_ hd2 (λj q hq=>?_) (by lia) (λs' a1 a2 a3 a4 a5 a6=>?_)
  .obtain⟨oi,e1,e2,e3⟩:=hit1;exact⟨oi,(sb2.2 it (Ne.symm hdi)).trans e1,e2,e3⟩
  .obtain⟨ol,e1,e2⟩:=hl;exact⟨ol,hb2 l ol (Ne.symm hdl) (Ne.symm hil) e1,e2⟩
  .obtain⟨t',key',b1,⟨o',c1,c2⟩,b3,b4,b5⟩:=hp (j+1) q (by simpa using hq);exact⟨t',key',by rw[show i+1+j=i+(j+1) by lia];exact b1,⟨o',hb2 t' o' b4 b5 c1,c2⟩,b3,b4,b5⟩
  .exact hR s' a1 (λb o nd ni e=>a2 b o nd ni (hb2 b o nd ni e)) a3 a4 a5 (XG (XI _) a6)
def mh{l:Zo}{o:Obj}{items:Array Zn}{n:Nat}{Q:RK}(hA:A.handled=none)(ho:s.heap.get? l=some o)(hc:o.cls=.type "list")(hdat:o.data=.seq items n)(hdd:o.dict=none)(ps:List (K×Zn))(hlen:ps.length=items.size)(hsz:ps.length<=v1)(hp:∀(j:Nat)(p:K×Zn),ps[j]? =some p->∃t key,items[j]? =some (RY t)/\s.heap.IsTuple t #[key,p.2]/\knd.is p.1 key=true)(h:∀s',s'.heap.DictOf knd s.heap.objs.size (hV [] ps)->(∀b o,s.heap.get? b=some o->s'.heap.get? b=some o)->s'.gens=s.gens->s'.drawn=s.drawn->s'.os=s.os->Q (.ref s.heap.objs.size) s'):RR (RX prog w) A (call (.type "dict") [.ref l]) Q E s:=by
 refine callType_codes (Q₁:=λobj s₁=>obj=.ref s.heap.objs.size/\s₁={s with heap:=s.heap.push {cls:=.type "dict",data:=.dict #[]}}) F.kt_called_dict (F.kt_typeCall_dict_1 _) F.entry_dict_init (kt_code_dict_new _ ⟨rfl,rfl⟩) ?_;rintro obj s₁ ⟨rfl,rfl⟩;have hnew:(s.heap.push {cls:=.type "dict",data:=.dict #[]}).DictOf knd s.heap.objs.size []:=Heap.DictOf.new s.heap;have ho':(s.heap.push {cls:=.type "dict",data:=.dict #[]}).get? l=some o:=RO _ ho;refine⟨hnew.typeIs,F.args_dict_init_2 _ _,?_⟩;unfold SS.«dict.__init__»;refine RM ?_;unfold Builtin.Dict.selfAndRest;refine RM (wpAny_notOrdered_dict hnew.typeIs ?_);show RR _ _ (pure (s.heap.objs.size,[RY l])) _ _ _;refine RN ?_;show RR _ _ (UI "dict.__init__" s.heap.objs.size (.ref l) [] .none) _ _ _;unfold UI;refine RM (Tr (show TZ {s with heap:=s.heap.push {cls:=.type "dict",data:=.dict #[]}} (.ref l) "list"from⟨_,ho',hc⟩) ?_);rw[RC (by decide)];refine RM (DO ho' hc hdat hdd (show A.in1.in1.handled=none from hA) λh1 tk1 k1=>?_);rw[RC (by rfl)];have hl1:h1.IsList l items:=⟨o,k1 _ _ ho',hc,n,hdat⟩;have hd1:h1.DictOf knd s.heap.objs.size []:=by obtain⟨o',es,ep,e1,r⟩:=hnew;exact⟨o',es,ep,k1 _ _ e1,r⟩
 have ls:l<s.heap.objs.size:=RP ho;have dlt:s.heap.objs.size<h1.objs.size:=by obtain⟨o',es,ep,e1,r⟩:=hd1;exact RP e1
 refine RM (UJ ?_);refine RM (S5 hl1 ?_);refine RN ⟨Ti jF _,?_⟩;refine Ci (A:=A.in1) hA (XE dlt) (XJ ls) (XJ (XO ls dlt)) ps 0 _ [] _ (by lia) ⟨_,RT _ rfl,rfl,rfl⟩ (hl1.push _) (hd1.push _) (λj p hj=>?_) (by simpa using hsz) (λs' a1 a2 a3 a4 a5 a6=>?_)
 .obtain⟨t,key,b1,⟨ot,c1,c2⟩,b3⟩:=hp j p hj;have tl:=RP c1;exact⟨t,key,by rw[XU];exact b1,⟨ot,RO _ (k1 _ _ (RO _ c1)),c2⟩,b3,XE tl,XE (XO tl dlt)⟩
 .refine⟨rfl,h s' a1 (λb o e=>?_) a3 a4 a5⟩;have bl:=RP e;exact a2 b o (XE bl) (XE (XO bl dlt)) (RO _ (k1 _ _ (RO _ e)))
end
end L2
namespace L2
open PySem PySem.W PySem.Calls PySem.Spec PyProof.Rows
noncomputable def kvsOf(kvs:List (Key×V)):List (Str×Str)->List (Key×V)
 | []=>kvs
 |p::ps=>kvsOf (iU kvs (.inr p.1) (.str p.2)) ps
theorem pJ:∀ps kvs,(kvsOf kvs ps).length<=kvs.length+ps.length
 | [],kvs=>XD _
 |p::ps,kvs=>by have a:=pJ ps (iU kvs (.inr p.1) (.str p.2));have b:=jn kvs (.inr p.1) (.str p.2);show(kvsOf (iU kvs (.inr p.1) (.str p.2)) ps).length<=_;rw[V1];lia
def JZ(r:aT [.str a,.str b] us):∃t1 t2,us=[.str a t1,.str b t2]:=by
 cases r with
 |cons r0 r1=>
 cases r1 with
 |cons r2 r3=>
 cases r3;obtain⟨t1,rfl⟩:=(show∃t,_=Tt a t from r0);obtain⟨t2,rfl⟩:=(show∃t,_=Tt b t from r2);exact⟨t1,t2,rfl⟩
theorem Ba{h:R9}:∀(zs:List ((Str×Str)×Zo)),(∀z∈zs,∃t1 t2,h.IsTuple z.2 #[.str z.1.1 t1,.str z.1.2 t2])->∃ps:List (Key×Zn),ps.length=zs.length/\(∀(j:Nat)(p:Key×Zn),ps[j]? =some p->∃z key,zs[j]? =some z/\h.IsTuple z.2 #[key,p.2]/\aQ (kV p.1) key)/\∀(kvs:List (Key×V))(vs:List (Key×Zn)),KV kvs vs->KV (kvsOf kvs (zs.map (·.1))) (hV vs ps)
 | [],_=>⟨[],rfl,λj p e=>by simp at e,λkvs vs r=>r⟩
 |z::zs,hz=>by
  obtain⟨t1,t2,ht⟩:=hz z VW;obtain⟨ps,p1,p2,p3⟩:=Ba zs λy hy=>hz y (VU _ hy);refine⟨(.inr z.1.1,.str z.1.2 t2)::ps,by simp[p1],λj p e=>?_,λkvs vs r=>p3 _ _ (r.put _ ⟨t2,rfl⟩)⟩;cases j with
  |zero=>
   have e:(Sum.inr z.1.1,Tt z.1.2 t2)=p:=by simpa using e
   subst e;exact⟨z,_,rfl,ht,t1,rfl⟩
  |succ j=>
   obtain⟨y,key,a,b⟩:=p2 j p (by simpa using e);exact⟨y,key,by simpa using a,b⟩
section
def wq(K:Frag)(xs:List V)(H:Hp)(Q:VK):Prop:= ∃d zs,xs=[.ref d]/\aR K H d (cA zs)/\(∀z∈zs,dF K H z.2 [.str z.1.1,.str z.1.2])/\zs.length<=1000/\∀q,H q=none->Q (.ref q) (upd H q (.dK (kvsOf [] (zs.map (·.1)))))
def uJ(hA:X.A.handled=none):bf X (.type "dict") (wq X.K):=by
 intro Rv s σ H xs us Q I rv h;obtain⟨d,zs,rfl,hd,hp,hz,q⟩:=h;cases rv with
 |cons r0 rn=>
 cases rn;cases r0;obtain⟨its,r,⟨o,n,e,hc,hdd,hdat⟩,_⟩:=I.list hd;have rl:=r.length;rw[VN]at rl;obtain⟨ps,p1,p2,p3⟩:=Ba (h:=s.heap) zs λz hz'=>by obtain⟨it2,r2,tp,_⟩:=I.tuple (hp z hz');obtain⟨t1,t2,rfl⟩:=JZ r2;exact⟨t1,t2,tp⟩
 refine mh (knd:=mixKind X.prog X.w) hA e hc hdat hdd ps (by rw[p1,VS];exact rl) (by rw[p1,RW];lia) (λj p hj=>?_) (λs' a1 a2 a3 a4 a5=>?_)
 .obtain⟨z,key,b1,b2,b3⟩:=p2 j p hj;refine⟨z.2,key,?_,b2,pO b3⟩;obtain⟨u,hu,ru⟩:=r.get (show(cA zs)[j]? =some (V.ref z.2) by rw[VT,b1];rfl);cases ru;simpa using hu
 .have kl:=pJ (zs.map (·.1)) [];rw[VN]at kl;have hq:H s.heap.objs.size=none:=I.hok.fresh (XD _);obtain⟨h',g',d',t',os'⟩:=s';obtain rfl:g'=s.gens:=a3;obtain rfl:d'=s.drawn:=a4;obtain rfl:os'=s.os:=a5;have k2:∀b o,s.heap.get? b=some o->h'.get? b=some o:=a2;have dd:h'.DictOf (mixKind X.prog X.w) s.heap.objs.size (hV [] ps):=a1;have kz:(kvsOf [] (zs.map (·.1))).length<=v1:=by rw[RW];have:([]:List (Key×V)).length=0:=rfl;lia
  exact⟨.ref s.heap.objs.size,upd H s.heap.objs.size (.dK (kvsOf [] (zs.map (·.1)))),I.laid (t':=t') k2 (XD _) (dk_new kz (beq_eq_false_iff_ne.mpr (Ne.symm (XE I.big))) (p3 [] [] .nil) dd),rfl,q _ hq⟩
def Lf(K:Frag)(hr:cw j X.A)(hK:X.K=K:=by rfl):bf X (.type "dict") (wq K):=by subst hK;exact uJ hr.hd
end
def Lo(x:V)(xs:List V)(H:Hp)(Q:VK):Prop:= ∃a kvs k y,x=.ref a/\xs=[kV k,y]/\H a=some (.dK kvs)/\Q ((valV kvs k).getD y) H
def DR:sH X "dict.get" Lo:=by
 intro Rv s σ H x xs v us Q I rx rv h;obtain⟨a,kvs,k,y,rfl,rfl,e,q⟩:=h;cases rx;cases rv with
 |cons r1 rn=>
 cases rn with
 |cons r2 rn2=>
 cases rn2;obtain⟨z,hd,vs,rel,dd⟩:=JN I.hok e;refine call_meetsIn PySem.F.slot_dict_get dd.typeIs PySem.F.entry_dict_get (PySem.F.args_dict_get_3 _ _ _) (meets_dict_get_default (mixKind X.prog X.w) a (pO r1) hd _) ⟨_,dd.mapOf,?_⟩;exact⟨(valV kvs k).getD y,H,I.tok _,(rel.val k).getD r2,q⟩
def OQ{X:Cx}{o e e2:Sz}{to:TE}{t:TA}{apos cpos:Vb}(K:Frag)(ho:PE X o to)(ha:PA X [e,e2] t)(hbase:SE o "get" X.env (Sr o X.env)=Sr o X.env:=by rfl)(hfew:((Sj cpos (RS [e,e2] X.env)).all (λx=> !x.1)&&(TQ cpos (S6 [] X.env)).all (λx=>x.1.isSome)
   &&decide ([e,e2].length+([]:List Tw).length+(if([]:List Tw).isEmpty then 0 else 1)<30))=true:=by rfl) (hline:(apos.endLine == cpos.line)=true:=by rfl) (hs:RS [e,e2] X.env=(false,Sr e X.env)::RS [e2] X.env:=by rfl) (hplain:(Sj cpos (RS [e2] X.env)).any (·.1)=false:=by rfl) (hK:X.K=K:=by rfl):PE X (.Call (.Attribute o "get" apos) [e,e2] [] cpos) (QP K "dict" Lo to t):=by
 subst hK;exact Oz PySem.F.plainAttrs_dict PySem.F.slot_dict_get PySem.F.type_dict_get DR ho ha hbase hfew hline hs hplain
end L2
namespace L2
open PySem PySem.Spec PyProof.Rows
noncomputable def sO(ts:List ((Str×Str)×Zo))(kd:Str):V:=(valV (kvsOf [] (ts.map (·.1))) (.inr kd)).getD (.str kd)
def Ly{K:Frag}{te:TE}{ta:TA}{σ:St}{H:Hp}{Q:VK}{d:Zo}{zs:List ((Str×Str)×Zo)}{kd:Str}(h:Ev te σ H (.ref d))(hd:aR K H d (cA zs))(hp:mn H zs)(hz:zs.length<=1000)(ha:∀H',aj H H'->Av ta σ H' [.str kd,.str kd])(q:∀H',aj H H'->Q (sO zs kd) H'):QP K "dict" Lo (cB (wq K) (aN te bG)) ta σ H Q:=
 h _ ⟨d,zs,rfl,hd,λz hz'=>dF.of (hp z hz'),hz,λp hq=>⟨.inr (.inr (.inl ⟨rfl,.inl ⟨_,ag⟩⟩)),ha _ ((aj.refl H).upd hq) _ ⟨p,_,.inr kd,.str kd,rfl,rfl,ag,q _ ((aj.refl H).upd hq)⟩⟩⟩
def AA{P:V->Prop}{kvs:List (Key×V)}{k:Key}{v:V}(h:∀kv∈kvs,P kv.2)(e:valV kvs k=some v):P v:=by unfold valV at e;obtain⟨kv,h1,rfl⟩:=YA.mp e;exact h kv (List.mem_of_find?_eq_some h1)
def A6{P:V->Prop}{kvs:List (Key×V)}{k:Key}{v:V}(h:∀kv∈kvs,P kv.2)(hv:P v):∀kv∈iU kvs k v,P kv.2:=λkv hkv=>by
 unfold iU at hkv;split at hkv
 .obtain⟨y,hy,rfl⟩:=VP.mp hkv;split
  .exact hv
  .exact h y hy
 .rcases VY.mp hkv with w|w
  .exact h kv w
  .rw[VR.mp w];exact hv
theorem pK{P:V->Prop}:∀ps kvs,(∀kv∈kvs,P kv.2)->(∀p∈ps,P (.str p.2))->∀kv∈kvsOf kvs ps,P kv.2
 | [],_,h,_=>h
 |p::ps,kvs,h,hp=>pK ps _ (A6 h (hp p VW)) λq hq=>hp q (VU _ hq)
def wU(g:lU ks ts)(hk:k∈ks):∃c∈ks,sO ts (one k)=.str (one c):=by
 unfold sO;cases e:valV (kvsOf [] (ts.map (·.1))) (.inr (one k))with
 |none=>exact⟨k,hk,rfl⟩
 |some v=>
  have z:=AA (P:=λv=>∃c∈ks,v=.str (one c)) (pK (P:=λv=>∃c∈ks,v=.str (one c)) _ [] (λ_ z=>nomatch z) λp hp=>?_) e
  .obtain⟨c,hc,rfl⟩:=z;exact⟨c,hc,rfl⟩
  .obtain⟨y,hy,rfl⟩:=VP.mp hp;obtain⟨_,c,hc,e2⟩:=g.kd y hy;exact⟨c,hc,by rw[e2]⟩
noncomputable def Rc:V->Nat
 | .str z=>z.cps.toList.getD 0 0
 |_=>0
noncomputable def se(ts:List ((Str×Str)×Zo))(wi hi:Int)(c:Nat)(sd gl:Int):Nat:=if gl / wi=me hi sd then P3 (Rc (sO ts (one (VM c)))) sd else c
noncomputable def uM(ts:List ((Str×Str)×Zo))(wi hi:Int)(row:Str)(sd s gl t:Int):Str:=putT (if t= -1 then putT row s (one 46)else putT (putT row s (one 46)) t (one 46)) gl (one (se ts wi hi (row.cps.toList.getD s.toNat 0) sd gl))
def sT(cG:Zo):Sp:=λvs H Q _=>∃g b kd ks rs es ts st,vs=[.ref g,.str kd]/\fV cG H g b ks rs (cA ts) es st/\mn H ts/\ts.length<=6/\∀H',aj H H'->Q (sO ts kd) H'
def Jk(K:Frag)(cB cG:Zo):Sp:=λvs H Q _=>∃g b kq c sd gl wi hi hs ks us ts es st,vs=[.ref g,.str (one c),.int sd,.int gl]/\fY K cB cG H g b kq wi hi hs ks us ts es st/\(c∈ks\/c∈ks.map (· - 32))/\∀H',aj H H'->Q (.str (one (se ts wi hi c sd gl))) H'
def tj(K:Frag)(cB cG:Zo):Sp:=λvs H Q _=>∃g b kq p mv row sd s gl t wi hi hs ks us ts es st,vs=[.ref g,.ref p,.ref mv]/\fY K cB cG H g b kq wi hi hs ks us ts es st/\dF K H p [.str row,.int sd]/\dF K H mv [.int s,.int gl,.int t]/\iR wi hi hs ks row/\0<=s/\s<row.length/\sdV row s=.int sd/\0<=gl/\gl<row.length/\(t= -1\/0<=t/\t<row.length)/\
 ∀(q:Zo)(H':Hp),H q=none->H' q=some (.tup [.str (uM ts wi hi row sd s gl t),.int (1 - sd)])->aj H H'->Q (.ref q) H'
structure CD1(P:RU)(w:RZ)(K:Frag)(mg:RJ)(Rw:R9)(cB cG:Zo):Prop where
 kind_of:cZ P w K mg Rw "kind_of" ["sign"] 1 vg
 sign_of:cZ P w K mg Rw "sign_of" ["kind","side"] 1 mS
 row_of:cZ P w K mg Rw "row_of" ["wide","square"] 1 AN
 Board_far_row:j6 P w K mg Rw cB "far_row" ["self","side"] 1 (AV K cB)
 Game_turned:j6 P w K mg Rw cG "turned" ["self","kind"] 1 (sT cG)
structure CD2(P:RU)(w:RZ)(K:Frag)(mg:RJ)(Rw:R9)(cB cG:Zo):Prop where
 arrived:cZ P w K mg Rw "arrived" ["game","sign","side","goal"] 2 (Jk K cB cG)
 put:cZ P w K mg Rw "put" ["row","square","sign"] 1 Jf
def pM{ks:List Nat}(hl:∀k∈ks,j7 k){c:Nat}(h:c∈ks\/c∈ks.map (· - 32)):VM c∈ks/\c<128/\¬(c=46\/c=35):=by
 rcases h with h|h
 .have:=hl c h;unfold j7 at this;refine⟨?_,by lia,by lia⟩;have e:VM c=c:=by unfold VM;split<;>lia
  rw[e];exact h
 .obtain⟨k,hk,rfl⟩:=VP.mp h;have:=hl k hk;unfold j7 at this;refine⟨?_,by lia,by lia⟩;have e:VM (k - 32)=k:=by unfold VM;split<;>lia
  rw[e];exact hk
def DS(ho:Ev to σ H (.ref p))(hi:lT C m H p)(q:t σ H λvs H2=>sp (.ref p::vs) H2 Q E0):uK C m sp to t σ H Q:=ho _ ⟨hi,q⟩
def B0(h:Ev te σ H (.str ".")):Ev te σ H (.str (one 46)):=by
 have e:one 46=".":=by decide+kernel
 rw[e];exact h
def Es(h:x∈wF row sd so ai path):x.1∈path/\(x.2= -1\/x.2∈path):=by
 have sl:∀p:List Int,(∀y∈p,y∈path)->x∈fW row sd ai p->x.1∈path/\(x.2= -1\/x.2∈path):=λp hp hx=>by
  obtain⟨g,hg,rfl⟩:=VP.mp ((qD row sd ai p).subset hx);refine⟨hp g hg,?_⟩;unfold prG;show(if sdV row g=.non then(-1:Int)else g)= -1\/(if sdV row g=.non then(-1:Int)else g)∈path;split
  .exact .inl rfl
  .exact .inr (hp g hg)
 unfold wF at h;split at h
 .match path,h with
  | [],h=>simp[nP]at h
  | [_],h=>simp[nP]at h
  |a::b::r,h=>
   have h:x∈(if sdV row a=.int (1 - sd)/\sdV row b=.non then [(b,a)]else []):=h;split at h
   .have e:=VR.mp h;rw[e];exact⟨by simp,.inr (by simp)⟩
   .simp at h
 .refine sl _ (λy hy=>?_) h;split at hy
  .exact Xi hy
  .exact hy
structure PP(wi hi:Int)(hs:List Int)(row:Str)(sd s gl t:Int):Prop where
 s0:0<=s
 s1:s<row.length
 sd:sdV row s=.int sd
 g0:0<=gl
 g1:gl<wi*hi
 gn:¬gl∈hs
 tk:t= -1\/(0<=t/\t<wi*hi/\¬t∈hs)
theorem a9.inn(w1:1<=wi):∀{us:List (bw×Zo)}{l:List (Int×Int)},a9 wi hi hs row sq sd us l->∀x∈l,(0<=x.1/\x.1<wi*hi/\¬x.1∈hs)/\(x.2= -1\/(0<=x.2/\x.2<wi*hi/\¬x.2∈hs))
 |_,_,.nil,_,h=>nomatch h
 |_,_,.cons a b,x,h=>by
  rcases VY.mp h with w|w
  .obtain⟨n,ry,_,rfl⟩:=a;obtain⟨h1,h2⟩:=Es w;refine⟨vB w1 ry _ h1,?_⟩
   rcases h2 with e|e
   .exact .inl e
   .exact .inr (vB w1 ry _ e)
  .exact a9.inn w1 b x w
theorem mJ.ok(w1:1<=wi):∀{ss:List Int}{m:List (List Int)},mJ wi hi hs row us sd ss m->(∀s∈ss,0<=s/\s<row.length/\sdV row s=.int sd)->∀k∈m,∃s gl t,k=[s,gl,t]/\PP wi hi hs row sd s gl t
 |_,_,.nil,_,_,z=>nomatch z
 |_,_,@mJ.cons _ _ _ _ _ _ s ss l m a b,hss,k,z=>by
  rcases VY.mp z with w|w
  .obtain⟨x,hx,rfl⟩:=VP.mp w;obtain⟨l0,hl,hs'⟩:=a;obtain⟨i1,i2⟩:=hl.inn w1 x ((hs'.1 x).mp hx);obtain⟨a1,a2,a3⟩:=hss s VW;exact⟨s,x.1,x.2,rfl,a1,a2,a3,i1.1,i1.2.1,i1.2.2,i2⟩
  .exact mJ.ok w1 b (λy hy=>hss y (VU _ hy)) k w
noncomputable def EC(ts:List ((Str×Str)×Zo))(wi hi:Int)(row:Str)(sd:Int)(k:List Int):Str×Int:=(uM ts wi hi row sd (k.getD 0 0) (k.getD 1 0) (k.getD 2 0),1 - sd)
noncomputable abbrev plRefs(ps:List ((Str×Int)×Zo)):List V:=ps.map λz=>V.ref z.2
def PM(H H':Hp)(q:Zo)(ls:List (Str×Int)):Prop:= ∃ps:List ((Str×Int)×Zo),ps.map (·.1)=ls/\H' q=some (.lst (plRefs ps))/\∀p∈ps,H p.2=none/\H' p.2=some (.tup [.str p.1.1,.int p.1.2])
theorem Bc{α:Type}{H0 H:Hp}(f:α->Str×Int):∀(l:List α)(ys:List V),ys.length=l.length->(∀(i:Nat)(y:V),ys[i]? =some y->∃x t,l[i]? =some x/\y=.ref t/\H0 t=none/\H t=some (.tup [.str (f x).1,.int (f x).2]))->∃ps:List ((Str×Int)×Zo),ys=plRefs ps/\ps.map (·.1)=l.map f/\∀p∈ps,H0 p.2=none/\H p.2=some (.tup [.str p.1.1,.int p.1.2])
 | [],[],_,_=>⟨[],rfl,rfl,λ_ z=>nomatch z⟩
 |x::l,y::ys,hl,h=>by
  obtain⟨x',t,e1,rfl,e3,e4⟩:=h 0 y rfl;have e1:x=x':=by simpa using e1
  subst e1;obtain⟨ps,rfl,p2,p3⟩:=Bc f l ys (by simpa using hl) λi y hy=>h (i+1) y (by simpa using hy);refine⟨(f x,t)::ps,rfl,by rw[V2,V2,p2],λp hp=>?_⟩
  rcases VO.mp hp with rfl|hp
  .exact⟨e3,e4⟩
  .exact p3 p hp
 | [],_::_,hl,_=>by simp at hl
 |_::_,[],hl,_=>by simp at hl
def kW(wi hi:Int)(hs:List Int)(row:Str)(us:List (bw×Zo))(ts es:List ((Str×Str)×Zo))(sd:Int)(ls:List (Str×Int)):Prop:=(¬cO (uV row wi hi sd es)=.non/\ls=[])\/(cO (uV row wi hi sd es)=.non/\∃m,mJ wi hi hs row us sd (sqsOf row sd) m/\m.length<=4096/\ls=m.map (EC ts wi hi row sd))
theorem kW.uniq(h:kW wi hi hs row us ts es sd ls)(h':kW wi hi hs row us ts es sd ls'):ls=ls':=by
 rcases h with⟨a,rfl⟩|⟨a,m,b,_,rfl⟩
 .rcases h' with⟨_,rfl⟩|⟨c,_⟩
  .rfl
  .exact RF c a
 .rcases h' with⟨c,_⟩|⟨_,m',b',_,rfl⟩
  .exact RF a c
  .rw[b.uniq b']
def AU(K:Frag)(cB cG:Zo):Sp:=λvs H Q _=>∃g b kq p row sd wi hi hs ks us ts es st,vs=[.ref g,.ref p]/\fY K cB cG H g b kq wi hi hs ks us ts es st/\dF K H p [.str row,.int sd]/\iR wi hi hs ks row/\(sd=0\/sd=1)/\
 ∀(ls:List (Str×Int))(q:Zo)(H':Hp),kW wi hi hs row us ts es sd ls->H q=none->PM H H' q ls->aj H H'->Q (.ref q) H'
structure CD3(P:RU)(w:RZ)(K:Frag)(mg:RJ)(Rw:R9)(cB cG:Zo):Prop where
 by_ends:cZ P w K mg Rw "by_ends" ["game","place"] 5 (mV K cB cG)
 moves:cZ P w K mg Rw "moves" ["game","place"] 6 (qz K cB cG)
 behind:cZ P w K mg Rw "behind" ["game","place","move"] 3 (tj K cB cG)
def EB(R:iR wi hi hs ks row)(hl:∀k∈ks,j7 k)(tg:lU ks ts)(rl:(row.length:Int)=wi*hi)(hc:row.cps.toList.getD s.toNat 0∈ks\/row.cps.toList.getD s.toNat 0∈ks.map (· - 32))(sn:¬s∈hs)(h:PP wi hi hs row sd s gl t):iR wi hi hs ks (uM ts wi hi row sd s gl t):=by
 have R1:=R.put (c:=46) h.s0 h.s1 sn (.inl rfl);have l1:=gG (c:=46) h.s0 h.s1;have g1:=h.g1;have R2:iR wi hi hs ks (if t= -1 then putT row s (one 46)else putT (putT row s (one 46)) t (one 46)):=by
  split
  .exact R1
  .rename_i ne
   rcases h.tk with e|⟨t0,t1,tn⟩
   .exact RF e ne
   .exact R1.put t0 (by rw[l1];lia) tn (.inl rfl)
 have l2:=R2.len;unfold uM;refine R2.put h.g0 (by rw[l2];lia) h.gn ?_;unfold se;split
 .obtain⟨c',hc',et⟩:=wU tg (pM hl hc).1;rw[et];unfold P3;split
  .exact .inr (.inr (VP.mpr ⟨c',hc',rfl⟩))
  .exact .inr (.inl hc')
 .exact .inr hc
def ir(h0:0<=s)(h1:s<row.length):(putT row s (one c)).cps.toList=row.cps.toList.set s.toNat c:=by
 have hl:s.toNat<row.cps.toList.length:=by have:row.length=row.cps.toList.length:=rfl;lia
 rw[lm h0 h1,List.set_eq_take_append_cons_drop,RC hl,Wi];rfl
def tu(cs:List Nat)(n c:Nat):(cs.map strV).set n (strV c)=(cs.set n c).map strV:=List.map_set.symm
def An{ks:List Nat}{ts:List ((Str×Str)×Zo)}{wi hi:Int}{hs:List Int}{row:Str}{sd s gl t:Int}(rl:(row.length:Int)=wi*hi)(s0:0<=s)(s1:s<row.length)(g0:0<=gl)(g1:gl<row.length)(ht:t= -1\/0<=t/\t<row.length):(uM ts wi hi row sd s gl t).cps.toList=((if 0<=t then(row.cps.toList.set s.toNat 46).set t.toNat 46 else row.cps.toList.set s.toNat 46).set gl.toNat (se ts wi hi (row.cps.toList.getD s.toNat 0) sd gl)):=by
 have l1:=gG (c:=46) s0 s1;unfold uM
 rcases ht with rfl|⟨t0,t1⟩
 .rw[RC rfl,RB (by decide),ir g0 (by rw[l1];exact g1),ir s0 s1]
 .rw[RB (by lia),RC t0,ir g0 (by rw[gG t0 (by rw[l1];exact t1),l1];exact g1),ir t0 (by rw[l1];exact t1),ir s0 s1]
def Ds(R:iR wi hi hs ks z):rowB wi hi hs ks (.str z)=true:=by
 unfold rowB;dsimp only;rw[Ry (by rw[j5];exact R.len),Yj,Wc];intro x hx;obtain⟨i,hi'⟩:=Xh hx;rw[Xz]at hi';cases e1:z.cps.toList[i]? with
 |none=>rw[e1]at hi';cases hi'
 |some c=>
  cases e2:(emptyT wi hi hs).cps.toList[i]? with
  |none=>rw[e1,e2]at hi';cases hi'
  |some e=>
   rw[e1,e2]at hi';have hx':gP ks c e=x:=RH hi';have ee:e=if(i:Int)∈hs then 35 else 46:=by
    unfold emptyT at e2;have e2:((List.range (wi*hi).toNat).map λ(s:Nat)=>if(s:Int)∈hs then 35 else 46)[i]? =some e:=e2;rw[VT]at e2;cases e3:(List.range (wi*hi).toNat)[i]? with
    |none=>rw[e3]at e2;cases e2
    |some j=>
     rw[e3]at e2;have e2:(if(j:Int)∈hs then 35 else 46)=e:=RH e2;have:j=i:=by obtain⟨h1,h2⟩:=V5.mp e3;rw[XA]at h2;exact h2.symm
     rw[<-e2,this]
   rw[<-hx',ee];exact R.at_ i c e1
def jU(H:Hp)(ps:List ((Str×Int)×Zo)):Prop:= ∀p∈ps,H p.2=some (.tup [.str p.1.1,.int p.1.2])
def jU.same(h:jU H ps)(s:aj H H'):jU H' ps:=λp hp=>s _ _ (h p hp)
def kW.rows(w1:1<=wi)(R:iR wi hi hs ks row)(hl:∀k∈ks,j7 k)(tg:lU ks ts)(rl:(row.length:Int)=wi*hi)(h:kW wi hi hs row us ts es sd ls):∀y∈ls,iR wi hi hs ks y.1/\y.2=1 - sd:=λy hy=>by
 rcases h with⟨_,rfl⟩|⟨_,m,hm,_,rfl⟩
 .cases hy
 .obtain⟨k,hk,rfl⟩:=VP.mp hy;obtain⟨s,gl,t,rfl,ok⟩:=hm.ok w1 (λs hs=>jB hs) k hk;refine⟨?_,rfl⟩;have hsd:di (row.cps.toList.getD s.toNat 0)=.int sd:=ok.sd;have hlt:s.toNat<row.cps.toList.length:=by have:row.length=row.cps.toList.length:=rfl;have:=ok.s0;have:=ok.s1;lia
  have e:row.cps.toList[s.toNat]? =some (row.cps.toList.getD s.toNat 0):=by rw[VX,VQ hlt];rfl
  have ca:=R.at_ _ _ e;rw[show((s.toNat:Nat):Int)=s by have:=ok.s0;lia]at ca
  rcases dE ca with⟨_,h⟩|⟨sn,h|h⟩
  .rw[h]at hsd;cases hsd
  .rw[h]at hsd;cases hsd
  .exact EB R hl tg rl h sn ok
def Ee{K:Frag}{h:R9}{C:Zo}{bmB:List Zn}{newId:String}(X:K.In h)(q:YT K C bmB newId=true):∃bm N nm qn bs hdct sn sub ab col dd k0 k1 k2 k3 k5 mN,h.get? C=some (excClassObj nm qn C N bs bm hdct sn sub ab col dd k0 k1 k2 k3 k5 newId)/\h.Ns N mN/\mN "__init__"=none/\OwnTail h bmB bm:=by
 unfold YT at q;split at q
 .rename_i dd cd sl ho;split at q
  .rename_i C' bm k0 k1 k2 k3 n k5 hm hs;simp only[Ye,beq_iff_eq,Yi]at q;obtain⟨⟨⟨⟨⟨rfl,rfl⟩,hdel⟩,ht⟩,hok⟩,hni⟩:=q;obtain⟨nm,bs,mro,ns,qn,hd,sn,sub,ab,col,del⟩:=cd;dsimp only at hm hdel hok hni;subst hm hdel;have hsl:sl= #[k0,k1,k2,k3,some (.builtin n),k5]:=by obtain⟨l⟩:=sl;simp only at hs;rw[hs]
   subst hsl;exact⟨bm,ns,nm,qn,bs,hd,sn,sub,ab,col,dd,k0,k1,k2,k3,k5,_,X _ _ ho,.of_isNs (PySem.W.isNs_of_in X hok),PySem.W.nsMap_none_of_in X hok hni,PySem.W.tail_of_in X ht⟩
  .cases q
 .cases q
def Ke(ta:TA)(G:Hp->Prop):TS:=λ_ σ H=>ta σ H λvs H1=>vs.length<=v1/\G H1
def tM{X:Cx}{x:Str}{C:Zo}{e₀:Sz}{rest:List Sz}{np cpos pos:Vb}{ta:TA}{G:Hp->Prop}{bmB:List Zn}{B newId initId:String}(FB:ExcBaseFacts B newId initId bmB)(hc:X.calm=true)(hg:Gl X x)(hm:X.mg x=some (.ref C))(q:YT X.K C bmB newId=true)(ha:PA X (e₀::rest) ta)(hx:∀Rv σ H s h' e vs,aJ X Rv σ H s->Heap.MadeExcOf s.heap h' e (.ref C) vs->G H->X.xe (.ref e) {s with heap:=h'})(he:RS (e₀::rest) X.env=(false,Sr e₀ X.env)::RS rest X.env:=by rfl)(hpl:(Sj cpos (RS rest X.env)).any (·.1)=false:=by rfl)(hdb:(x == ("__debug__":Str))=false:=by decide):PS X (.Raise (some (.Call (.Name x np) (e₀::rest) [] cpos)) none pos) (Ke ta G):=by
 intro Rv s σ H D I h;obtain⟨tl,N,nm,qn,bs,hdct,sn,sub,ab,col,dd,k0,k1,k2,k3,k5,mN,hC,hN,hni,T⟩:=Ee I.ok.mod.kin q;refine wpAny_Raise_call_subT (C:=C) (nm:=nm) (q:=qn) (N:=N) (bs:=bs) (bm:=tl) (hdct:=hdct) (sn:=sn) (sub:=sub) (ab:=ab) (col:=col) (dd:=dd) (k0:=k0) (k1:=k1) (k2:=k2) (k3:=k3) (k5:=k5)
  FB (mN:=mN) (T.hasType FB.hasBase) (I.ok.hd hc) (by rw[he];show(false||(Sj cpos (RS rest X.env)).any (·.1))=false;rw[hpl];rfl) hni (iJ I hg hm ⟨rfl,?_⟩ hdb)
 have h2:=ha cpos Rv s σ H _ I h;rw[he]at h2 ⊢;refine SD (bL h2 λus s2 ⟨vs,H1,I1,r,z,g⟩=>?_);exact⟨rfl,by rw[<-r.length];exact z,I1.bk _ _ hC,hN.keeps I1.bk,T.keeps I1.bk,λh' e hm=>hx Rv σ H1 s2 h' e us I1 hm g⟩
def bp.obj(x:bp P w H h a o):∃u,h.get? a=some u:=by
 cases o with
 |lst xs=>obtain⟨_,_,_,_,e⟩:=x;exact⟨_,e⟩
 |tup xs=>obtain⟨_,_,_,o,e,_⟩:=x;exact⟨o,e⟩
 |dK kvs=>obtain⟨_,_,_,_,o,_,_,e,_⟩:=x;exact⟨o,e⟩
 |dT kvs=>obtain⟨_,_,_,_,o,_,_,e,_⟩:=x;exact⟨o,e⟩
 |set S n=>obtain⟨o,_,_,_,e,_⟩:=x;exact⟨o,e⟩
 |ins C dx fs=>obtain⟨_,_,_,e,_⟩:=x;exact⟨_,e⟩
 |own y=>exact x
 |xd fs=>obtain⟨_,⟨o,_,_,e,_⟩,_⟩:=x;exact⟨o,e⟩
 |rng lo hi=>obtain⟨_,_,_,e⟩:=x;exact⟨_,e⟩
 |frz ob u=>obtain⟨e,_⟩:=x;exact⟨_,e⟩
 |tbl ps=>exact⟨_,(show h.get? a=some _ from x)⟩
 |met f y=>exact⟨_,(show h.get? a=some _ from x)⟩
 |ext φ=>obtain⟨_,e,_⟩:=x;exact e
def yy(P:RU)(w:RZ):As:=λRx H s E e s'=>∃a cls a0 B H',e=.ref a/\s'.os=s.os/\T0 s'.gens/\s.heap.get? a=none/\H' a=none/\
 Heap.FlyingW B Rx a cls a0 s'.heap/\jM P w H' B/\Un (jK Rx) [] H H' s.heap s'.heap/\(∀b o,s.heap.get? b=some o->H b=none->b∉jK Rx->B.get? b=some o)/\
 (∀b o,s.heap.get? b=some o->b∉jK Rx->∃o',B.get? b=some o')/\E cls none H'
def lO{P:RU}{w:RZ}{K:Frag}{mg:RJ}{Rw:R9}{N:List Str}{qual:Str}{scope:TV}{f:Zo}{cd:Zn}{A:SJ}{Rx:List VE}{s:RQ}{H:Hp}{E:XK}{C:Zo}:∀Rv σ H1 s1 h' e vs,aJ (lA (yy P w) P w K mg Rw N qual scope f cd A Rx s H E) Rv σ H1 s1->Heap.MadeExcOf s1.heap h' e (.ref C) vs->E (.ref C) none H1->(lA (yy P w) P w K mg Rw N qual scope f cd A Rx s H E).xe (.ref e) {s1 with heap:=h'}:=by
 intro Rv σ H1 s1 h' e vs I hm hE;have fr:(A.deeper (SU qual scope s.heap.objs.size f cd)).frames=some (SU qual scope s.heap.objs.size f cd::Rx):=I.ok.frames;have ST:s1.heap.FunFrames Rw (SU qual scope s.heap.objs.size f cd::Rx):=I.stack;have BU:Un (jK Rx) [] H H1 s.heap s1.heap:=I.Rw;have hin:∀env∈(SU qual scope s.heap.objs.size f cd::Rx),∀b,env.frame=some b->b∈jK (SU qual scope s.heap.objs.size f cd::Rx):=λenv he b hb=>Wd.mpr ⟨env,he,hb⟩;have sub:∀b,b∈jK Rx->b∈jK (SU qual scope s.heap.objs.size f cd::Rx):=λb hb=>by obtain⟨env,he,hf⟩:=Wd.mp hb;exact Wd.mpr ⟨env,VU _ he,hf⟩
 have notin:∀b o,s.heap.get? b=some o->b∉jK Rx->b∉jK (SU qual scope s.heap.objs.size f cd::Rx):=λb o q nb hb=>by
  obtain⟨env,he,hf⟩:=Wd.mp hb
  rcases VO.mp he with rfl|he
  .have:s.heap.objs.size=b:=RH hf;rw[<-this]at q;exact RF (RP q) (XM _)
  .exact nb (Wd.mpr ⟨env,he,hf⟩)
 show RR _ _ (leaving _ _) _ _ _;refine wpAny_leaves_madeW (base:=Y9 s1.heap (jK (SU qual scope s.heap.objs.size f cd::Rx))) fr rfl (λb o q=>Za _ q) (PySem.W.funFrames_hide ST hin) hm λh2 t x1 x2 x3 x4=>?_;have data:∀b o,s1.heap.get? b=some o->b∈jK Rx->∃sl,h2.get? b=some {o with slots:=sl}:=λb o q hb=>by obtain⟨_,o',q',nd⟩:=ST.mem (sub b hb);rw[q]at q';cases q';exact x4 b o (hm.keeps b o q) nd
 refine⟨e,_,_,_,H1,rfl,I.os,I.bare,?_,?_,x1,?_,⟨λb o q n hb hx=>?_,λb o q n hb hx=>?_,BU.free,λb o q hx=>?_,BU.tups,BU.frzs,BU.tbls⟩,λb o q n hb=>?_,λb o q hb=>?_,hE⟩
 .cases q:s.heap.get? e with
  |none=>rfl
  |some o=>
   obtain⟨o',q'⟩:=BU.there e o q (by simp);rw[hm.new]at q';cases q'
 .cases q:H1 e with
  |none=>rfl
  |some o=>
   obtain⟨o',q'⟩:=(I.hok e o q).obj;rw[hm.new]at q';cases q'
 .intro b o q;refine(I.hok b o q).stay (λc v hc z=>YV _ z λhb=>?_) (λ_ z=>z) λ_ _ z=>z;have fz:=I.stkFree c hb
  rcases hc with rfl|hc
  .rw[q]at fz;cases fz
  .rw[hc]at fz;cases fz
 .exact x1.1 b o (YV _ (BU.keep b o q n hb hx) (notin b o q hb))
 .obtain⟨sl,q1⟩:=BU.slot b o q n hb hx;obtain⟨sl',q2⟩:=data b _ q1 hb;exact⟨sl',q2⟩
 .obtain⟨o',q1⟩:=BU.there b o q hx
  by_cases hb:b∈jK Rx
  .obtain⟨sl,q2⟩:=data b _ q1 hb;exact⟨_,q2⟩
  .exact⟨o',x1.1 b o' (YV _ q1 (notin b o q hb))⟩
 .exact YV _ (BU.keep b o q n hb (by simp)) (notin b o q hb)
 .obtain⟨o',q1⟩:=BU.there b o q (by simp);exact⟨o',YV _ q1 (notin b o q hb)⟩
def cy.okX{P:RU}{w:RZ}{K:Frag}{mg:RJ}{Rw:R9}{x qual:Str}{st:Sb}{f:Zo}{fd:R7}{N ps:List Str}{k:Nat}{sp:Sp}(F:cy K x qual st f fd)(S:aD N ps (ak st))(len:∀vs H Q E,sp vs H Q E->vs.length=ps.length)(hbody:∀cdv A Rx s H vs Q E,cw k (A.deeper (SU qual (ak st) s.heap.objs.size f cdv))->sp vs H Q E->
   ∃t,sj (lA (yy P w) P w K mg Rw N qual (ak st) f cdv A Rx s H E) (dh st) t/\t {nx:=λ_ H'=>Q .non H',rt:=Q} (start N vs) H):aY P w K mg Rw (yy P w) (k+1) f fd ps sp:=by
 obtain⟨oc,od,kV,doc,pm,an,cdv,ct,osl,rfl,lk,hcd⟩:=F.ex;exact JI lk hcd S len λA Rx s H vs Q E hr hsp=>hbody cdv A Rx s H vs Q E hr hsp
section
variable{X:Cx}{Rv:RL}{σ:St}{H H':Hp}{s s':RQ}
noncomputable abbrev Cx.hand(X:Cx)(e:Zo):Cx:={X with A:=X.A.mark (some (.ref e)),calm:=false}
theorem aJ.hand(I:aJ X Rv σ H s)(e:Zo):aJ (X.hand e) Rv σ H s:=
 ⟨⟨I.ok.mod,I.ok.kind,I.ok.glob,I.ok.blt,I.ok.above,I.ok.inj,I.ok.has,I.ok.cab,λz=>(Bool.noConfusion z),I.ok.frames,I.ok.stk,I.ok.exf,I.ok.bs,I.ok.bsz,I.ok.noex,I.ok.exfs,I.ok.funs,I.ok.frf⟩,I.os,I.bare,I.Rw,I.loc,I.cell,I.free,I.freeC,I.pin,I.hok,I.len⟩
def aJ.unhand(ok:X.Ok)(I:aJ (X.hand e) Rv σ H s):aJ X Rv σ H s:=⟨ok,I.os,I.bare,I.Rw,I.loc,I.cell,I.free,I.freeC,I.pin,I.hok,I.len⟩
def aJ.flown{a:Zo}{cls a0:Zn}{B h5:R9}(I:aJ X Rv σ H s)(os:s'.os=s.os)(bare:T0 s'.gens)(ff:s'.heap.FunFrames B X.stack)(fl:B.StaysIn h5)(hok:jM X.prog X.w H' B)(un:Un (jK X.stack) [] H H' s.heap s'.heap)(u:s'.heap.UpToSlots h5)(c1:∀b o,s.heap.get? b=some o->H b=none->b∉jK X.stack->B.get? b=some o)(c2:∀b o,s.heap.get? b=some o->b∉jK X.stack->∃o',B.get? b=some o'):aJ X Rv σ H' {s' with heap:=h5}:=by
 refine I.call' (s':={s' with heap:=h5}) (ch:=[]) os ⟨λb o q n hb _=>fl b o (c1 b o q n hb),λb o q n hb hx=>?_,un.free,λb o q hx=>?_,un.tups,un.frzs,un.tbls⟩ (hok.kept fl) bare (λb z=>RF z (by simp))
 .obtain⟨sl,q1⟩:=un.slot b o q n hb hx;obtain⟨_,o',q',nd⟩:=ff.mem hb;rw[q1]at q';cases q';obtain⟨sl',q2⟩:=u b _ q1 nd;exact⟨sl',q2⟩
 .by_cases hb:b∈jK X.stack
  .obtain⟨_,o',q',nd⟩:=ff.mem hb;obtain⟨sl',q2⟩:=u b _ q' nd;exact⟨_,q2⟩
  .obtain⟨o',q'⟩:=c2 b o q hb;exact⟨o',fl b o' q'⟩
noncomputable def CG(cls:Zn)(a:Zo):HO:=.ext λh=>∃o,h.get? a=some o/\o.cls=cls
def aJ.track(I:aJ X Rv σ H s)(ho:∃o,s.heap.get? a=some o/\o.cls=cls)(hn:H a=none)(I1:aJ X Rv σ H1 s1)(new:s1.heap.get? a=none):aJ X Rv σ (upd H a (CG cls a)) s:=by
 have neq:∀b u,s1.heap.get? b=some u->b≠a:=λb u q z=>by rw[z,new]at q;cases q
 have neH:∀b u,H b=some u->b≠a:=λb u q z=>by rw[z,hn]at q;cases q
 refine⟨I.ok,I.os,I.bare,⟨I.Rw.keep,I.Rw.slot,λb o q n hx=>?_,I.Rw.there,λb xs q=>?_,λb o u q=>?_,λb ps q=>?_⟩,I.loc,I.cell,?_,λx c q=>?_,λp hp=>?_,λb u q=>?_,I.len⟩
 .obtain⟨o',q'⟩:=I1.Rw.there b o q hx;rw[aq (neq b o' q')];exact I.Rw.free b o q n hx
 .rw[aq (neH b _ (I.Rw.tups b xs q))];exact I.Rw.tups b xs q
 .rw[aq (neH b _ (I.Rw.frzs b o u q))];exact I.Rw.frzs b o u q
 .obtain⟨m,z⟩:=I.Rw.tbls b ps q;exact⟨m,by rw[aq (neH b _ z)];exact z⟩
 .obtain⟨m,⟨o,_,_,q,_⟩,_⟩:=I1.loc;rw[aq (neq _ o q)];exact I.free
 .obtain⟨v,o,z,_⟩:=I1.cell x c q;rw[aq (neq c o z)];exact I.freeC x c q
 .obtain⟨e,n,ne,nf,d⟩:=I.pin p hp;exact⟨e,by rw[aq (neq _ _ (I1.pin p hp).1)];exact n,ne,nf,d⟩
 .by_cases hb:b=a
  .subst hb;rw[ag]at q;cases q;obtain⟨o,h1,h2⟩:=ho;exact⟨⟨o,h1,h2⟩,⟨o,h1⟩,λg1 g2 ⟨o',y1,y2⟩ k=>⟨o',k o' y1,y2⟩⟩
  .rw[aq hb]at q;exact(I.hok b u q).stay (λ_ _ _ z=>z) (λc z=>by rw[aq (neH c _ z)];exact z) λc xs z=>by rw[aq (neH c _ z)];exact z
def aJ.forget(I:aJ X Rv σ H s)(hn':h'.Ns X.env.locals m')(hs:So X.env.locals s.heap h'):aJ X Rv (List.replicate X.N.length none) H {s with heap:=h',toks:=t'}:=by
 obtain⟨m,hn,_⟩:=id I.loc;obtain⟨oL,_,_,hoL,_⟩:=id hn;have old:∀b o,X.s₀.heap.get? b=some o->h'.get? b=s.heap.get? b:=λb o e=>hs.2 b (XE (XH (RP e) I.ok.above));refine⟨I.ok,I.os,I.bare,⟨λb o e n hb hx=>?_,λb o e n hb hx=>?_,I.Rw.free,λb o e hx=>?_,I.Rw.tups,I.Rw.frzs,I.Rw.tbls⟩,⟨_,hn',λj y v e1 e2 e3=>?_⟩,λy c e=>?_,I.free,I.freeC,λp hp=>?_,λb ob e=>?_,by simp⟩
 .exact(old b o e).trans (I.Rw.keep b o e n hb hx)
 .obtain⟨sl,e1⟩:=I.Rw.slot b o e n hb hx;exact⟨sl,(old b o e).trans e1⟩
 .obtain⟨o',e1⟩:=I.Rw.there b o e hx;exact⟨o',(old b o e).trans e1⟩
 .rw[WS]at e2;split at e2<;>cases e2
 .obtain⟨w',z⟩:=I.cell y c e;exact⟨w',z.sameBut hs (I.cne y c e)⟩
 .obtain⟨e,n,ne,nf,d⟩:=I.pin p hp;exact⟨(hs.2 p.1 ne).trans e,n,ne,nf,d⟩
 .refine(I.hok b ob e).stay (λc w' hc q=>(hs.2 c ?_).trans q) (λ_ q=>q) λ_ _ q=>q;rintro rfl;have fz:=I.free
  rcases hc with z|hc
  .rw[z,e]at fz;cases fz
  .rw[hc]at fz;cases fz
end
section
def QX{Rv:RL}{σ:St}{H1:Hp}{s1 s':RQ}{D:mq}{e:Zn}{E:XK}(I1:aJ X Rv σ H1 s1)(hn:∀e s,X.xe e s->False)(hstk:X.stack=X.env::X.Rx)(hfr:X.env.frame=some X.env.locals)(hgc:Gl X xc)(hmc:X.mg xc=some (.ref C0))(hN:X.N.Nodup)(hi:X.N[i]? =some n)(hx:X.env.scope.names.lookup n=some .local)(hs:∀a,sj (X.hand a) (b₀::suite) ts)(z:yy X.prog X.w X.stack H1 s1 E e s')(hE:∀cls d H2,E cls d H2->YU X.K cls (.ref C0)=some true/\∀a,H2 a=none->ts {nx:=λ_ _=>False,rt:=D.rt} (σ.set i (some (.ref a))) (upd H2 a (CG cls a)))(hdb:(xc == ("__debug__":Str))=false):RR (RX X.prog X.w) X.A (noteFrame e X.env) (λ_ s₂=>RR (RX X.prog X.w) X.A (setFlight e none) (λ_ s₃=>RR (RX X.prog X.w) X.A (handleBy e X.env [.ExceptHandler (some (.Name xc np)) (some n) (b₀::suite) hpos]) (SP X Rv D) X.xe s₃) X.xe s₂) X.xe s':=by
 obtain⟨a,cls,a0,B,H',rfl,os,bare,new,ha,fl,hok,un,c1,c2,hE'⟩:=z;obtain⟨hit,hts⟩:=hE _ _ _ hE';have ff:=fl.2.2.1;rw[hstk]at fl;refine wpAny_looks_onW (I1.ok.frames.trans (by rw[hstk])) hfr fl λh4 hl4 u4=>?_;refine wpAny_landsW hl4 λh5 fl5 u5=>?_;have I5:aJ X Rv σ H' {s' with heap:=h5}:=I1.flown (a:=a) (cls:=cls) (a0:=a0) os bare ff fl5.1 hok un (u4.trans u5) c1 c2;have J5:=I5.hand a;refine wpAny_handleBy_cons (codeAny_handlers_test (iJ (X:=X.hand a) J5 hgc hmc ?_ hdb)) (by intro q;cases q);have LT:PySem.W.Looks (RX X.prog X.w) h5 (Vw (.ref a)) cls:=by obtain⟨ob,hob,hc⟩:=fl5.there;subst hc;exact(PySem.W.Looks.ld hob).andThen .now
 refine(PySem.W.exm_one (h:=h5) I5.kIn LT hit).here ?_;refine codeAny_handlers_suite_as ?_;refine lands_againW fl5 λh6 fl6 u6=>?_;have I6:aJ X Rv σ H' {s' with heap:=h6}:=I1.flown (a:=a) (cls:=cls) (a0:=a0) os bare ff fl6.1 hok un ((u4.trans u5).trans u6) c1 c2;have I7:=I6.track (cls:=cls) fl6.there ha I1 new;refine kb (X:=X.hand a) (v:=.ref a) (I7.hand a) hN hi (.inl hx) rfl (λs7 I8=>?_) (.inr hx);refine Sx (hs a Rv s7 _ _ _ I8 (hts a ha)) (λf s8 q=>?_) λ_ _ q=>(hn _ _ q).elim;cases f with
 |next=>obtain⟨_,_,_,q⟩:=q;exact q.elim
 |brk=>obtain⟨_,_,_,q⟩:=q;exact q.elim
 |cont=>obtain⟨_,_,_,q⟩:=q;exact q.elim
 |ret u=>
  obtain⟨v,σ',H8,J8,rv,q⟩:=q;have K8:=J8.unhand I1.ok;obtain⟨m,hm,_⟩:=K8.loc;refine wpAny_nameGoes hx hm (by rw[K8.ok.kind];rfl) λh9 m9 hm9 sb=>?_;exact⟨v,_,H8,K8.forget hm9 sb,rv,q⟩
def Dr{f:Zo}{fd:R7}{CX:As}{E:XK}{Rv:RL}{σ:St}{H:Hp}{s:RQ}{Q:VK}{us:List Zn}{vs:List V}{E':RK}(F:aY X.prog X.w X.K X.mg X.Rw CX k f fd ps sp)(hr:cw k X.A)(hb:gS X.K fd ps [])(I:aJ X Rv σ H s)(r:aT vs us)(h:sp vs H Q E)(hx:∀e s',CX X.stack H s E e s'->E' e s'):RR (RX X.prog X.w) X.A (call (.ref f) us) (EP X Rv σ Q) E' s:=by
 have hl:(us++[]).length=ps.length:=by rw[V9,<-r.length];exact F.len _ _ _ _ h
 have hb':=hb s us I.kIn hl;rw[V9]at hb';refine To (SB (F.run X.A X.stack s H ⟨us,[]⟩ us vs Q E hr I.env0 hb' r h) λr s' hq=>?_);cases r with
 |error e=>exact hx e s' hq
 |ok fl=>
  cases fl with
  |ret u=>exact I.after hq
  |next=>exact False.elim hq
  |brk=>exact False.elim hq
  |cont=>exact False.elim hq
end
end L2
namespace PySem.W
open PySem PySem.Spec PySem.Calls PyProof.Rows Builtin Builtin.ObjectAttr Builtin.Getset_descriptor
structure ExcC(K:Frag)(D:Zo):Prop where
 ga:findIn K (.ref D) "__getattribute__"=some (some (.builtin "BaseException.__getattribute__"))
 gh:findIn K (.ref D) "__getattr__"=some none
 ha:findIn K (.ref D) "__class__"=some (some (.builtin "object.__class__"))
 hn:specialIn K (.builtin "object.__class__") "__get__"=some (some (.builtin "getset_descriptor.__get__"))
 htk:takesIn K (.builtin "object.__class__")=some true
 hm:mroIn K D (.type "object")=some true
 hb:mroIn K D (.type "BaseException")=some true
 hc:(clsIn K D).isSome=true
section
variable{prog:RU}{w:RZ}{A:SJ}{E:RK}{s:RQ}{K:Frag}{x D:Zo}{o:Obj}
def PY(ho:h.get? x=some o)(hc:o.cls=.ref D):Looks M h (Vw (.ref x)) (.ref D):=hc▸(Looks.ld ho).andThen .now
def Og(F:ExcC K D)(X:K.In h):Looks M h (find (.ref x) (.ref D) "__class__") (.bind (.builtin "getset_descriptor.__get__") (.builtin "object.__class__")):=
 (Vq X F.ha).andThen ((show Looks M h (getOf (some (.builtin "object.__class__"))) (some (.builtin "getset_descriptor.__get__"))from looks_specialIn X F.hn).andThen
  ((show Looks M h (dataDescriptor? (some (.builtin "object.__class__")) (some (.builtin "getset_descriptor.__get__"))) (some (.builtin "getset_descriptor.__get__",.builtin "object.__class__"))from(looks_takesIn X F.htk).andThen .now).andThen (Looks.tag .now)))
def yz(F:ExcC K D)(X:K.In s.heap)(ho:s.heap.get? x=some o)(hc:o.cls=.ref D)(h:R (.ok (.ret (.ref D))) s):Tl (RX prog w) A (.call (.builtin "getset_descriptor.__get__") ⟨[.builtin "object.__class__",.ref x,tp],[]⟩) R s:=by
 obtain⟨hh,g,dr,t,os⟩:=s;have L0:=PY (M:=RX prog w) ho hc;have L1:=looks_mroIn (M:=RX prog w) X F.hm;refine Tq KF.slot_gs.plain KF.entry_gs (KF.slot_gs.check _ _ _ _ _ _ _ _ KF.type_class (KF.args_gs _ _ _) ?_);unfold SS.«getset_descriptor.__get__» descrGet;rw[dga_obj];refine RM (RN ?_);unfold descrGetter descrCheckInstance descrNameAndClass isInstance;simp only[KF.owner_class]
 repeat lk
 refine⟨Um _ (by decide+kernel),Sl KF.entry_class ?_⟩;unfold SS.«object.__class__» shownTypeOf
 repeat lk
 first|exact h|(rw[hc];exact h)|skip
def JY(F:ExcC K D)(X:K.In s.heap)(ho:s.heap.get? x=some o)(hc:o.cls=.ref D)(hq:Q () s):RR M A (UH "BaseException.__getattribute__" ⟨[.ref x,nameV],[]⟩) Q E s:=by
 obtain⟨hh,g,dr,t,os⟩:=s;have L0:=PY (M:=M) ho hc;have L1:=looks_mroIn (M:=M) X F.hb;have LI:Looks M hh (isInstance (.ref x) (.type "BaseException")) true:=L0.andThen L1;have hk:builtinKind "BaseException.__getattribute__"=some .slot:=by decide+kernel
 have hsplit:splitId "BaseException.__getattribute__"=some ("BaseException","__getattribute__"):=by decide+kernel
 have ha:=PySem.F.args_bexc_ga (.ref x) nameV;simp only[UH,hk,hsplit];refine RM (LI.at ?_)
 repeat (any_goals (first|assumption|wp_step))
def JX(F:ExcC K D)(X:K.In s.heap)(ho:s.heap.get? x=some o)(hc:o.cls=.ref D)(h:Q (some (.ref D)) {s with toks:=s.toks+1}):RR (RX prog w) A (getAttr? (.ref x) "__class__") Q E s:=by obtain⟨hh,g,d,t,os⟩:=s;have L0:=PY (M:=RX prog w) ho hc;have L1:=Vq (M:=RX prog w) X F.ga;have L2:=Vq (M:=RX prog w) X F.gh;have L3:=Og (M:=RX prog w) (x:=x) F X;unfold getAttr? getAttrBy? getAttrBy;refine RM (wpAny_mkText (RM (SZ (Sa (RM (L0.at (RM (L1.at ?_))))))));dsimp only;rw[RB (λz:(onTheHeap (RY D)&&(Vi "BaseException.__getattribute__" == Vi "object.__getattribute__"))=true=>RF (Yk.mp z).2 (by decide+kernel))];unfold getAttrByItsOwn hookBefore;rw[RC (show onTheHeap (RY D)=true from rfl)];refine RM (L2.at ?_);refine RM (SZ (Sa ?_));unfold callGetattribute;rw[RB (by decide)];unfold boundAndCalled;refine RM (Ur (PySem.F.attr_ValueError.ga.bind (.ref x)) ?_);refine To (Tq PySem.F.attr_ValueError.ga.plain PySem.F.entry_bexc_ga (JY F X ho hc ?_));unfold SS.«object.__getattribute__»;refine RM (RN ?_);refine RM (RN ?_);refine RM (L0.at ?_);refine RM (L3.at ?_);show RR _ _ (TF [_] (call (.builtin "getset_descriptor.__get__") [.builtin "object.__class__",.ref x,.ref D]) >>= ret) _ _ _;refine RM (Sa (To (yz (s:=⟨hh,g,d,t+1,os⟩) F X ho hc ?_)));refine RN ?_;exact handed_on rfl (RN h)
def kitx_exc(F:ExcC K D):KitX K (.ref x) (.ref D) (λh=>∃o,h.get? x=some o/\o.cls=.ref D) where
 ty:=λ_ _ _ ⟨o,ho,hc⟩=>PY ho hc
 it:=λ_ _ X _=>by
  obtain⟨cdD,hcD⟩:=YB.mp F.hc;unfold clsIn at hcD;split at hcD
  .rename_i c' d' cd' sl' ho;intro A' Q' E' s' k q;unfold isType loadHead;exact RM (wpAny_loadPart (k _ _ (X _ _ ho)) (RN q))
  .cases hcD
 ne:=λh tp dd its n sl X htp=>by
  obtain⟨cdD,hcD⟩:=YB.mp F.hc;refine Yq.mpr λq=>?_;have e:D=tp:=Value.ref.inj (beq_iff_eq.mp q);subst e;unfold clsIn at hcD;split at hcD
  .rename_i c' d' cd' sl' ho;have z:=(X _ _ ho).symm.trans htp;cases z
  .cases hcD
 ca:=λX ⟨o,ho,hc⟩ k=>JX F X ho hc k
end
end PySem.W
namespace L2
open PySem PySem.Spec PyProof.Rows
section
variable{X:Cx}{a b e o:Sz}{p pos:Vb}{es:List Sz}{t:TA}
def isX(K:Frag):List V->Hp->VK->Prop:=λvs H Q=>∃a D y cv b,vs=[.ref a,y]/\(∀u,aQ y u->u=cv)/\H a=some (CG (.ref D) a)/\PySem.W.ExcC K D/\YG K (.ref D) cv=some b/\Q (.bl b) H
def oo(K:Frag)(hK:X.K=K:=by rfl):bf X (.builtin "isinstance") (isX K):=by subst hK;intro Rv s σ H xs us Q I r h;obtain⟨a,D,y,cv,b,rfl,hy,ha,F,hb,q⟩:=h;obtain⟨u,v,rfl,ru,rv⟩:=r.two;cases ru;cases hy v rv;have hx:bp X.prog X.w H s.heap a (.ext λh=>∃o,h.get? a=some o/\o.cls=.ref D):=I.hok a _ ha;obtain⟨p,_,_⟩:=hx;exact YK (PySem.W.kitx_exc F) I.kIn p hb (λz=>nomatch z) λtk=>⟨.bl b,H,I.tok tk,rfl,q⟩
structure qk(k:Nat)(A:SJ):Prop where
 dp:A.depth+3*k+5<Uh
 un:A.units+16*k+200<SK
def cw.n(r:cw k A)(v:Option Zn):qk k (A.mark v):=⟨r.dp,r.un⟩
structure FnN(P:RU)(w:RZ)(K:Frag)(mg:RJ)(Rw:R9)(k:Nat)(f:Zo)(fd:R7)(ps:List Str)(sp:Sp):Prop where
 len:∀vs H Q E,sp vs H Q E->vs.length=ps.length
 run:∀A Rx s H args us vs Q,qk k A->sk P w K mg Rw A Rx s H->Vd s fd args (ps.zip us)->aT vs us->sp vs H Q E0->
  Tl (RX P w) A (.call (.ref f) args) (CR cY Rx P w H s Q E0) s
noncomputable abbrev Cx.uncalm(X:Cx)(A:SJ):Cx:={X with A:=A,calm:=false}
theorem aJ.uncalm{X:Cx}{Rv:RL}{σ:St}{H:Hp}{s:RQ}(I:aJ X Rv σ H s){A:SJ}(hA:A.frames=some X.stack):aJ (X.uncalm A) Rv σ H s:=
 ⟨⟨I.ok.mod,I.ok.kind,I.ok.glob,I.ok.blt,I.ok.above,I.ok.inj,I.ok.has,I.ok.cab,λz=>(Bool.noConfusion z),hA,I.ok.stk,I.ok.exf,I.ok.bs,I.ok.bsz,I.ok.noex,I.ok.exfs,I.ok.funs,I.ok.frf⟩,I.os,I.bare,I.Rw,I.loc,I.cell,I.free,I.freeC,I.pin,I.hok,I.len⟩
noncomputable abbrev Rb(P:RU)(w:RZ)(K:Frag)(mg:RJ)(Rw:R9)(N:List Str)(qual:Str)(scope:TV)(f:Zo)(cd:Zn)(A:SJ)(Rx:List VE)(s:RQ)(H:Hp):Cx:=
 ((lA cY P w K mg Rw N qual scope f cd {A with handled:=none} Rx s H E0).uncalm (A.deeper (SU qual scope s.heap.objs.size f cd))).nox
def cy.okN{P:RU}{w:RZ}{K:Frag}{mg:RJ}{Rw:R9}{x qual:Str}{st:Sb}{f:Zo}{fd:R7}{N ps:List Str}{k:Nat}{sp:Sp}(F:cy K x qual st f fd)(S:aD N ps (ak st))(len:∀vs H Q E,sp vs H Q E->vs.length=ps.length)(hbody:∀cdv A Rx s H vs Q,qk k (A.deeper (SU qual (ak st) s.heap.objs.size f cdv))->sp vs H Q E0->
   ∃t,sj (Rb P w K mg Rw N qual (ak st) f cdv A Rx s H) (dh st) t/\t {nx:=λ_ H'=>Q .non H',rt:=Q} (start N vs) H):FnN P w K mg Rw (k+1) f fd ps sp:=by
 obtain⟨oc,od,kV,doc,pm,an,cdv,ct,osl,rfl,lk,hcd⟩:=F.ex;refine⟨len,λA Rx s H args us vs Q hr e0 hb r hsp=>?_⟩;have hl:=len _ _ _ _ hsp;have KX:K.In s.heap:=e0.mod.kin.keeps λb o e=>(e0.bs b o e).1;have lim:s.heap.NoLimit:=e0.mod.nolimit.keeps λb o e=>(e0.bs b o e).1;have hkind:∀y∈ps.zip us,(ak st).names.lookup y.1=some .local\/((ak st).names.lookup y.1=some .cell/\((VA (s.heap.objs.size+1) (ak st).names []).lookup y.1).isSome=true):=λ⟨n,v⟩ hy=>by
  rcases S.par n (WI hy).1 with q|q
  .exact .inl q
  .exact .inr ⟨q,Y6 _ _ _ (.inl q)⟩
 have hdp:A.depth<Uh:=by have:=hr.dp;lia
 refine UX hdp (KX _ _ lk) rfl S.co S.gen rfl (Zg KX hcd) (hb _ _ _ _ ?_);refine Uc S.kind hkind λenv he s1 x=>?_;subst he;refine⟨lim.keeps x.toInCall.keep,codeAny_func ?_⟩;have hr':qk k (A.deeper (SU qual (ak st) s.heap.objs.size f cdv)):=⟨by have:=hr.dp;show A.depth+1+3*k+5<_;lia,by have:=hr.un;show A.units+3+16*k+200<_;lia⟩;obtain⟨t,ht,hq⟩:=hbody cdv A Rx s H vs Q hr' hsp;have e0':sk P w K mg Rw {A with handled:=none} Rx s H:=⟨e0.frames,e0.mod,e0.bs,e0.bsz,e0.funs,e0.frf,e0.hok,e0.bare⟩;have I0:aJ (lA cY P w K mg Rw N qual (ak st) f cdv {A with handled:=none} Rx s H E0) [] (start N vs) H s1:=pT S rfl e0' hl r x;have I:aJ (Rb P w K mg Rw N qual (ak st) f cdv A Rx s H) [] (start N vs) H s1:=(I0.uncalm (Around.frames_deeper e0.frames)).wish _;refine Sx (ht [] s1 (start N vs) H _ I hq) (λfl s' hs=>?_) λe s' hs=>hs.elim;have fin:∀{σ':St}{H':Hp}{v:V}{u:Zn},aJ (Rb P w K mg Rw N qual (ak st) f cdv A Rx s H) [] σ' H' s'->aQ v u->Q v H'->CE Rx P w H s Q u s':=
  λ{σ' H' v u} J rv q=>⟨v,H',J.os,J.bare,J.Rw,J.hok,rv,q⟩
 cases fl with
 |ret u=>
  obtain⟨v,σ',H',J,rv,q⟩:=hs;exact fin J rv q
 |next=>
  obtain⟨σ',H',J,q⟩:=hs;exact fin (v:=V.non) (u:=SV) J rfl q
 |brk=>
  obtain⟨_,_,_,q⟩:=hs;exact False.elim q
 |cont=>
  obtain⟨_,_,_,q⟩:=hs;exact False.elim q
structure LX(P:RU)(w:RZ)(K:Frag)(mg:RJ)(Rw:R9)(name:Str)(ps:List Str)(k:Nat)(sp:Sp):Prop where
 ex:∃f fd,FnN P w K mg Rw k f fd ps sp/\mg name=some (.ref f)/\YM K (.ref f)=true/\gS K fd ps []
def Lg(C:LX X.prog X.w X.K X.mg X.Rw name ps k sp)(hr:qk j X.A)(ha:PA X (e::es) t)(hkj:k<=j:=by decide)(hp:(e::es).all eY=true:=by rfl)(hg:Gl X name:=by rfl)(hdb:(name == ("__debug__":Str))=false:=by decide):PE X (.Call (.Name name p) (e::es) [] pos) (gQ sp t):=by
 obtain⟨f,fd,F,hm,hk,hb⟩:=C.ex;have hp':=hp;rw[Wb,Ye]at hp';intro Rv s σ H Q I h;refine SL (iJ I hg hm ?_ hdb);refine YX (h₀:=X.Rw) I.ok.mod.kin hk (bL (ha pos Rv s σ H _ I h) λus s1 ⟨vs,H1,I1,r,q⟩=>⟨I1.kIn,?_⟩) (dA hp'.1) (fm hp'.2);have hl:(us++[]).length=ps.length:=by rw[V9,<-r.length];exact F.len _ _ _ _ q
 have hb':=hb s1 us I1.kIn hl;rw[V9]at hb';have hrk:qk k X.A:=⟨by have:=hr.dp;lia,by have:=hr.un;lia⟩;refine To (SB (F.run X.A X.stack s1 H1 ⟨us,[]⟩ us vs Q hrk I1.env0 hb' r q) λr s' hq=>?_);cases r with
 |error e=>exact False.elim hq
 |ok fl=>
  cases fl with
  |ret u=>exact I1.after hq
  |next=>exact False.elim hq
  |brk=>exact False.elim hq
  |cont=>exact False.elim hq
end
def oX:R8 "ValueError"=some (.type "ValueError"):=by decide+kernel
structure Ru(mg:RJ)(K:Frag)(D:Zo)(b1 b2 b3 b4 b5 b6 b7 b8 b9:Bool):Prop where
 x:PySem.W.ExcC K D
 f1:∃c,mg "BadBoard"=some (.ref c)/\YG K (.ref D) (.ref c)=some b1
 f2:∃c,mg "BadGame"=some (.ref c)/\YG K (.ref D) (.ref c)=some b2
 f3:∃c,mg "BadLine"=some (.ref c)/\YG K (.ref D) (.ref c)=some b3
 f4:∃c,mg "BadPlace"=some (.ref c)/\YG K (.ref D) (.ref c)=some b4
 f5:∃c,mg "NoMove"=some (.ref c)/\YG K (.ref D) (.ref c)=some b5
 f6:∃c,mg "TooWide"=some (.ref c)/\YG K (.ref D) (.ref c)=some b6
 f7:∃c,mg "NoWord"=some (.ref c)/\YG K (.ref D) (.ref c)=some b7
 f8:∃c,mg "Over"=some (.ref c)/\YG K (.ref D) (.ref c)=some b8
 f9:∃c,mg "NothingBack"=some (.ref c)/\YG K (.ref D) (.ref c)=some b9
 v:YG K (.ref D) (.type "ValueError")=some true
 one:([V.bl b1,.bl b2,.bl b3,.bl b4,.bl b5,.bl b6,.bl b7,.bl b8,.bl b9].countP λz=>eqV z (.bl true))=1
def oh{K:Frag}{D:Zo}{v:Zn}{b:Bool}(h:YS K D v=some b):(PySem.W.clsIn K D).isSome=true:=by
 unfold YS at h;cases e:PySem.W.clsIn K D with
 |none=>rw[e]at h;cases h
 |some _=>rfl
section
variable{K:Frag}{tl te:TE}{src:List (Option Nat)}{σ rest:St}{H:Hp}{Q:VK}
noncomputable def lQ(l:List Bool)(n:Nat):List Int:=((List.range n).filter λi=>l.getD i false).map λ(i:Nat)=>(i:Int)
def nY(h:l[n]? =some b):lQ l (n+1)=lQ l n++(if b=true then [(n:Int)]else []):=by
 unfold lQ;have e:l.getD n false=b:=by rw[VX,h];rfl
 rw[WA,Xw,VZ,WO,e];cases b<;>rfl
def Ad(hl:Ev tl σ H (.ref d))(hx:H d=some (.lst (l.map V.bl)))(hz:l.length<=1000)(hs:eU src σ=none::none::rest)(q:∀H' d,aj H H'->H' d=none->Q (.ref d) (upd H' d (.lst ((lQ l l.length).map V.int)))):tComp (xY K tl) (zR K 2 (kN (ck 0) (kN (ck 1) BS))) (ju (cL 1)) (cL 0) src σ H Q:=by
 refine hl _ ⟨⟨_,aR.of hx⟩,?_⟩;have ll:(l.map V.bl).length=l.length:=VN ..;refine iE l.length (λi ys σ' H'=>aj H H'/\(∃o0 o1,σ'=o0::o1::rest)/\ys=(lQ l i).map V.int) (XG hz (by decide)) (λi ys σ H h=>?_)
  (λi ys σ H' h hi=>⟨_,(l.map V.bl)[i]'(by rw[ll];exact hi),aR.of (h.1 _ _ hx),VQ (by rw[ll];exact hi)⟩) (λys σ H' h=>⟨_,aR.of (h.1 _ _ hx),by rw[ll];exact XD _⟩) ⟨aj.refl H,⟨_,_,hs⟩,rfl⟩ ?_ ?_
 .rw[h.2.2,VN];unfold lQ;rw[VN];exact XG (Wp _ _) (by rw[We];exact XD _)
 .rintro i ys _ H1 x H2 hi ⟨s1,⟨o0,o1,rfl⟩,rfl⟩ ⟨t,v,rfl,ht0,rfl,hyy⟩ Kt Kf kt kf;have ex:=hyy _ (aR.of (s1 _ _ hx));rw[VT,VQ hi]at ex;obtain rfl:V.bl l[i]=v:=RH ex;have hb:l[i]? =some l[i]:=VQ hi;have s2:aj H (upd H1 t (.tup [.int (i:Int),.bl l[i]])):=s1.upd ht0;refine⟨t,_,rfl,dF.of ag,rfl,_,_,rfl,_,_,rfl,rfl,?_⟩;show ju (cL 1) (some (.int (i:Int))::some (.bl l[i])::rest) _ _;refine(bb (te:=cL 1) (b:=l[i]) (ae rfl)) _ ?_;cases hp:l[i]with
  |true=>
   refine iL ((show Ev (cL 0) _ _ (.int (i:Int))from ae rfl) _ (kt _ _ _ ⟨by rw[<-hp];exact s2,⟨_,_,rfl⟩,?_⟩));rw[nY hb,hp,RC rfl,VZ];rfl
  |false=>
   refine hG (kf _ _ ⟨by rw[<-hp];exact s2,⟨_,_,rfl⟩,?_⟩);rw[nY hb,hp,RB (by decide),V9]
 .rintro ys σ' H' d ⟨s1,_,rfl⟩ hd;exact q H' d s1 hd
end
def BY:lQ (firmL wi hi hs) (firmL wi hi hs).length=((List.range (wi*hi).toNat).filter λ(s:Nat)=> !decide ((s:Int)∈hs)).map λ(i:Nat)=>(i:Int):=by unfold lQ firmL;rw[VN,We];congr 1;refine Xy λi hi=>?_;have:=V4.mp hi;rw[VX,VT,Wm this];rfl
noncomputable def freeQ(wi hi:Int)(hs:List Int):List Int:=((List.range (wi*hi).toNat).filter λ(s:Nat)=> !decide ((s:Int)∈hs)).map λ(i:Nat)=>(i:Int)
def Jj(K:Frag)(C:Zo):Sp:=λvs H Q _=>∃p wi hi hs,vs=[.ref p]/\bU K C H p wi hi hs/\∀q H',H q=none->H' q=some (.lst ((freeQ wi hi hs).map V.int))->aj H H'->Q (.ref q) H'
def zY{wi hi:Int}{hs:List Int}{i:Nat}(h:i<(wi*hi).toNat):(emptyT wi hi hs).cps.toList[i]? =some (if(i:Int)∈hs then 35 else 46):=by unfold emptyT;show((List.range (wi*hi).toNat).map λ(s:Nat)=>if(s:Int)∈hs then 35 else 46)[i]? =_;rw[VT,Wm h];rfl
def Dc{K:Frag}{H:Hp}{p:Zo}{xs:List V}{k:Bool}(h:aR K H p xs)(hk:k= !xs.isEmpty):CI K (.ref p) H k:=.inl ⟨xs,h,hk⟩
def Om(h:H t=some (.tup [.str z,.int i]))(hz:z.length<=1000):cz H 1 (.ref t):=by
 refine⟨.inr (.inl ⟨_,h⟩),λxs hx x hm=>?_⟩;have e1:tupOf H (.ref t)=some [.str z,.int i]:=by simp only[tupOf,h]
 have e2:lstOf H (.ref t)=none:=by simp only[lstOf,h]
 rw[e1,e2]at hx
 rcases hx with hx|hx
 .cases hx
  rcases VO.mp hm with rfl|hm
  .exact hz
  .rcases VO.mp hm with rfl|hm
   .exact trivial
   .cases hm
 .cases hx
section
variable{K:Frag}{σ:St}{H:Hp}{ta tb te:TE}
def B1{cs:List Nat}(ha:Ev ta σ H (.str ""))(hb:Ev tb σ H (.ref d))(h:H d=some (.lst (cs.map strV)))(hl:cs.length<=1000):Ev (Qd (nQ K) ta (aN tb bG)) σ H (.str ⟨cs.toArray⟩):=λQ q=>ha _ (hb _ (by
 show nQ K (.str "") [.ref d] H Q;rw[A2];refine⟨cs.map one,aR.of (by rw[V0];exact h),?_,?_⟩
 .rw[V0];have es:∀l:List Nat,(l.map ((λx:Str=>x.length)∘one)).sum=l.length:=λl=>by
   induction l with
   |nil=>rfl
   |cons a r ih=>rw[V2,Xj,ih,V1];show 1+r.length=_;lia
  have ez:("":Str).length=0:=by decide+kernel
  rw[es,ez];show cs.length+(cs.map one).length*0<=16777216;lia
 .rw[pQ];exact q))
end
abbrev Pla:=Str×Int
noncomputable def eO(ps:List Pla):List Pla->List Pla
 | []=>ps
 |x::xs=>eO (if x∈ps then ps else ps++[x]) xs
theorem nX:∀xs ps,∃r,eO ps xs=ps++r
 | [],ps=>⟨[],by simp[eO]⟩
 |x::xs,ps=>by
  obtain⟨r,h⟩:=nX xs (if x∈ps then ps else ps++[x]);unfold eO;rw[h];split
  .exact⟨r,rfl⟩
  .exact⟨[x]++r,by rw[Wi]⟩
theorem jo:∀xs ps,y∈eO ps xs<->y∈ps\/y∈xs
 | [],ps=>by simp[eO]
 |x::xs,ps=>by
  unfold eO;rw[jo xs];split
  .rename_i h
   constructor
   .rintro(a|a)
    .exact .inl a
    .exact .inr (VU _ a)
   .rintro(a|a)
    .exact .inl a
    .rcases VO.mp a with rfl|a
     .exact .inl h
     .exact .inr a
  .rw[VY,VR,VO,or_assoc]
theorem mE:∀xs ps,ps.Nodup->(eO ps xs).Nodup
 | [],ps,h=>h
 |x::xs,ps,h=>by
  unfold eO;split
  .exact mE xs ps h
  .rename_i hn;refine mE xs _ (WM.mpr ⟨h,by simp,λa ha b hb e=>?_⟩);rw[VR.mp hb]at e;exact hn (e▸ha)
theorem pV(x:Pla):∀xs ps,eO ps (xs++[x])=if x∈eO ps xs then eO ps xs else eO ps xs++[x]
 | [],ps=>rfl
 |y::xs,ps=>pV x xs _
noncomputable def dR(F:Pla->List Pla)(p0:List Pla):Nat->List Pla
 |0=>eO [] p0
 |n+1=>eO (dR F p0 n) (F ((dR F p0 n).getD n ("",0)))
theorem sJ(F:Pla->List Pla)(p0:List Pla):∀{j:Nat},i<=j->∃r,dR F p0 j=dR F p0 i++r
 |0,h=>⟨[],by have:i=0:=by lia
              subst this;simp⟩
 |j+1,h=>by
  by_cases e:i=j+1
  .subst e;exact⟨[],by simp⟩
  .obtain⟨r,hr⟩:=sJ F p0 (i:=i) (j:=j) (by lia);obtain⟨r2,h2⟩:=nX (F ((dR F p0 j).getD j ("",0))) (dR F p0 j);exact⟨r++r2,by show eO _ _=_;rw[h2,hr,Wi]⟩
theorem wR(F:Pla->List Pla)(p0:List Pla):∀n,(dR F p0 n).Nodup
 |0=>mE _ _ Wy
 |n+1=>mE _ _ (wR F p0 n)
def sK{F:Pla->List Pla}{p0:List Pla}{G:Pla->Prop}(h0:∀x∈p0,G x)(hF:∀x,G x->∀y∈F x,G y){n:Nat}(hn:∀j,j<n->j<(dR F p0 j).length):∀x∈dR F p0 n,G x:=by
 induction n with
 |zero=>
  intro x hx
  rcases(jo _ _).mp hx with h|h
  .cases h
  .exact h0 x h
 |succ n ih=>
  intro x hx;have ih:=ih λj hj=>hn j (by lia)
  rcases(jo _ _).mp hx with h|h
  .exact ih x h
  .have hl:=hn n (XQ n);rw[VX,VQ hl]at h;exact hF _ (ih _ (V7 hl)) x h
def C6(F:Pla->List Pla)(p0:List Pla)(n:Nat):Prop:=(dR F p0 n).length=n/\∀j,j<n->j<(dR F p0 j).length
noncomputable def pcs(l:List Nat):Nat:=(l.filter λc=>c != 35&&c != 46).length
def cb(c:Nat)(l:List Nat):pcs (c::l)=pcs l+(if c=35\/c=46 then 0 else 1):=by
 unfold pcs;rw[WO]
 by_cases h:c=35\/c=46
 .rw[RB (by simp;lia),RC h];rfl
 .rw[RC (by simp;lia),RB h];rfl
theorem qU:∀{l:List Nat}{i a:Nat},pcs (l.set i a)<=pcs l+1
 | [],_,_=>by simp[pcs]
 |c::l,0,a=>by rw[WB,cb,cb];split<;>split<;>lia
 |c::l,i+1,a=>by rw[Xk,cb,cb];have:= @qU l i a;lia
theorem xA:∀{l:List Nat}{i:Nat},pcs (l.set i 46)<=pcs l
 | [],_=>by simp[pcs]
 |c::l,0=>by rw[WB,cb,cb];simp
 |c::l,i+1=>by rw[Xk,cb,cb];have:= @xA l i;lia
theorem xB:∀{l:List Nat}{i:Nat},i<l.length->l.getD i 0≠35->l.getD i 0≠46->pcs (l.set i 46)+1=pcs l
 | [],_,h,_,_=>by simp at h
 |c::l,0,_,h1,h2=>by have h1:c≠35:=h1;have h2:c≠46:=h2;rw[WB,cb,cb];simp[h1,h2]
 |c::l,i+1,h,h1,h2=>by rw[Xk,cb,cb];have:= @xB l i (by simpa using h) (by simpa using h1) (by simpa using h2);lia
structure wL(wi hi:Int)(hs:List Int)(ks:List Nat)(m:Nat)(x:Pla):Prop where
 row:iR wi hi hs ks x.1
 sd:x.2=0\/x.2=1
 pc:pcs x.1.cps.toList<=m
def kW.good{wi hi:Int}{hs:List Int}{ks:List Nat}{us:List (bw×Zo)}{ts es:List ((Str×Str)×Zo)}{m:Nat}{x:Pla}{ls:List Pla}(w1:1<=wi)(hm0:0<=wi*hi)(hl:∀k∈ks,j7 k)(tg:lU ks ts)(G:wL wi hi hs ks m x)(h:kW wi hi hs x.1 us ts es x.2 ls):∀y∈ls,wL wi hi hs ks m y:=by
 intro y hy;have rl:(x.1.length:Int)=wi*hi:=by have:=G.row.len;lia
 obtain⟨ry,sy⟩:=kW.rows w1 G.row hl tg rl h y hy;refine⟨ry,by have:=G.sd;lia,?_⟩
 rcases h with⟨_,rfl⟩|⟨_,mv,hm,_,rfl⟩
 .cases hy
 .obtain⟨k,hk,rfl⟩:=VP.mp hy;obtain⟨s,gl,t,rfl,ok⟩:=hm.ok w1 (λs hs=>jB hs) k hk;have hsd:di (x.1.cps.toList.getD s.toNat 0)=.int x.2:=ok.sd;have hn:x.1.cps.toList.getD s.toNat 0≠35/\x.1.cps.toList.getD s.toNat 0≠46:=by
   unfold di at hsd;split at hsd
   .cases hsd
   .lia
  have l0:x.1.length=x.1.cps.toList.length:=rfl;have s0:=ok.s0;have s1:=ok.s1;have g1:=ok.g1;have p1:=xB (l:=x.1.cps.toList) (i:=s.toNat) (by lia) hn.1 hn.2;have pc:=G.pc;show pcs (uM ts wi hi x.1 x.2 s gl t).cps.toList<=m;have tk:t= -1\/0<=t/\t<x.1.length:=by
   rcases ok.tk with e|e
   .exact .inl e
   .exact .inr ⟨e.1,by lia⟩
  rw[An (ks:=ks) (hs:=hs) rl ok.s0 ok.s1 ok.g0 (by lia) tk];refine XG qU ?_;split
  .have:=xA (l:=x.1.cps.toList.set s.toNat 46) (i:=t.toNat);lia
  .lia
theorem qu{α:Type}(n:Nat):∀l:List α,(l.map λ_=>n).sum=l.length*n
 | []=>by simp
 |a::l=>by rw[V2,Xj,qu n l,V1,Nat.succ_mul];lia
noncomputable def gF(al:List Nat):List Bool->Nat->List (List Nat)
 | [],_=>[[]]
 |true::cs,m=>(gF al cs m).map (35:: ·)
 |false::cs,0=>(gF al cs 0).map (46:: ·)
 |false::cs,m+1=>(gF al cs (m+1)).map (46:: ·)++al.flatMap λa=>(gF al cs m).map (a:: ·)
noncomputable def mf(a:Nat):Nat->Nat->Nat
 |0,_=>1
 |f+1,0=>mf a f 0
 |f+1,m+1=>mf a f (m+1)+a*mf a f m
theorem iq(al:List Nat):∀cs m,(gF al cs m).length=mf al.length (cs.filter (! ·)).length m
 | [],_=>rfl
 |true::cs,m=>by show((gF al cs m).map (35:: ·)).length=_;rw[VN,iq al cs m];rfl
 |false::cs,0=>by show((gF al cs 0).map (46:: ·)).length=_;rw[VN,iq al cs 0];rfl
 |false::cs,m+1=>by
  show((gF al cs (m+1)).map (46:: ·)++al.flatMap λa=>(gF al cs m).map (a:: ·)).length=mf al.length ((cs.filter (! ·)).length+1) (m+1);rw[VV,VN,iq al cs (m+1),XB];show _+(al.map λa=>((gF al cs m).map (a:: ·)).length).sum=mf al.length (cs.filter (! ·)).length (m+1)+al.length*mf al.length (cs.filter (! ·)).length m;have e:(al.map λa=>((gF al cs m).map (a:: ·)).length)=al.map λ_=>mf al.length (cs.filter (! ·)).length m:=by apply Wo;intro a _;rw[VN,iq al cs m]
  rw[e,qu]
theorem jE(h35:35∉al)(h46:46∉al):∀{cs:List Bool}{m:Nat}{l:List Nat},l.length=cs.length->(∀(i c:Nat)(b:Bool),l[i]? =some c->cs[i]? =some b->if b=true then c=35 else c=46\/c∈al)->pcs l<=m->l∈gF al cs m
 | [],m,[],_,_,_=>by simp[gF]
 | [],m,_::_,h,_,_=>by simp at h
 |b::cs,m,[],h,_,_=>by simp at h
 |b::cs,m,c::l,h,ha,hp=>by
  have h0:=ha 0 c b rfl rfl;have ht:∀(i c:Nat)(b:Bool),l[i]? =some c->cs[i]? =some b->if b=true then c=35 else c=46\/c∈al:=λi c b h1 h2=>ha (i+1) c b (by simpa using h1) (by simpa using h2);have hl:l.length=cs.length:=by simpa using h
  rw[cb]at hp;cases b with
  |true=>
   have h0:c=35:=h0;subst h0;exact VP.mpr ⟨l,jE h35 h46 hl ht (by simpa using hp),rfl⟩
  |false=>
   have h0:c=46\/c∈al:=h0
   by_cases hc:c=46
   .subst hc;have hp:pcs l<=m:=by simpa using hp
    have:=jE h35 h46 hl ht hp;cases m with
    |zero=>exact VP.mpr ⟨l,this,rfl⟩
    |succ m=>exact Wh _ (VP.mpr ⟨l,this,rfl⟩)
   .have hm:c∈al:=h0.resolve_left hc;have c35:c≠35:=λe=>h35 (e▸hm);rw[RB (by lia)]at hp;cases m with
    |zero=>lia
    |succ m=>exact V6 _ (List.mem_flatMap.mpr ⟨c,hm,VP.mpr ⟨l,jE h35 h46 hl ht (by lia),rfl⟩⟩)
theorem Jv{α:Type}[DecidableEq α]:∀{l m:List α},l.Nodup->(∀x∈l,x∈m)->l.length<=m.length
 | [],m,_,_=>XF _
 |a::l,m,nd,h=>by have hm:=h a VW;have nd':=Wk.mp nd;have ih:=Jv (l:=l) (m:=m.erase a) nd'.2 λx hx=>(Xc (λe=>nd'.1 (by rw[<-e];exact hx))).mpr (h x (VU _ hx));have:=Xa hm;have:=Xb hm;rw[V1];lia
theorem jH(h:a<=b):∀f m,mf a f m<=mf b f m
 |0,_=>XD _
 |f+1,0=>jH h f 0
 |f+1,m+1=>Nat.add_le_add (jH h f (m+1)) (Nat.mul_le_mul h (jH h f m))
def C7{wi hi:Int}{hs:List Int}{ks:List Nat}{m:Nat}{l:List Pla}(hk:ks.length<=2)(hl:∀k∈ks,j7 k)(nd:l.Nodup)(h:∀x∈l,wL wi hi hs ks m x)(hb:∀f,f=((List.range (wi*hi).toNat).filter λ(s:Nat)=> !decide ((s:Int)∈hs)).length->mf 4 f m<=1000):l.length<=2000:=by
 have al:∀(k:Nat),k∈ks++ks.map (· - 32)->k≠35/\k≠46:=λk h=>by
  rcases VY.mp h with z|z
  .have:=hl k z;unfold j7 at this;lia
  .obtain⟨k',hz,rfl⟩:=VP.mp z;have:=hl k' hz;unfold j7 at this;lia
 let cs:=(List.range (wi*hi).toNat).map λ(s:Nat)=>decide ((s:Int)∈hs)
 let R:=gF (ks++ks.map (· - 32)) cs m
 have hR:R.length<=1000:=by show(gF _ _ _).length<=1000;rw[iq];refine XG (jH (b:=4) (by rw[VV,VN];lia) _ _) (hb _ ?_);show(((List.range (wi*hi).toNat).map _).filter _).length=_;rw[List.filter_map,VN];rfl
 have hin:∀x∈l,x∈R.flatMap λr=>[((⟨r.toArray⟩:Str),(0:Int)),(⟨r.toArray⟩,1)]:=λx hx=>by
  have G:=h x hx;refine List.mem_flatMap.mpr ⟨x.1.cps.toList,jE (λz=>(al _ z).1 rfl) (λz=>(al _ z).2 rfl) ?_ ?_ G.pc,?_⟩
  .show x.1.length=((List.range (wi*hi).toNat).map _).length;rw[G.row.len,VN,We]
  .intro i c b h1 h2;have h2:((List.range (wi*hi).toNat).map λ(s:Nat)=>decide ((s:Int)∈hs))[i]? =some b:=h2;rw[VT]at h2;obtain⟨s,hs',rfl⟩:=YA.mp h2;obtain⟨hlt,e⟩:=V5.mp hs';rw[XA]at e;subst e
   rcases dE (G.row.at_ i c h1)with⟨m1,rfl⟩|⟨m1,h3⟩
   .rw[Ry m1];rfl
   .rw[RA m1]
    rcases h3 with h3|h3|h3
    .exact .inl h3
    .exact .inr (Wh _ h3)
    .exact .inr (V6 _ h3)
  .have e:(⟨x.1.cps.toList.toArray⟩:Str)=x.1:=by cases x with|mk z i=>cases z;simp
   rw[e];obtain⟨z,i⟩:=x
   rcases G.sd with e2|e2
   .have e2:i=0:=e2;subst e2;simp
   .have e2:i=1:=e2;subst e2;simp
 have hlen:=Jv nd hin;rw[XB]at hlen;have e:(R.map λr=>([((⟨r.toArray⟩:Str),(0:Int)),(⟨r.toArray⟩,1)]:List Pla).length)=R.map λ_=>2:=rfl;rw[e,qu]at hlen;lia
def OR(hu:X.A.units+20<SK)(ho:PE X o td)(hi:PE X i ty)(hv:PE X value tv)(hs:TX value (some (.Subscript o i pos')) pos.line X.env=pure false:=by rfl):PS X (.Assign [.Subscript o i pos'] value pos) (AZ td ty tv):=Dx (by lia) ho hi hv hs
noncomputable def gT(p:Pla):List Key:=[.inr p.1,.inl p.2]
def um(h:gT p=gT q):p=q:=by obtain⟨a,b⟩:=p;obtain⟨c,d⟩:=q;unfold gT at h;simp at h;rw[h.1,h.2]
noncomputable def g9:Nat->List Pla->List (List Key×V)
 |_,[]=>[]
 |n,p::ps=>(gT p,.int n)::g9 (n+1) ps
theorem ui:∀ps n,(g9 n ps).length=ps.length
 | [],_=>rfl
 |_::ps,n=>by show(g9 (n+1) ps).length+1=_;rw[ui ps];rfl
theorem nM(x:Pla):∀ps n,valV (g9 n ps) (gT x)=if x∈ps then some (.int ((n+ps.idxOf x:Nat):Int))else none
 | [],n=>by simp[g9,valV]
 |p::ps,n=>by
  unfold valV;show((((gT p,V.int n)::g9 (n+1) ps).find? λkv=>decide (kv.1=gT x)).map (·.2))=_;rw[Wt]
  by_cases h:p=x
  .subst h;simp
  .have hk:¬gT p=gT x:=λe=>h (um e);have h':¬x=p:=λe=>h e.symm;have ih:=nM x ps (n+1);unfold valV at ih;rw[RA hk];show(((g9 (n+1) ps).find? λkv=>decide (kv.1=gT x)).map (·.2))=_;rw[ih,List.idxOf_cons];have hb:(p == x)=false:=by simpa using h
   rw[hb]
   by_cases hm:x∈ps
   .rw[RC hm,RC (VU _ hm)];show some (V.int ((n+1+ps.idxOf x:Nat):Int))=some (V.int ((n+(ps.idxOf x+1):Nat):Int));rw[show n+1+ps.idxOf x=n+(ps.idxOf x+1) by lia]
   .rw[RB hm,RB (by simp[h',hm])]
theorem pL(x:Pla):∀ps n,g9 n ps++[(gT x,.int ((n+ps.length:Nat):Int))]=g9 n (ps++[x])
 | [],n=>rfl
 |p::ps,n=>by show(gT p,V.int n)::(g9 (n+1) ps++_)=(gT p,V.int n)::g9 (n+1) (ps++[x]);rw[<-pL x ps (n+1),V1,show n+(ps.length+1)=n+1+ps.length by lia]
theorem uj:∀{ps:List Pla}{n:Nat},x∉ps->((g9 n ps).any λkv=>decide (kv.1=gT x))=false
 | [],_,_=>rfl
 |p::ps,n,h=>by
  have hk:¬gT p=gT x:=λe=>h (by rw[um e];exact VW);show(decide (gT p=gT x)||(g9 (n+1) ps).any _)=false
  rw[RA hk,uj λz=>h (VU _ z)];rfl
def By(h:x∉ps):iU (g9 0 ps) (gT x) (.int (ps.length:Int))=g9 0 (ps++[x]):=by unfold iU;rw[uj h,RB (by decide),<-pL x ps 0,XU]
structure CH(K:Frag)(C:Zo):Prop where
 cl:oY K C
 game:bK K C "game"
 places:bK K C "places"
 numbers:bK K C "numbers"
 ways:bK K C "ways"
 overs:bK K C "overs"
noncomputable def iZ(g lp dn lw lo:Zo):List (Str×V):=putF "overs" (.ref lo) (putF "ways" (.ref lw) (putF "numbers" (.ref dn) (putF "places" (.ref lp) (putF "game" (.ref g) []))))
section
variable{g lp dn lw lo:Zo}
def o8:(iZ g lp dn lw lo).lookup ("places":Str)=some (.ref lp):=by unfold iZ;rw[av,RB (by decide+kernel),av,RB (by decide+kernel),av,RB (by decide+kernel),av,RC rfl]
def uX:(iZ g lp dn lw lo).lookup ("numbers":Str)=some (.ref dn):=by unfold iZ;rw[av,RB (by decide+kernel),av,RB (by decide+kernel),av,RC rfl]
def C4:(iZ g lp dn lw lo).lookup ("ways":Str)=some (.ref lw):=by unfold iZ;rw[av,RB (by decide+kernel),av,RC rfl]
def Ax:(iZ g lp dn lw lo).lookup ("overs":Str)=some (.ref lo):=by unfold iZ;rw[av,RC rfl]
def Oh{m:Str}(h1:¬m="game")(h2:¬m="places")(h3:¬m="numbers")(h4:¬m="ways")(h5:¬m="overs"):(iZ g lp dn lw lo).lookup m=none:=by unfold iZ;rw[av,RB h5,av,RB h4,av,RB h3,av,RB h2,av,RB h1];rfl
end
structure eS(cW:Zo)(H:Hp)(x g dx lp dn lw lo:Zo)(zs:List (Pla×Zo))(ws os:List V):Prop where
 at_:H x=some (.ins cW dx (iZ g lp dn lw lo))
 pl:H lp=some (.lst (plRefs zs))
 pk:jU H zs
 nb:H dn=some (.dT (g9 0 (zs.map (·.1))))
 wy:H lw=some (.lst ws)
 ov:H lo=some (.lst os)
 nwp:lw≠lp
 nop:lo≠lp
 nwo:lw≠lo
section
variable{K:Frag}{cW:Zo}{H H':Hp}{x g dx lp dn lw lo:Zo}{zs:List (Pla×Zo)}{ws os:List V}
theorem eS.same(W:eS cW H x g dx lp dn lw lo zs ws os)(s:aj H H'):eS cW H' x g dx lp dn lw lo zs ws os:=⟨s _ _ W.at_,s _ _ W.pl,W.pk.same s,s _ _ W.nb,s _ _ W.wy,s _ _ W.ov,W.nwp,W.nop,W.nwo⟩
def eS.fplaces(W:eS cW H x g dx lp dn lw lo zs ws os)(D:CH K cW):Fl K H x "places" (.ref lp):=⟨cW,dx,_,W.at_,D.cl,D.places,o8⟩
def eS.fnumbers(W:eS cW H x g dx lp dn lw lo zs ws os)(D:CH K cW):Fl K H x "numbers" (.ref dn):=⟨cW,dx,_,W.at_,D.cl,D.numbers,uX⟩
def eS.fways(W:eS cW H x g dx lp dn lw lo zs ws os)(D:CH K cW):Fl K H x "ways" (.ref lw):=⟨cW,dx,_,W.at_,D.cl,D.ways,C4⟩
def eS.fovers(W:eS cW H x g dx lp dn lw lo zs ws os)(D:CH K cW):Fl K H x "overs" (.ref lo):=⟨cW,dx,_,W.at_,D.cl,D.overs,Ax⟩
def eS.no(W:eS cW H x g dx lp dn lw lo zs ws os){m:Str}(h1:¬m="game":=by decide+kernel)(h2:¬m="places":=by decide+kernel)(h3:¬m="numbers":=by decide+kernel)(h4:¬m="ways":=by decide+kernel)(h5:¬m="overs":=by decide+kernel):lT cW m H x:=⟨dx,_,W.at_,Oh h1 h2 h3 h4 h5⟩
def eS.lenp(W:eS cW H x g dx lp dn lw lo zs ws os)(D:CH K cW)(hx:Ev tx σ H (.ref x)):Ev (cB (ug K) (aN (Er K tx "places") bG)) σ H (.int (zs.length:Int)):=by have:=cQ (K:=K) (aP hx (W.fplaces D)) (.inl (aR.of W.pl));rw[VN]at this;exact this
def eS.add(W:eS cW H x g dx lp dn lw lo zs ws os)(hz:H z.2=some (.tup [.str z.1.1,.int z.1.2])):eS cW (upd (upd H dn (.dT (g9 0 (zs.map (·.1)++[z.1])))) lp (.lst (plRefs zs++[.ref z.2]))) x g dx lp dn lw lo (zs++[z]) ws os:=by
 have npd:lp≠dn:=λe=>by have:=W.pl;rw[e,W.nb]at this;cases this
 have nxd:x≠dn:=λe=>by have:=W.at_;rw[e,W.nb]at this;cases this
 have nxp:x≠lp:=λe=>by have:=W.at_;rw[e,W.pl]at this;cases this
 have nwd:lw≠dn:=λe=>by have:=W.wy;rw[e,W.nb]at this;cases this
 have nod:lo≠dn:=λe=>by have:=W.ov;rw[e,W.nb]at this;cases this
 have tup:∀(a:Zo)(vs:List V),H a=some (.tup vs)->(upd (upd H dn (.dT (g9 0 (zs.map (·.1)++[z.1])))) lp (.lst (plRefs zs++[.ref z.2]))) a=some (.tup vs):=λa vs h=>by rw[aq (λe=>by rw[e,W.pl]at h;cases h),aq (λe=>by rw[e,W.nb]at h;cases h)];exact h
 refine⟨?_,?_,λy hy=>?_,?_,?_,?_,W.nwp,W.nop,W.nwo⟩
 .rw[aq nxp,aq nxd];exact W.at_
 .rw[ag];simp[plRefs]
 .rcases VY.mp hy with h|h
  .exact tup _ _ (W.pk y h)
  .rw[VR.mp h];exact tup _ _ hz
 .rw[aq npd.symm,ag,VZ];rfl
 .rw[aq W.nwp,aq nwd];exact W.wy
 .rw[aq W.nop,aq nod];exact W.ov
def K6(hu:X.A.units+20<SK)(hi:PE X i ty)(ho:PE X o td)(hm:behindInMarks .NotIn o=false:=by first|exact nG _|with_unfolding_all rfl):PT X (.Compare i [.NotIn] [o] pos) (tB (qr ty td)):=Kx (zh (by lia) hi ho) hm
def Db(hy:Ev ty σ H (.ref t))(hd:Ev td σ H (.ref dn))(ht:H t=some (.tup [.str p.1,.int p.2]))(hn:H dn=some (.dT (g9 0 ps))):Tv (tB (qr ty td)) σ H (!decide (p∈ps)):=λQ q=>hy _ (hd _ ⟨dn,_,rfl,su.t (k:=gT p) hn ht,_,rfl,by
 rw[nM]
 by_cases h:p∈ps
 .rw[Ry h]at q;rw[RC h];exact q
 .rw[RA h]at q;rw[RB h];exact q⟩)
def Dh(hv:Ev tv σ H (.int (ps.length:Int)))(hd:Ev td σ H (.ref dn))(hy:Ev ty σ H (.ref t))(ht:H t=some (.tup [.str p.1,.int p.2]))(hn:H dn=some (.dT (g9 0 ps)))(hp:p∉ps)(hl:ps.length<v1)(q:u D σ (upd H dn (.dT (g9 0 (ps++[p]))))):bn (AZ td ty tv) u D σ H:=hv _ (hd _ (hy _ ⟨dn,_,rfl,CO.t (k:=gT p) hn ht (by rw[ui];exact hl),by rw[By hp];exact q⟩))
end
def zQ(i:Nat):(eO ps (fs.take i)).length<=(eO ps fs).length:=by
 have:∀(xs ys:List Pla)(ps:List Pla),(eO ps xs).length<=(eO ps (xs++ys)).length:=λxs=>by
  induction xs with
  |nil=>
   intro ys ps;obtain⟨r,h⟩:=nX ys ps;rw[List.nil_append,h,VV];show ps.length<=_;lia
  |cons x xs ih=>exact λys ps=>ih ys _
 have h:=this (fs.take i) (fs.drop i) ps
 rwa[W2]at h
def Cg{K:Frag}{te tl:TE}{src:List (Option Nat)}{σ rest:St}{H:Hp}{Q:VK}{d:Zo}{xs:List V}(hl:Ev tl σ H (.ref d))(hx:H d=some (.lst xs))(hz:xs.length<=v1)(hs:eU src σ=none::rest)(R:Nat->Hp->V->Prop)(hR:∀i H H' v,R i H v->aj H H'->R i H' v)(he:∀(i:Nat) x H',xs[i]? =some x->aj H H'->∀Q:VK,(∀v H2,R i H2 v->aj H' H2->Q v H2)->te (some x::rest) H' Q)(q:∀d' H' ys,aj H H'->H' d'=none->ys.length=xs.length->(∀i y,ys[i]? =some y->R i H' y)->Q (.ref d') (upd H' d' (.lst ys))):tComp (nV K tl) (ck 0) iS te src σ H Q:=by
 refine hl _ ⟨d,rfl,⟨xs,aR.of hx⟩,?_⟩;refine iE xs.length (λi ys σ' H'=>aj H H'/\(∃v,σ'=v::rest)/\ys.length=i/\∀j y,ys[j]? =some y->R j H' y) hz (λi ys σ H h=>XS h.2.2.1)
  (λi ys σ H' h hi=>⟨xs,xs[i],aR.of (h.1 _ _ hx),VQ hi⟩) (λys σ H' h=>⟨xs,aR.of (h.1 _ _ hx),XD _⟩) ⟨aj.refl H,⟨none,hs⟩,rfl,λj y e=>by simp at e⟩ ?_ ?_
 .rintro i ys _ H1 x H2 hi ⟨s1,⟨v0,rfl⟩,hl,hy⟩ ⟨rfl,hyy⟩ Kt Kf ht hf;have ex:=hyy xs (aR.of (s1 _ _ hx));simp only[ck,iS,WB,if_true];refine he i x _ ex s1 _ λv H2 rv s2=>ht _ _ _ ⟨s1.trans s2,⟨_,rfl⟩,by simp[hl],λj y e=>?_⟩
  by_cases q:j<ys.length
  .rw[WE q]at e;exact hR _ _ _ _ (hy j y e) s2
  .by_cases q2:j=ys.length
   .subst q2;simp at e;subst e;rw[hl];exact rv
   .rw[Wf (by simp;lia)]at e;cases e
 .rintro ys _ H1 dd ⟨s1,_,hl,hy⟩ hd;exact q dd H1 ys s1 hd hl hy
open Classical in
noncomputable def folF(wi hi:Int)(hs:List Int)(us:List (bw×Zo))(ts es:List ((Str×Str)×Zo))(x:Pla):List Pla:=if h:∃ls,kW wi hi hs x.1 us ts es x.2 ls then choose h else []
open Classical in
noncomputable def ovF(wi hi:Int)(hs:List Int)(us:List (bw×Zo))(es:List ((Str×Str)×Zo))(st:Str)(x:Pla):Option Str:=if h:∃z,PV wi hi hs x.1 us es st x.2 (.str z)then some (choose h)else none
section
def Ed{ls:List Pla}(h:kW wi hi hs x.1 us ts es x.2 ls):folF wi hi hs us ts es x=ls:=by have hx:∃ls,kW wi hi hs x.1 us ts es x.2 ls:=⟨ls,h⟩;unfold folF;rw[dif_pos hx];exact(Classical.choose_spec hx).uniq h
def pX(w1:1<=wi)(hm0:0<=wi*hi)(hl:∀k∈ks,j7 k)(tg:lU ks ts)(G:wL wi hi hs ks m x):∀y∈folF wi hi hs us ts es x,wL wi hi hs ks m y:=by
 unfold folF;split
 .rename_i h;exact kW.good w1 hm0 hl tg G (Classical.choose_spec h)
 .exact λy hy=>by cases hy
end
section
variable{K:Frag}{σ:St}{H:Hp}
def mG(hv:∀Q:VK,(∀q,H q=none->Q (.ref q) (upd H q o))->tv σ H Q)(ho:∀H',Ev (cL 0) σ H' (.ref x))(hp:H x=some (.ins C dx fs))(hc:oY K C)(hn:bK K C f)(hl:fs.length<1000)(h2:∀q H',H q=none->q≠x->H' x=some (.ins C dx (putF f (.ref q) fs))->H' q=some o->(∀b ob,b≠x->H b=some ob->H' b=some ob)->(∀b,H' b=none->H b=none/\b≠q)->u D σ H'):bn (lX K (cL 0) tv f) u D σ H:=by
 refine hv _ λq hq=>ho _ _ ⟨x,C,dx,fs,rfl,by rw[aq (aB hp hq)];exact hp,hc,hn,hl,?_⟩;have nq:q≠x:=λe=>by rw[e,hp]at hq;cases hq
 refine h2 q _ hq nq ag (by rw[aq nq,ag]) (λb ob nb e=>by rw[aq nb,aq (aB e hq)];exact e) (λb e=>?_);have nb:b≠x:=λz=>by rw[z,ag]at e;cases e
 rw[aq nb]at e;have nb2:b≠q:=λz=>by rw[z,ag]at e;cases e
 rw[aq nb2]at e;exact⟨e,nb2⟩
def Kk(WC:CH K cW)(hx:H x=some (.ins cW dx []))(h0:∀H',Ev (cL 0) σ H' (.ref x))(h1:∀H',Ev (cL 1) σ H' (.ref g))(q:∀H5 lp dn lw lo,eS cW H5 x g dx lp dn lw lo [] [] []->H lp=none->H dn=none->H lw=none->H lo=none->SameBut x H H5->u D σ H5):bn (lX K (cL 0) (cL 1) "game") (bn (lX K (cL 0) (lV bG) "places") (bn (lX K (cL 0) AF "numbers") (bn (lX K (cL 0) (lV bG) "ways") (bn (lX K (cL 0) (lV bG) "overs") u)))) D σ H:=by
 have nl:∀(H:Hp)(Q:VK),(∀q,H q=none->Q (.ref q) (upd H q (.lst [])))->lV bG σ H Q:=λH Q k=>⟨XF _,k⟩;refine qx (h1 _) (h0 _) hx WC.cl WC.game (by decide) ?_;have a1:=bu "game" (V.ref g) [];simp only[WW]at a1;have e1:(upd H x (.ins cW dx (putF "game" (V.ref g) []))) x=some (.ins cW dx (putF "game" (V.ref g) [])):=ag;have f1:∀b,(upd H x (.ins cW dx (putF "game" (V.ref g) []))) b=none->H b=none:=λb e=>by
  have nb:b≠x:=λz=>by rw[z,ag]at e;cases e
  rwa[aq nb]at e
 have k1:∀b ob,b≠x->H b=some ob->(upd H x (.ins cW dx (putF "game" (V.ref g) []))) b=some ob:=λb ob nb e=>by rw[aq nb];exact e
 generalize upd H x (.ins cW dx (putF "game" (V.ref g) []))=H1 at e1 f1 k1 ⊢;refine mG (nl _) h0 e1 WC.cl WC.places (by lia) λlp H2 n2 x2 e2 l2 k2 f2=>?_;have a2:=bu "places" (V.ref lp) (putF "game" (V.ref g) []);refine mG (λQ k=>k) h0 e2 WC.cl WC.numbers (by lia) λdn H3 n3 x3 e3 l3 k3 f3=>?_;have a3:=bu "numbers" (V.ref dn) (putF "places" (V.ref lp) (putF "game" (V.ref g) []));refine mG (nl _) h0 e3 WC.cl WC.ways (by lia) λlw H4 n4 x4 e4 l4 k4 f4=>?_;have a4:=bu "ways" (V.ref lw) (putF "numbers" (V.ref dn) (putF "places" (V.ref lp) (putF "game" (V.ref g) [])));refine mG (nl _) h0 e4 WC.cl WC.overs (by lia) λlo H5 n5 x5 e5 l5 k5 f5=>?_;have p3:=k3 _ _ x2 l2;have p4:=k4 _ _ x2 p3;have w5:=k5 _ _ x4 l4;refine q H5 lp dn lw lo ⟨e5,k5 _ _ x2 p4,(λz hz=>by cases hz),k5 _ _ x3 (k4 _ _ x3 l3),w5,l5,(λe=>by rw[e,p3]at n4;cases n4),(λe=>by rw[e,p4]at n5;cases n5),(λe=>by rw[<-e,l4]at n5;cases n5)⟩ (f1 _ n2) (f1 _ (f2 _ n3).1) (f1 _ (f2 _ (f3 _ n4).1).1) (f1 _ (f2 _ (f3 _ (f4 _ n5).1).1).1) ?_;exact λb o e nb=>k5 _ _ nb (k4 _ _ nb (k3 _ _ nb (k2 _ _ nb (k1 _ _ nb e))))
end
def JT(X:Cx)(EX:XK):Prop:= ∀Rv σ H1 s1 e s',aJ X Rv σ H1 s1->yy X.prog X.w X.stack H1 s1 EX e s'->X.xe e s'
def nK{P:RU}{w:RZ}{K:Frag}{mg:RJ}{Rw:R9}{N:List Str}{qual:Str}{scope:TV}{f:Zo}{cd:Zn}{A:SJ}{Rx:List VE}{s:RQ}{H:Hp}{E:XK}:JT (lA (yy P w) P w K mg Rw N qual scope f cd A Rx s H E) E:=by
 intro Rv σ H1 s1 e s' I z;obtain⟨a,cls,a0,B,H',rfl,os,bare,new,ha,fl,hok,un,c1,c2,hE⟩:=z;have fr:(A.deeper (SU qual scope s.heap.objs.size f cd)).frames=some (SU qual scope s.heap.objs.size f cd::Rx):=I.ok.frames;have BU:Un (jK Rx) [] H H1 s.heap s1.heap:=I.Rw;have notin:∀b o,s.heap.get? b=some o->b∉jK Rx->b∉jK (SU qual scope s.heap.objs.size f cd::Rx):=λb o q nb hb=>by
  obtain⟨env,he,hf⟩:=Wd.mp hb
  rcases VO.mp he with rfl|he
  .have:s.heap.objs.size=b:=RH hf;rw[<-this]at q;exact RF (RP q) (XM _)
  .exact nb (Wd.mpr ⟨env,he,hf⟩)
 show RR _ _ (leaving _ _) _ _ _;refine wpAny_leaves_onW fr rfl fl λh' fl' u=>?_;have I5:=I.flown (a:=a) (cls:=cls) (a0:=a0) os bare fl.2.2.1 fl'.1 hok un u c1 c2;refine⟨a,cls,a0,B,H',rfl,os.trans I.os,bare,?_,ha,fl',hok,I5.Rw,λb o q n hb=>?_,λb o q hb=>?_,hE⟩
 .cases q:s.heap.get? a with
  |none=>rfl
  |some o=>
   obtain⟨o',q'⟩:=BU.there a o q (by simp);rw[new]at q';cases q'
 .exact c1 b o (BU.keep b o q n hb (by simp)) (BU.free b o q n (by simp)) (notin b o q hb)
 .obtain⟨o',q1⟩:=BU.there b o q (by simp);exact c2 b o' q1 (notin b o q hb)
def aY.calm{P:RU}{w:RZ}{K:Frag}{mg:RJ}{Rw:R9}{k:Nat}{f:Zo}{fd:R7}{ps:List Str}{sp sp':Sp}(F:aY P w K mg Rw (yy P w) k f fd ps sp)(h:∀vs H Q E,sp' vs H Q E->sp vs H Q E0):aY P w K mg Rw cY k f fd ps sp':=
 ⟨λvs H Q E q=>F.len vs H Q E0 (h _ _ _ _ q),λA Rx s H args us vs Q E hr he hb hv hs=>SB (F.run A Rx s H args us vs Q E0 hr he hb hv (h _ _ _ _ hs)) λr s' z=>by
  cases r with
  |ok f=>cases f<;>exact z
  |error e=>obtain⟨_,_,_,_,_,_,_,_,_,_,_,_,_,_,_,z⟩:=z;exact z⟩
structure CN(P:RU)(w:RZ)(K:Frag)(mg:RJ)(Rw:R9)(C:Zo)(m:Str)(ps:List Str)(k:Nat)(sp:Sp):Prop where
 ex:∃f fd,aY P w K mg Rw (yy P w) k f fd ps sp/\LU K C m f/\gS K fd ps []
 cl:oY K C
structure CM(P:RU)(w:RZ)(K:Frag)(mg:RJ)(Rw:R9)(name:Str)(C:Zo)(ps:List Str)(k:Nat)(sp:Sp):Prop where
 ex:∃f fd,Mk K C f/\aY P w K mg Rw (yy P w) k f fd ps sp/\mg name=some (.ref C)/\gS K fd ps []
theorem CM.calm{P:RU}{w:RZ}{K:Frag}{mg:RJ}{Rw:R9}{name:Str}{C:Zo}{ps:List Str}{k:Nat}{sp sp':Sp}(M:CM P w K mg Rw name C ps k sp)(h:∀vs H Q E,sp' vs H Q E->sp vs H Q E0):lS P w K mg Rw name C ps k sp':=by obtain⟨f,fd,a,b,c,d⟩:=M.ex;exact⟨f,fd,a,b.calm h,c,d⟩
def Cq(EX:XK)(C:Zo)(m:Str)(sp:Sp)(to:TE)(t:TA):TE:=λσ H Q=>to σ H λx H1=>Jw C m x H1 λa=>t σ H1 λvs H2=>sp (.ref a::vs) H2 Q EX
section
variable{X:Cx}{e o:Sz}{to:TE}{p pos apos bpos np hpos tpos yp:Vb}{es:List Sz}{t:TA}{m:Str}
def Bz{EX:XK}{C:Zo}{ps:List Str}{k j:Nat}{sp:Sp}{pl:Sem Bool}(M:CN X.prog X.w X.K X.mg X.Rw C m ps k sp)(hx:JT X EX)(hr:cw j X.A)(ho:PE X o to)(ha:PA X (e::es) t)(hkj:k<=j:=by decide)(hp:(e::es).all eY=true:=by rfl)(ht:Sr (.Call (.Attribute o m apos) (e::es) [] pos) X.env=(do
   let ov<-Sr o X.env
   U8 apos.atName
   let (f,first)<-TF [ov] (U9 ov m pl)
   callWith pos f first (Sj pos (RS (e::es) X.env)) (TQ pos (S6 [] X.env))):=by rfl):PE X (.Call (.Attribute o m apos) (e::es) [] pos) (Cq EX C m sp to t):=by
 obtain⟨f,fd,F,hm,hb⟩:=M.ex;have hp':=hp;rw[Wb,Ye]at hp';intro Rv s σ H Q I h;refine Y7 (pl:=pl) (bL (ho Rv s σ H _ I h) λu s1 ⟨x,H1,I1,rx,q⟩=>?_) ht;cases x with
 |ref a=>
  obtain⟨⟨dx,fs,ea,l⟩,q⟩:=q;obtain rfl:u=RY a:=rx;refine j4 I1 ea M.cl hm l ?_;refine YX (first:=[.ref a]) (h₀:=X.Rw) I.ok.mod.kin hm.kp (bL (ha pos Rv s1 σ H1 _ I1 q) λus s2 ⟨vs,H2,I2,r,q2⟩=>⟨I2.kIn,?_⟩) (dA hp'.1) (fm hp'.2);exact Dr (us:=.ref a::us) (vs:=.ref a::vs) F (hr.mono hkj) hb I2 (.cons rfl r) q2 λe s' z=>hx _ _ _ _ e s' I2 z
 |_=>exact q.elim
end
def Jc(K:Frag)(C C0:Zo)(sp:Sp)(j i:Nat)(ta:TA)(ts:TS):TS:=λD σ H=>ta σ H λvs H1=>∀x dx,H1 x=none->H1 dx=none->dx≠x->sp (.ref x::vs) (upd (upd H1 dx (.own x)) x (.ins C dx [])) (λv H2=>v=.non/\D.nx (σ.set j (some (.ref x))) H2) λcls _ H2=>YU K cls (.ref C0)=some true/\
 ∀a,H2 a=none->ts {nx:=λ_ _=>False,rt:=D.rt} (σ.set i (some (.ref a))) (upd H2 a (CG cls a))
section
variable{X:Cx}{e:Sz}{es:List Sz}{ta:TA}{ts:TS}{p pos bpos np hpos tpos yp:Vb}{sp:Sp}{k j i jy:Nat}{name xc n y:Str}{ps:List Str}{C C0:Zo}{b₀:Sb}{suite:List Sb}
def vZ{f:Zo}{fd:R7}{Rv:RL}{σ:St}{H:Hp}{s:RQ}{Q:VK}{us:List Zn}{vs:List V}{E:XK}{E':RK}(M:Mk X.K C f)(F:aY X.prog X.w X.K X.mg X.Rw (yy X.prog X.w) k f fd ps sp)(hr:cw (k+1) X.A)(hb:gS X.K fd ps [])(I:aJ X Rv σ H s)(r:aT vs us)(h:∀x dx,H x=none->H dx=none->dx≠x->sp (.ref x::vs) (upd (upd H dx (.own x)) x (.ins C dx [])) (λv H2=>v=.non/\Q (.ref x) H2) E)(hx:∀H1 s1 e s',aJ X Rv σ H1 s1->yy X.prog X.w X.stack H1 s1 E e s'->E' e s'):RR (RX X.prog X.w) X.A (call (.ref C) us) (EP X Rv σ Q) E' s:=by
 have hq:=h (s.heap.objs.size+1) s.heap.objs.size (I.hok.fresh (XI _)) (I.hok.fresh (XD _)) (XE (XQ _));have I2:=aJ.made (C:=C) I;have r2:aT (V.ref (s.heap.objs.size+1)::vs) (RY (s.heap.objs.size+1)::us):=.cons rfl r;have hl:(RY (s.heap.objs.size+1)::us++[]).length=ps.length:=by have e:=r2.length;rw[F.len _ _ _ _ hq]at e;rw[V9];exact e.symm
 have hb':=hb _ (RY (s.heap.objs.size+1)::us) I2.kIn hl;rw[V9]at hb';refine To (ub (f:=f) I.kIn M.makes M.init (beq_iff_eq.mp M.fn) (SB (F.run _ X.stack _ _ ⟨RY (s.heap.objs.size+1)::us,[]⟩ (RY (s.heap.objs.size+1)::us) _ _ E (hr.make C us [])
  (I2.env0.make C us []) hb' r2 hq) λr s' hq'=>?_))
 cases r with
 |error e=>exact hx _ _ e s' I2 hq'
 |ok fl=>
  cases fl with
  |ret u=>
   obtain⟨v,H',I3,rv,ev,q3⟩:=I2.after hq';subst ev;exact⟨rv,⟨V.ref (s.heap.objs.size+1),H',I3,rfl,q3⟩⟩
  |next=>exact False.elim hq'
  |brk=>exact False.elim hq'
  |cont=>exact False.elim hq'
def Dw(M:CM X.prog X.w X.K X.mg X.Rw name C ps k sp)(hr:cw j X.A)(hn:∀e s,X.xe e s->False)(ha:PA X (e::es) ta)(hmc:X.mg xc=some (.ref C0))(hN:X.N.Nodup)(hy:X.N[jy]? =some y)(hi:X.N[i]? =some n)(hs:∀a,sj (X.hand a) (b₀::suite) ts)(hkj:k+1<=j:=by decide)(hstk:X.stack=X.env::X.Rx:=by rfl)(hfr:X.env.frame=some X.env.locals:=by rfl)(hx:X.env.scope.names.lookup n=some .local:=by rfl)(hyl:X.env.scope.names.lookup y=some .local:=by rfl)(hgc:Gl X xc:=by rfl)(hg:Gl X name:=by rfl)(hdb:(name == ("__debug__":Str))=false:=by decide)(hdc:(xc == ("__debug__":Str))=false:=by decide)(hp:(e::es).all eY=true:=by rfl)(hsw:TX (.Call (.Name name p) (e::es) [] pos) (some (.Name y yp)) bpos.line X.env=pure false:=by rfl):PS X (.Try [.Assign [.Name y yp] (.Call (.Name name p) (e::es) [] pos) bpos] [.ExceptHandler (some (.Name xc np)) (some n) (b₀::suite) hpos] [] [] tpos) (Jc X.K C C0 sp jy i ta ts):=by intro Rv s σ H D I h;obtain⟨f,fd,MK,F,hm,hb⟩:=M.ex;have hp':=hp;rw[Wb,Ye]at hp';refine wpAny_Try_except (UF (wpAny_Assign_Name ?_ hsw));refine SL (iJ I hg hm ?_ hdb);refine YX (h₀:=X.Rw) I.ok.mod.kin MK.kp (Sx (ha pos Rv s σ H _ I h) (λus s1 ⟨vs,H1,I1,r,q⟩=>⟨I1.kIn,?_⟩) λ_ _ z=>(hn _ _ z).elim) (dA hp'.1) (fm hp'.2);refine Sx (vZ (Q:=λx H2=>D.nx (σ.set jy (some x)) H2) MK F (hr.mono hkj) hb I1 r q λH2 s2 e s' I2 z=>?_) (λv s2 ⟨x,H2,I2,rx,z⟩=>kb I2 hN hy (.inl hyl) rx (λs3 I3=>Th (Th ⟨_,H2,I3,z⟩)) (.inr hyl)) λ_ _ z=>z;exact QX I2 hn hstk hfr hgc hmc hN hi hx hs z (λ_ _ _ z=>z) hdc
end
section
variable{K:Frag}{C C0:Zo}{sp:Sp}{i j:Nat}{ta:TA}{ts u:TS}{D:mq}{σ:St}{H:Hp}{vs:List V}
def J6(h:Av ta σ H vs)(q:∀x dx,H x=none->H dx=none->dx≠x->sp (.ref x::vs) (upd (upd H dx (.own x)) x (.ins C dx [])) (λv H2=>v=.non/\u D (σ.set j (some (.ref x))) H2) λcls _ H2=>YU K cls (.ref C0)=some true/\
  ∀a,H2 a=none->ts {nx:=λ_ _=>False,rt:=D.rt} (σ.set i (some (.ref a))) (upd H2 a (CG cls a))):bn (Jc K C C0 sp j i ta ts) u D σ H:=h _ q
end
def o7(h:i<=j):(dR F p0 i).length<=(dR F p0 j).length:=by obtain⟨r,e⟩:=sJ F p0 h;rw[e,VV];lia
def C5(hf:∀n,(∀j,j<n->j<(dR F p0 j).length)->(dR F p0 n).length<=2000):∃n,C6 F p0 n/\n<=2000:=by
 have h:∀k,(∃n,C6 F p0 n)\/∀j,j<=k->j<(dR F p0 j).length:=by
  intro k
  induction k with
  |zero=>
   by_cases h:0<(dR F p0 0).length
   .refine .inr λj hj=>?_;have:j=0:=by lia
    subst this;exact h
   .exact .inl ⟨0,by lia,λj hj=>by lia⟩
  |succ k ih=>
   rcases ih with ih|ih
   .exact .inl ih
   .by_cases h:k+1<(dR F p0 (k+1)).length
    .refine .inr λj hj=>?_
     by_cases e:j=k+1
     .subst e;exact h
     .exact ih j (by lia)
    .have h1:=ih k (XD _);have h2:=o7 (F:=F) (p0:=p0) (show k<=k+1 from XI k);exact .inl ⟨k+1,by lia,λj hj=>ih j (by lia)⟩
 rcases h 2001 with⟨n,w⟩|h
 .exact⟨n,w,by rw[<-w.1];exact hf n w.2⟩
 .have h1:=hf 2001 (λj hj=>h j (by lia));have h2:=h 2001 (XD _);lia
def gW(t:Thg H v)(s:aj H H'):ci wi hi hs ks H' v=ci wi hi hs ks H v:=by unfold ci;rw[eW t s]
def xi(cW cT:Zo):Sp:=λvs H Q E=>∃(x g dx lp dn lw lo d:Zo)(zs fs:List (Pla×Zo))(ws os:List V)(n:Int),vs=[.ref x,.ref d,.int n]/\eS cW H x g dx lp dn lw lo zs ws os/\H d=some (.lst (plRefs fs))/\jU H fs/\d≠lp/\(zs.length:Int)<=n/\n<=10000/\
 (∀(zs':List (Pla×Zo))(H':Hp),(zs'.length:Int)<=n->zs'.map (·.1)=eO (zs.map (·.1)) (fs.map (·.1))->eS cW H' x g dx lp dn lw lo zs' ws os->(∀b o,H b=some o->b≠lp->b≠dn->H' b=some o)->Q .non H')/\
 (n<(eO (zs.map (·.1)) (fs.map (·.1))).length->∀H',(∀b o,H b=some o->b≠lp->b≠dn->H' b=some o)->E (.ref cT) none H')
def mR(K:Frag)(cB cG cW cP cT:Zo):Sp:=λvs H Q E=>∃(x g b kq d dx:Zo)(H0:Hp)(wi hi:Int)(hs:List Int)(ks:List Nat)(us:List (bw×Zo))(ts es:List ((Str×Str)×Zo))(st:Str)(xs:List V)(mo:Int),vs=[.ref x,.ref g,.ref d,.int mo]/\aj H0 H/\H0 x=none/\H x=some (.ins cW dx [])/\fY K cB cG H0 g b kq wi hi hs ks us ts es st/\H0 d=some (.lst xs)/\xs.length<=1000/\(∀v∈xs,cz H0 1 v)/\0<=mo/\mo<=10000/\
 (((xs.all λv=>ci wi hi hs ks H0 v)=false/\∀H',aj H0 H'->E (.ref cP) none H')\/
  ∃(fs:List (Pla×Zo))(m n:Nat),xs=plRefs fs/\jU H0 fs/\(∀z∈fs,wL wi hi hs ks m z.1)/\C6 (folF wi hi hs us ts es) (fs.map (·.1)) n/\n<=2000/\
   ((n:Int)<=mo->∀(lp dn lw lo:Zo)(zs:List (Pla×Zo))(ws os:List V)(H':Hp),zs.length=n->eS cW H' x g dx lp dn lw lo zs ws os->aj H0 H'->Q .non H')/\(mo<n->∀H',aj H0 H'->E (.ref cT) none H'))
structure Rp(P:RU)(w:RZ)(K:Frag)(mg:RJ)(Rw:R9)(cB cG cW cT:Zo):Prop where
 is_place:cZ P w K mg Rw "is_place" ["game","thing"] 6 (sV K cB cG)
 followers:cZ P w K mg Rw "followers" ["game","place"] 7 (AU K cB cG)
 ending:cZ P w K mg Rw "ending" ["game","place"] 7 (sZ K cB cG)
 Web_gather:CN P w K mg Rw cW "gather" ["self","found","most"] 1 (xi cW cT)
def xF(ho:Ev to σ H (.ref a))(hn:lT C m H a)(ht:Av t σ H vs)(q:sp (.ref a::vs) H Q EX):Cq EX C m sp to t σ H Q:=ho _ ⟨hn,ht _ q⟩
theorem Jp:∀{cs:List Zo}{its:List Zn},aT (cs.map V.ref) its->its=cs.map RY
 | [],_,.nil=>rfl
 |_::_,_,.cons r t=>by cases r;rw[Jp t];rfl
theorem ul{K:Frag}{t:Zn}:∀{cs:List Zo},(∀c∈cs,YG K t (.ref c)=some false)->Zh K t (cs.map RY)=some false
 | [],_=>rfl
 |c::cs,h=>by
  show(match YG K t (.ref c)with|some true=>some true|some false=>Zh K t (cs.map RY)|none=>none)=_
  rw[h c VW];exact ul λc hc=>h c (VU _ hc)
def OW(K:Frag):List V->Hp->VK->Prop:=λvs H Q=>∃(a D tp:Zo)(cs:List Zo),vs=[.ref a,.ref tp]/\H a=some (CG (.ref D) a)/\PySem.W.ExcC K D/\dF K H tp (cs.map V.ref)/\(∀c∈cs,YG K (.ref D) (.ref c)=some false)/\Q (.bl false) H
section
def qc(K:Frag)(hK:X.K=K:=by rfl):bf X (.builtin "isinstance") (OW K):=by subst hK;intro Rv s σ H xs us Q I r h;obtain⟨a,D,tp,cs,rfl,ha,F,ht,hb,q⟩:=h;obtain⟨u,v,rfl,ru,rv⟩:=r.two;cases ru;cases rv;have hx:bp X.prog X.w H s.heap a (.ext λh=>∃o,h.get? a=some o/\o.cls=.ref D):=I.hok a _ ha;obtain⟨p,_,_⟩:=hx;obtain⟨its,r1,p1,_⟩:=I.tuple ht;obtain⟨⟨oc,od,oda,osl⟩,ho,hc,n,hd⟩:s.heap.IsTuple tp its.toArray:=p1;cases hc;cases hd;exact PySem.W.kia_tup (its:=its) (PySem.W.kitx_exc F) I.kIn p ho (by rw[Jp r1];exact ul hb) (λz=>nomatch z) λtk=>⟨.bl false,H,I.tok tk,rfl,q⟩
def Px(to:TE)(ta:TA):TE:=λσ H Q=>to σ H λx H1=>match x with
 | .ref l=>(∃xs,H1 l=some (.lst xs))/\ta σ H1 λvs H2=>∃(xs:List V)(k:Nat)(y:V),vs=[.int k,y]/\H2 l=some (.lst xs)/\k<=xs.length/\xs.length<1000/\Q .non (upd H2 l (.lst (xs.take k++y::xs.drop k)))
 |_=>False
theorem IX:∀{xs:List V}{us:List Zn}(k:Nat),aT xs us->aT (xs.take k) (us.take k)
 |_,_,0,_=>.nil
 |_,_,_+1,.nil=>.nil
 |_,_,k+1,.cons r t=>.cons r (IX k t)
theorem IY:∀{xs:List V}{us:List Zn}(k:Nat),aT xs us->aT (xs.drop k) (us.drop k)
 |_,_,0,h=>h
 |_,_,_+1,.nil=>.nil
 |_,_,k+1,.cons _ t=>IY k t
def LC{e e2:Sz}{apos cpos:Vb}(ho:PE X o to)(ha:PA X [e,e2] ta)(hbase:SE o "insert" X.env (Sr o X.env)=Sr o X.env:=by rfl)(hfew:((Sj cpos (RS [e,e2] X.env)).all (λx=> !x.1)&&(TQ cpos (S6 [] X.env)).all (λx=>x.1.isSome)
   &&decide ([e,e2].length+([]:List Tw).length+(if([]:List Tw).isEmpty then 0 else 1)<30))=true:=by rfl) (hline:(apos.endLine == cpos.line)=true:=by rfl) (hs:RS [e,e2] X.env=(false,Sr e X.env)::RS [e2] X.env:=by rfl) (hplain:(Sj cpos (RS [e2] X.env)).any (·.1)=false:=by rfl):PE X (.Call (.Attribute o "insert" apos) [e,e2] [] cpos) (Px to ta):=by
 intro Rv s σ H Q I h;refine SH hbase hfew hline rfl (bL (ho Rv s σ H _ I h) λv s1 ⟨x,H1,I1,r1,q1⟩=>?_);cases x with
 |ref l=>
  obtain⟨⟨xs0,e0⟩,q1⟩:=q1;have ty:IZ X.K "list" (.ref l) H1:=.inl ⟨rfl,xs0,aR.of e0⟩;obtain⟨h1,h2⟩:=jV I1 r1 ty;refine⟨"list","list.insert",PySem.F.plainAttrs_list,PySem.F.slot_list_insert,PySem.F.type_list_insert,h1,h2,?_⟩;have hA:=ha cpos Rv s1 σ H1 _ I1 q1;rw[hs]at hA ⊢;refine Sw (by show(false||(Sj cpos (RS [e2] X.env)).any (·.1))=false;rw[hplain]<;>rfl) (SD ?_)
  refine bL hA λus s2 ⟨vs,H2,I2,r2,xs,k,y,e,hH,hk,hz,q⟩=>?_;subst e;cases r1;obtain⟨u1,u2,rfl,ru1,ru2⟩:=r2.two;obtain⟨tk,rfl⟩:=ru1;obtain⟨z,its,n,r,hl,e⟩:=I2.lstM hH;have hl':=r.length;obtain⟨kk,hkk⟩:∃kk:Int,kk=(k:Int):=⟨_,rfl⟩;rw[<-hkk];have hm1:¬(!Builtin.List.listFitsIndex kk)=true:=λq=>by rw[U3 (by lia) (by lia)]at q;exact Yd q
  have hm2:its.toArray.size<=v1:=by rw[VS,<-hl'];exact z
  refine TJ PySem.F.slot_list_insert ⟨_,e,rfl⟩ PySem.F.entry_list_insert (PySem.F.args_list_insert_3 _ _ _) (PySem.AutoSeq1.list_insert_list_int_val_1 l its.toArray n kk tk u2 hm1 hm2) ⟨e,?_⟩;refine⟨.non,_,I2.lset (its':=its.take k++u2::its.drop k) hH e ?_ ((IX k r).append (.cons ru2 (IY k r))) ?_,rfl,q⟩
  .show(its.toArray.extract 0 (if kk<0 then(kk+(its.toArray.size:Int)).toNat else min kk.toNat its.toArray.size)).push u2++its.toArray.extract (if kk<0 then(kk+(its.toArray.size:Int)).toNat else min kk.toNat its.toArray.size)=_;rw[RB (by lia),VS,show min kk.toNat its.length=k from by lia];exact PySem.W.kl_ins_eq its k u2
  .rw[VV,V1,V8,Wq,RW];lia
 |_=>exact q1.elim
end
def gU(D:Zo)(wd:Str):Sp:=λvs H Q _=>∃a,vs=[.ref a]/\H a=some (CG (.ref D) a)/\∀H',aj H H'->Q (.str wd) H'
def K4(h:Ev te σ H (.str z))(hz:z.length<=1000)(q:∀l,H l=none->Q (.ref l) (upd H l (.lst (z.cps.toList.map strV)))):cB xK (aN te bG) σ H Q:=h _ ⟨hz,q⟩
end L2
seal L2.PE L2.PT L2.PA L2.PS L2.sj L2.PG L2.L7 L2.PI L2.PO L2.wM L2.PW L2.bf L2.sH L2.jL L2.Ri L2.yu L2.At
namespace L2
open PySem PySem.Spec PyProof.Rows
def Bn(s:String):(SX s).cps.toList=s.toList.map Char.toNat:=by rw[Str.ofString_eq_toList]
def pG{n:Int}(h:n.natAbs<10 ^ 60):n.natAbs.log2<1920:=by
 have hz:n.natAbs<2 ^ 200:=by
  have:(10:Nat) ^ 60<2 ^ 200:=by decide
  lia
 by_cases hz0:n.natAbs=0
 .rw[hz0];decide
 .have:=(Nat.log2_lt hz0).mpr hz;lia
end L2
namespace K20
open PySem L2
noncomputable def bi(i:Nat):Sb:=PySem.Challenge.pw_playboard_k20_webs_refused.main.body.getD i (.Pass ⟨0,0,0,0⟩)
abbrev xq:Sb:=bi 0
noncomputable abbrev gE:Sb:=cV (bi 5) 0
noncomputable abbrev gv:Sb:=bi 13
def tE:aD ["thing"] ["thing"] (ak gv):=dS
noncomputable abbrev fu:Sb:=bi 14
def qI:aD ["thing"] ["thing"] (ak fu):=dS
noncomputable abbrev gB:Sb:=bi 15
def tG:aD ["thing","least","most"] ["thing","least","most"] (ak gB):=dS
noncomputable abbrev ie:Sb:=bi 24
def vt:aD ["thing","words"] ["thing","words"] (ak ie):=dS
noncomputable abbrev dt:Sb:=bi 25
def m7:aD ["thing","many"] ["thing","many"] (ak dt):=dS
noncomputable abbrev dX:Sb:=bi 26
def oE:aD ["thing","least","most"] ["thing","least","most"] (ak dX):=dS
noncomputable abbrev ig:Sb:=bi 27
def m8:aD ["sort","across","up","longest"] ["sort","across","up"] (ak ig):=dS
noncomputable abbrev ii:Sb:=bi 28
def jY:aD ["thing","kinds","sort","aim"] ["thing","kinds"] (ak ii):=dS
noncomputable abbrev ij:Sb:=bi 29
def vv:aD ["thing","firsts","seconds"] ["thing","firsts","seconds"] (ak ij):=dS
noncomputable abbrev dN:Sb:=bi 30
def qN:aD ["thing","firsts","seconds"] ["thing","firsts","seconds"] (ak dN):=dS
noncomputable abbrev dD:Sb:=bi 31
def lJ:aD ["thing","kinds","firsts"] ["thing","kinds"] (ak dD):=dS
noncomputable abbrev il:Sb:=bi 32
def vw:aD ["thing","kinds"] ["thing","kinds"] (ak il):=dS
noncomputable abbrev dO:Sb:=bi 33
def qO:aD ["thing"] ["thing"] (ak dO):=dS
noncomputable abbrev dM:Sb:=bi 34
def qM:aD ["thing","kinds"] ["thing","kinds"] (ak dM):=dS
noncomputable abbrev ia:Sb:=bi 38
def vo:aD ["kind","side"] ["kind","side"] (ak ia):=dS
noncomputable abbrev ic:Sb:=bi 39
def vq:aD ["sign"] ["sign"] (ak ic):=dS
noncomputable abbrev ib:Sb:=bi 40
def vp:aD ["sign"] ["sign"] (ak ib):=dS
noncomputable abbrev dL:Sb:=bi 41
def qK:aD ["board"] ["board"] (ak dL):=dS
abbrev tJ:Sb:=bi 42
def Ks:aD ["row","square","sign"] ["row","square","sign"] (ak tJ):=dS
noncomputable abbrev dg:Sb:=bi 43
def oC:aD ["row","side"] ["row","side"] (ak dg):=dS
noncomputable abbrev gw:Sb:=bi 44
def lf:aD ["game","thing","bare","signs"] ["game","thing"] (ak gw):=dS
noncomputable abbrev gy:Sb:=bi 45
def tF:aD ["game","thing"] ["game","thing"] (ak gy):=dS
abbrev tI:Sb:=bi 47
def qH:aD ["board","square","across","up","come_to","here"] ["board","square","across","up"] (ak tI):=dS
abbrev nu:Sb:=bi 50
def mx:aD ["row","side","aim","path","found","goal","owner"] ["row","side","aim","path"] (ak nu):=dS
noncomputable abbrev je:Sb:=bi 51
def yT:aD ["row","side","path"] ["row","side","path"] (ak je):=dS
noncomputable abbrev im:Sb:=bi 52
def jZ:aD ["board","row","square","rule","side","path"] ["board","row","square","rule"] (ak im):=dS
abbrev ko:Sb:=bi 53
def nc:aD ["game","row","square","found","rule"] ["game","row","square"] (ak ko):=dS
noncomputable abbrev fv:Sb:=bi 55
def qL:aD ["wide","square"] ["wide","square"] (ak fv):=dS
noncomputable abbrev jd:Sb:=bi 56
def yS:aD ["wide","square"] ["wide","square"] (ak jd):=dS
noncomputable abbrev fo:Sb:=bi 57
def qG:aD ["wide","column","row"] ["wide","column","row"] (ak fo):=dS
abbrev jD:Sb:=bi 59
def kh:aD ["game","place","row","found","start"] ["game","place"] (ak jD):=dS
noncomputable abbrev ip:Sb:=bi 60
def vx:aD ["game","sign","side","goal"] ["game","sign","side","goal"] (ak ip):=dS
noncomputable abbrev ji:Sb:=bi 61
def dI:aD ["game","place","move","side","start","goal","taken","sign","row"] ["game","place","move"] (ak ji):=dS
noncomputable abbrev gC:Sb:=bi 63
def tH:aD ["row","kind","side"] ["row","kind","side"] (ak gC):=dS
noncomputable abbrev ik:Sb:=bi 64
def na:aD ["board","row","kind","side","start"] ["board","row","kind","side"] (ak ik):=dS
noncomputable abbrev jg:Sb:=bi 65
def dG:aD ["board","place","end","row","side","kind","lost","won"] ["board","place","end"] (ak jg):=dS
noncomputable abbrev io:Sb:=bi 66
def j0:aD ["game","place","end","word"] ["game","place"] (ak io):=dS
noncomputable abbrev jf:Sb:=bi 67
def pr:aD ["game","place","word"] ["game","place"] (ak jf):=dS
noncomputable abbrev dJ:Sb:=bi 68
def qJ:aD ["game","place"] ["game","place"] (ak dJ):=dS
noncomputable abbrev bT:Sb:=cV (bi 70) 0
def fQ:aD ["self","game","starts","most","place","found"] ["self","game","starts","most"] (ak bT):=dS
noncomputable abbrev eJ:Sb:=cV (bi 70) 1
def jQ:aD ["self","found","most","place"] ["self","found","most"] (ak eJ):=dS
noncomputable abbrev ku:Sb:=cV (bi 70) 2
noncomputable abbrev lK:Sb:=cV (bi 70) 3
noncomputable abbrev lL:Sb:=cV (bi 70) 4
noncomputable abbrev dP:Sb:=bi 73
def qP:aD ["thing","many"] ["thing","many"] (ak dP):=dS
noncomputable abbrev bR:Sb:=cV (bi 74) 0
def kj:aD ["self","wide","high","holes"] ["self","wide","high","holes"] (ak bR):=dS
noncomputable abbrev fF:Sb:=cV (bi 74) 1
def qQ:aD ["self","square"] ["self","square"] (ak fF):=dS
noncomputable abbrev bY:Sb:=cV (bi 74) 2
def li:aD ["self"] ["self"] (ak bY):=dS
noncomputable abbrev dv:Sb:=cV (bi 74) 3
def dW:aD ["self","square","across","up","column","row","goal"] ["self","square","across","up"] (ak dv):=dS
noncomputable abbrev cJ:Sb:=cV (bi 74) 4
def lj:aD ["self","side"] ["self","side"] (ak cJ):=dS
noncomputable abbrev cI:Sb:=cV (bi 76) 0
def lh:aD ["self","board","kinds","rules","turns","ends","stuck"] ["self","board","kinds","rules","turns","ends","stuck"] (ak cI):=dS
noncomputable abbrev bX:Sb:=cV (bi 76) 1
def lg:aD ["self","kind"] ["self","kind"] (ak bX):=dS
noncomputable abbrev du:Sb:=cV (bi 76) 2
def nj:aD ["self","kind"] ["self","kind"] (ak du):=dS
noncomputable abbrev da:Sb:=bi 78
def lW:aD ["_law_script","_law_k"] ["_law_script","_law_k"] (ak da):=dS
noncomputable abbrev dZ:Sb:=bi 79
def oF:aD ["_law_script","_law_k"] ["_law_script","_law_k"] (ak dZ):=dS
noncomputable abbrev ef:Sb:=bi 80
def fj:aD ["_law_cell","_law_letters","_law_first","_law_found"] ["_law_cell"] (ak ef):=dS
noncomputable abbrev fB:Sb:=bi 81
def bJ:aD ["_law_cell","_law_kinds_here","_law_kind","_law_sort","_law_aim","_law_across","_law_up"] ["_law_cell","_law_kinds_here"] (ak fB):=dS
noncomputable abbrev eI:Sb:=bi 82
def bQ:aD ["_law_cell","_law_wide","_law_high","_law_holes"] ["_law_cell"] (ak eI):=dS
noncomputable abbrev fE:Sb:=bi 83
def bo:aD ["_law_script","_law_cell","_law_kinds_here","_law_many","_law_rules","_law_k","_law_rule_here","_law_more","_law_turns","_law_some","_law_ends","_law_stuck"] ["_law_script"] (ak fE):=dS
noncomputable abbrev dY:Sb:=bi 84
def bj:aD ["_law_game_here","_law_cell","_law_signs","_law_hole","_law_squares","_law_many","_law_side","_law_k","_law_at","_law_kind"] ["_law_game_here","_law_cell"] (ak dY):=dS
noncomputable abbrev gD:Sb:=bi 85
def bE:aD ["_law_place_here","_law_cell","_law_game_here","_law_row","_law_side","_law_at","_law_odd","_law_more","_law_spoilt","_law_holed","_law_some"] ["_law_place_here","_law_cell","_law_game_here"] (ak gD):=dS
noncomputable abbrev fA:Sb:=bi 86
def df:aD ["_law_e","_law_word_here"] ["_law_e"] (ak fA):=dS
noncomputable abbrev fC:Sb:=bi 87
def iF:aD ["_law_game_here","_law_starts","_law_most","_law_kept","_law_web","_law_e"] ["_law_game_here","_law_starts","_law_most"] (ak fC):=dS
abbrev km:Sb:=bi 88
def jc:aD ["_law_script","_law_game_here","_law_cell","_law_starts","_law_more","_law_at","_law_many","_law_due"] ["_law_script"] (ak km):=dS
structure Txt(mg:RJ)(aS aA aE aW:Zo):Prop where
 isinstance:mg "isinstance"=none
 int:mg "int"=none
 bool:mg "bool"=none
 str:mg "str"=none
 list:mg "list"=none
 tuple:mg "tuple"=none
 len:mg "len"=none
 range:mg "range"=none
 all:mg "all"=none
 any:mg "any"=none
 set:mg "set"=none
 dict:mg "dict"=none
 sorted:mg "sorted"=none
 min:mg "min"=none
 enumerate:mg "enumerate"=none
 zip:mg "zip"=none
 ValueError:mg "ValueError"=none
 NOTHING:∃u,mg "NOTHING"=some u/\aQ (.int (-1)) u
 EMPTY:∃u,mg "EMPTY"=some u/\aQ (.str ".") u
 HOLE:∃u,mg "HOLE"=some u/\aQ (.str "#") u
 MOST_PAIRS:∃u,mg "MOST_PAIRS"=some u/\aQ (.int 6) u
 MOST_KINDS:∃u,mg "MOST_KINDS"=some u/\aQ (.int 6) u
 MOST_RULES:∃u,mg "MOST_RULES"=some u/\aQ (.int 24) u
 LONGEST:∃u,mg "LONGEST"=some u/\aQ (.int 8) u
 SORTS:∃u,mg "SORTS"=some u/\aQ (.ref aS) u
 AIMS:∃u,mg "AIMS"=some u/\aQ (.ref aA) u
 END_WORDS:∃u,mg "END_WORDS"=some u/\aQ (.ref aE) u
 STUCK_WORDS:∃u,mg "STUCK_WORDS"=some u/\aQ (.ref aW) u
section
def tR(F:cy K "is_whole" "is_whole" gv f fd)(T:Txt mg aS aA aE aW):aY P w K mg Rw cY 1 f fd ["thing"] mQ:=by refine F.ok2 tE ?_;rintro _ _ _ _ H _ Q _ hr _ ⟨v,rfl,t,q⟩;refine⟨_,(am (aF (eQ (JC .int T.isinstance T.int ou (cv 0)) (fT (wx (JC .bool T.isinstance T.bool Ew (cv 0))))))),?_⟩;show cD _ _ [some v] H;refine aL (db (n9 (ae rfl) t) (λ_=>wj (n9 (ae rfl) t))) ?_;rw[Au t];exact q
def tU(F:cy K "is_among" "is_among" gB f fd)(T:Txt mg aS aA aE aW)(C:RG0 P w K mg Rw):aY P w K mg Rw cY 2 f fd ["thing","least","most"] ja:=by
 refine F.ok2 tG ?_;rintro _ _ _ _ H _ Q _ hr hu ⟨v,a,b,rfl,t,q⟩;refine⟨_,(am (aF (eQ (aG C.is_whole hr (az (cv 0) pan)) (fT (v8 K hu (cv 1) (cv 0) (cv 2)))))),?_⟩;show cD _ _ [some v,oJ a,oJ b] H;have hc:=aK (sp:=mQ) (σ:=[some v,oJ a,oJ b]) (H:=H) (aa (ae (n:=0) rfl) ay) (λQ q=>⟨v,rfl,t,q⟩);cases v with
 |int i=>exact aL (db hc (λ_=>yd (ae rfl) (ae rfl) (λ_=>ae rfl))) q
 |_=>exact aL (db (b:=false) hc (λh=>by cases h)) q
def vM(F:cy K "is_word" "is_word" ie f fd)(T:Txt mg aS aA aE aW):aY P w K mg Rw cY 1 f fd ["thing","words"] (jC K):=by
 refine F.ok2 vt ?_;rintro _ _ _ _ H _ Q _ hr hu ⟨v,d,ws,rfl,t,hw,q⟩;refine⟨_,(am (aF (eQ (JC .str T.isinstance T.str oq (cv 0)) (fT (iK K hu (cv 0) (cv 1)))))),?_⟩;show cD _ _ [some v,oR d] H;have hs:=n9 (T:=.str) (te:=cL 0) (σ:=[some v,oR d]) (ae rfl) t;rw[vb t]at hs;cases v with
 |str z=>exact aL (db hs (λ_=>rK (ae rfl) (ae rfl) hw)) q
 |_=>exact aL (db (b:=false) hs (λh=>by cases h)) q
def nA(F:cy K "is_tuple_of" "is_tuple_of" dt f fd)(T:Txt mg aS aA aE aW):aY P w K mg Rw cY 1 f fd ["thing","many"] i9:=by
 refine F.ok2 m7 ?_;rintro _ _ _ _ H _ Q _ hr hu ⟨v,n,rfl,t,q⟩;refine⟨_,(am (aF (eQ (JC .tuple T.isinstance T.tuple Cs (cv 0)) (fT (iK K hu (kB (eZ K) bC T.len (az (cv 0) pan)) (cv 1)))))),?_⟩;show cD _ _ [some v,oJ n] H;have hs:=n9 (T:=.tuple) (te:=cL 0) (σ:=[some v,oJ n]) (ae rfl) t;rw[J3 t]at hs;unfold tupB at q;cases e:tupOf H v with
 |none=>
  rw[e]at hs q;exact aL (db (b:=false) hs (λh=>by cases h)) q
 |some xs=>
  rw[e]at hs q;obtain⟨a,rfl,ha⟩:=gq e;exact aL (db hs (λ_=>eV (cQ (ae rfl) (.inr (dF.of ha))) (ae rfl))) q
def oH(F:cy K "is_list_of" "is_list_of" dX f fd)(T:Txt mg aS aA aE aW):aY P w K mg Rw cY 1 f fd ["thing","least","most"] qA:=by
 refine F.ok2 oE ?_;rintro _ _ _ _ H _ Q _ hr hu ⟨v,a,b,rfl,t,q⟩;refine⟨_,(am (aF (eQ (JC .list T.isinstance T.list g6 (cv 0)) (fT (v8 K hu (cv 1) (kB (eZ K) bC T.len (az (cv 0) pan)) (cv 2)))))),?_⟩;show cD _ _ [some v,oJ a,oJ b] H;have hs:=n9 (T:=.list) (te:=cL 0) (σ:=[some v,oJ a,oJ b]) (ae rfl) t;rw[K3 t]at hs;unfold lx at q;cases e:lstOf H v with
 |none=>
  rw[e]at hs q;exact aL (db (b:=false) hs (λh=>by cases h)) q
 |some xs=>
  rw[e]at hs q;obtain⟨d,rfl,hd⟩:=gJ e;exact aL (db hs (λ_=>yd (ae rfl) (cQ (ae rfl) (.inl (aR.of hd))) (λ_=>ae rfl))) q
def vN(F:cy K "is_step" "is_step" ig f fd)(T:Txt mg aS aA aE aW)(C:RG1 P w K mg Rw):aY P w K mg Rw cY 3 f fd ["sort","across","up"] w4:=by
 refine F.ok2 m8 ?_;rintro _ _ _ _ H _ Q _ hr hu ⟨so,x,y,rfl,tx,ty,q⟩;refine⟨_,(af (aw 3 m8.nd (cK (aX K hu (cv 0) aU) ah ah))
  (af (aZ (PW.pt (gV (bM (bq (aG C.is_among hr (az (cv 1) (az (jt (cv 3)) (az (cv 3) pan)))))) (eX (bM (bq (aG C.is_among hr (az (cv 2) (az (jt (cv 3)) (az (cv 3) pan))))))))) (am (aF gI)) aH)
  (am (aF (Po (iK K hu (cv 1) ah) (fT (iK K hu (cv 2) ah))))))),?_⟩
 show bn _ _ _ [oT so,some x,some y,none] H;refine aO (v:=.int (limS so)) (λQ q=>?_) ?_
 .refine kX (lR (bb (gO (ae rfl) ao)) (λ_=>ao) (λ_=>ao)) ?_;unfold limS at q
  by_cases h:so="leap"
  .rw[RC h]at q;rw[Ry h];exact q
  .rw[RB h]at q;rw[RA h];exact q
 unfold lI at q;generalize limS so=l at q ⊢;refine bB (jO (cC (bb (aK (aa (ae rfl) (aa (jr (ae rfl)) (aa (ae rfl) ay))) (λQ q=>⟨x, -l,l,rfl,tx,q⟩)))) (λ_=>cC (bb (aK (aa (ae rfl) (aa (jr (ae rfl)) (aa (ae rfl) ay))) (λQ q=>⟨y, -l,l,rfl,ty,q⟩))))) (λh=>?_) (λh=>?_)
 .refine aL ao ?_;have e:(amongB x (-l) l&&amongB y (-l) l&& !(decide (x=.int 0)&&decide (y=.int 0)))=false:=by cases h1:amongB x (-l) l<;>cases h2:amongB y (-l) l<;>simp_all
  rw[e]at q;exact q
 .have h1:amongB x (-l) l=true:=by cases h1:amongB x (-l) l<;>simp_all
  have h2:amongB y (-l) l=true:=by cases h2:amongB y (-l) l<;>simp_all
  cases x with
  |int i=>
   cases y with
   |int j=>
    refine aL (Ph (pZ (ae rfl) ao) (λ_=>pZ (ae rfl) ao)) ?_;rw[h1,h2]at q;have ei:∀k:Int,decide (V.int k=V.int 0)=decide (k=0):=λk=>by
     by_cases e:k=0
     .rw[Ry e,Ry (RI V.int e)]
     .rw[RA e,RA (λz=>e (by injection z))]
    rw[ei,ei]at q;have e:(true&&true&& !(decide (i=0)&&decide (j=0)))=(!decide (i=0)|| !decide (j=0)):=by cases decide (i=0)<;>cases decide (j=0)<;>rfl
    rw[e]at q;exact q
   |_=>cases h2
  |_=>cases h1
def vP(F:cy K "is_pair" "is_pair" ij f fd)(T:Txt mg aS aA aE aW)(C:RG2 P w K mg Rw):aY P w K mg Rw cY 2 f fd ["thing","firsts","seconds"] (xa K):=by
 refine F.ok2 vv ?_;rintro _ A _ _ H _ Q _ hr hu ⟨v,d,e,A,B,rfl,t,hA,hB,q⟩;refine⟨_,(am (aF (eQ (aG C.is_tuple_of hr (az (cv 0) (az ah pan))) (eQ (aG C.is_word hr (az (c7 K (cv 0) ah) (az (cv 1) pan))) (fT (aG C.is_word hr (az (c7 K (cv 0) ah) (az (cv 2) pan)))))))),?_⟩;show cD _ _ [some v,oR d,oR e] H;have hc:=aK (sp:=i9) (σ:=[some v,oR d,oR e]) (H:=H) (x:=.bl (tupB H v 2)) (aa (ae (n:=0) rfl) (aa (ao (x:=.int 2)) ay)) (λQ q=>⟨v,2,rfl,t.thg,q⟩);unfold eM at q;unfold tupB at hc;cases e1:tupOf H v with
 |none=>
  rw[e1]at hc q;exact aL (db (b:=false) hc (λh=>by cases h)) q
 |some xs=>
  rw[e1]at hc q;obtain⟨a,rfl,ha⟩:=gq e1;have tx:=t.2 xs (.inl e1)
  by_cases hl:(xs.length:Int)=2
  .match xs,hl,e1,ha,tx,q,hc with
   | [x,y],_,e1,ha,tx,q,hc=>
     exact aL (db hc (λ_=>db (aK (aa (a8 (ae rfl) ao (.inr (dF.of ha)) (bz (j:=0) rfl)) (aa (ae rfl) ay)) (λQ q=>⟨x,d,A,rfl,tx x (by simp),hA,q⟩))
      (λ_=>aK (aa (a8 (ae rfl) ao (.inr (dF.of ha)) (bz (j:=1) rfl)) (aa (ae rfl) ay)) (λQ q=>⟨y,e,B,rfl,tx y (by simp),hB,q⟩)))) q
  .have e2:tQ xs A B=false:=by
    unfold tQ;split
    .exact RF rfl hl
    .rfl
   have hc2:Ev (gQ i9 (aN (cL 0) (aN (tC (.int 2)) bG))) [some (.ref a),some (.ref d),some (.ref e)] H (.bl (decide ((xs.length:Int)=2))):=hc;rw[RA hl]at hc2;have q2:Q (.bl (tQ xs A B)) H:=q;rw[e2]at q2;exact aL (db (b:=false) hc2 (λh=>by cases h)) q2
def vO(F:cy K "is_rule" "is_rule" ii f fd)(T:Txt mg aS aA aE aW)(hS:∀H,iV K H aS sortsL)(hA:∀H,iV K H aA aimsL)(C:RG3 P w K mg Rw):aY P w K mg Rw cY 4 f fd ["thing","kinds"] (w6 K):=by
 refine F.ok2 jY ?_;rintro _ _ _ _ H _ Q _ hr hu ⟨v,d,ws,rfl,t,hw,q⟩;refine⟨_,(af (aZ (PW.pt (gV (bM (bq (aG C.is_tuple_of hr (az (cv 0) (az ah pan))))) (eX (bM (bq (aG C.is_word hr (az (c7 K (cv 0) ah) (az (cv 1) pan)))))))) (am (aF gI)) aH)
  (af (aw 2 jY.nd (c7 K (cv 0) ah))
  (af (aw 3 jY.nd (c7 K (cv 0) ah))
  (af (aZ (PW.pt (gV (bM (bq (aG C.is_word hr (az (cv 2) (az (kg T.SORTS) pan))))) (eX (bM (bq (aG C.is_word hr (az (cv 3) (az (kg T.AIMS) pan)))))))) (am (aF gI)) aH)
  (af (aZ (PW.pt (iG (aX K hu (cv 2) aU) (gb (aX K hu (cv 3) aU)))) (am (aF gI)) aH)
  (am (aF (aG C.is_step hr (az (cv 2) (az (c7 K (cv 0) ah) (az (c7 K (cv 0) ah) pan))))))))))),?_⟩
 show bn _ _ _ [some v,oR d,none,none] H;have rb:tupB H v 5=false->eK H v ws=false:=λh=>by
  unfold tupB at h;unfold eK;cases e1:tupOf H v with
  |none=>rfl
  |some xs=>
   rw[e1]at h;have h:¬(xs.length:Int)=5:=RE h;show jR xs ws=false;unfold jR;split
   .exact RF rfl h
   .rfl
 cases hb0:tupB H v 5 with
 |false=>
  rw[rb hb0]at q;refine bB (jO (b:=false) (cC (bb (aK (sp:=i9) (x:=.bl (tupB H v 5)) (aa (ae rfl) (aa ao ay)) (λQ q=>⟨v,5,rfl,t.thg,q⟩)))) (λh=>?_)) (λ_=>aL ao q) (λh=>?_)
  .rw[hb0]at h;cases h
  .rw[hb0]at h;cases h
 |true=>
  obtain⟨xs,e1,hl⟩:∃xs,tupOf H v=some xs/\(xs.length:Int)=5:=by
   unfold tupB at hb0;cases e1:tupOf H v with
   |none=>rw[e1]at hb0;cases hb0
   |some xs=>rw[e1]at hb0;exact⟨xs,rfl,RD hb0⟩
  unfold eK at q;rw[e1]at q;have q:Q (.bl (jR xs ws)) H:=q;obtain⟨a,rfl,ha⟩:=gq e1;have tx:=t.2 xs (.inl e1)
  match xs,hl,e1,ha,tx,q with
  | [k,so,ai,x,y],_,e1,ha,tx,q=>
    have hq:dF K H a [k,so,ai,x,y]:=dF.of ha;have hb:tupB H (.ref a) 5=true:=by unfold tupB;rw[e1];rfl
    refine bB (jO (cC (bb (aK (sp:=i9) (x:=.bl (tupB H (.ref a) 5)) (aa (ae rfl) (aa ao ay)) (λQ q=>⟨.ref a,5,rfl,t.thg,q⟩)))) (λ_=>cC (bb (aK (sp:=jC K) (aa (a8 (ae rfl) ao (.inr hq) (bz (j:=0) rfl)) (aa (ae rfl) ay)) (λQ q=>⟨k,d,ws,rfl,tx k (by simp),hw,q⟩))))) (λh=>?_) (λh=>?_)
    .rw[hb]at h;have hk:wordB k ws=false:=by
      cases hk:wordB k ws
      .rfl
      .rw[hk]at h;cases h
     refine aL ao ?_;have e2:jR [k,so,ai,x,y] ws=false:=by
      unfold jR;split
      .rename_i z;cases z;rw[hk];simp
      .rfl
     rw[e2]at q;exact q
    .rw[hb]at h;have hk:wordB k ws=true:=by
      cases hk:wordB k ws
      .rw[hk]at h;cases h
      .rfl
     refine aO (v:=so) (a8 (ae rfl) ao (.inr hq) (bz (j:=1) rfl)) ?_;refine aO (v:=ai) (a8 (ae rfl) ao (.inr hq) (bz (j:=2) rfl)) ?_;refine bB (jO (cC (bb (aK (sp:=jC K) (aa (ae rfl) (aa ao ay)) (λQ q=>⟨so,aS,sortsL,rfl,tx so (by simp),hS H,q⟩)))) (λ_=>cC (bb (aK (sp:=jC K) (aa (ae rfl) (aa ao ay)) (λQ q=>⟨ai,aA,aimsL,rfl,tx ai (by simp),hA H,q⟩))))) (λh=>?_) (λh=>?_)
     .refine aL ao ?_;have e2:jR [k,so,ai,x,y] ws=false:=by
       unfold jR;split
       .rename_i k' so' ai' x' y' z;cases z;have h:(!decide (so'∈sortsL)|| !decide (ai'∈aimsL))=true:=h
        cases h1:decide (so'∈sortsL)<;>cases h2:decide (ai'∈aimsL)<;>simp_all
       .rfl
      rw[e2]at q;exact q
     .have h1:wordB so sortsL=true:=by cases h1:wordB so sortsL<;>simp_all
      have h2:wordB ai aimsL=true:=by cases h2:wordB ai aimsL<;>simp_all
      cases so with
      |str so=>
       cases ai with
       |str ai=>
        have h1:decide (so∈sortsL)=true:=h1;have h2:decide (ai∈aimsL)=true:=h2;have eR:jR [k,.str so,.str ai,x,y] ws=(!(decide (so="jump")&& !decide (ai="hit"))&&lI so x y):=by show(wordB k ws&&decide (so∈sortsL)&&decide (ai∈aimsL)&& !(decide (so="jump")&& !decide (ai="hit"))&&lI so x y)=_;rw[hk,h1,h2];simp
        rw[eR]at q;refine bB (i6 (bb (gO (ae rfl) ao)) (λ_=>bb (wl (ae rfl) ao))) (λh=>?_) (λh=>?_)
        .refine aL ao ?_;rw[h]at q;exact q
        .rw[h]at q;exact cu (aa (ae rfl) (aa (a8 (ae rfl) ao (.inr hq) (bz (j:=3) rfl)) (aa (a8 (ae rfl) ao (.inr hq) (bz (j:=4) rfl)) ay))) ⟨so,x,y,rfl,tx x (by simp),tx y (by simp),q⟩
       |_=>cases h2
      |_=>cases h1
def rh(F:cy K "are_pairs" "are_pairs" dN f fd)(T:Txt mg aS aA aE aW)(C:RG4 P w K mg Rw):aY P w K mg Rw cY 3 f fd ["thing","firsts","seconds"] (sW K):=by
 refine F.ok2 qN ?_;rintro _ A _ _ H _ Q _ hr hu ⟨v,d,e,A,B,rfl,t,hA,hB,q⟩;refine⟨_,(am (aF (eQ (aG C.is_list_of hr (az (cv 0) (az ah (az (kg T.MOST_PAIRS) pan)))) (fT (kB (zM K) lD T.all (az (fK (dc (N:=["part","firsts","seconds"]) (src:=[none,some 1,some 2]) (ak dN) ["thing","firsts","seconds"]) (sw K (cv 0)) (λ_ _ _=>(bA (i:=0) ["part","firsts","seconds"])) (λ_ _ _=>bZ) (λ_ _ _=>(aG C.is_pair hr (az (cv 0) (az (cv 1) (az (cv 2) pan)))))) pan)))))),?_⟩;show cD _ _ [some v,oR d,oR e] H;refine wK (a:=lx H v 0 6) (aK (aa (ae rfl) (aa ao (aa ao ay))) (λQ q=>⟨v,0,6,rfl,t.thg,q⟩)) (λh=>?_) (λh=>?_)
 .unfold lx at h;cases e1:lstOf H v with
  |none=>rw[e1]at h;cases h
  |some xs=>
   rw[e1]at h;have h:0<=(xs.length:Int)/\(xs.length:Int)<=6:=RD h;obtain⟨a,rfl,ha⟩:=gJ e1;have tx:=t.2 xs (.inr e1);refine gZ (d:=a) (xs:=xs) (rest:=[oR d,oR e]) (ae rfl) (aR.of ha) (by rw[RW];lia) rfl (λ_=>true) (λx=>.bl (eM H x A B)) (λx hx=>fZ) (λx hx _=>?_) (λp hp=>?_)
   .exact aK (aa (ae rfl) (aa (ae rfl) (aa (ae rfl) ay))) (λQ q=>⟨x,d,e,A,B,rfl,tx x hx,hA,hB,q⟩)
   .refine⟨xs.map (λx=>eM H x A B),?_,?_⟩
    .have e2:(xs.filter λ_=>true).map (λx=>V.bl (eM H x A B))=(xs.map (λx=>eM H x A B)).map V.bl:=by rw[Wj.mpr (λ_ _=>rfl),V0];rfl
     rw[<-e2];exact aR.of ag
    .have k:=q _ ((aj.refl H).upd (o:=.lst ((xs.filter λ_=>true).map (λx=>V.bl (eM H x A B)))) hp);unfold pairsB at k;rw[e1]at k;have e3:(decide (xs.length<=6)&&xs.all (λx=>eM H x A B))=(xs.map (λx=>eM H x A B)).all id:=by rw[Ry (by lia:xs.length<=6),WP];rfl
     have k:Q (.bl (decide (xs.length<=6)&&xs.all (λx=>eM H x A B))) _:=k;rw[e3]at k;exact k
 .have k:=q H (aj.refl H);have e2:pairsB H v A B=false:=by
   unfold pairsB;unfold lx at h;cases e1:lstOf H v with
   |none=>rfl
   |some xs=>
    rw[e1]at h;have h:¬(0<=(xs.length:Int)/\(xs.length:Int)<=6):=RE h;show(decide (xs.length<=6)&&_)=false;rw[RA (by lia:¬xs.length<=6)];rfl
  rw[e2]at k;exact k
def vR(F:cy K "is_ends" "is_ends" il f fd)(T:Txt mg aS aA aE aW)(hE:∀H,iV K H aE gY)(C:RG5 P w K mg Rw):aY P w K mg Rw cY 4 f fd ["thing","kinds"] (xk K):=by refine F.ok2 vw ?_;rintro _ _ _ _ H _ Q _ hr _ ⟨v,d,ws,rfl,t,hw,q⟩;refine⟨_,(am (aF (aG C.are_pairs hr (az (cv 0) (az (kg T.END_WORDS) (az (cv 1) pan)))))),?_⟩;show cD _ _ [some v,oR d] H;exact cu (aa (ae rfl) (aa ao (aa (ae rfl) ay))) ⟨v,aE,d,gY,ws,rfl,t,hE H,hw,q⟩
def tS(F:cy K "is_turns" "is_turns" dD f fd)(T:Txt mg aS aA aE aW)(C:RG5 P w K mg Rw):aY P w K mg Rw cY 4 f fd ["thing","kinds"] (sS K):=by
 refine F.ok2 lJ ?_;rintro _ _ _ s H _ Q _ hr hu ⟨v,d,ws,rfl,t,hw,q⟩;refine⟨_,(af (aZ (bM (bq (aG C.are_pairs hr (az (cv 0) (az (cv 1) (az (cv 1) pan)))))) (am (aF gI)) aH)
  (af (aw 2 lJ.nd (fK (dc (N:=["pair"]) (src:=[none]) (ak dD) ["thing","kinds","firsts"]) (sw K (cv 0)) (λ_ _ _=>(bA (i:=0) ["pair"])) (λ_ _ _=>bZ) (λ_ _ _=>(c7 K (cv 0) ah))))
  (af (aZ (bq (kB (Q3 K) LJ T.any (az (fK (dc (N:=["pair","firsts"]) (src:=[none,some 2]) (ak dD) ["thing","kinds","firsts"]) (sw K (cv 0)) (λ_ _ _=>(bA (i:=0) ["pair","firsts"])) (λ_ _ _=>bZ) (λ_ _ _=>(iK K hu (c7 K (cv 0) ah) (cv 1)))) pan))) (am (aF gI)) aH)
  (am (aF (iK K hu (kB on bC T.len (az (uo (JA K hr) rX T.set (az (cv 2) pan)) pan)) (kB (eZ K) bC T.len (az (cv 2) pan)))))))),?_⟩
 show bn _ _ _ [some v,oR d,none] H;refine c8 (λb H'=>b=(!pairsB H v ws ws)/\aj H H') (λQ q=>lC (aa (ae rfl) (aa (ae rfl) (aa (ae rfl) ay))) ⟨v,d,d,ws,ws,rfl,t,hw,hw,λH' s=>q _ _ ⟨rfl,s⟩⟩) (λH1 h=>?_) (λH1 h=>?_)
 .obtain⟨hb,s1⟩:=h;have k:=q H1 s1;have e0:pairsB H v ws ws=false:=by
   cases z:pairsB H v ws ws
   .rfl
   .rw[z]at hb;cases hb
  unfold gk at k;rw[e0]at k;exact aL ao k
 .obtain⟨hb,s1⟩:=h;have e0:pairsB H v ws ws=true:=by
   cases z:pairsB H v ws ws
   .rw[z]at hb;cases hb
   .rfl
  unfold gk at q;rw[e0]at q;obtain⟨xs,e1,l6,hp⟩:=zi e0;rw[e1]at q;have q:∀H',aj H H'->Q (.bl (!(xs.any λx=>decide (hZ H x∈xs.map (cH H)))&&decide ((xs.map (cH H)).Nodup))) H':=q;obtain⟨a,rfl,ha⟩:=gJ e1;have ha1:=s1 _ _ ha;refine bH (λu H'=>∃fq,u=.ref fq/\H' fq=some (.lst ((xs.map (cH H)).map V.str))/\aj H1 H') (λQ q=>?_) ?_
  .refine gZ (d:=a) (xs:=xs) (rest:=[]) (ae rfl) (aR.of ha1) (by rw[RW];lia) rfl (λ_=>true) (λx=>.str (cH H x)) (λx hx=>fZ) (λx hx _=>?_) (λp hp'=>?_)
   .obtain⟨c,f1,f2,rfl,hc⟩:=hp x hx;have e:cH H (.ref c)=f1:=by simp only[cH,tupOf,hc]
    rw[e];exact a8 (ae rfl) ao (.inr (dF.of (s1 _ _ hc))) (bz (j:=0) rfl)
   .have e:(xs.filter λ_=>true).map (λx=>V.str (cH H x))=(xs.map (cH H)).map V.str:=by rw[Wj.mpr (λ_ _=>rfl),V0];rfl
    rw[e];exact q _ _ ⟨p,rfl,ag,(aj.refl H1).upd hp'⟩
  rintro _ H2 ⟨fq,rfl,hf,s2⟩;have ha2:=s2 _ _ ha1;refine c8 (λb H'=>b=(xs.any λx=>decide (hZ H x∈xs.map (cH H)))/\aj H2 H') (λQ q=>?_) (λH3 h=>?_) (λH3 h=>?_)
  .refine gZ (d:=a) (xs:=xs) (rest:=[oR fq]) (ae rfl) (aR.of ha2) (by rw[RW];lia) rfl (λ_=>true) (λx=>.bl (decide (hZ H x∈xs.map (cH H)))) (λx hx=>fZ) (λx hx _=>?_) (λp hp'=>?_)
   .obtain⟨c,f1,f2,rfl,hc⟩:=hp x hx;have e:hZ H (.ref c)=f2:=by simp only[hZ,tupOf,hc]
    rw[e];exact rK (a8 (ae rfl) ao (.inr (dF.of (s2 _ _ (s1 _ _ hc)))) (bz (j:=1) rfl)) (ae rfl) (.inl (aR.of hf))
   .refine⟨xs.map (λx=>decide (hZ H x∈xs.map (cH H))),?_,?_⟩
    .have e2:(xs.filter λ_=>true).map (λx=>V.bl (decide (hZ H x∈xs.map (cH H))))=(xs.map (λx=>decide (hZ H x∈xs.map (cH H)))).map V.bl:=by rw[Wj.mpr (λ_ _=>rfl),V0];rfl
     rw[<-e2];exact aR.of ag
    .have e3:(xs.map (λx=>decide (hZ H x∈xs.map (cH H)))).any id=xs.any λx=>decide (hZ H x∈xs.map (cH H)):=by rw[Xf];rfl
     rw[e3];exact q _ _ ⟨rfl,(aj.refl H2).upd hp'⟩
  .have k:=q H3 ((s1.trans s2).trans h.2);rw[<-h.1]at k;exact aL ao k
  .have s03:=(s1.trans s2).trans h.2;show cD _ _ [oR a,oR d,oR fq] H3;have hf3:=h.2 _ _ hf;refine Cj (uf (ss:=xs.map (cH H)) (ae rfl) (aR.of hf3) (by rw[VN];lia) (λH4 s4=>?_));refine kX (cQ (ae rfl) (.inl (aR.of (s4 _ _ hf3)))) ?_;have k:=q H4 (s03.trans s4);rw[<-h.1]at k;have e4:decide ((((lH (xs.map (cH H))).length:Nat):Int)=((((xs.map (cH H)).map V.str).length:Nat):Int))=decide ((xs.map (cH H)).Nodup):=by
    rw[VN (f:=V.str)]
    by_cases hn:(xs.map (cH H)).Nodup
    .rw[Ry hn,Ry (by rw[(jA _).mpr hn])]
    .rw[RA hn,RA (λz=>hn ((jA _).mp (by lia)))]
   show Q (.bl (decide ((((lH (xs.map (cH H))).length:Nat):Int)=((((xs.map (cH H)).map V.str).length:Nat):Int)))) H4;rw[e4];exact k
def q0(F:cy K "is_letter" "is_letter" fu f fd)(T:Txt mg aS aA aE aW):aY P w K mg Rw cY 1 f fd ["thing"] pj:=by
 refine F.ok2 qI ?_;rintro _ _ _ _ H _ Q _ hr hu ⟨v,rfl,t,q⟩;refine⟨_,(am (aF (eQ (JC .str T.isinstance T.str oq (cv 0)) (eQ (iK K hu (kB (eZ K) bC T.len (az (cv 0) pan)) ah) (fT (v8 K hu aU (cv 0) aU)))))),?_⟩;show cD _ _ [some v] H;have hs:=n9 (T:=.str) (te:=cL 0) (σ:=[some v]) (ae rfl) t;rw[vb t]at hs;cases v with
 |str z=>
  refine aL (db hs (λ_=>db (eV (mH (ae rfl) (XG (show z.length<=1000 from t) (by decide))) ao) (λ_=>Ef ao (ae rfl) ao))) ?_;rw[Oq,Op];have e:(true&&(decide ((z.length:Int)=1)&&(!decide (z.cps.toList<[97])&& !decide ([122]<z.cps.toList))))=letB (.str z):=by
   rw[bP]
   match e:z.cps.toList with
   | [c]=>
     simp only[letB,e,K2];rw[Yg];simp
   | []=>simp only[letB,e];rfl
   |_::_::r=>
    simp only[letB,e];rw[RA (by simp only[V1];lia)];rfl
  have q2:=q;rw[<-e]at q2;exact q2
 |_=>exact aL (db (b:=false) hs (λh=>by cases h)) q
def rj(F:cy K "are_kinds" "are_kinds" dO f fd)(T:Txt mg aS aA aE aW)(C:Ro P w K mg Rw):aY P w K mg Rw cY 2 f fd ["thing"] sX:=by
 refine F.ok2 qO ?_;rintro _ _ _ _ H _ Q _ hr hu ⟨v,rfl,t,q⟩;refine⟨_,(af (aZ (PW.pt (gV (bM (bq (aG C.is_list_of hr (az (cv 0) (az ah (az (kg T.MOST_KINDS) pan)))))) (eX (bM (bq (kB (zM K) lD T.all (az (fK (dc (N:=["part"]) (src:=[none]) (ak dO) ["thing"]) (sw K (cv 0)) (λ_ _ _=>(bA (i:=0) ["part"])) (λ_ _ _=>bZ) (λ_ _ _=>(aG C.is_letter hr (az (cv 0) pan)))) pan))))))) (am (aF gI)) aH)
  (am (aF (iK K hu (kB on bC T.len (az (uo (JA K hr) rX T.set (az (cv 0) pan)) pan)) (kB (eZ K) bC T.len (az (cv 0) pan)))))),?_⟩
 show bn _ _ _ [some v] H;have eL:Ev (gQ qA (aN (cL 0) (aN (tC (.int 1)) (aN (tC (.int 6)) bG)))) [some v] H (.bl (lx H v 1 6)):=aK (aa (ae rfl) (aa ao (aa ao ay))) (λQ q=>⟨v,1,6,rfl,t.thg,q⟩);unfold nO at q;cases e1:lstOf H v with
 |none=>
  have hb:lx H v 1 6=false:=by unfold lx;rw[e1]
  rw[hb]at eL;rw[e1]at q;refine bB (b:=true) (λQ q=>cC (bb eL) _ (iL q)) (λ_=>aL ao (q H (aj.refl H))) (λh=>by cases h)
 |some xs=>
  rw[e1]at q;have q:∀H',aj H H'->Q (.bl (decide (1<=xs.length/\xs.length<=6)&&xs.all letB&&decide ((xs.map i7).Nodup))) H':=q;obtain⟨a,rfl,ha⟩:=gJ e1;have tx:=t.2 xs (.inr e1);have hb:lx H (.ref a) 1 6=decide (1<=xs.length/\xs.length<=6):=by unfold lx;rw[e1];show decide ((1:Int)<=xs.length/\(xs.length:Int)<=6)=_;rw[decide_eq_decide];lia
  rw[hb]at eL
  by_cases hl:1<=xs.length/\xs.length<=6
  .rw[Ry hl]at eL q;refine c8 (λb H'=>b=(!xs.all letB)/\aj H H') (λQ q=>?_) (λH1 h=>?_) (λH1 h=>?_)
   .refine Ol (cC (bb eL)) ?_;refine gZ (d:=a) (xs:=xs) (rest:=[]) (ae rfl) (aR.of ha) (by rw[RW];lia) rfl (λ_=>true) (λx=>.bl (letB x)) (λx hx=>fZ) (λx hx _=>?_) (λp hp=>?_)
    .exact aK (aa (ae rfl) ay) (λQ q=>⟨x,rfl,tx x hx,q⟩)
    .refine⟨xs.map letB,?_,?_⟩
     .have e2:(xs.filter λ_=>true).map (λx=>V.bl (letB x))=(xs.map letB).map V.bl:=by rw[Wj.mpr (λ_ _=>rfl),V0];rfl
      rw[<-e2];exact aR.of ag
     .have e3:(xs.map letB).all id=xs.all letB:=by rw[WP];rfl
      rw[e3];exact q _ _ ⟨rfl,(aj.refl H).upd hp⟩
   .have k:=q H1 h.2;have e0:xs.all letB=false:=by
     cases z:xs.all letB
     .rfl
     .rw[z]at h;cases h.1
    rw[e0]at k;exact aL ao k
   .obtain⟨hq,s1⟩:=h;have e0:xs.all letB=true:=by
     cases z:xs.all letB
     .rw[z]at hq;cases hq
     .rfl
    have e5:xs=(xs.map i7).map V.str:=by
     rw[V0];have:∀x∈xs,x=(V.str∘i7) x:=λx hx=>by obtain⟨c,rfl,_⟩:=Bv (Wc.mp e0 x hx);rfl
     exact(List.map_id xs).symm.trans (Wo this)
    have ha1:=s1 _ _ ha;rw[e5]at ha1;show cD _ _ [oR a] H1;refine Cj (uf (ss:=xs.map i7) (ae rfl) (aR.of ha1) (by rw[VN];lia) (λH4 s4=>?_));refine kX (cQ (ae rfl) (.inl (aR.of (s4 _ _ ha1)))) ?_;have k:=q H4 (s1.trans s4);rw[e0]at k;have e4:decide ((((lH (xs.map i7)).length:Nat):Int)=((((xs.map i7).map V.str).length:Nat):Int))=decide ((xs.map i7).Nodup):=by
     rw[VN (f:=V.str)]
     by_cases hn:(xs.map i7).Nodup
     .rw[Ry hn,Ry (by rw[(jA _).mpr hn])]
     .rw[RA hn,RA (λz=>hn ((jA _).mp (by lia)))]
    show Q (.bl (decide ((((lH (xs.map i7)).length:Nat):Int)=((((xs.map i7).map V.str).length:Nat):Int)))) H4;rw[e4];exact k
  .rw[RA hl]at eL q;exact bB (b:=true) (λQ q=>cC (bb eL) _ (iL q)) (λ_=>aL ao (q H (aj.refl H))) (λh=>by cases h)
def re(F:cy K "are_rules" "are_rules" dM f fd)(T:Txt mg aS aA aE aW)(C:Ro P w K mg Rw):aY P w K mg Rw cY 5 f fd ["thing","kinds"] (sU K):=by
 refine F.ok2 qM ?_;rintro _ _ _ _ H _ Q _ hr hu ⟨v,d,ws,rfl,t,hw,q⟩;refine⟨_,(am (aF (eQ (aG C.is_list_of hr (az (cv 0) (az ah (az (kg T.MOST_RULES) pan)))) (fT (kB (zM K) lD T.all (az (fK (dc (N:=["part","kinds"]) (src:=[none,some 1]) (ak dM) ["thing","kinds"]) (sw K (cv 0)) (λ_ _ _=>(bA (i:=0) ["part","kinds"])) (λ_ _ _=>bZ) (λ_ _ _=>(aG C.is_rule hr (az (cv 0) (az (cv 1) pan))))) pan)))))),?_⟩;show cD _ _ [some v,oR d] H;refine wK (a:=lx H v 0 24) (aK (aa (ae rfl) (aa ao (aa ao ay))) (λQ q=>⟨v,0,24,rfl,t.thg,q⟩)) (λh=>?_) (λh=>?_)
 .unfold lx at h;cases e1:lstOf H v with
  |none=>rw[e1]at h;cases h
  |some xs=>
   rw[e1]at h;have h:0<=(xs.length:Int)/\(xs.length:Int)<=24:=RD h;obtain⟨a,rfl,ha⟩:=gJ e1;have tx:=t.2 xs (.inr e1);refine gZ (d:=a) (xs:=xs) (rest:=[oR d]) (ae rfl) (aR.of ha) (by rw[RW];lia) rfl (λ_=>true) (λx=>.bl (eK H x ws)) (λx hx=>fZ) (λx hx _=>?_) (λp hp=>?_)
   .exact aK (aa (ae rfl) (aa (ae rfl) ay)) (λQ q=>⟨x,d,ws,rfl,tx x hx,hw,q⟩)
   .refine⟨xs.map (λx=>eK H x ws),?_,?_⟩
    .have e2:(xs.filter λ_=>true).map (λx=>V.bl (eK H x ws))=(xs.map (λx=>eK H x ws)).map V.bl:=by rw[Wj.mpr (λ_ _=>rfl),V0];rfl
     rw[<-e2];exact aR.of ag
    .have k:=q _ ((aj.refl H).upd (o:=.lst ((xs.filter λ_=>true).map (λx=>V.bl (eK H x ws)))) hp);unfold fR at k;rw[e1]at k;have e3:(decide (xs.length<=24)&&xs.all (λx=>eK H x ws))=(xs.map (λx=>eK H x ws)).all id:=by rw[Ry (by lia:xs.length<=24),WP];rfl
     have k:Q (.bl (decide (xs.length<=24)&&xs.all (λx=>eK H x ws))) _:=k;rw[e3]at k;exact k
 .have k:=q H (aj.refl H);have e2:fR H v ws=false:=by
   unfold fR;unfold lx at h;cases e1:lstOf H v with
   |none=>rfl
   |some xs=>
    rw[e1]at h;have h:¬(0<=(xs.length:Int)/\(xs.length:Int)<=24):=RE h;show(decide (xs.length<=24)&&_)=false;rw[RA (by lia:¬xs.length<=24)];rfl
  rw[e2]at k;exact k
def rB(F:cy K "__init__" "Game.__init__" cI f fd)(T:Txt mg aS aA aE aW)(hW:∀H,iV K H aW jW)(B:uU K cG)(C:GG2 P w K mg Rw):aY P w K mg Rw cY 6 f fd ["self","board","kinds","rules","turns","ends","stuck"] (xj K cG):=by
 refine F.ok2 lh ?_;rintro _ _ _ s H _ Q _ hr hu ⟨p,b,kd,rd,td,ed,dx,ws,rs,ts,es,st,rfl,hp,hk,hr',ht,he,tk,tr,tt,te,bk,br,bt,be,hst,lst',q⟩;have wk:∀H',aj H H'->iV K H' kd ws:=λH' s=>.inl (aR.of (s _ _ hk));refine⟨_,(af (aZ (bM (bq (aG C.are_kinds hr (az (cv 2) pan)))) (am gH) aH)
  (af (aZ (bM (bq (aG C.are_rules hr (az (cv 3) (az (cv 2) pan))))) (am gH) aH)
  (af (aZ (bM (bq (aG C.is_turns hr (az (cv 4) (az (cv 2) pan))))) (am gH) aH)
  (af (aZ (bM (bq (aG C.is_ends hr (az (cv 5) (az (cv 2) pan))))) (am gH) aH)
  (af (aZ (bM (bq (aG C.is_word hr (az (cv 6) (az (kg T.STUCK_WORDS) pan))))) (am gH) aH)
  (af (gK K (cv 0) (cv 1))
  (af (gK K (cv 0) (uo (uk K) g6 T.list (az (cv 2) pan)))
  (af (gK K (cv 0) (uo (uk K) g6 T.list (az (cv 3) pan)))
  (af (gK K (cv 0) (uo (uk K) g6 T.list (az (cv 4) pan)))
  (af (gK K (cv 0) (uo (uk K) g6 T.list (az (cv 5) pan)))
  (am (gK K (cv 0) (cv 6))))))))))))),?_⟩
 show bn _ _ _ [oR p,oR b,oR kd,oR rd,oR td,oR ed,oT st] H;refine c8 (λb H'=>b=false/\aj H H') (λQ q=>lC (aa (ae rfl) ay) ⟨.ref kd,rfl,tk,λH' s=>?_⟩) (λH' h=>by cases h.1) (λH1 h=>?_)
 .rw[bk];exact q _ _ ⟨rfl,s⟩
 obtain⟨_,s1⟩:=h;have eqR:fR H1 (.ref rd) ws=fR H (.ref rd) ws:=tK tr s1;refine c8 (λb H'=>b=false/\aj H1 H') (λQ q=>lC (aa (ae rfl) (aa (ae rfl) ay)) ⟨.ref rd,kd,ws,rfl,tr.same s1,wk _ s1,λH' s=>?_⟩) (λH' h=>by cases h.1) (λH2 h=>?_)
 .rw[eqR,br];exact q _ _ ⟨rfl,s⟩
 obtain⟨_,s2⟩:=h;have s02:=s1.trans s2;have eqT:gk H2 (.ref td) ws=gk H (.ref td) ws:=sN tt s02;refine c8 (λb H'=>b=false/\aj H2 H') (λQ q=>lC (aa (ae rfl) (aa (ae rfl) ay)) ⟨.ref td,kd,ws,rfl,tt.same s02,wk _ s02,λH' s=>?_⟩) (λH' h=>by cases h.1) (λH3 h=>?_)
 .rw[eqT,bt];exact q _ _ ⟨rfl,s⟩
 obtain⟨_,s3⟩:=h;have s03:=s02.trans s3;have eqE:pairsB H3 (.ref ed) gY ws=pairsB H (.ref ed) gY ws:=lM te s03;refine c8 (λb H'=>b=false/\aj H3 H') (λQ q=>lC (aa (ae rfl) (aa (ae rfl) ay)) ⟨.ref ed,kd,ws,rfl,te.same s03,wk _ s03,λH' s=>?_⟩) (λH' h=>by cases h.1) (λH4 h=>?_)
 .rw[eqE,be];exact q _ _ ⟨rfl,s⟩
 obtain⟨_,s4⟩:=h;have s04:=s03.trans s4;refine bB (cC (bb (aK (aa (ae rfl) (aa ao ay)) (λQ q=>⟨.str st,aW,jW,rfl,lst',hW H4,q⟩)))) (λh=>?_) (λ_=>?_)
 .have e:wordB (.str st) jW=true:=Ry hst;rw[e]at h;cases h
 have gl:=λb k r t e=>Ln (b:=b) (k:=k) (r:=r) (t:=t) (e:=e);have nk:p≠kd:=ix hp hk (by intro z;cases z);have nr:p≠rd:=ix hp hr' (by intro z;cases z);have nt:p≠td:=ix hp ht (by intro z;cases z);have ne':p≠ed:=ix hp he (by intro z;cases z);have h4:∀(G:Hp),SameBut p H G->G kd=some (.lst (ws.map V.str))/\G rd=some (.lst rs)/\G td=some (.lst ts)/\G ed=some (.lst es):=λG sb=>⟨sb _ _ hk nk.symm,sb _ _ hr' nr.symm,sb _ _ ht nt.symm,sb _ _ he ne'.symm⟩;refine qx (ae rfl) (ae rfl) (s04 _ _ hp) B.cl B.board (by decide) ?_;generalize hG5:upd H4 p (HO.ins cG dx (putF "board" (V.ref b) []))=G5;have p5:G5 p=some (.ins cG dx (gf1 b)):=hG5▸ag;have b5:SameBut p H G5:=hG5▸s04.but.self;have nfree:∀(G:Hp)(q:Zo),SameBut p H G->G p≠none->G q=none->H q=none:=λG q sb hpp hq=>by
  cases e:H q with
  |none=>rfl
  |some o=>
   by_cases z:q=p
   .rw[z]at hq;exact RF hq hpp
   .have:=sb q o e z;rw[hq]at this;cases this
 refine mw (ae rfl) (h4 _ b5).1 (λH'=>ae rfl) p5 B.cl B.kinds (by have:=(gl b 0 0 0 0).1;lia) (λkq hkq=>?_);have nkq:p≠kq:=aB p5 hkq;generalize hG6:upd (upd G5 kq (HO.lst (ws.map V.str))) p (HO.ins cG dx (putF "kinds" (V.ref kq) (gf1 b)))=G6;have p6:G6 p=some (.ins cG dx (gf2 b kq)):=hG6▸ag;have k6:G6 kq=some (.lst (ws.map V.str)):=by rw[<-hG6,aq nkq.symm,ag]
 have b6:SameBut p H G6:=hG6▸(b5.new (nfree _ _ b5 (by rw[p5];simp) hkq)).self;refine mw (ae rfl) (h4 _ b6).2.1 (λH'=>ae rfl) p6 B.cl B.rules (by have:=(gl b kq 0 0 0).2.1;lia) (λrq hrq=>?_);have nrq:p≠rq:=aB p6 hrq;generalize hG7:upd (upd G6 rq (HO.lst rs)) p (HO.ins cG dx (putF "rules" (V.ref rq) (gf2 b kq)))=G7;have p7:G7 p=some (.ins cG dx (gf3 b kq rq)):=hG7▸ag;have r7:G7 rq=some (.lst rs):=by rw[<-hG7,aq nrq.symm,ag]
 have k7:G7 kq=some (.lst (ws.map V.str)):=by rw[<-hG7,aq nkq.symm,aq (aB k6 hrq)];exact k6
 have b7:SameBut p H G7:=hG7▸(b6.new (nfree _ _ b6 (by rw[p6];simp) hrq)).self;refine mw (ae rfl) (h4 _ b7).2.2.1 (λH'=>ae rfl) p7 B.cl B.turns (by have:=(gl b kq rq 0 0).2.2.1;lia) (λtq htq=>?_);have ntq:p≠tq:=aB p7 htq;generalize hG8:upd (upd G7 tq (HO.lst ts)) p (HO.ins cG dx (putF "turns" (V.ref tq) (gf3 b kq rq)))=G8;have p8:G8 p=some (.ins cG dx (gf4 b kq rq tq)):=hG8▸ag;have t8:G8 tq=some (.lst ts):=by rw[<-hG8,aq ntq.symm,ag]
 have r8:G8 rq=some (.lst rs):=by rw[<-hG8,aq nrq.symm,aq (aB r7 htq)];exact r7
 have k8:G8 kq=some (.lst (ws.map V.str)):=by rw[<-hG8,aq nkq.symm,aq (aB k7 htq)];exact k7
 have b8:SameBut p H G8:=hG8▸(b7.new (nfree _ _ b7 (by rw[p7];simp) htq)).self;refine mw (ae rfl) (h4 _ b8).2.2.2 (λH'=>ae rfl) p8 B.cl B.ends (by have:=(gl b kq rq tq 0).2.2.2.1;lia) (λeq heq=>?_);have neq:p≠eq:=aB p8 heq;generalize hG9:upd (upd G8 eq (HO.lst es)) p (HO.ins cG dx (putF "ends" (V.ref eq) (gf4 b kq rq tq)))=G9;have p9:G9 p=some (.ins cG dx (CS b kq rq tq eq)):=hG9▸ag;have e9:G9 eq=some (.lst es):=by rw[<-hG9,aq neq.symm,ag]
 have t9:G9 tq=some (.lst ts):=by rw[<-hG9,aq ntq.symm,aq (aB t8 heq)];exact t8
 have r9:G9 rq=some (.lst rs):=by rw[<-hG9,aq nrq.symm,aq (aB r8 heq)];exact r8
 have k9:G9 kq=some (.lst (ws.map V.str)):=by rw[<-hG9,aq nkq.symm,aq (aB k8 heq)];exact k8
 have b9:SameBut p H G9:=hG9▸(b8.new (nfree _ _ b8 (by rw[p8];simp) heq)).self;refine wZ (λv H'=>v=.str st/\H'=G9) (λQ q=>kX (v:=.str st) (ae rfl) (q _ _ ⟨rfl,rfl⟩)) p cG dx (λH' Q q=>ae rfl Q q) B.cl B.stuck ?_;rintro _ _ ⟨rfl,rfl⟩;refine⟨_,p9,by have:=(gl b kq rq tq eq).2.2.2.2;lia,?_⟩;refine q _ ⟨dx,kq,rq,tq,eq,ag,?_,?_,?_,?_⟩ b9.self
 .rw[aq nkq.symm];exact k9
 .rw[aq nrq.symm];exact r9
 .rw[aq ntq.symm];exact t9
 .rw[aq neq.symm];exact e9
end
section
def rk(F:cy K "are_holes" "are_holes" dP f fd)(T:Txt mg aS aA aE aW)(C:CA P w K mg Rw):aY P w K mg Rw cY 3 f fd ["thing","many"] sY:=by
 refine F.ok2 qP ?_;rintro _ _ _ _ H _ Q _ hr hu ⟨d,m,hs,rfl,hd,good,nd,hl,m64,k⟩;have hS:aR K H d (hs.map V.int):=aR.of hd;refine⟨_,(af (aZ (PW.pt (gV (bM (bq (JC .list T.isinstance T.list g6 (cv 0)))) (eX (aX K hu (kB (eZ K) bC T.len (az (cv 0) pan)) (cv 1))))) (am (aF gI)) aH)
  (af (aZ (bM (bq (kB (zM K) lD T.all (az (fK (dc (N:=["hole","many"]) (src:=[none,some 1]) (ak dP) ["thing","many"]) (sw K (cv 0)) (λ_ _ _=>(bA (i:=0) ["hole","many"])) (λ_ _ _=>bZ) (λ_ _ _=>(aG C.is_among hr (az (cv 0) (az ah (az (ar (cv 1) ah) pan)))))) pan)))) (am (aF gI)) aH)
  (am (aF (iK K hu (kB wE bC T.len (az (uo (QZ K hr) rX T.set (az (cv 0) pan)) pan)) (kB (eZ K) bC T.len (az (cv 0) pan))))))),?_⟩
 show bn _ _ _ [oR d,oJ m] H;refine bB (jO (cC (bb (Ls (ae rfl) hd))) (λ_=>(bb (JL (cQ (ae rfl) (.inl hS)) (ae rfl))))) (λh=>?_) (λ_=>?_)
 .have h:decide (m<=((hs.map V.int).length:Int))=true:=h;have h:=RD h;rw[VN]at h;lia
 refine c8 (λb H'=>b=false/\aj H H') (λQ q=>?_) (λH' h=>by cases h.1) (λH1 h=>?_)
 .refine gZ (d:=d) (xs:=hs.map V.int) (rest:=[oJ m]) (ae rfl) hS (by rw[VN,RW];lia) rfl (λ_=>true) (λ_=>.bl true) (λx hx=>fZ) (λx hx _=>?_) (λd' hd'=>?_)
  .obtain⟨z,hz,rfl⟩:=VP.mp hx;have g:=good z hz;refine aK (aa (ae rfl) (aa ao (aa (gN (ae rfl) ao) ay))) (λQ q=>⟨z,0,m - 1,rfl,?_⟩);rw[Ry (by lia:0<=z/\z<=m - 1)];exact q
  .refine⟨List.replicate hs.length true,?_,?_⟩
   .have e:((hs.map V.int).filter λ_=>true).map (λ_=>V.bl true)=(List.replicate hs.length true).map V.bl:=by rw[Wj.mpr (λ_ _=>rfl),V0,List.map_replicate];show hs.map (λ_=>V.bl true)=_;rw[List.map_const']
    rw[<-e];exact aR.of ag
   .have e:(List.replicate hs.length true).all id=true:=by simp
    rw[e];exact q _ _ ⟨rfl,(aj.refl H).upd hd'⟩
 obtain⟨_,s1⟩:=h;have hS1:=s1.seq hS;simp only[cD,fL,cB,aN,bG];refine kX (ae rfl) ?_;refine⟨hs,hS1,by have:scanBound=4096:=rfl;lia,λq hq=>?_⟩;refine⟨_,_,ag,?_⟩;have s2:aj H1 (upd H1 q (.set (λk=>(uniq hs).any (· == k)) (uniq hs).length)):=(aj.refl H1).upd hq;refine kX (v:=.ref d) (ae rfl) ⟨_,.inl (s2.seq hS1),?_⟩;rw[VN,(AB hs).mpr nd];show Q (.bl (decide ((hs.length:Int)=hs.length))) _;rw[Ry rfl];exact k _ (s1.trans ((aj.refl H1).upd hq))
def oQ{f cB:Zo}{fd:R7}(F:cy K "__init__" "Board.__init__" bR f fd)(T:Txt mg aS aA aE aW)(B:jN K cB)(C:CB2 P w K mg Rw):aY P w K mg Rw cY 4 f fd ["self","wide","high","holes"] (qC K cB):=by
 refine F.ok2 kj ?_;rintro _ _ _ s H _ Q _ hr hu ⟨p,d,dx,wi,hi,hs,rfl,hp,hd,w1,w8,h1,h8,good,nd,hl,k⟩;have m1:wi*hi<=8*8:=X5 w8 h8 (by lia) (by lia);have m0:0<=wi*hi:=X9 (by lia) (by lia);have npd:p≠d:=ix hp hd (by intro z;cases z);refine⟨_,(af (aZ (PW.pt (gV (bM (bq (aG C.is_among hr (az (cv 1) (az ah (az (kg T.LONGEST) pan)))))) (eX (bM (bq (aG C.is_among hr (az (cv 2) (az ah (az (kg T.LONGEST) pan))))))))) (am gH) aH)
  (af (aZ (bM (bq (aG C.are_holes hr (az (cv 3) (az (ar (cv 1) (cv 2)) pan))))) (am gH) aH)
  (af (gK K (cv 0) (cv 1))
  (af (gK K (cv 0) (cv 2))
  (af (gK K (cv 0) (kB (OO K) qd T.sorted (az (cv 3) pan)))
  (am (gK K (cv 0) (fK (dc (N:=["square","self"]) (src:=[none,some 0]) (ak bR) ["self","wide","high","holes"]) (P8 T.range (az (ar (cv 1) (cv 2)) pan)) (λ_ _ _=>(bA (i:=0) ["square","self"])) (λ_ _ _=>bZ) (λ_ _ _=>(iK K hu (cv 0) (bN K (cv 1)))))))))))),?_⟩
 show bn _ _ _ [oR p,oJ wi,oJ hi,oR d] H;refine bB (jO (cC (bb (aK (aa (ae rfl) (aa ao (aa ao ay))) (λQ q=>⟨wi,1,8,rfl,q⟩)))) (λ_=>(cC (bb (aK (aa (ae rfl) (aa ao (aa ao ay))) (λQ q=>⟨hi,1,8,rfl,q⟩)))))) (λh=>?_) (λ_=>?_)
 .rw[Ry (⟨w1,w8⟩:1<=wi/\wi<=8),Ry (⟨h1,h8⟩:1<=hi/\hi<=8)]at h;cases h
 refine c8 (λb H'=>b=false/\aj H H') (λQ q=>?_) (λH' h=>by cases h.1) (λH1 h=>?_)
 .exact lC (aa (ae rfl) (aa (cr (ae rfl) (ae rfl) (.inl ⟨by lia,by lia⟩)) ay)) ⟨d,wi*hi,hs,rfl,hd,good,nd,hl,by lia,λH' s=>q _ _ ⟨rfl,s⟩⟩
 obtain⟨_,s1⟩:=h;refine qx (ae rfl) (ae rfl) (s1 _ _ hp) B.cl B.wide (by decide) ?_;have a1:=bu "wide" (V.int wi) [];have a2:=bu "high" (V.int hi) (putF "wide" (V.int wi) []);simp only[WW]at a1;refine qx (ae rfl) (ae rfl) ag B.cl B.high (by lia) ?_;generalize hH3:upd (upd H1 p (HO.ins cB dx (putF "wide" (V.int wi) []))) p (HO.ins cB dx (putF "high" (V.int hi) (putF "wide" (V.int wi) [])))=H3;have p3:H3 p=some (.ins cB dx (putF "high" (V.int hi) (putF "wide" (V.int wi) []))):=hH3▸ag;have s3:SameBut p H H3:=hH3▸(s1.but.self.self);have d3:H3 d=some (.lst (hs.map V.int)):=s3 _ _ hd npd.symm;refine Di (λv H'=>∃(hs':List Int)(q:Zo),v=.ref q/\hs'.Perm hs/\hs'.Pairwise (·<=·)/\H3 q=none/\H'=upd H3 q (.lst (hs'.map V.int))) (λQ q=>?_) p cB dx (λH' Q q=>ae rfl Q q) B.cl B.holes ?_
 .exact Rg (ae rfl) ⟨hs,aR.of d3,by lia,λhs' q' h1 h2 h3=>q _ _ ⟨hs',q',rfl,h1,h2,h3,rfl⟩⟩
 rintro _ _ ⟨hs',q,rfl,pm,sr,hq,rfl⟩;have npq:p≠q:=aB p3 hq;have a3:=bu "holes" (V.ref q) (putF "high" (V.int hi) (putF "wide" (V.int wi) []));refine⟨_,(by rw[aq npq];exact p3),(by lia),?_⟩;generalize hH4:upd (upd H3 q (HO.lst (hs'.map V.int))) p (HO.ins cB dx (putF "holes" (V.ref q) (putF "high" (V.int hi) (putF "wide" (V.int wi) []))))=H4;have p4:H4 p=some (.ins cB dx (putF "holes" (V.ref q) (putF "high" (V.int hi) (putF "wide" (V.int wi) [])))):=hH4▸ag;have q4:H4 q=some (.lst (hs'.map V.int)):=by rw[<-hH4,aq npq.symm,ag]
 have hqH:H q=none:=by
  cases e:H q with
  |none=>rfl
  |some o=>
   have:=s3 q o e npq.symm;rw[hq]at this;cases this
 have s4:SameBut p H H4:=hH4▸((s3.new hqH).self);have f4:Fl K H4 p "holes" (.ref q):=⟨cB,dx,_,p4,B.cl,B.holes,by rw[av,RC rfl]⟩;refine wZ (λv H'=>∃(pf:Zo),v=.ref pf/\H4 pf=none/\H'=upd H4 pf (.lst ((firmL wi hi hs').map V.bl))) (λQ k'=>?_) p cB dx (λH' Q q=>ae rfl Q q) B.cl B.firm ?_
 .refine uD (n:=wi*hi) (rest:=[oR p]) (aa (cr (ae rfl) (ae rfl) (.inl ⟨by lia,by lia⟩)) ay) m0 (by rw[RW];lia) (by lia) rfl (λ_=>true) (λx=>match x with| .int i=>.bl (!decide (i∈hs'))|_=>.non) (λi hi=>fZ) (λi hi _=>?_) (λd' hd'=>?_)
  .exact(Lq (ae rfl) (aP (ae rfl) (f4)) (.inl (aR.of q4)))
  .refine k' _ _ ⟨d',rfl,hd',?_⟩;have e:(((List.range (wi*hi).toNat).map λ(i:Nat)=>V.int (0+(i:Int))).filter λ_=>true).map (λx=>match x with| .int i=>V.bl (!decide (i∈hs'))|_=>.non)=(firmL wi hi hs').map V.bl:=by rw[Wj.mpr (λ_ _=>rfl),V0];unfold firmL;rw[V0];refine Wo λi _=>?_;show V.bl (!decide (0+(i:Int)∈hs'))=V.bl (!decide ((i:Int)∈hs'));rw[Int.zero_add]
   rw[e]
 rintro _ _ ⟨pf,rfl,hpf,rfl⟩;have npf:p≠pf:=aB p4 hpf;have nqf:q≠pf:=aB q4 hpf;have hfH:H pf=none:=by
  cases e:H pf with
  |none=>rfl
  |some o=>
   have:=s4 pf o e npf.symm;rw[hpf]at this;cases this
 refine⟨_,(by rw[aq npf];exact p4),(by lia),?_⟩;refine k hs' _ pm ⟨⟨dx,q,pf,ag,by rw[aq npq.symm,aq nqf];exact q4,by rw[aq npf.symm,ag]⟩,w1,w8,h1,h8,λh hh=>good h (pm.mem_iff.mp hh),sr,pm.nodup_iff.mpr nd⟩ ((s4.new hfH).self)
def rc(F:cy K "column_of" "column_of" fv f fd)(T:Txt mg aS aA aE aW):aY P w K mg Rw cY 1 f fd ["wide","square"] Jh:=by refine F.ok2 qL ?_;rintro _ _ _ _ H _ Q _ hr _ ⟨a,b,rfl,a0,q⟩;refine⟨_,(am (aF (ar (cv 1) (cv 0)))),?_⟩;show cD _ _ [oJ a,oJ b] H;exact aL (a7 (ae rfl) (ae rfl) (a0)) q
def zp(F:cy K "row_of" "row_of" jd f fd)(T:Txt mg aS aA aE aW):aY P w K mg Rw cY 1 f fd ["wide","square"] AN:=by refine F.ok2 yS ?_;rintro _ _ _ _ H _ Q _ hr _ ⟨a,b,rfl,a0,a1,q⟩;refine⟨_,(am (aF (ar (cv 1) (cv 0)))),?_⟩;show cD _ _ [oJ a,oJ b] H;exact aL (bx (ae rfl) (ae rfl) (⟨a0,by lia⟩)) q
def qZ(F:cy K "square_at" "square_at" fo f fd)(T:Txt mg aS aA aE aW):aY P w K mg Rw cY 1 f fd ["wide","column","row"] AK:=by refine F.ok2 qG ?_;rintro _ _ _ _ H _ Q _ hr _ ⟨a,b,c,rfl,a0,a1,q⟩;refine⟨_,(am (aF (ar (ar (cv 2) (cv 0)) (cv 1)))),?_⟩;show cD _ _ [oJ a,oJ b,oJ c] H;exact aL (cj (cr (ae rfl) (ae rfl) (.inr ⟨by lia,by lia⟩)) (ae rfl)) q
def nE{f cB:Zo}{fd:R7}(F:cy K "moved" "Board.moved" dv f fd)(T:Txt mg aS aA aE aW)(B:jN K cB)(C:CB P w K mg Rw):aY P w K mg Rw cY 2 f fd ["self","square","across","up"] (xb K cB):=by
 refine F.ok2 dW ?_;rintro _ _ _ _ H _ Q _ hr hu ⟨p,wi,hi,hs,sq,ax,up,rfl,O,k⟩;have w1:=O.w1;have w8:=O.w8;have fw:=O.wide B;have fh:=O.high B;obtain⟨pf,ff,hf⟩:=O.firm B;refine⟨_,(af (aw 4 dW.nd (ar (aG C.column_of hr (az (bN K (cv 0)) (az (cv 1) pan))) (cv 2)))
  (af (aw 5 dW.nd (ar (aG C.row_of hr (az (bN K (cv 0)) (az (cv 1) pan))) (cv 3)))
  (af (aZ (PW.pt (gV (bM (xN K hu ah (cv 4) (bN K (cv 0)))) (eX (bM (xN K hu ah (cv 5) (bN K (cv 0))))))) (am (aF dj)) aH)
  (af (aw 6 dW.nd (aG C.square_at hr (az (bN K (cv 0)) (az (cv 4) (az (cv 5) pan)))))
  (am (aF (cK (bq (c7 K (bN K (cv 0)) (cv 6))) (cv 6) dj))))))),?_⟩
 show bn _ _ _ [oR p,oJ sq,oJ ax,oJ up,none,none,none] H;refine aO (cj (aK (aa (aP (ae rfl) (fw)) (aa (ae rfl) ay)) (λQ q=>⟨wi,sq,rfl,by lia,q⟩)) (ae rfl)) ?_;refine aO (cj (aK (aa (aP (ae rfl) (fw)) (aa (ae rfl) ay)) (λQ q=>⟨wi,sq,rfl,by lia,by lia,q⟩)) (ae rfl)) ?_;unfold P6 at k;generalize hc:sq % wi+ax=c at k;generalize hr':sq / wi+up=r at k;refine bB (jO (cC (wT ao (ae rfl) (λ_=>(aP (ae rfl) (fw))))) (λ_=>(cC (wT ao (ae rfl) (λ_=>(aP (ae rfl) (fh))))))) (λh=>?_) (λh=>?_)
 .show cD _ _ _ _;refine aL ao ?_;rw[RB (λz=>by rw[Ry (⟨z.1,z.2.1⟩:0<=c/\c<wi),Ry (⟨z.2.2.1,z.2.2.2⟩:0<=r/\r<hi)]at h;cases h)]at k;exact k
 .have h2:(0<=c/\c<wi)/\(0<=r/\r<hi):=by
   by_cases a:0<=c/\c<wi
   .by_cases b:0<=r/\r<hi
    .exact⟨a,b⟩
    .rw[Ry a,RA b]at h;cases h
   .rw[RA a]at h;cases h
  rw[RC ⟨h2.1.1,h2.1.2,h2.2.1,h2.2.2⟩]at k;refine aO (aK (aa (aP (ae rfl) (fw)) (aa (ae rfl) (aa (ae rfl) ay))) (λQ q=>⟨wi,c,r,rfl,by lia,by lia,q⟩)) ?_;have g0:0<=r*wi+c:=by have:=X9 h2.2.1 (by lia:0<=wi);lia
  have g1:r*wi+c<wi*hi:=by
   have:r*wi<=(hi - 1)*wi:=Yc (by lia) (by lia);have e:(hi - 1)*wi=wi*hi - wi:=by rw[Int.sub_mul,X8,X6]
   lia
  show cD _ _ _ _;refine aL (v:=if(!decide (r*wi+c∈hs))=true then .int (r*wi+c)else .non) (lR (bb (a8 (aP (ae rfl) (ff)) (ae rfl) (.inl (aR.of hf)) (x8 g0 g1))) (λ_=>(ae rfl)) (λ_=>ao)) ?_
  by_cases m:r*wi+c∈hs
  .rw[Ry m];rw[RC m]at k;exact k
  .rw[RA m];rw[RB m]at k;exact k
def KR{f cB:Zo}{fd:R7}(F:cy K "ray" "ray" tI f fd)(T:Txt mg aS aA aE aW)(B:jN K cB)(C:CB3 P w K mg Rw cB):aY P w K mg Rw cY 3 f fd ["board","square","across","up"] (Je K cB):=by
 refine F.ok2 qH ?_;rintro _ _ _ s H _ Q _ hr hu ⟨p,wi,hi,hs,sq,ax,up,rfl,O,s0,s1,n0,k⟩;have w1:=O.w1;have w8:=O.w8;have m0:=X3 sq (by lia:wi≠0);have m1:=X4 sq (by lia:0<wi);refine⟨_,(af (aZ (PW.pt (iG (aX K hu (cv 2) ah) (gb (aX K hu (cv 3) ah)))) (am (aF (bh pan))) aH)
  (af (aw 4 qH.nd (bh pan))
  (af (aw 5 qH.nd (nN C.Board_moved hr (cv 0) (az (cv 1) (az (cv 2) (az (cv 3) pan)))))
  (af (tL SW (aX K hu (cv 5) dj) (af (cS (iP (cv 4) (cv 5)))
  (am (aw 5 qH.nd (nN C.Board_moved hr (cv 0) (az (cv 5) (az (cv 2) (az (cv 3) pan))))))))
  (am (aF (cv 4))))))),?_⟩
 show bn _ _ _ [oR p,oJ sq,oJ ax,oJ up,none,none] H;refine bB (i6 (bb (eV (ae rfl) ao)) (λ_=>(bb (eV (ae rfl) ao)))) (λh=>?_) (λ_=>?_)
 .rw[Ye]at h;exact RF ⟨RD h.1,RD h.2⟩ n0
 refine jX λq hq=>?_;have sm:aj H (upd H q (.lst [])):=(aj.refl H).upd hq;have O1:=O.same sm;refine aO (v:=oI (if tY wi hi hs sq ax up 1 then some (qy wi sq ax up 1)else none)) (kO (p:=p) (ae rfl) O1.no (aa (ae rfl) (aa (ae rfl) (aa (ae rfl) ay))) (λQ q=>⟨p,wi,hi,hs,sq,ax,up,rfl,O1,?_⟩)) ?_
 .have e:=xE (hi:=hi) (hs:=hs) (s:=sq) (ax:=ax) (up:=up) (k:=0) w1 (by simp;exact m0) (by simp;exact m1);rw[AJ w1]at e;rw[e];exact q
 refine⟨λm σ' H'=>∃i:Nat,m=8 - i/\i<=8/\(∀j<i,tY wi hi hs sq ax up (j+1))/\σ'=[oR p,oJ sq,oJ ax,oJ up,oR q,some (oI (if tY wi hi hs sq ax up (i+1)then some (qy wi sq ax up (i+1))else none))]/\H' q=some (.lst ((fG wi sq ax up i).map V.int))/\aj H H',
  ⟨8,0,rfl,by lia,λj hj=>by lia,rfl,ag,sm⟩,?_⟩
 rintro m _ H1 ⟨i,rfl,hi8,hok,rfl,hl,hs1⟩
 by_cases hk:tY wi hi hs sq ax up (i+1)
 .rw[RC hk];have hlt:=Bm w8 O.h8 w1 s0 s1 n0 hk;refine(bb (n6 (ae rfl) ao)) _ (iL ⟨_,λ_ _ h=>h,?_⟩);refine AI (ae rfl) (ae rfl) hl (by rw[VN,kC,RW];lia) ?_;have s2:aj H (upd H1 q (.lst ((fG wi sq ax up i).map V.int++[.int (qy wi sq ax up (i+1))]))):=hs1.put hq;have O2:=O.same s2;refine cR (v:=oI (if tY wi hi hs sq ax up (i+1+1)then some (qy wi sq ax up (i+1+1))else none)) (kO (p:=p) (ae rfl) O2.no (aa (ae rfl) (aa (ae rfl) (aa (ae rfl) ay))) (λQ q=>⟨p,wi,hi,hs,qy wi sq ax up (i+1),ax,up,rfl,O2,?_⟩)) ?_
  .rw[xE w1 hk.1 hk.2.1];exact q
  .refine⟨8 - (i+1),by lia,i+1,rfl,by lia,λj hj=>?_,rfl,?_,s2⟩
   .by_cases e:j=i
    .subst e;exact hk
    .exact hok j (by lia)
   .rw[ag,yW,VZ];rfl
 .rw[RB hk];refine(bb (nZ (ae rfl) ao)) _ (hG ?_);dsimp only;exact aL (ae rfl) (k i q H1 ⟨hok,hk⟩ hi8 hq hl hs1)
def vL(F:cy K "kind_of" "kind_of" ic f fd)(T:Txt mg aS aA aE aW):aY P w K mg Rw cY 1 f fd ["sign"] vg:=by
 refine F.ok2 vq ?_;rintro _ _ _ s H _ Q _ hr hu ⟨c,rfl,hc,q⟩;refine⟨_,(am (aF (cK (aX K hu (cv 0) (bD (az (kg T.EMPTY) (az (kg T.HOLE) pan)))) dj (rP PySem.F.slot_str_lower PySem.F.type_str_lower KY (cv 0))))),?_⟩;show cD _ _ [oT (one c)] H;simp only[cD,Oo];refine JF (ae rfl) wn rL (λH' s=>?_);have k:=q H' s;unfold lP at k
 by_cases h:c=46\/c=35
 .rw[Ry h];rw[RC h]at k;exact iL (kX ao k)
 .rw[RA h];rw[RB h]at k;exact hG (kX (Pi (ae rfl) hc) k)
def vK(F:cy K "side_of" "side_of" ib f fd)(T:Txt mg aS aA aE aW):aY P w K mg Rw cY 1 f fd ["sign"] mT:=by
 refine F.ok2 vp ?_;rintro _ _ _ s H _ Q _ hr hu ⟨c,rfl,hc,q⟩;refine⟨_,(af (aZ (aX K hu (cv 0) (bD (az (kg T.EMPTY) (az (kg T.HOLE) pan)))) (am (aF dj)) aH)
  (am (aF (cK (bq (rP PySem.F.slot_str_isupper PySem.F.type_str_isupper KZ (cv 0))) ah ah)))),?_⟩
 show bn _ _ _ [oT (one c)] H;unfold di at q;refine c8 (λb H'=>b=decide (c=46\/c=35)/\aj H H') (λQ q=>JF (ae rfl) wn rL (λH' s=>q _ _ ⟨rfl,s⟩)) (λH1 h=>?_) (λH1 h=>?_)
 .have k:=q H1 h.2;rw[RC (RD h.1.symm)]at k;exact aL ao k
 .have k:=q H1 h.2;rw[RB (RE h.1.symm)]at k;refine aL (lR (bb (Pj (ae rfl) hc)) (λ_=>ao) (λ_=>ao)) ?_
  by_cases g:65<=c/\c<=90
  .rw[Ry g];rw[RC g]at k;exact k
  .rw[RA g];rw[RB g]at k;exact k
end
section
def DM(F:cy K "slid" "slid" nu f fd)(T:Txt mg aS aA aE aW)(C:CRs P w K mg Rw):aY P w K mg Rw cY 2 f fd ["row","side","aim","path"] (AM K):=by
 refine F.ok2 mx ?_;rintro _ _ _ _ H _ Q _ hr hu ⟨row,aim,sd,p,path,rfl,hp,R,hg,h8,k⟩;have rl:=R.len;refine⟨_,(af (aw 4 mx.nd (bh pan))
  (af (jj SW rfl (sw K (cv 3)) (dz 5 mx.nd) (af (aw 6 mx.nd (aG C.side_of hr (az (c7 K (cv 0) (cv 5)) pan)))
  (af (aZ (aX K hu (cv 6) dj) (af (aZ (PW.pt (iG (aX K hu (cv 6) (cv 1)) (gb (aX K hu (cv 2) aU)))) (am (cS (iP (cv 4) (bD (az (cv 5) (az (cv 5) pan)))))) aH)
  (am A8)) aH)
  (am (aZ (aX K hu (cv 2) aU) (am (cS (iP (cv 4) (bD (az (cv 5) (az (kg T.NOTHING) pan)))))) aH)))))
  (am (aF (cv 4))))),?_⟩
 show bn _ _ _ [oT row,oJ sd,oT aim,oR p,none,none,none] H;refine jX λq hq=>?_;have sm:aj H (upd H q (.lst [])):=(aj.refl H).upd hq;refine bV (λσ' H'=>(∃o5 o6,σ'=[oT row,oJ sd,oT aim,oR p,oR q,o5,o6])/\cX H H' q (fW row sd aim path)/\aj H H') (λK' hK=>?_) ?_
 .refine iz (λv H'=>v=.ref p/\H'=upd H q (.lst [])) (λQ z=>ae rfl _ (z _ _ ⟨rfl,rfl⟩)) ?_;rintro _ _ ⟨rfl,rfl⟩;refine⟨p,path.map V.int,rfl,sm.seq hp,λi σ' H'=>∃(l:List (Int×Int)),(∃o5 o6,σ'=[oT row,oJ sd,oT aim,oR p,oR q,o5,o6])/\cX H H' q l/\l.length<=i/\l++fW row sd aim (path.drop i)=fW row sd aim path/\aj H H',⟨[],⟨_,_,rfl⟩,cX.nil,XF _,rfl,sm⟩,?_,?_,?_⟩
  .rintro i σ' H' _ ⟨_,_,_,_,_,s1⟩;exact s1.seq hp
  .rintro i x _ H1 hx ⟨l,⟨o5,o6,rfl⟩,⟨ps,p1,p2,p3⟩,ll,el,s1⟩;have hi:i<path.length:=by
    have:=(V5.mp hx).1
    rwa[VN]at this
   obtain rfl:x=.int path[i]:=by rw[VT,VQ hi]at hx;exact(RH hx).symm
   have hd:path.drop i=path[i]::path.drop (i+1):=WK hi;obtain⟨g0,g1⟩:=hg _ (V7 hi);generalize path[i]=g at hd g0 g1;obtain⟨at1,at2⟩:=R.at g0 g1;rw[hd,mY]at el;show bn _ _ _ [oT row,oJ sd,oT aim,oR p,oR q,oJ g,o6] H1;refine bH (λv H'=>v=sdV row g/\aj H1 H') (λQ z=>(aa (iM (ae rfl) (ae rfl) (by rw[RW];lia) at1) ay) _ ⟨_,rfl,at2,λH2 s2=>z _ _ ⟨rfl,s2⟩⟩) ?_;rintro _ H2 ⟨rfl,s2⟩;have p2':=s2 _ _ p2;have p3':∀p∈ps,H p.2=none/\H2 p.2=some (.tup (p.1.map V.int)):=λp h=>⟨(p3 p h).1,s2 _ _ (p3 p h).2⟩;have s3:=s1.trans s2;have lz:(ps.map λz=>V.ref z.2).length=l.length:=by have:=RI List.length p1;rw[VN,VN]at this;rw[VN,this]
   by_cases hn:sdV row g=.non
   .rw[RC hn]at el;refine bB (b:=false) ?_ (λz=>nomatch z) λ_=>?_
    .rw[hn];exact bb (nZ (ae rfl) ao)
    .refine de (bb (wl (ae rfl) ao)) (λh=>?_) (λh=>?_)
     .have ha:¬aim="hit":=λz=>by rw[z]at h;simp at h
      rw[RB ha]at el;refine uO (ae rfl) ⟨_,p2'⟩ (qo (ae rfl) (ao (x:=.int (-1))) λt ht=>?_);have nt:q≠t:=λz=>by rw[<-z,p2']at ht;cases ht
      refine⟨_,by rw[aq nt];exact p2',by rw[lz,RW];lia,l++[(g, -1)],⟨_,_,rfl⟩,cX.add p1 p2' p3' s3 ht,by rw[VV];show l.length+1<=_;lia,by rw[Wi];exact el,?_⟩;exact(s3.upd ht).put hq
     .have ha:aim="hit":=by simpa using h
      rw[RC ha]at el;exact⟨l,⟨_,_,rfl⟩,⟨ps,p1,p2',p3'⟩,by lia,el,s3⟩
   .rw[RB hn]at el;obtain⟨v,hv⟩:∃v,sdV row g=.int v:=by
     unfold sdV di at hn ⊢;split
     .rename_i z;rw[RC z]at hn;exact RF rfl hn
     .exact⟨_,rfl⟩
    rw[hv]at el ⊢;refine bB (b:=true) (bb (n6 (ae rfl) ao)) (λ_=>?_) (λz=>nomatch z);refine bB (i6 (bb (pZ (ae rfl) (ae rfl))) (λ_=>(bb (wl (ae rfl) ao)))) (λh=>?_) (λh=>?_)
    .rw[Ye]at h;have h1:¬v=sd:=λz=>by have:=h.1;rw[z]at this;simp at this
     have h2:¬aim="go":=λz=>by have:=h.2;rw[z]at this;simp at this
     rw[RC ⟨λz=>h1 (by injection z),h2⟩]at el;refine uO (ae rfl) ⟨_,p2'⟩ (qo (ae rfl) (ae rfl) λt ht=>?_);have nt:q≠t:=λz=>by rw[<-z,p2']at ht;cases ht
     refine⟨_,by rw[aq nt];exact p2',by rw[lz,RW];lia,hK _ _ ⟨⟨_,_,rfl⟩,?_,(s3.upd ht).put hq⟩⟩;rw[<-el];exact cX.add p1 p2' p3' s3 ht
    .have h3:¬(¬v=sd/\¬aim="go"):=λz=>by simp[z.1,z.2]at h
     rw[RB (λz=>h3 ⟨λw=>z.1 (by rw[w]),z.2⟩),V9]at el;refine hK _ _ ⟨⟨_,_,rfl⟩,?_,s3⟩;rw[<-el];exact⟨ps,p1,p2',p3'⟩
  .rintro σ' H' ⟨l,o,hP,_,el,s1⟩;rw[VN,List.drop_length]at el;refine hK _ _ ⟨o,?_,s1⟩;rw[<-el];simpa[fW]using hP
 .rintro _ H1 ⟨⟨o5,o6,rfl⟩,hP,s1⟩;exact aL (ae rfl) (k q H1 hq hP s1)
def zq(F:cy K "jumped" "jumped" je f fd)(T:Txt mg aS aA aE aW)(C:CRs P w K mg Rw):aY P w K mg Rw cY 2 f fd ["row","side","path"] (AR K):=by
 refine F.ok2 yT ?_;rintro _ _ _ _ H _ Q _ hr hu ⟨row,sd,p,path,rfl,hp,R,hg,hsd,k⟩;have rl:=R.len;refine⟨_,(af (aZ (PW.pt (gV (aX K hu (kB (eZ K) bC T.len (az (cv 2) pan)) ah) (gV (aX K hu (aG C.side_of hr (az (c7 K (cv 0) (c7 K (cv 2) ah)) pan)) (ar ah (cv 1))) (eX (aX K hu (aG C.side_of hr (az (c7 K (cv 0) (c7 K (cv 2) ah)) pan)) dj))))) (am (aF (bh pan))) aH)
  (am (aF (bh (az (bD (az (c7 K (cv 2) ah) (az (c7 K (cv 2) ah) pan))) pan))))),?_⟩
 show bn _ _ _ [oT row,oJ sd,oR p] H;refine c8 (λb H'=>aj H H'/\(b=true->nP row sd path=[])/\(b=false->∃g b' r,path=g::b'::r/\nP row sd path=[(b',g)])) (λQ z=>?_) (λH' ⟨s1,e,_⟩=>?_) (λH' ⟨s1,_,e⟩=>?_)
 .refine Ka (b:=decide (((path.map V.int).length:Int)<2)) (bb (uw (cQ (ae rfl) (.inl hp)) ao)) (λh=>z _ _ ⟨aj.refl H,λ_=>?_,λw=>nomatch w⟩) (λh=>?_)
  .have:=RD h;rw[VN]at this
   match path,this with
   | [],_=>rfl
   | [_],_=>rfl
   |_::_::_,w=>simp at w;lia
  .have hl:=RE h;rw[VN]at hl;obtain⟨g,b,r,rfl⟩:∃g b r,path=g::b::r:=by
    match path,hl with
    | [],w=>simp at w
    | [_],w=>simp at w
    |g::b::r,_=>exact⟨g,b,r,rfl⟩
   obtain⟨g0,g1⟩:=hg g (by simp);obtain⟨b0,b1⟩:=hg b (by simp);obtain⟨x1,x2⟩:=R.at g0 g1;obtain⟨y1,y2⟩:=R.at b0 b1;refine sR (B4 (aa (iM (ae rfl) (a8 (x:=.int g) (ae rfl) ao (.inl hp) (bz (j:=0) rfl)) (by rw[RW];lia) x1) ay) ⟨_,rfl,x2,λH2 s2=>kX (gN ao (ae rfl)) ?_⟩);rw[Do];show if(!decide (sdV row g=.int (1 - sd)))=true then _ else _
   by_cases h1:sdV row g=.int (1 - sd)
   .rw[Ry h1];refine hG (B4 (aa (iM (ae rfl) (a8 (x:=.int b) (ae rfl) ao (.inl (s2.seq hp)) (bz (j:=1) rfl)) (by rw[RW];lia) y1) ay) ⟨_,rfl,y2,λH3 s3=>kX ao ?_⟩);rw[vj];show Q (!decide (sdV row b=.non)) H3;refine z _ _ ⟨s2.trans s3,λh2=>?_,λh2=>⟨g,b,r,rfl,?_⟩⟩
    .show(if _ then _ else _)=_;rw[RB (λw=>by rw[Ry w.2]at h2;cases h2)]
    .show(if _ then _ else _)=_;rw[RC ⟨h1,by simpa using h2⟩]
   .rw[RA h1];refine iL (z _ _ ⟨s2,λ_=>?_,λw=>nomatch w⟩);show(if _ then _ else _)=_;rw[RB (λw=>h1 w.1)]
 .refine⟨XF _,λq hq=>k q _ (s1.free hq) ?_ (s1.upd hq)⟩;rw[e rfl];exact⟨[],rfl,ag,λ_ z=>nomatch z⟩
 .obtain⟨g,b,r,rfl,e⟩:=e rfl;have hp2:=s1.seq hp;refine fI (qo (x:=.int b) (y:=.int g) (a8 (ae rfl) ao (.inl hp2) (bz (j:=1) rfl)) (a8 (ae rfl) ao (.inl hp2) (bz (j:=0) rfl)) λt ht=>⟨by show 1<=v1;decide,λq hq=>?_⟩);have hq1:H' q=none:=by
   by_cases w:q=t
   .rw[w];exact ht
   .rw[aq w]at hq;exact hq
  have nt:t≠q:=λw=>by rw[w,ag]at hq;cases hq
  refine k q _ (s1.free hq1) ?_ ((s1.upd ht).upd hq);rw[e];refine⟨[([b,g],t)],rfl,ag,λp hp=>?_⟩;rw[VR.mp hp];exact⟨s1.free ht,by rw[aq nt,ag];rfl⟩
def vS{f cB:Zo}{fd:R7}(F:cy K "by_rule" "by_rule" im f fd)(T:Txt mg aS aA aE aW)(C:CRb P w K mg Rw cB):aY P w K mg Rw cY 4 f fd ["board","row","square","rule"] (tf K cB):=by
 refine F.ok2 jZ ?_;rintro _ _ _ _ H _ Q _ hr hu ⟨b,r,row,sq,sd,wi,hi,hs,u,rfl,B,hT,R,rl,s0,s1,hsd,sd2,n0,k⟩;have r64:=R.len;obtain⟨x1,x2⟩:=R.at s0 (by lia);refine⟨_,(af (aw 4 jZ.nd (aG C.side_of hr (az (c7 K (cv 1) (cv 2)) pan)))
  (af (aw 5 jZ.nd (aG C.ray hr (az (cv 0) (az (cv 2) (az (c7 K (cv 3) ah) (az (cK (aX K hu (cv 4) ah) (c7 K (cv 3) ah) (jt (c7 K (cv 3) ah))) pan))))))
  (af (aZ (aX K hu (c7 K (cv 3) ah) aU) (am (aF (aG C.jumped hr (az (cv 1) (az (cv 4) (az (cv 5) pan)))))) aH)
  (am (aF (aG C.slid hr (az (cv 1) (az (cv 4) (az (c7 K (cv 3) ah) (az (cK (aX K hu (c7 K (cv 3) ah) aU) (xO K (cv 5) dB (cq ah)) (cv 5)) pan)))))))))),?_⟩
 show bn _ _ _ [oR b,oT row,oJ sq,oR r,none,none] H;refine bH (λv H'=>v=sdV row sq/\aj H H') (λQ z=>(aa (iM (ae rfl) (ae rfl) (by rw[RW];lia) x1) ay) _ ⟨_,rfl,x2,λH2 s2=>z _ _ ⟨rfl,s2⟩⟩) ?_;rintro _ H1 ⟨rfl,q1⟩;rw[hsd];have T1:∀{H'},aj H H'->dF K H' r u.vs:=λz=>aj.tupY z hT;have dy0:¬(u.ax=0/\u.dy sd=0):=λz=>n0 ⟨z.1,by have:=z.2;unfold bw.dy at this;split at this<;>lia⟩;refine bH (λv H'=>∃n q,v=.ref q/\kU wi hi hs sq u.ax (u.dy sd) n/\n<=8/\H' q=some (.lst ((fG wi sq u.ax (u.dy sd) n).map V.int))/\aj H1 H')
  (λQ z=>(aa (ae rfl) (aa (ae rfl) (aa (a8 (x:=.int u.ax) (ae rfl) ao (.inr (T1 q1)) rfl) (aa (x:=.int (u.dy sd)) (λQ' z'=>?_) ay)))) _ ⟨b,wi,hi,hs,sq,u.ax,u.dy sd,rfl,B.same q1,s0,s1,dy0,λn q H' a1 a2 _ a4 a5=>z _ _ ⟨n,q,rfl,a1,a2,a4,a5⟩⟩) ?_
 .refine Jb (b:=decide (sd=0)) (bb (eV (ae rfl) ao)) (λh=>?_) (λh=>?_)
  .have h:=RD h;rw[show u.dy sd=u.up by unfold bw.dy;rw[RC h]]at z';exact a8 (x:=.int u.up) (ae rfl) ao (.inr (T1 q1)) rfl _ z'
  .have h:=RE h;rw[show u.dy sd= -u.up by unfold bw.dy;rw[RB h]]at z';exact jr (a8 (x:=.int u.up) (ae rfl) ao (.inr (T1 q1)) rfl) _ z'
 rintro _ H2 ⟨n,q,rfl,ry,n8,hq,q2⟩;have q3:=q1.trans q2;have inr:∀g∈fG wi sq u.ax (u.dy sd) n,0<=g/\g<(row.length:Int):=λg hg=>by obtain⟨a,b,_⟩:=vB B.w1 ry g hg;lia
 have free:∀{p:Zo},H2 p=none->H p=none:=λ{p} h=>q3.free h;refine bB (b:=decide (u.so="jump")) (bb (gO (a8 (x:=.str u.so) (ae rfl) ao (.inr (T1 q3)) rfl) ao)) (λh=>?_) (λh=>?_)
 .have h:=RD h;refine Jn ((aa (ae rfl) (aa (ae rfl) (aa (ae rfl) ay))) _ ⟨row,sd,q,_,rfl,.inl (.inl hq),R,inr,sd2,λt H' t1 t2 t3=>k n t H' ry n8 (free t1) ?_ (q3.trans t3)⟩);unfold wF;rw[RC h];exact t2.from q3
 .have h:=RE h;refine Jn ((ae rfl) _ ((ae rfl) _ ((a8 (x:=.str u.ai) (ae rfl) ao (.inr (T1 q3)) rfl) _ ?_)));refine Jb (b:=decide (u.so="leap")) (bb (gO (a8 (x:=.str u.so) (ae rfl) ao (.inr (T1 q3)) rfl) ao)) (λh2=>?_) (λh2=>?_)
  .have h2:=RD h2;refine pq (lo:=none) (hi:=some 1) (ae rfl) kE (iu ao) (.inl (.inl hq)) λp hp=>?_;have q4:aj H (upd H2 p (.lst (oU ((fG wi sq u.ax (u.dy sd) n).map V.int) none (some 1)))):=q3.upd hp;have ec:oU ((fG wi sq u.ax (u.dy sd) n).map V.int) none (some 1)=((fG wi sq u.ax (u.dy sd) n).take 1).map V.int:=by exact Pl _
   refine⟨row,u.ai,sd,p,(fG wi sq u.ax (u.dy sd) n).take 1,rfl,.inl (.inl (by rw[ec];exact ag)),R,λg hg=>inr g (Xi hg),by rw[V8];lia,λt H' t1 t2 t3=>k n t H' ry n8 (q4.free t1) ?_ (q4.trans t3)⟩;unfold wF;rw[RB h,RC h2];exact t2.from q4
  .have h2:=RE h2;refine(ae rfl) _ ⟨row,u.ai,sd,q,_,rfl,.inl (.inl hq),R,inr,by rw[kC];exact n8,λt H' t1 t2 t3=>k n t H' ry n8 (free t1) ?_ (q3.trans t3)⟩;unfold wF;rw[RB h,RB h2];exact t2.from q3
end
section
def lq(F:cy K "rules_of" "Game.rules_of" bX f fd)(T:Txt mg aS aA aE aW)(D:uU K cG):aY P w K mg Rw cY 1 f fd ["self","kind"] (pi cG):=by
 refine F.ok2 lg ?_;rintro _ _ _ _ H _ Q _ hr hu ⟨g,b,kd,ks,ts,es,st,us,rfl,G,R,h24,k⟩;obtain⟨rq,fl,hrq⟩:=G.rules D;refine⟨_,(am (aF (fK (dc (N:=["rule","kind"]) (src:=[none,some 1]) (ak bX) ["self","kind"]) (sw K (bN K (cv 0))) (λ_ _ _=>(bA (i:=0) ["rule","kind"])) (λ_ _ _=>(ny (aX K hu (c7 K (cv 0) ah) (cv 1)))) (λ_ _ _=>(cv 0))))),?_⟩;show tComp _ _ _ _ _ [oR g,oT kd] H Q;refine gZ (d:=rq) (xs:=rRefs us) (rest:=[oT kd]) (aP (ae rfl) fl) (aR.of hrq) (by rw[VN,RW];lia) rfl (Qa us kd) (λv=>v) (λx hx=>?_) (λx hx _=>ae rfl) (λd hd=>?_)
 .obtain⟨z,hz,rfl⟩:=VP.mp hx;rw[BB R hz];exact bb (gO (a8 (x:=.str z.1.kd) (ae rfl) ao (.inr (.inl (.inl (R z hz)))) rfl) (ae rfl))
 .rw[v7 R,List.map_id'']
  .exact k d _ hd ag ((aj.refl H).upd hd)
  .exact λ_=>rfl
def Bl{f cB cG:Zo}{fd:R7}(F:cy K "goals" "goals" ko f fd)(T:Txt mg aS aA aE aW)(D:uU K cG)(C:CRg P w K mg Rw cB cG):aY P w K mg Rw cY 5 f fd ["game","row","square"] (qB K cB cG):=by
 refine F.ok2 nc ?_;rintro _ _ _ _ H _ Q _ hr hu ⟨g,b,row,kd,sq,sd,wi,hi,hs,ks,ts,es,st,us,rfl,G,B,U,u12,un0,R,rl,s0,s1,hsd,sd2,hkd,few,k⟩;have r64:=R.len;obtain⟨x1,x2⟩:=R.at s0 (by lia);have ol:(ofKind us kd).length<=12:=XG (Wp _ _) u12;have osub:∀z∈ofKind us kd,z∈us:=λz hz=>(Wg.mp hz).1;refine⟨_,(af (aw 3 nc.nd (bh pan))
  (af (jj SW rfl (sw K (nN C.Game_rules_of hr (cv 0) (az (aG C.kind_of hr (az (c7 K (cv 1) (cv 2)) pan)) pan))) (dz 4 nc.nd) (am (cS (Cm (cv 3) (aG C.by_rule hr (az (bN K (cv 0)) (az (cv 1) (az (cv 2) (az (cv 4) pan)))))))))
  (am (aF (kB (K7 P w hr) qd T.sorted (az (uo (OP P w K hr) rX T.set (az (cv 3) pan)) pan)))))),?_⟩
 show bn _ _ _ [oR g,oT row,oJ sq,none,none] H;refine jX λq hq=>?_;have sm:aj H (upd H q (.lst [])):=(aj.refl H).upd hq;refine bV (λσ' H'=>(∃o,σ'=[oR g,oT row,oJ sq,oR q,o])/\(∃l,a9 wi hi hs row sq sd (ofKind us kd) l/\cX H H' q l)/\aj H H') (λK' hK=>?_) ?_
 .refine iz (λv H'=>∃d,v=.ref d/\H' d=some (.lst (rRefs (ofKind us kd)))/\d≠q/\aj (upd H q (.lst [])) H') (λQ z=>?_) ?_
  .refine(show Ev (cL 0) _ _ (.ref g)from ae rfl) _ ⟨(G.same sm).no,PF ((aa (iM (ae rfl) (ae rfl) (by rw[RW];lia) x1) ay) _ ⟨_,rfl,x2,λH2 s2=>?_⟩)⟩;rw[hkd];refine⟨g,b,kd,ks,ts,es,st,us,rfl,(G.same sm).same s2,(U.same sm).same s2,by lia,λd H' d1 d2 d3=>z _ _ ⟨d,rfl,d2,λe=>?_,s2.trans d3⟩⟩;rw[e,s2 _ _ ag]at d1;cases d1
  .rintro _ H1 ⟨d,rfl,hd,ndq,s1'⟩;refine⟨d,rRefs (ofKind us kd),rfl,aR.of hd,λi σ' H'=>(∃o,σ'=[oR g,oT row,oJ sq,oR q,o])/\(∃l,a9 wi hi hs row sq sd ((ofKind us kd).take i) l/\cX H H' q l)/\aj H H'/\H' d=some (.lst (rRefs (ofKind us kd))),⟨⟨_,rfl⟩,⟨[],.nil,[],rfl,s1' _ _ ag,λ_ z=>nomatch z⟩,sm.trans s1',hd⟩,?_,?_,?_⟩
   .rintro i σ' H' _ ⟨_,_,_,h⟩;exact aR.of h
   .rintro i x _ H2 hx ⟨⟨o,rfl⟩,⟨l,hl,ps,p1,p2,p3⟩,s2,hd2⟩;have hi':i<(ofKind us kd).length:=by
     have:=(V5.mp hx).1
     rwa[VN]at this
    obtain rfl:x=.ref (ofKind us kd)[i].2:=by rw[VT,VQ hi']at hx;exact(RH hx).symm
    have tk:(ofKind us kd).take (i+1)=(ofKind us kd).take i++[(ofKind us kd)[i]]:=by rw[Xl hi']
    have hz:=osub _ (V7 hi');generalize(ofKind us kd)[i]=zz at tk hz;have ll:=hl.len;rw[V8]at ll;show jP _ _ [oR g,oT row,oJ sq,oR q,oR zz.2] H2;refine JJ (ae rfl) p2 ((aa (aP (ae rfl) ((G.same s2).board D)) (aa (ae rfl) (aa (ae rfl) (aa (ae rfl) ay)))) _ ⟨b,zz.2,row,sq,sd,wi,hi,hs,zz.1,rfl,B.same s2,.inl (.inl ((U.same s2) zz hz)),R,rl,s0,s1,hsd,sd2,un0 zz hz,λn t H3 ry n8 ht hP s3=>?_⟩);obtain⟨ps2,g1,g2,g3⟩:=hP;have lr:jx wi hi hs row sq sd zz.1 (wF row sd zz.1.so zz.1.ai (fG wi sq zz.1.ax (zz.1.dy sd) n)):=⟨n,ry,n8,rfl⟩;have lr8:=lr.len;have z1:=RI List.length p1;have z2:=RI List.length g1;rw[VN,VN]at z1 z2;refine⟨t,_,_,rfl,s3 _ _ p2,g2,by rw[VN,VN,RW];lia,⟨_,rfl⟩,⟨_,?_,cX.cat p1 (s3 _ _ p2) (λp hp=>⟨(p3 p hp).1,s3 _ _ (p3 p hp).2⟩) s2 g1 g3⟩,(s2.trans s3).put hq,?_⟩
    .rw[tk];exact a9.add lr hl
    .rw[aq ndq];exact s3 _ _ hd2
   .rintro σ' H' ⟨o,⟨l,hl,hP⟩,s2,_⟩;rw[VN,Ww]at hl;exact hK _ _ ⟨o,⟨l,hl,hP⟩,s2⟩
 .rintro _ H1 ⟨⟨o,rfl⟩,⟨l,hl,ps,p1,p2,p3⟩,s2⟩;have ll:=hl.len;have z1:=RI List.length p1;rw[VN,VN]at z1;refine vi ((ae rfl) _ (vk (aR.of p2) (λp hp=>⟨?_,(p3 p hp).2⟩) (by lia) (λL nd mem=>?_) λps' q' H' sub mem pw hq' s3 hq2=>?_))
  .have:p.1∈l.map pk:=by rw[<-p1];exact VP.mpr ⟨p,hp,rfl⟩
   obtain⟨x,_,e⟩:=VP.mp this;rw[<-e];exact λz=>nomatch z
  .obtain⟨m,rfl,hm⟩:=J0 (l:=l) λk hk=>by rw[<-p1];exact(mem k).mp hk
   rw[VN];refine few l hl m ?_ hm;rw[WN,Wl]at nd;exact nd.imp λz e=>z (by rw[e])
  .obtain⟨l',e,hm⟩:=J0 (l:=l) (L:=ps'.map (·.1)) λk hk=>by rw[<-p1];exact(mem k).mp hk
   refine k l l' q' H' hl ⟨λx=>⟨hm x,λhx=>?_⟩,?_⟩ (s2.free hq') ⟨ps',e,hq2,λp hp=>⟨(p3 p (sub p hp)).1,s3 _ _ (p3 p (sub p hp)).2⟩⟩ (s2.trans s3)
   .have:pk x∈ps'.map (·.1):=(mem _).mpr (by rw[p1];exact VP.mpr ⟨x,hx,rfl⟩);rw[e]at this;obtain⟨y,hy,ey⟩:=VP.mp this;exact KA ey▸hy
   .have z:(ps'.map (·.1)).Pairwise λx y=>fJ x y=true:=Wl.mpr pw;rw[e]at z;exact Wl.mp z
end
section
def vJ(F:cy K "sign_of" "sign_of" ia f fd)(T:Txt mg aS aA aE aW):aY P w K mg Rw cY 1 f fd ["kind","side"] mS:=by
 refine F.ok2 vo ?_;rintro _ _ _ _ H _ Q _ hr hu ⟨c,sd,rfl,hc,q⟩;refine⟨_,(am (aF (cK (aX K hu (cv 1) ah) (rP PySem.F.slot_str_upper PySem.F.type_str_upper Bq (cv 0)) (cv 0)))),?_⟩;show cD _ _ [oT (one c),oJ sd] H;refine aL (lR (bb (eV (ae rfl) ao)) (λ_=>JK (ae rfl) hc) (λ_=>ae rfl)) ?_
 by_cases h:sd=0
 .rw[Ry h];rw[RC h]at q;exact q
 .rw[RA h];rw[RB h]at q;exact q
def oG(F:cy K "squares_of" "squares_of" dg f fd)(T:Txt mg aS aA aE aW)(C:CP1 P w K mg Rw):aY P w K mg Rw cY 2 f fd ["row","side"] pe:=by
 refine F.ok2 oC ?_;rintro _ _ _ s H _ Q _ hr hu ⟨row,sd,rfl,hz,ha,q⟩;refine⟨_,(am (aF (fK (dc (N:=["square","sign","side"]) (src:=[none,none,some 1]) (ak dg) ["row","side"]) (JD K T.enumerate (cv 0)) (λ_ _ _=>(P9 K (n:=2) (fH (bA (i:=0) ["square","sign","side"]) (fH (bA (i:=1) ["square","sign","side"]) mB)))) (λ_ _ _=>(ny (aX K hu (aG C.side_of hr (az (cv 1) pan)) (cv 2)))) (λ_ _ _=>(cv 0))))),?_⟩;show tComp _ _ _ _ _ [oT row,oJ sd] H Q;refine Ch (z:=row) (rest:=[oJ sd]) (ae rfl) (by lia) rfl (λi c=>decide (di c=.int sd)) (λi c=>.int (i:Int)) (λi c H' hc s R r=>?_) (λi c H' hc hp s=>ae rfl) (λH' d s hd=>?_)
 .refine B4 (aa (ae rfl) ay) ⟨c,rfl,ha c (Wa hc),λH2 s2=>kX (v:=.int sd) (ae rfl) ?_⟩;rw[Dp];exact r H2 s2
 .have e:Ei row.cps.toList (λi c=>decide (di c=.int sd)) (λi c=>.int (i:Int)) row.length=(sqsOf row sd).map V.int:=by unfold Ei sqsOf;rw[V0];rfl
  rw[e];exact q d _ (s.free hd) ag (s.upd hd)
def Bk{f cB cG:Zo}{fd:R7}(F:cy K "moves" "moves" jD f fd)(T:Txt mg aS aA aE aW)(C:CMv P w K mg Rw cB cG):aY P w K mg Rw cY 6 f fd ["game","place"] (qz K cB cG):=by
 refine F.ok2 kh ?_;rintro _ _ _ _ H _ Q _ hr hu ⟨g,b,kq,p,row,sd,wi,hi,hs,ks,us,ts,es,st,rfl,G,hp,R,rl,k⟩;have r64:=R.len;refine⟨_,(af (aw 2 kh.nd (c7 K (cv 1) ah))
  (af (aw 3 kh.nd (bh pan))
  (af (jj SW rfl (sw K (aG C.squares_of hr (az (cv 2) (az (c7 K (cv 1) ah) pan)))) (dz 4 kh.nd) (am (cS (Cm (cv 3) (fK (dc (N:=["pair","start"]) (src:=[none,some 4]) (ak jD) ["game","place","row","found","start"]) (sw K (aG C.goals hr (az (cv 0) (az (cv 2) (az (cv 4) pan))))) (λ_ _ _=>(bA (i:=0) ["pair","start"])) (λ_ _ _=>bZ) (λ_ _ _=>(bD (az (cv 1) (az (c7 K (cv 0) ah) (az (c7 K (cv 0) ah) pan))))))))))
  (am (aF (cv 3)))))),?_⟩
 show bn _ _ _ [oR g,oR p,none,none,none] H;refine aO (a8 (x:=.str row) (ae rfl) ao (.inr hp) rfl) ?_;refine jX λq hq=>?_;have sm:aj H (upd H q (.lst [])):=(aj.refl H).upd hq;show bn _ _ _ [oR g,oR p,oT row,oR q,none] _;refine bV (λσ' H'=>(∃o,σ'=[oR g,oR p,oT row,oR q,o])/\(∃m,mJ wi hi hs row us sd (sqsOf row sd) m/\m.length<=4096/\yt H H' q m)/\aj H H') (λK' hK=>?_) ?_
 .refine iz (λv H'=>∃d,v=.ref d/\H' d=some (.lst ((sqsOf row sd).map V.int))/\d≠q/\aj (upd H q (.lst [])) H') (λQ z=>?_) ?_
  .refine cu (aa (ae rfl) (aa (a8 (x:=.int sd) (ae rfl) ao (.inr (sm.tupY hp)) rfl) ay)) ⟨row,sd,rfl,by lia,R.asc,λd H' d1 d2 d3=>z _ _ ⟨d,rfl,d2,λe=>?_,d3⟩⟩;rw[e,ag]at d1;cases d1
  .rintro _ H1 ⟨d,rfl,hd,ndq,s1'⟩;refine⟨d,(sqsOf row sd).map V.int,rfl,aR.of hd,λi σ' H'=>(∃o,σ'=[oR g,oR p,oT row,oR q,o])/\(∃m,mJ wi hi hs row us sd ((sqsOf row sd).take i) m/\m.length<=64*i/\yt H H' q m)/\aj H H'/\H' d=some (.lst ((sqsOf row sd).map V.int)),⟨⟨_,rfl⟩,⟨[],.nil,XF _,[],rfl,s1' _ _ ag,λ_ z=>nomatch z⟩,sm.trans s1',hd⟩,?_,?_,?_⟩
   .rintro i σ' H' _ ⟨_,_,_,h⟩;exact aR.of h
   .rintro i x _ H2 hx ⟨⟨o,rfl⟩,⟨m,hm,ml,ps,p1,p2,p3⟩,s2,hd2⟩;have hi':i<(sqsOf row sd).length:=by
     have:=(V5.mp hx).1
     rwa[VN]at this
    obtain rfl:x=.int (sqsOf row sd)[i]:=by rw[VT,VQ hi']at hx;exact(RH hx).symm
    have tk:(sqsOf row sd).take (i+1)=(sqsOf row sd).take i++[(sqsOf row sd)[i]]:=by rw[Xl hi']
    obtain⟨z0,z1,z2⟩:=jB (V7 hi');have i64:i<64:=XH hi' (XG pd r64);generalize(sqsOf row sd)[i]=sq at tk z0 z1 z2;show jP _ _ [oR g,oR p,oT row,oR q,oJ sq] H2;refine JJ (ae rfl) p2 (ym (aa (ae rfl) (aa (ae rfl) (aa (ae rfl) ay))) (D6 (G.same s2) R rl z0 z1 z2 λl' t H3 hg l64 ht hP s3=>?_).1);obtain⟨ps2,g1,g2,g3⟩:=hP;refine⟨t,rfl,⟨_,aR.of g2⟩,C8 s3 g1 g2 (λp hp=>(g3 p hp).2) l64 rfl (λa x y H' Q' ha q'=>J4 (ae rfl) (a8 (x:=.int x) (ae rfl) ao (.inr (dF.of ha)) rfl) (a8 (x:=.int y) (ae rfl) ao (.inr (dF.of ha)) rfl) q') (λd' H4 ps3 s4 hd' e1 e2=>?_)⟩;have sF:aj H2 (upd H4 d' (.lst (jT ps3))):=(s3.trans s4).upd hd';have y1:=RI List.length p1;have y2:=RI List.length e1;rw[VN]at y1;rw[VN,VN]at y2;refine⟨d',_,_,rfl,sF _ _ p2,ag,by rw[VN,VN,RW];lia,⟨_,rfl⟩,⟨_,?_,?_,Dd p1 (λxs w=>by rw[sF _ _ p2]at w;cases w) (λp hp=>⟨(p3 p hp).1,sF _ _ (p3 p hp).2⟩) s2 e1 (λp hp=>⟨(e2 p hp).1,?_⟩)⟩,(s2.trans sF).put hq,?_⟩
    .rw[tk];exact mJ.add hg hm
    .rw[VV,VN];lia
    .rw[aq (aB (e2 p hp).2 hd')];exact(e2 p hp).2
    .rw[aq ndq];exact sF _ _ hd2
   .rintro σ' H' ⟨o,⟨m,hm,ml,hT⟩,s2,_⟩;rw[VN,Ww]at hm;rw[VN]at ml;have:=pd (row:=row) (sd:=sd);exact hK _ _ ⟨o,⟨m,hm,by lia,hT⟩,s2⟩
 .rintro _ H1 ⟨⟨o,rfl⟩,⟨m,hm,ml,hT⟩,s2⟩;exact aL (ae rfl) (k m q H1 hm ml hq hT s2)
end
section
def tV(F:cy K "has_kind" "has_kind" gC f fd)(T:Txt mg aS aA aE aW)(C:CE1 P w K mg Rw):aY P w K mg Rw cY 2 f fd ["row","kind","side"] vh:=by refine F.ok2 tH ?_;rintro _ _ _ _ H _ Q _ hr hu ⟨z,c,sd,rfl,hc,q⟩;refine⟨_,(am (aF (iK K hu (aG C.sign_of hr (az (cv 1) (az (cv 2) pan))) (cv 0)))),?_⟩;show cD _ _ [oT z,oT (one c),oJ sd] H;exact aL (Lu (c:=P3 c sd) (aK (aa (ae rfl) (aa (ae rfl) ay)) (λQ q=>⟨c,sd,rfl,hc,q⟩)) (ae rfl)) q
def lv{f cB:Zo}{fd:R7}(F:cy K "far_row" "Board.far_row" cJ f fd)(T:Txt mg aS aA aE aW)(B:jN K cB):aY P w K mg Rw cY 1 f fd ["self","side"] (AV K cB):=by
 refine F.ok2 lj ?_;rintro _ _ _ _ H _ Q _ hr hu ⟨p,wi,hi,hs,sd,rfl,O,q⟩;refine⟨_,(am (aF (cK (aX K hu (cv 1) ah) (ar (bN K (cv 0)) ah) ah))),?_⟩;show cD _ _ [oR p,oJ sd] H;refine aL (lR (bb (eV (ae rfl) ao)) (λ_=>gN (aP (ae rfl) (O.high B)) ao) (λ_=>ao)) ?_;unfold me at q
 by_cases h:sd=0
 .rw[Ry h];rw[RC h]at q;exact q
 .rw[RA h];rw[RB h]at q;exact q
def vQ{f cB:Zo}{fd:R7}(F:cy K "is_home" "is_home" ik f fd)(T:Txt mg aS aA aE aW)(B:jN K cB)(C:CE2 P w K mg Rw cB):aY P w K mg Rw cY 3 f fd ["board","row","kind","side"] (AS K cB):=by
 refine F.ok2 na ?_;rintro _ _ _ _ H _ Q _ hr hu ⟨b,row,c,sd,wi,hi,hs,rfl,O,hc,rl,q⟩;have w1:=O.w1;have w8:=O.w8;have h1:=O.h1;have h8:=O.h8;have fb:0<=me hi sd/\me hi sd<=8:=by unfold me;split<;>lia
 refine⟨_,(af (aw 4 na.nd (ar (nN C.Board_far_row hr (cv 0) (az (cv 3) pan)) (bN K (cv 0))))
  (am (aF (aG C.has_kind hr (az (xO K (cv 1) (cq (cv 4)) (cq (ar (cv 4) (bN K (cv 0))))) (az (cv 2) (az (cv 3) pan))))))),?_⟩
 show bn _ _ _ [oR b,oT row,oT (one c),oJ sd,none] H;refine aO (cr (i:=me hi sd) (j:=wi) (kO (ae rfl) O.no (aa (ae rfl) ay) (λQ q=>⟨b,wi,hi,hs,sd,rfl,O,q⟩)) (aP (ae rfl) (O.wide B)) (.inr ⟨by lia,by lia⟩)) ?_;exact aL (aK (aa (pY (ae rfl) (iu (ae rfl)) (iu (cj (ae rfl) (aP (ae rfl) (O.wide B)))) (by rw[RW];lia)) (aa (ae rfl) (aa (ae rfl) ay))) (λQ q=>⟨_,c,sd,rfl,hc,q⟩)) q
def zu{f cB:Zo}{fd:R7}(F:cy K "by_end" "by_end" jg f fd)(T:Txt mg aS aA aE aW)(C:CE3 P w K mg Rw cB):aY P w K mg Rw cY 4 f fd ["board","place","end"] (xn K cB):=by
 refine F.ok2 dG ?_;rintro _ _ _ _ H _ Q _ hr hu ⟨b,p,e,row,en,c,sd,wi,hi,hs,rfl,O,hp,he,hc,rl,q⟩;refine⟨_,(af (aw 3 dG.nd (c7 K (cv 1) ah))
  (af (aw 4 dG.nd (c7 K (cv 1) ah))
  (af (aw 5 dG.nd (c7 K (cv 2) ah))
  (af (aZ (aX K hu (c7 K (cv 2) ah) aU) (af (aw 6 dG.nd (wx (aG C.has_kind hr (az (cv 3) (az (cv 5) (az (cv 4) pan))))))
  (am (aw 7 dG.nd (wx (aG C.has_kind hr (az (cv 3) (az (cv 5) (az (ar ah (cv 4)) pan)))))))) (af (aw 6 dG.nd (aG C.is_home hr (az (cv 0) (az (cv 3) (az (cv 5) (az (ar ah (cv 4)) pan))))))
  (am (aw 7 dG.nd (aG C.is_home hr (az (cv 0) (az (cv 3) (az (cv 5) (az (cv 4) pan)))))))))
  (af (aZ (bq (cv 6)) (am (aF aU)) aH)
  (am (aF (cK (bq (cv 7)) aU dj)))))))),?_⟩
 show bn _ _ _ [oR b,oR p,oR e,none,none,none,none,none] H;refine aO (a8 (x:=.str row) (ae rfl) ao (.inr hp) rfl) ?_;refine aO (a8 (x:=.int sd) (ae rfl) ao (.inr hp) rfl) ?_;refine aO (a8 (x:=.str (one c)) (ae rfl) ao (.inr he) rfl) ?_;refine kc (λσ' H'=>H'=H/\σ'=[oR b,oR p,oR e,oT row,oJ sd,oT (one c),some (.bl (xJ row wi hi sd en c)),some (.bl (C3 row wi hi sd en c))]) ?_ (λgo=>?_)
 rotate_left
 .show bn _ _ _ [oR b,oR p,oR e,oT row,oJ sd,oT (one c),none,none] H;refine Kl (bb (gO (a8 (x:=.str en) (ae rfl) ao (.inr he) rfl) ao)) (λh=>?_) (λh=>?_)
  .have h:=RD h;refine aO (wj (aK (x:=.bl (kL row c sd)) (aa (ae rfl) (aa (ae rfl) (aa (ae rfl) ay))) (λQ q=>⟨row,c,sd,rfl,hc,q⟩))) (cR (wj (aK (x:=.bl (kL row c (1 - sd))) (aa (ae rfl) (aa (ae rfl) (aa (gN ao (ae rfl)) ay))) (λQ q=>⟨row,c,1 - sd,rfl,hc,q⟩))) ?_);refine go [oR b,oR p,oR e,oT row,oJ sd,oT (one c),some (.bl (!kL row c sd)),some (.bl (!kL row c (1 - sd)))] H ⟨rfl,?_⟩;unfold xJ C3;rw[RC h,RC h]
  .have h:=RE h;refine aO (aK (x:=.bl (kL (wg row wi hi (1 - sd)) c (1 - sd))) (aa (ae rfl) (aa (ae rfl) (aa (ae rfl) (aa (gN ao (ae rfl)) ay)))) (λQ q=>⟨b,row,c,1 - sd,wi,hi,hs,rfl,O,hc,rl,q⟩)) (cR (aK (x:=.bl (kL (wg row wi hi sd) c sd)) (aa (ae rfl) (aa (ae rfl) (aa (ae rfl) (aa (ae rfl) ay)))) (λQ q=>⟨b,row,c,sd,wi,hi,hs,rfl,O,hc,rl,q⟩)) ?_);refine go [oR b,oR p,oR e,oT row,oJ sd,oT (one c),some (.bl (kL (wg row wi hi (1 - sd)) c (1 - sd))),some (.bl (kL (wg row wi hi sd) c sd))] H ⟨rfl,?_⟩;unfold xJ C3;rw[RB h,RB h]
 rintro _ _ ⟨rfl,rfl⟩;unfold Eg at q;refine bB (bb (ae rfl)) (λh=>?_) (λh=>?_)
 .rw[RC h]at q;exact aL ao q
 .rw[RB (by rw[h];decide)]at q;exact aL (lR (bb (ae rfl)) (λ_=>ao) (λ_=>ao)) q
def vT{f cB cG:Zo}{fd:R7}(F:cy K "by_ends" "by_ends" io f fd)(T:Txt mg aS aA aE aW)(D:uU K cG)(C:CE4 P w K mg Rw cB):aY P w K mg Rw cY 5 f fd ["game","place"] (mV K cB cG):=by
 refine F.ok2 j0 ?_;rintro _ _ _ _ H _ Q _ hr hu ⟨g,b,kq,p,row,sd,wi,hi,hs,ks,us,ts,es,st,rfl,G,hp,rl,k⟩;obtain⟨qe,fe,he⟩:=G.gm.ends D;refine⟨_,(af (jj SW rfl (sw K (bN K (cv 0))) (dz 2 j0.nd) (af (aw 3 j0.nd (aG C.by_end hr (az (bN K (cv 0)) (az (cv 1) (az (cv 2) pan)))))
  (am (aZ (aX K hu (cv 3) dj) (am (aF (cv 3))) aH))))
  (am (aF dj))),?_⟩
 show bn _ _ _ [oR g,oR p,none,none] H;refine bV (λσ' H'=>H=H'/\cO (uV row wi hi sd es)=.non/\∃o1 o2,σ'=[oR g,oR p,o1,o2]) (λK' hK=>?_) ?_
 .refine iz (λv H'=>v=.ref qe/\H=H') (λQ z=>(aP (ae rfl) fe) _ (z _ _ ⟨rfl,rfl⟩)) ?_;rintro _ _ ⟨rfl,rfl⟩;refine⟨qe,cA es,rfl,aR.of he,λi σ' H'=>H=H'/\(∀z∈es.take i,og row wi hi sd z=.non)/\∃o1 o2,σ'=[oR g,oR p,o1,o2],⟨rfl,λ_ z=>(nomatch z),_,_,rfl⟩,?_,?_,?_⟩
  .rintro i σ' H' _ ⟨rfl,_⟩;exact aR.of he
  .rintro i x _ _ hx ⟨rfl,hn,o1,o2,rfl⟩;have hi':i<es.length:=by
    have:=(V5.mp hx).1
    rwa[VN]at this
   obtain rfl:x=.ref es[i].2:=by rw[VT,VQ hi']at hx;exact(RH hx).symm
   have tk:es.take (i+1)=es.take i++[es[i]]:=by rw[Xl hi']
   have dr:es=es.take i++es[i]::es.drop (i+1):=by rw[<-WK hi',W2]
   have hm:=V7 hi';generalize es[i]=z at tk dr hm;obtain⟨_,c,hc,ec⟩:=G.eg z hm;have ht:=G.et z hm;rw[ec]at ht;have ez:og row wi hi sd z=Eg row wi hi sd z.1.1 c:=by unfold og;rw[ec];rfl
   show bn _ _ _ [oR g,oR p,oR z.2,o2] H;refine aO (aK (x:=og row wi hi sd z) (aa (aP (ae rfl) (G.gm.board D)) (aa (ae rfl) (aa (ae rfl) ay))) (λQ q=>⟨b,p,z.2,row,z.1.1,c,sd,wi,hi,hs,rfl,G.bd,hp,dF.of ht,G.ltr c hc,rl,by rw[<-ez];exact q⟩)) ?_;have ff:og row wi hi sd z≠.non->cO (uV row wi hi sd es)=og row wi hi sd z:=λhne=>by
    unfold uV;rw[dr,VZ,jp]
    .show(if og row wi hi sd z=.non then _ else og row wi hi sd z)=_;rw[RB hne]
    .intro w hw;obtain⟨y,hy,rfl⟩:=VP.mp hw;exact hn y hy
   refine de (bb (ya (ae rfl) ao)) (λh=>?_) (λh=>?_)
   .have hne:¬og row wi hi sd z=.non:=RE (by rw[<-Yi];exact h);refine aL (ae rfl) ?_;rw[ff hne]at k;exact k
   .have hnn:og row wi hi sd z=.non:=RD (by rw[Yl]at h;exact h);refine⟨rfl,λy hy=>?_,_,_,rfl⟩;rw[tk]at hy
    rcases VY.mp hy with w|w
    .exact hn y w
    .rw[VR.mp w];exact hnn
  .rintro σ' H' ⟨rfl,hn,o⟩;rw[VN,Ww]at hn;refine hK _ _ ⟨rfl,?_,o⟩;have z:=jp (a:=uV row wi hi sd es) (b:=[]) λw hw=>by obtain⟨y,hy,rfl⟩:=VP.mp hw;exact hn y hy
   rw[V9]at z;exact z
 .rintro _ _ ⟨rfl,hn,o1,o2,rfl⟩;rw[hn]at k;exact aL ao k
def zt{f cB cG:Zo}{fd:R7}(F:cy K "ending" "ending" jf f fd)(T:Txt mg aS aA aE aW)(D:uU K cG)(C:CE5 P w K mg Rw cB cG):aY P w K mg Rw cY 7 f fd ["game","place"] (sZ K cB cG):=by
 refine F.ok2 pr ?_;rintro _ _ _ s H _ Q _ hr hu ⟨g,b,kq,p,row,sd,wi,hi,hs,ks,us,ts,es,st,rfl,G,hp,R,rl,sd2,k⟩;refine⟨_,(af (aw 2 pr.nd (aG C.by_ends hr (az (cv 0) (az (cv 1) pan))))
  (af (aZ (PW.pt (iG (aX K hu (cv 2) dj) (gb (bM (ON K (aG C.moves hr (az (cv 0) (az (cv 1) pan)))))))) (am (aF (bN K (cv 0)))) aH)
  (am (aF (cv 2))))),?_⟩
 show bn _ _ _ [oR g,oR p,none] H;refine aO (aK (x:=cO (uV row wi hi sd es)) (aa (ae rfl) (aa (ae rfl) ay)) (λQ q=>⟨g,b,kq,p,row,sd,wi,hi,hs,ks,us,ts,es,st,rfl,G,hp,R.len,q⟩)) ?_;show bn _ _ _ [oR g,oR p,some (cO (uV row wi hi sd es))] H
 by_cases e:cO (uV row wi hi sd es)=.non
 .refine c8 (λt H'=>(∃m:List (List Int),mJ wi hi hs row us sd (sqsOf row sd) m/\t=decide (m=[]))/\aj H H') (λR' z=>AC ((bb (B2 (ae rfl) ao)) _ (OT (Ry e) (Kb (Ja (cu (aa (ae rfl) (aa (ae rfl) ay)) ⟨g,b,kq,p,row,sd,wi,hi,hs,ks,us,ts,es,st,rfl,G,hp,R,rl,λm q H' hm ml hq hT s=>?_⟩)))))) (λH' h=>?_) (λH' h=>?_)
  .obtain⟨ps,p1,p2,p3⟩:=hT;refine⟨_,.inl ⟨_,aR.of p2,rfl⟩,z _ _ ⟨⟨m,hm,?_⟩,s⟩⟩;rw[<-p1];cases ps<;>rfl
  .obtain⟨⟨m,hm,hb⟩,s⟩:=h;refine aL (aP (ae rfl) ((G.same s).gm.stuck D)) (k _ _ ⟨λz=>RF e z,λ_=>⟨m,hm,?_⟩⟩ s);rw[RC (RD hb.symm)]
  .obtain⟨⟨m,hm,hb⟩,s⟩:=h;refine aL (ae rfl) (k _ _ ⟨λz=>RF e z,λ_=>⟨m,hm,?_⟩⟩ s);rw[RB (RE hb.symm)];exact e
 .refine c8 (λt H'=>t=false/\H'=H) (λR' z=>AC ((bb (B2 (ae rfl) ao)) _ (OU (RA e) (z _ _ ⟨rfl,rfl⟩)))) (λH' h=>nomatch h.1) (λH' h=>?_);obtain⟨_,rfl⟩:=h;exact aL (ae rfl) (k _ _ ⟨λ_=>rfl,λz=>RF z e⟩ (aj.refl _))
end
section
def KS(F:cy K "put" "put" tJ f fd)(T:Txt mg aS aA aE aW):aY P w K mg Rw cY 1 f fd ["row","square","sign"] Jf:=by
 refine F.ok2 Ks ?_;rintro _ _ _ _ H _ Q _ hr hu ⟨row,sq,c,rfl,s0,hz,q⟩;have z1:row.length<=v1:=XG hz (by decide);have l1:=iC row none (some sq);have l2:=iC row (some (sq+1)) none;have l3:(iO row none (some sq)++one c).length=(iO row none (some sq)).length+1:=by rw[bP,j9,VV,<-bP];rfl
 refine⟨_,(am (aF (ar (ar (xO K (cv 0) dB (cq (cv 1))) (cv 2)) (xO K (cv 0) (cq (ar (cv 1) ah)) dB)))),?_⟩;show cD _ _ [oT row,oJ sq,oT (one c)] H;refine aL (gX (gX (pY (ae rfl) kE (iu (ae rfl)) z1) (ae rfl) ?_) (pY (ae rfl) (iu (cj (ae rfl) ao)) kE z1) ?_) q
 .show _+1<=v1;rw[RW];lia
 .rw[l3,RW];lia
def nB(F:cy K "turned" "Game.turned" du f fd)(T:Txt mg aS aA aE aW)(D:uU K cG):aY P w K mg Rw cY 1 f fd ["self","kind"] (sT cG):=by refine F.ok2 nj ?_;rintro _ _ _ s H _ Q _ hr hu ⟨g,b,kd,ks,rs,es,ts,st,rfl,G,hp,h6,k⟩;obtain⟨qt,ft,ht⟩:=G.turns D;refine⟨_,(am (aF (OQ K (uo (Lf K hr) Eu T.dict (az (bN K (cv 0)) pan)) (az (cv 1) (az (cv 1) pan))))),?_⟩;show cD _ _ [oR g,oT kd] H;exact fS (Ly (aP (ae rfl) ft) (aR.of ht) hp (by lia) (λH' s=>aa (ae rfl) (aa (ae rfl) ay)) k)
def vU{f cB cG:Zo}{fd:R7}(F:cy K "arrived" "arrived" ip f fd)(T:Txt mg aS aA aE aW)(B:jN K cB)(D:uU K cG)(C:CD1 P w K mg Rw cB cG):aY P w K mg Rw cY 2 f fd ["game","sign","side","goal"] (Jk K cB cG):=by
 refine F.ok2 vx ?_;rintro _ _ _ _ H _ Q _ hr hu ⟨g,b,kq,c,sd,gl,wi,hi,hs,ks,us,ts,es,st,rfl,G,hc,k⟩;have w1:=G.bd.w1;have w8:=G.bd.w8;obtain⟨lk,c128,cn⟩:=pM G.ltr hc;refine⟨_,(af (aZ (aX K hu (aG C.row_of hr (az (bN K (bN K (cv 0))) (az (cv 3) pan))) (nN C.Board_far_row hr (bN K (cv 0)) (az (cv 2) pan))) (am (aF (cv 1))) aH)
  (am (aF (aG C.sign_of hr (az (nN C.Game_turned hr (cv 0) (az (aG C.kind_of hr (az (cv 1) pan)) pan)) (az (cv 2) pan)))))),?_⟩
 show bn _ _ _ [oR g,oT (one c),oJ sd,oJ gl] H;have fb:=G.gm.board D;unfold se at k;refine bB (bb (pZ (aK (x:=.int (gl / wi)) (aa (aP (aP (ae rfl) fb) (G.bd.wide B)) (aa (ae rfl) ay)) (λQ q=>⟨wi,gl,rfl,by lia,by lia,q⟩)) (kO (x:=.int (me hi sd)) (aP (ae rfl) fb) G.bd.no (aa (ae rfl) ay) (λQ q=>⟨b,wi,hi,hs,sd,rfl,G.bd,q⟩)))) (λh=>?_) (λh=>?_)
 .have h:¬gl / wi=me hi sd:=RE (by rw[<-Yi];exact h);rw[RB h]at k;exact aL (ae rfl) (k _ (aj.refl H))
 .have h:gl / wi=me hi sd:=RD (by rw[Yl]at h;exact h);rw[RC h]at k;obtain⟨c',hc',et⟩:=wU G.tg lk;rw[et]at k;have ek:lP c=.str (one (PyProof.Rows.lo1 c)):=by unfold lP;rw[RB cn]
  refine fS (LF (cf (DS (ae rfl) G.gm.no (cf (cu (aa (ae rfl) ay) ⟨c,rfl,c128,λH1 s1=>?_⟩)))));rw[ek];refine cU ⟨g,b,one (PyProof.Rows.lo1 c),ks.map strV,rRefs us,cA es,ts,st,rfl,(G.same s1).gm,(G.same s1).tt,G.tg.len,λH2 s2=>?_⟩;rw[et];exact bI (ae rfl) (cU ⟨c',sd,rfl,G.ltr c' hc',k _ (s1.trans s2)⟩)
def zv{f cB cG:Zo}{fd:R7}(F:cy K "behind" "behind" ji f fd)(T:Txt mg aS aA aE aW)(C:CD2 P w K mg Rw cB cG):aY P w K mg Rw cY 3 f fd ["game","place","move"] (tj K cB cG):=by
 refine F.ok2 dI ?_;rintro _ _ _ s H _ Q _ hr hu ⟨g,b,kq,p,mv,row,sd,s,gl,t,wi,hi,hs,ks,us,ts,es,st,rfl,G,hp,hm,R,s0,s1,hsd,g0,g1,ht,k⟩;have mm:=G.bd.many;have rl:=R.len;have RG:=R.g G.ltr mm.2;have r64:=RG.len;obtain⟨x1,x2⟩:=RG.toRowS.at s0 s1;have cc:row.cps.toList.getD s.toNat 0∈ks\/row.cps.toList.getD s.toNat 0∈ks.map (· - 32):=by
  have hlt:s.toNat<row.cps.toList.length:=by have:row.length=row.cps.toList.length:=rfl;lia
  have e:row.cps.toList[s.toNat]? =some (row.cps.toList.getD s.toNat 0):=by rw[VX,VQ hlt];rfl
  have n:=R.at_ _ _ e;have hsd:di (row.cps.toList.getD s.toNat 0)=.int sd:=hsd
  rcases dE n with⟨_,h⟩|⟨_,h|h⟩
  .rw[h]at hsd;cases hsd
  .rw[h]at hsd;cases hsd
  .exact h
 refine⟨_,(af (aw 3 dI.nd (c7 K (cv 1) ah))
  (af (aw 4 dI.nd (c7 K (cv 2) ah))
  (af (aw 5 dI.nd (c7 K (cv 2) ah))
  (af (aw 6 dI.nd (c7 K (cv 2) ah))
  (af (aw 7 dI.nd (aG C.arrived hr (az (cv 0) (az (c7 K (c7 K (cv 1) ah) (cv 4)) (az (cv 3) (az (cv 5) pan))))))
  (af (aw 8 dI.nd (aG C.put hr (az (c7 K (cv 1) ah) (az (cv 4) (az (kg T.EMPTY) pan)))))
  (af (aZ (aX K hu (cv 6) (kg T.NOTHING)) (am (aw 8 dI.nd (aG C.put hr (az (cv 8) (az (cv 6) (az (kg T.EMPTY) pan)))))) aH)
  (am (aF (bD (az (aG C.put hr (az (cv 8) (az (cv 5) (az (cv 7) pan)))) (az (ar ah (cv 3)) pan)))))))))))),?_⟩
 show bn _ _ _ [oR g,oR p,oR mv,none,none,none,none,none,none] H;refine aO (a8 (x:=.int sd) (ae rfl) ao (.inr hp) rfl) ?_;refine aO (a8 (x:=.int s) (ae rfl) ao (.inr hm) rfl) ?_;refine aO (a8 (x:=.int gl) (ae rfl) ao (.inr hm) rfl) ?_;refine aO (a8 (x:=.int t) (ae rfl) ao (.inr hm) rfl) ?_;refine bH (λv H'=>v=.str (one (se ts wi hi (row.cps.toList.getD s.toNat 0) sd gl))/\aj H H') (λQ q=>?_) ?_
 .exact cu (aa (ae rfl) (aa (iM (a8 (x:=.str row) (ae rfl) ao (.inr hp) rfl) (ae rfl) (by rw[RW];lia) x1) (aa (ae rfl) (aa (ae rfl) ay)))) ⟨g,b,kq,_,sd,gl,wi,hi,hs,ks,us,ts,es,st,rfl,G,cc,λH' s=>q _ _ ⟨rfl,s⟩⟩
 rintro _ H1 ⟨rfl,s1'⟩;refine aO (aK (x:=.str (putT row s (one 46))) (aa (a8 (x:=.str row) (ae rfl) ao (.inr (s1'.tupY hp)) rfl) (aa (ae rfl) (aa (B0 ao) ay))) (λQ q=>⟨row,s,46,rfl,s0,by lia,q⟩)) ?_;have l1:=gG (c:=46) s0 s1;refine kc (λσ' H'=>H'=H1/\σ'=[oR g,oR p,oR mv,oJ sd,oJ s,oJ gl,oJ t,oT (one (se ts wi hi (row.cps.toList.getD s.toNat 0) sd gl)),oT (if t= -1 then putT row s (one 46)else putT (putT row s (one 46)) t (one 46))]) ?_ (λgo=>?_)
 rotate_left
 .refine bB (bb (pZ (ae rfl) ao)) (λh=>?_) (λh=>?_)
  .have h:¬t= -1:=RE (by rw[<-Yi];exact h);refine cR (aK (x:=.str (putT (putT row s (one 46)) t (one 46))) (aa (ae rfl) (aa (ae rfl) (aa (B0 ao) ay))) (λQ q=>⟨_,t,46,rfl,by lia,by rw[l1];lia,q⟩)) ?_;refine go [oR g,oR p,oR mv,oJ sd,oJ s,oJ gl,oJ t,oT (one (se ts wi hi (row.cps.toList.getD s.toNat 0) sd gl)),oT (putT (putT row s (one 46)) t (one 46))] H1 ⟨rfl,?_⟩;rw[RB h]
  .have h:t= -1:=RD (by rw[Yl]at h;exact h);refine go [oR g,oR p,oR mv,oJ sd,oJ s,oJ gl,oJ t,oT (one (se ts wi hi (row.cps.toList.getD s.toNat 0) sd gl)),oT (putT row s (one 46))] H1 ⟨rfl,?_⟩;rw[RC h]
 rintro _ _ ⟨rfl,rfl⟩;have l2:(if t= -1 then putT row s (one 46)else putT (putT row s (one 46)) t (one 46)).length=row.length:=by
  split
  .exact l1
  .rw[gG (by lia) (by rw[l1];lia),l1]
 refine fS (qo (aK (x:=.str (uM ts wi hi row sd s gl t)) (aa (ae rfl) (aa (ae rfl) (aa (ae rfl) ay))) (λQ q=>⟨_,gl,_,rfl,g0,by rw[l2];lia,q⟩)) (gN ao (ae rfl)) λq hq=>k q _ (s1'.free hq) ag (s1'.upd hq))
end
section
def q9{f cB cG:Zo}{fd:R7}(F:cy K "followers" "followers" dJ f fd)(T:Txt mg aS aA aE aW)(C:CD3 P w K mg Rw cB cG):aY P w K mg Rw cY 7 f fd ["game","place"] (AU K cB cG):=by
 refine F.ok2 qJ ?_;rintro _ _ _ s H _ Q _ hr hu ⟨g,b,kq,p,row,sd,wi,hi,hs,ks,us,ts,es,st,rfl,G,hp,R,sd2,k⟩;have mm:=G.bd.many;have rlen:=R.len;have RG:=R.g G.ltr mm.2;have rl:(row.length:Int)=wi*hi:=by rw[rlen];lia
 refine⟨_,(af (aZ (aX K hu (aG C.by_ends hr (az (cv 0) (az (cv 1) pan))) dj) (am (aF (bh pan))) aH)
  (am (aF (fK (dc (N:=["move","game","place"]) (src:=[none,some 0,some 1]) (ak dJ) ["game","place"]) (sw K (aG C.moves hr (az (cv 0) (az (cv 1) pan)))) (λ_ _ _=>(bA (i:=0) ["move","game","place"])) (λ_ _ _=>bZ) (λ_ _ _=>(aG C.behind hr (az (cv 1) (az (cv 2) (az (cv 0) pan))))))))),?_⟩
 show bn _ _ _ [oR g,oR p] H;refine bB (bb (ya (aK (x:=cO (uV row wi hi sd es)) (aa (ae rfl) (aa (ae rfl) ay)) (λQ q=>⟨g,b,kq,p,row,sd,wi,hi,hs,ks,us,ts,es,st,rfl,G,hp,RG.len,q⟩)) ao)) (λh=>?_) (λh=>?_)
 .have hne:¬cO (uV row wi hi sd es)=.non:=RE (by rw[<-Yi];exact h);exact fS (fI (cU ⟨XF _,λq hq=>k [] q _ (.inl ⟨hne,rfl⟩) hq ⟨[],rfl,ag,λ_ z=>nomatch z⟩ ((aj.refl H).upd hq)⟩))
 .have hnn:cO (uV row wi hi sd es)=.non:=RD (by rw[Yl]at h;exact h);refine fS (ym (aa (ae rfl) (aa (ae rfl) ay)) ⟨g,b,kq,p,row,sd,wi,hi,hs,ks,us,ts,es,st,rfl,G,hp,RG,rl,λm q H1 hm ml hq hT s1=>?_⟩);obtain⟨ps,p1,p2,p3⟩:=hT;have y1:=RI List.length p1;rw[VN]at y1;have okm:=hm.ok G.bd.w1 (λs hs=>jB hs);refine⟨q,rfl,⟨_,aR.of p2⟩,sL (rest:=[oR g,oR p]) p2 (by rw[VN,RW];lia) rfl (λj H' v=>∃x t,m[j]? =some x/\v=.ref t/\H t=none/\H' t=some (.tup [.str (EC ts wi hi row sd x).1,.int (EC ts wi hi row sd x).2])) (λi H H' v h s=>?_) (λi x H' hx s' Q' q'=>?_) (λd' H' ys s' hd hl hy=>?_)⟩
  .obtain⟨x,t,a1,a2,a3,a4⟩:=h;exact⟨x,t,a1,a2,a3,s _ _ a4⟩
  .have hi':i<ps.length:=by
    have:=(V5.mp hx).1
    rwa[VN]at this
   rw[VT,VQ hi']at hx;obtain rfl:V.ref ps[i].2=x:=RH hx;have hm':=V7 hi';have mi:m[i]? =some ps[i].1:=by rw[<-p1,VT,VQ hi'];rfl
   generalize ps[i]=z at hm' mi;obtain⟨s,gl,t,ek,ok⟩:=okm z.1 (Wa mi);have ht:=s' _ _ (p3 z hm').2;rw[ek]at ht;have s1':=s1.trans s';refine cu (aa (ae rfl) (aa (ae rfl) (aa (ae rfl) ay))) ⟨g,b,kq,p,z.2,row,sd,s,gl,t,wi,hi,hs,ks,us,ts,es,st,rfl,G.same s1',s1'.tupY hp,dF.of ht,R,ok.s0,ok.s1,ok.sd,ok.g0,by have:=ok.g1;lia,?_,λr H2 hr h2 s2=>q' _ _ ⟨z.1,r,mi,rfl,s1'.free hr,?_⟩ s2⟩
   .rcases ok.tk with e|⟨t0,t1,_⟩
    .exact .inl e
    .exact .inr ⟨t0,by lia⟩
   .rw[ek];exact h2
  .obtain⟨ps2,rfl,e1,e2⟩:=Bc (EC ts wi hi row sd) m ys (by rw[hl,VN];exact y1) hy;have sF:=s1.trans s';refine k _ d' _ (.inr ⟨hnn,m,hm,ml,rfl⟩) (sF.free hd) ⟨ps2,e1,ag,λp hp=>⟨(e2 p hp).1,?_⟩⟩ (sF.upd hd);rw[aq (aB (e2 p hp).2 hd)];exact(e2 p hp).2
end
section
def rC{f cB:Zo}{fd:R7}(F:cy K "has" "Board.has" fF f fd)(T:Txt mg aS aA aE aW)(B:jN K cB)(C:CA P w K mg Rw):aY P w K mg Rw cY 3 f fd ["self","square"] (Jg K cB):=by
 refine F.ok2 qQ ?_;rintro _ _ _ _ H _ Q _ hr hu ⟨p,wi,hi,hs,sq,rfl,O,k⟩;obtain⟨pf,ff,hf⟩:=O.firm B;have mm:=O.many;have hl:(((firmL wi hi hs).map V.bl).length:Int)=wi*hi:=by rw[VN,uv];lia
 refine⟨_,(am (aF (eQ (aG C.is_among hr (az (cv 1) (az ah (az (ar (kB (eZ K) bC T.len (az (bN K (cv 0)) pan)) ah) pan)))) (fT (c7 K (bN K (cv 0)) (cv 1)))))),?_⟩;show cD _ _ [oR p,oJ sq] H;refine aL (db (b:= !decide (sq∈hs)) (aK (aa (ae rfl) (aa ao (aa (gN (cQ (aP (ae rfl) ff) (.inl (aR.of hf))) ao) ay))) (λQ q=>⟨sq,0,_,rfl,q⟩)) (λh=>?_)) ?_
 .have h:=RD h;rw[hl]at h;exact a8 (aP (ae rfl) ff) (ae rfl) (.inl (aR.of hf)) (x8 h.1 (by lia))
 .rw[hl];have e:(decide (0<=sq/\sq<=wi*hi - 1)&& !decide (sq∈hs))=decide (0<=sq/\sq<wi*hi/\¬sq∈hs):=by
   rw[Yg];simp only[Ye,decide_eq_true_eq,Yi,decide_eq_false_iff_not]
   constructor
   .rintro⟨⟨a,b⟩,c⟩;exact⟨a,by lia,c⟩
   .rintro⟨a,b,c⟩;exact⟨⟨a,by lia⟩,c⟩
  show Q (.bl (decide (0<=sq/\sq<=wi*hi - 1)&& !decide (sq∈hs))) H;rw[e];exact k
def ra{f cB:Zo}{fd:R7}(F:cy K "empty_row" "empty_row" dL f fd)(T:Txt mg aS aA aE aW)(B:jN K cB)(C:CP2 P w K mg Rw cB):aY P w K mg Rw cY 4 f fd ["board"] (xm K cB):=by
 refine F.ok2 qK ?_;rintro _ _ _ s H _ Q _ hr hu ⟨p,wi,hi,hs,rfl,O,k⟩;have mm:=O.many;have fw:=O.wide B;have fh:=O.high B;have w8:=O.w8;have w1:=O.w1;refine⟨_,(am (aF (ksm PySem.F.slot_str_join PySem.F.type_str_join (JB K) aU (az (fK (dc (N:=["square","board"]) (src:=[none,some 0]) (ak dL) ["board"]) (P8 T.range (az (ar (bN K (cv 0)) (bN K (cv 0))) pan)) (λ_ _ _=>(bA (i:=0) ["square","board"])) (λ_ _ _=>bZ) (λ_ _ _=>(cK (bq (nN C.Board_has hr (cv 1) (az (cv 0) pan))) (kg T.EMPTY) (kg T.HOLE)))) pan)))),?_⟩;show cD _ _ [oR p] H;refine Os ao ?_;refine uD (n:=wi*hi) (rest:=[oR p]) (aa (cr (aP (ae rfl) fw) (aP (ae rfl) fh) (.inl ⟨by lia,by lia⟩)) ay) (by lia) (by rw[RW];lia) (by lia) rfl (λ_=>true)
  (λx=>match x with| .int i=>if i∈hs then .str (one 35)else .str (one 46)|_=>.non) (λi hi=>fZ) (λi hi' _=>?_) (λd hd=>?_)
 .have e:(if decide (0<=0+(i:Int)/\0+(i:Int)<wi*hi/\¬(0+(i:Int))∈hs)=true then V.str (one 46)else V.str (one 35))=(if 0+(i:Int)∈hs then V.str (one 35)else V.str (one 46)):=by
   by_cases m:0+(i:Int)∈hs
   .rw[RC m,RB (by rw[decide_eq_true_eq];exact λz=>z.2.2 m)]
   .rw[RB m,RC (by rw[decide_eq_true_eq];exact⟨by lia,by lia,m⟩)]
  show Ev _ _ _ (if 0+(i:Int)∈hs then V.str (one 35)else V.str (one 46));rw[<-e];exact lR (bb (kO (p:=p) (ae rfl) O.no (aa (ae rfl) ay) (λQ q=>⟨p,wi,hi,hs,_,rfl,O,q⟩))) (λ_=>wn) (λ_=>rL)
 .have e:(((List.range (wi*hi).toNat).map λ(i:Nat)=>V.int (0+(i:Int))).filter λ_=>true).map (λx=>match x with| .int i=>if i∈hs then V.str (one 35)else V.str (one 46)|_=>.non)=(((List.range (wi*hi).toNat).map λ(s:Nat)=>if(s:Int)∈hs then 35 else 46).map one).map V.str:=by rw[Wj.mpr (λ_ _=>rfl),V0,V0,V0];refine Wo λi _=>?_;show(if 0+(i:Int)∈hs then V.str (one 35)else V.str (one 46))=V.str (one (if(i:Int)∈hs then 35 else 46));rw[Int.zero_add];split<;>rfl
  rw[e];show nQ K (.str "") [.ref d] _ Q;rw[A2];refine⟨_,aR.of ag,?_,?_⟩
  .rw[V0];have es:∀l:List Nat,(l.map ((λx:Str=>x.length)∘one)).sum=l.length:=λl=>by
    induction l with
    |nil=>rfl
    |cons a r ih=>rw[V2,Xj,ih,V1];show 1+r.length=_;lia
   have ez:("":Str).length=0:=by decide+kernel
   rw[es,ez,VN,We];lia
  .rw[pQ];exact k _ ((aj.refl H).upd hd)
def zr{f cB cG:Zo}{fd:R7}(F:cy K "is_row" "is_row" gw f fd)(T:Txt mg aS aA aE aW)(B:jN K cB)(D:uU K cG)(C:CR1 P w K mg Rw cB):aY P w K mg Rw cY 5 f fd ["game","thing"] (ve K cB cG):=by
 refine F.ok2 lf ?_;rintro _ _ _ s H _ Q _ hr hu ⟨g,b,v,wi,hi,hs,ks,rs,ts,es,st,rfl,G,O,hl,h6,t,q⟩;refine⟨_,(af (aw 2 lf.nd (aG C.empty_row hr (az (bN K (cv 0)) pan)))
  (af (aZ (PW.pt (gV (bM (bq (JC .str T.isinstance T.str oq (cv 1)))) (eX (aX K hu (kB (eZ K) bC T.len (az (cv 1) pan)) (kB (eZ K) bC T.len (az (cv 2) pan)))))) (am (aF gI)) aH)
  (af (aw 3 lf.nd (ar (ar (bh (az (kg T.EMPTY) pan)) (bN K (cv 0))) (fK (dc (N:=["kind"]) (src:=[none]) (ak gw) ["game","thing","bare","signs"]) (sw K (bN K (cv 0))) (λ_ _ _=>(bA (i:=0) ["kind"])) (λ_ _ _=>bZ) (λ_ _ _=>(aG C.sign_of hr (az (cv 0) (az ah pan)))))))
  (am (aF (kB (zM K) lD T.all (az (fK (dc (N:=["sign","under","signs"]) (src:=[none,none,some 3]) (ak gw) ["game","thing","bare","signs"]) (QY T.zip (az (cv 1) (az (cv 2) pan))) (λ_ _ _=>(P9 K (n:=2) (fH (bA (i:=0) ["sign","under","signs"]) (fH (bA (i:=1) ["sign","under","signs"]) mB)))) (λ_ _ _=>bZ) (λ_ _ _=>(cK (aX K hu (cv 1) (kg T.HOLE)) (iK K hu (cv 0) (kg T.HOLE)) (iK K hu (cv 0) (cv 2))))) pan))))))),?_⟩
 show bn _ _ _ [oR g,some v,none,none] H;have mm:=O.many;refine bH (λu H'=>u=.str (emptyT wi hi hs)/\aj H H') (λQ q=>cu (aa (aP (ae rfl) (G.board D)) ay) ⟨b,wi,hi,hs,rfl,O,λH' s=>q _ _ ⟨rfl,s⟩⟩) ?_;rintro _ H1 ⟨rfl,s1⟩;have t1:=t.same s1;have hel:(emptyT wi hi hs).length<=64:=by rw[j5];lia
 have hs0:=n9 (T:=.str) (te:=cL 1) (σ:=[oR g,some v,oT (emptyT wi hi hs),none]) (ae rfl) t1;rw[vb t1]at hs0;cases v with
 |str z=>
  have hz:z.length<=1000:=t;refine bB (jO (cC (bb hs0)) (λ_=>bb (pZ (mH (ae rfl) (XG hz (by decide))) (mH (ae rfl) (XG hel (by decide)))))) (λh=>?_) (λh=>?_)
  .have hne:¬z.length=(emptyT wi hi hs).length:=λe=>by rw[e]at h;simp at h
   have k:=q H1 s1;have e:rowB wi hi hs ks (.str z)=false:=by unfold rowB;dsimp only;rw[RA hne];rfl
   rw[e]at k;exact aL ao k
  .have heq:z.length=(emptyT wi hi hs).length:=by
    have h:(!decide ((z.length:Int)=(emptyT wi hi hs).length))=false:=h;have:((z.length:Int)=(emptyT wi hi hs).length):=RD (by cases hd:decide ((z.length:Int)=(emptyT wi hi hs).length)with|true=>rfl|false=>rw[hd]at h;cases h)
    lia
   obtain⟨kq,fk,hkq⟩:=(G.same s1).kinds D;refine bH (λu H'=>∃sq,u=.ref sq/\H' sq=some (.lst (([46]++ks++ks.map (· - 32)).map strV))/\aj H1 H') (λQ q=>?_) ?_
   .refine JQ (JQ (fI (bI ao (cU ⟨by show 1<=v1;decide,λp hp=>?_⟩))));have s2:=(aj.refl H1).upd (o:=.lst [.str "."]) hp;obtain⟨kq2,fk2,hkq2⟩:=((G.same s1).same s2).kinds D;refine kX (aP (ae rfl) fk2) (yo ag hkq2 (by rw[VN];show 1+ks.length<=1000;lia) (λp2 hp2=>?_));have s3:=s2.upd (o:=.lst ([.str "."]++ks.map strV)) hp2;obtain⟨kq3,fk3,hkq3⟩:=((G.same s1).same s3).kinds D;refine gZ (d:=kq3) (xs:=ks.map strV) (rest:=[]) (aP (ae rfl) fk3) (aR.of hkq3) (by rw[VN,RW];lia) rfl (λ_=>true) upV (λx hx=>fZ) (λx hx _=>?_) (λp3 hp3=>?_)
    .obtain⟨k,hk,rfl⟩:=VP.mp hx;exact aK (sp:=mS) (aa (ae rfl) (aa ao ay)) (λQ q=>⟨k,0,rfl,hl k hk,by rw[RC rfl];exact q⟩)
    .refine yo (by rw[aq (aB ag hp3),ag]) ag ?_ (λp4 hp4=>q _ _ ⟨p4,rfl,?_,(s3.upd hp3).upd hp4⟩)
     .rw[VV,VN,Wj.mpr (λ_ _=>rfl),VN,VN];show 1+ks.length+ks.length<=1000;lia
     .rw[ag,Wj.mpr (λ_ _=>rfl),V0,VZ,VZ,V0,Ej];rfl
   rintro _ H2 ⟨sq,rfl,hsq,s2⟩;show cD _ _ [oR g,oT z,oT (emptyT wi hi hs),oR sq] H2;have hws:∀H',aj H2 H'->aR K H' sq ((([46]++ks++ks.map (· - 32)).map one).map V.str):=λH' s=>by rw[V0];exact aR.of (s _ _ hsq)
   refine Ab (rest:=[oR sq]) (aa (ae rfl) (aa (ae rfl) ay)) heq hz rfl (λc e=>.bl (gP ks c e)) (λi c e H' hc he s'=>?_) (λH' dq s' hd=>?_)
   .refine λQ q=>kX (lR (bb (gO (ae rfl) ao)) (λ_=>gO (ae rfl) ao) (λ_=>rK (ae rfl) (ae rfl) (.inl (hws H' s')))) ?_;unfold gP at q;rw[ut,rN (qY (a:=e) (b:=35)),rN (qY (a:=c) (b:=35))]
    by_cases h35:e=35
    .rw[RC h35]at q;rw[Ry h35];exact q
    .rw[RB h35]at q;rw[RA h35];rw[rN (p:=one c∈List.map one ([46]++ks++ks.map (· - 32))) (q:=c=46\/c∈ks\/c∈ks.map (· - 32))]
     .exact q
     .constructor
      .intro h;obtain⟨c',h1,h2⟩:=VP.mp h;have e2:=qY.mp h2;subst e2;simpa[or_assoc]using h1
      .intro h;exact VP.mpr ⟨c,by simpa[or_assoc]using h,rfl⟩
   .refine⟨List.zipWith (gP ks) z.cps.toList (emptyT wi hi hs).cps.toList,?_,?_⟩
    .rw[List.map_zipWith];exact aR.of ag
    .have k:=q _ (((s1.trans s2).trans s').upd (o:=.lst (List.zipWith (λc e=>V.bl (gP ks c e)) z.cps.toList (emptyT wi hi hs).cps.toList)) hd);unfold rowB at k;dsimp only at k;rw[Ry heq,Yj]at k;exact k
 |_=>
  refine bB (jO (b:=false) (cC (bb hs0)) (λh=>by cases h)) (λ_=>aL ao (q H1 s1)) (λh=>by cases h)
def tT{f cB cG:Zo}{fd:R7}(F:cy K "is_place" "is_place" gy f fd)(T:Txt mg aS aA aE aW)(C:CR2 P w K mg Rw cB cG):aY P w K mg Rw cY 6 f fd ["game","thing"] (sV K cB cG):=by
 refine F.ok2 tF ?_;rintro _ _ _ _ H _ Q _ hr hu ⟨g,b,v,wi,hi,hs,ks,rs,ts,es,st,rfl,G,O,hl,h6,t,q⟩;refine⟨_,(am (aF (eQ (aG C.is_tuple_of hr (az (cv 1) (az ah pan))) (eQ (aG C.is_row hr (az (cv 0) (az (c7 K (cv 1) ah) pan))) (fT (aG C.is_among hr (az (c7 K (cv 1) ah) (az ah (az ah pan))))))))),?_⟩;show cD _ _ [oR g,some v] H;refine wK (a:=tupB H v 2) (aK (sp:=i9) (aa (ae rfl) (aa ao ay)) (λQ q=>⟨v,2,rfl,t.thg,q⟩)) (λh=>?_) (λh=>?_)
 .unfold tupB at h;cases e1:tupOf H v with
  |none=>rw[e1]at h;cases h
  |some xs=>
   rw[e1]at h;obtain⟨a,rfl,ha⟩:=gq e1;have h:(xs.length:Int)=2:=RD h;have tx:=t.2 xs (.inl e1)
   match xs,h,e1,ha,tx,q with
   | [x,y],_,e1,ha,tx,q=>
     refine cu (sp:=ve K cB cG) (aa (ae rfl) (aa (a8 (ae rfl) ao (.inr (dF.of ha)) (bz (j:=0) rfl)) ay)) ⟨g,b,x,wi,hi,hs,ks,rs,ts,es,st,rfl,G,O,hl,h6,tx x (by simp),λH' s'=>?_⟩;have k:=q H' s';rw[j1 e1]at k;cases hr2:rowB wi hi hs ks x with
     |false=>
      rw[hr2]at k;exact k
     |true=>
      rw[hr2,Yj]at k;simp only[fN,if_true];exact cu (sp:=ja) (aa (a8 (ae rfl) ao (.inr (dF.of (s' _ _ ha))) (bz (j:=1) rfl)) (aa ao (aa ao ay))) ⟨y,0,1,rfl,(tx y (by simp)).thg.same s',k⟩
 .have k:=q H (aj.refl H);rw[zb h]at k;exact k
end
def LA(P:V->Hp->Prop)(h:∀Q:VK,(∀v H',P v H'->Q v H')->te σ H Q)(q:∀v H',P v H'->ta σ H' (λxs H2=>R (v::xs) H2)):aN te ta σ H R:=h _ q
def mM(q:t σ H (λvs H2=>vs.length<=v1/\∀p,H2 p=none->Q (.ref p) (upd H2 p (.tup vs)))):mO t σ H Q:=q
def Dj(ho:Ev to σ H (.ref l))(hl:∃xs,H l=some (.lst xs))(q:te σ H λy H2=>∃xs,H2 l=some (.lst xs)/\xs.length<v1/\u D σ (upd H2 l (.lst (xs++[y])))):bn (jP (Am to te)) u D σ H:=ho _ ⟨hl,q⟩
def Kc(h:te σ H (fN λc H1=>Q (!c) H1)):AD (ju te) σ H Q:=h
def Rf(h:te σ H λv H1=>r [v] H1 Q):L2.cB r (aN te bG) σ H Q:=h
noncomputable def mixF(ns:List Int)(k:Int):Int:=(ww ns k+7919*k)*48271 % 2147483647
def AO(K:Frag):Sp:=λvs H Q _=>∃a ns k,vs=[.ref a,.int k]/\aR K H a (ns.map V.int)/\0<=k/\Q (.int (mixF ns k)) H
def xh:Sp:=λvs H Q _=>∃c:Int,vs=[.int c]/\∀q ks H',kT H' q ks->ks.length<=2->H q=none->aj H H'->Q (.ref q) H'
structure Rt(P:RU)(w:RZ)(K:Frag)(mg:RJ)(Rw:R9):Prop where
 _law_cell_at:cZ P w K mg Rw "_law_cell_at" ["_law_script","_law_k"] 1 (mU K)
section
def lZ(F:cy K "_law_cell_at" "_law_cell_at" da f fd)(T:Txt mg aS aA aE aW):aY P w K mg Rw cY 1 f fd ["_law_script","_law_k"] (mU K):=by
 refine F.ok2 lW ?_;rintro _ _ _ _ H _ Q _ hr hu ⟨a,ns,k,rfl,hS,k0,q⟩;refine⟨_,(af (aZ (aX K hu (cv 1) (kB (eZ K) bC T.len (az (cv 0) pan))) (am (aF (c7 K (cv 0) (cv 1)))) aH)
  (am (aF ah))),?_⟩
 show bn _ _ _ [oR a,oJ k] H;unfold ww at q;refine bB (bb (uw (ae rfl) (cQ (ae rfl) (.inl hS)))) (λh=>?_) (λh=>?_)
 .have h:=RD h;rw[VN]at h;have hlt:k.toNat<ns.length:=by lia
  have e:(ns.map V.int)[k.toNat]? =some (.int (ns.getD k.toNat 0)):=by rw[VT,VX,VQ hlt];rfl
  have e2:=bz e;have ei:((k.toNat:Nat):Int)=k:=by lia
  rw[ei]at e2;exact aL (a8 (ae rfl) (ae rfl) (.inl hS) e2) q
 .have h:=RE h;rw[VN]at h;rw[VX,Wf (by lia)]at q;exact aL ao q
def oM(F:cy K "_law_mixed" "_law_mixed" dZ f fd)(T:Txt mg aS aA aE aW)(C:Rt P w K mg Rw):aY P w K mg Rw cY 2 f fd ["_law_script","_law_k"] (AO K):=by refine F.ok2 oF ?_;rintro _ _ _ _ H _ Q _ hr hu ⟨a,ns,k,rfl,hS,k0,q⟩;refine⟨_,(am (aF (ar (ar (ar (aG C._law_cell_at hr (az (cv 0) (az (cv 1) pan))) (ar ah (cv 1))) ah) ah))),?_⟩;show cD _ _ [oR a,oJ k] H;exact aL (a7 (cr (cj (aK (aa (ae rfl) (aa (ae rfl) ay)) (λQ q=>⟨a,ns,k,rfl,hS,k0,q⟩)) (cr ao (ae rfl) (.inl ⟨by decide,by decide⟩))) ao (.inr ⟨by decide,by decide⟩)) ao) q
def oN(F:cy K "_law_kinds" "_law_kinds" ef f fd)(T:Txt mg aS aA aE aW):aY P w K mg Rw cY 1 f fd ["_law_cell"] xh:=by
 refine F.ok2 fj ?_;rintro _ _ _ _ H _ Q _ hr hu ⟨c,rfl,q⟩;refine⟨_,(af (aw 1 fj.nd aU)
  (af (aw 2 fj.nd (ar (cv 0) ah))
  (af (aw 3 fj.nd (bh (az (c7 K (cv 1) (cv 2)) (az (c7 K (cv 1) (ar (ar (ar (cv 2) ah) (ar (ar (cv 0) ah) ah)) ah)) pan))))
  (am (aF (xO K (cv 3) dB (cq (ar ah (ar (ar (cv 0) ah) ah))))))))),?_⟩
 show bn _ _ _ [oJ c,none,none,none] H;refine aO ao ?_;refine aO (v:=.int (c % 26)) (a7 (ae rfl) ao) ?_;have f0:0<=c % 26/\c % 26<26:=by lia
 generalize c % 26=i at f0 ⊢;have g0:0<=(i+1+c / 26 % 25) % 26/\(i+1+c / 26 % 25) % 26<26/\(i+1+c / 26 % 25) % 26≠i:=by lia
 refine bH (λv H'=>∃p,v=.ref p/\H p=none/\H'=upd H p (.lst [strV (97+i.toNat),strV (97+((i+1+c / 26 % 25) % 26).toNat)])) (λQ k=>?_) ?_
 .refine fI (bI (v:=strV (97+i.toNat)) (iM (ae rfl) (ae rfl) (by decide) (CF f0.1 f0.2)) (bI (v:=strV (97+((i+1+c / 26 % 25) % 26).toNat)) (iM (ae rfl) (a7 (cj (cj (ae rfl) ao) (a7 (bx (ae rfl) ao) ao)) ao) (by decide) (CF g0.1 g0.2.1)) (cU ⟨by show 2<=v1;decide,λp hp=>k _ _ ⟨p,rfl,hp,rfl⟩⟩)))
 rintro _ _ ⟨p,rfl,np,rfl⟩;generalize(i+1+c / 26 % 25) % 26=j at g0 ⊢;show cD _ _ [oJ c,oT ("abcdefghijklmnopqrstuvwxyz"),oJ i,oR p] _;have n0:1+c / 650 % 2=1\/1+c / 650 % 2=2:=by lia
 refine fS (pq (lo:=none) (hi:=some (1+c / 650 % 2)) (ae rfl) (λQ q=>q) (λQ q=>?_) (aR.of ag) λl hl=>?_)
 .exact(show Ev _ _ _ _ from(cj ao (a7 (bx (ae rfl) ao) ao))) _ q
 have s1:aj H (upd H p (.lst [strV (97+i.toNat),strV (97+j.toNat)])):=(aj.refl H).upd np;generalize 1+c / 650 % 2=n at n0
 rcases n0 with rfl|rfl
 .refine q l [97+i.toNat] _ ⟨ag,?_,by simp,by simp,by simp⟩ (by simp) (s1.free hl) (s1.upd hl);intro k hk;rw[VR.mp hk]
  constructor<;>lia
 .refine q l [97+i.toNat,97+j.toNat] _ ⟨ag,?_,by simp,by simp,?_⟩ (by simp) (s1.free hl) (s1.upd hl)
  .intro k hk;simp only[VO,V3,or_false]at hk
   rcases hk with rfl|rfl<;>constructor<;>lia
  .simp only[Wk,VO,V3,or_false,not_false_eq_true,Wy,and_true];lia
def rp(F:cy K "_law_rule" "_law_rule" fB f fd)(T:Txt mg aS aA aE aW):aY P w K mg Rw cY 1 f fd ["_law_cell","_law_kinds_here"] xg:=by
 refine F.ok2 bJ ?_;rintro _ _ _ s H _ Q _ hr hu ⟨c,d,ks,rfl,hk,q⟩;have hpos:(0:Int)<((ks.map strV).length:Int):=by rw[VN];have:=hk.l1;lia
 refine⟨_,(af (aw 0 bJ.nd (ar (ar (cv 0) ah) ah))
  (af (aw 2 bJ.nd (c7 K (cv 1) (ar (cv 0) (kB (eZ K) bC T.len (az (cv 1) pan)))))
  (af (aw 3 bJ.nd (c7 K (bh (iw rfl)) (ar (ar (cv 0) ah) ah)))
  (af (aw 4 bJ.nd (c7 K (bh (iw rfl)) (ar (ar (cv 0) ah) ah)))
  (af (aZ (aX K hu (cv 3) aU) (am (aw 4 bJ.nd aU)) aH)
  (af (aw 5 bJ.nd (ar (ar (ar (cv 0) ah) ah) ah))
  (af (aw 6 bJ.nd (ar (ar (ar (cv 0) ah) ah) ah))
  (af (aZ (PW.pt (iG (aX K hu (cv 3) aU) (gb (aX K hu (ar (ar (cv 0) ah) ah) ah)))) (am (aw 5 bJ.nd (ar (cv 5) ah))) aH)
  (af (aZ (PW.pt (iG (aX K hu (cv 5) ah) (gb (aX K hu (cv 6) ah)))) (am (aw 6 bJ.nd ah)) aH)
  (am (aF (bD (az (cv 2) (az (cv 3) (az (cv 4) (az (cv 5) (az (cv 6) pan))))))))))))))))),?_⟩
 show bn _ _ _ [oJ c,oR d,none,none,none,none,none] H;refine aO (v:=.int (c*48271 % 2147483647)) (a7 (cr (ae rfl) ao (.inr ⟨by decide,by decide⟩)) ao) ?_;generalize c*48271 % 2147483647=m;obtain⟨k,hkm,ek⟩:=hk.pick m;refine aO (v:=strV k) (a8 (ae rfl) (a7 (ae rfl) (cQ (ae rfl) (.inl (aR.of hk.at_))) hpos) (.inl (aR.of hk.at_)) ek) ?_;refine bH (λv H'=>∃so:Str,v=.str so/\so∈sortsL/\aj H H') (λQ q=>?_) ?_
 .obtain⟨n,e,hn⟩:=xv (ss:=["leap","slide","jump","leap"]) (i:=m / 2 % 4) (by lia) (by show _<(4:Int);lia);exact pH uN (by decide) (λH'=>(a7 (bx (ae rfl) ao) ao)) e (λH' s=>q _ _ ⟨n,rfl,by
   simp only[VO,V3,or_false]at hn
   rcases hn with rfl|rfl|rfl|rfl<;>decide,s⟩)
 rintro _ H1 ⟨so,rfl,hso,s1⟩;refine bH (λv H'=>∃ai:Str,v=.str ai/\ai∈aimsL/\aj H1 H') (λQ q=>?_) ?_
 .obtain⟨n,e,hn⟩:=xv (ss:=["any","go","hit","any"]) (i:=m / 8 % 4) (by lia) (by show _<(4:Int);lia);exact pH uN (by decide) (λH'=>(a7 (bx (ae rfl) ao) ao)) e (λH' s=>q _ _ ⟨n,rfl,by
   simp only[VO,V3,or_false]at hn
   rcases hn with rfl|rfl|rfl|rfl<;>decide,s⟩)
 rintro _ H2 ⟨ai,rfl,hai,s2⟩;show bn _ _ _ [oJ m,oR d,some (strV k),oT so,oT ai,none,none] H2;refine kc (λσ' H'=>H'=H2/\∃ai:Str,σ'=[oJ m,oR d,some (strV k),oT so,oT ai,none,none]/\ai∈aimsL/\(so="jump"->ai="hit")) ?_ (λgo=>?_)
 rotate_left
 .exact bB (bb (gO (ae rfl) ao)) (λh=>cR ao (go _ _ ⟨rfl,"hit",rfl,by decide,λ_=>rfl⟩)) (λh=>go _ _ ⟨rfl,ai,rfl,hai,λz=>RF z (RE h)⟩)
 rintro _ H2 ⟨rfl,ai,rfl,hai,hjh⟩;refine aO (v:=.int (m / 32 % 3 - 1)) (gN (a7 (bx (ae rfl) ao) ao) ao) ?_;refine aO (v:=.int (m / 96 % 3 - 1)) (gN (a7 (bx (ae rfl) ao) ao) ao) ?_;have hax: -1<=m / 32 % 3 - 1/\m / 32 % 3 - 1<=1:=by lia
 have hup: -1<=m / 96 % 3 - 1/\m / 96 % 3 - 1<=1:=by lia
 generalize m / 32 % 3 - 1=ax at hax ⊢;generalize m / 96 % 3 - 1=up at hup ⊢;show bn _ _ _ [oJ m,oR d,some (strV k),oT so,oT ai,oJ ax,oJ up] H2;refine kc (λσ' H'=>H'=H2/\∃ax:Int,σ'=[oJ m,oR d,some (strV k),oT so,oT ai,oJ ax,oJ up]/\-(if so="leap"then 3 else 1)<=ax/\ax<=(if so="leap"then 3 else 1)) ?_ (λgo=>?_)
 rotate_left
 .refine bB (i6 (bb (gO (ae rfl) ao)) (λ_=>bb (eV (a7 (bx (ae rfl) ao) ao) ao))) (λh=>?_) (λh=>go _ _ ⟨rfl,ax,rfl,?_,?_⟩)
  .have hl:=RD (Yk.mp h).1;exact cR (v:=.int (ax*2)) (cr (ae rfl) ao (.inr ⟨by decide,by decide⟩)) (go _ _ ⟨rfl,ax*2,rfl,by rw[RC hl];lia,by rw[RC hl];lia⟩)
  .split<;>lia
  .split<;>lia
 rintro _ H2 ⟨rfl,ax,rfl,a0,a1⟩;refine kc (λσ' H'=>H'=H2/\∃up:Int,σ'=[oJ m,oR d,some (strV k),oT so,oT ai,oJ ax,oJ up]/\-1<=up/\up<=1/\¬(ax=0/\up=0)) ?_ (λgo=>?_)
 rotate_left
 .refine bB (i6 (bb (eV (ae rfl) ao)) (λ_=>bb (eV (ae rfl) ao))) (λh=>cR ao (go _ _ ⟨rfl,1,rfl,by lia,by lia,by lia⟩)) (λh=>go _ _ ⟨rfl,up,rfl,hup.1,hup.2,λz=>by simp[z.1,z.2]at h⟩)
 rintro _ H2 ⟨rfl,up,rfl,u0,u1,n0⟩;have s03:=s1.trans s2;refine tupY (iD (ae rfl) (iD (ae rfl) (iD (ae rfl) (iD (ae rfl) (iD (ae rfl) (KW ⟨by show 5<=v1;decide,λp hp=>?_⟩))))));exact q p ⟨one k,so,ai,ax,up⟩ _ ⟨⟨k,hkm,rfl⟩,hso,hai,hjh,⟨a0,a1⟩,⟨by show -(if so="leap"then 3 else 1)<=up;split<;>lia,by show up<=(if so="leap"then 3 else 1);split<;>lia⟩,n0⟩ (s03.free hp) ag (s03.upd hp)
end
def xo(K:Frag)(cB:Zo):Sp:=λvs H Q _=>∃c:Int,vs=[.int c]/\∀b wi hi hs H',bU K cB H' b wi hi hs->wi*hi<=6->(hs.length:Int)<wi*hi->aj H H'->Q (.ref b) H'
structure Rs(P:RU)(w:RZ)(K:Frag)(mg:RJ)(Rw:R9)(cB:Zo):Prop where
 Board:lS P w K mg Rw "Board" cB ["self","wide","high","holes"] 4 (qC K cB)
def QW{a b:Int}(ha:1<=a)(hb:1<=b)(h:a*b=1):a=1:=by apply Classical.byContradiction;intro n;have:2*1<=a*b:=X5 (by lia) hb (by lia) (by lia);lia
section
def oO{f cB:Zo}{fd:R7}(F:cy K "_law_board" "_law_board" eI f fd)(T:Txt mg aS aA aE aW)(C:Rs P w K mg Rw cB):aY P w K mg Rw cY 6 f fd ["_law_cell"] (xo K cB):=by
 refine F.ok2 bQ ?_;rintro _ _ _ _ H _ Q _ hr hu ⟨c,rfl,q⟩;refine⟨_,(af (aw 1 bQ.nd (ar ah (ar (cv 0) ah)))
  (af (aw 2 bQ.nd (ar ah (ar (ar (cv 0) ah) ah)))
  (af (aZ (PW.pt (gV (PW.pt (iG (aX K hu (ar (cv 1) (cv 2)) ah) (gb (aX K hu (ar (ar (cv 0) ah) ah) ah)))) (eX (aX K hu (ar (cv 1) (cv 2)) ah)))) (af (aw 1 bQ.nd ah)
  (am (aw 2 bQ.nd (ar ah (ar (ar (cv 0) ah) ah))))) aH)
  (af (aZ (aX K hu (ar (cv 1) (cv 2)) ah) (am (aw 2 bQ.nd ah)) aH)
  (af (aw 3 bQ.nd (bh pan))
  (af (aZ (PW.pt (iG (aX K hu (ar (ar (cv 0) ah) ah) ah) (gb (aX K hu (ar (cv 1) (cv 2)) ah)))) (am (aw 3 bQ.nd (bh (az (ar (ar (cv 0) ah) (ar (cv 1) (cv 2))) pan)))) aH)
  (am (aF (BA C.Board hr (az (cv 1) (az (cv 2) (az (cv 3) pan)))))))))))),?_⟩
 show bn _ _ _ [oJ c,none,none,none] H;refine aO (v:=.int (1+c % 3)) (cj ao (a7 (ae rfl) ao)) ?_;refine aO (v:=.int (1+c / 3 % 3)) (cj ao (a7 (bx (ae rfl) ao) ao)) ?_;have w0:1<=1+c % 3/\1+c % 3<=3:=by lia
 have h0:1<=1+c / 3 % 3/\1+c / 3 % 3<=3:=by lia
 generalize 1+c % 3=wi0 at w0 ⊢;generalize 1+c / 3 % 3=hi0 at h0 ⊢;refine bV (λσ' H'=>∃wi hi:Int,σ'=[oJ c,oJ wi,oJ hi,none]/\1<=wi/\wi<=3/\1<=hi/\hi<=3/\wi*hi<=6/\H'=H) (λKK hK=>?_) ?_
 .refine de (jO (i6 (bb (uw (cr (ae rfl) (ae rfl) (.inl ⟨by lia,by lia⟩)) ao)) (λ_=>bb (yb (a7 (bx (ae rfl) ao) ao) ao))) (λ_=>bb (yb (cr (ae rfl) (ae rfl) (.inl ⟨by lia,by lia⟩)) ao))) (λ_=>?_) (λh=>?_)
  .refine aO ao ?_;exact cR (v:=.int (2+c / 972 % 2)) (cj ao (a7 (bx (ae rfl) ao) ao)) (hK _ _ ⟨2,2+c / 972 % 2,rfl,by lia,by lia,by lia,by lia,by lia,rfl⟩)
  .rw[Bool.or_eq_false_iff]at h;have:=RE h.2;exact hK _ _ ⟨wi0,hi0,rfl,w0.1,w0.2,h0.1,h0.2,by lia,rfl⟩
 rintro _ H1 ⟨wi,hi1,rfl,w1,w3,g1,g3,m6,e1⟩;subst e1;refine bV (λσ' H'=>∃hi:Int,σ'=[oJ c,oJ wi,oJ hi,none]/\1<=hi/\hi<=3/\wi*hi<=6/\H'=H1) (λKK hK=>?_) ?_
 .refine de (bb (eV (cr (ae rfl) (ae rfl) (.inl ⟨by lia,by lia⟩)) ao)) (λh=>?_) (λh=>hK _ _ ⟨hi1,rfl,g1,g3,m6,rfl⟩);have e:=QW w1 g1 (RD h);subst e;exact cR ao (hK _ _ ⟨2,rfl,by lia,by lia,by lia,rfl⟩)
 rintro _ H2 ⟨hi,rfl,h1,h3,m6',e2⟩;subst e2;have m1:1*1<=wi*hi:=X5 w1 h1 (by lia) (by lia);refine jX λq1 hq1=>?_;refine bV (λσ' H'=>∃(p:Zo)(hs:List Int),σ'=[oJ c,oJ wi,oJ hi,oR p]/\H' p=some (.lst (hs.map V.int))/\(∀h∈hs,0<=h/\h<wi*hi)/\hs.Nodup/\(hs.length:Int)<wi*hi/\aj H2 H') (λKK hK=>?_) ?_
 .have sm:aj H2 (upd H2 q1 (.lst [])):=(aj.refl H2).upd hq1;refine de (i6 (bb (eV (a7 (bx (ae rfl) ao) ao) ao)) (λ_=>bb (yb (cr (ae rfl) (ae rfl) (.inl ⟨by lia,by lia⟩)) ao))) (λh=>?_) (λh=>hK _ _ ⟨q1,[],rfl,ag,(λh hh=>by cases hh),Wy,by show(0:Int)<_;lia,sm⟩);have h2:=RD (Yk.mp h).2;refine Cw (fI (bI (v:=.int (c / 27 % (wi*hi))) (a7 (bx (ae rfl) ao) (cr (ae rfl) (ae rfl) (.inl ⟨by lia,by lia⟩)) (by lia)) (cU ⟨by show 1<=v1;decide,λp hp=>hK _ _ ⟨p,[c / 27 % (wi*hi)],rfl,ag,λh hh=>?_,by simp,by show(1:Int)<_;lia,sm.upd hp⟩⟩)));rw[VR.mp hh];exact⟨X3 _ (by lia),X4 _ (by lia)⟩
 rintro _ H3 ⟨p,hs,rfl,ep,gd,nd,hl,s3⟩;refine Jo (Bu (iD (ae rfl) (iD (ae rfl) (iD (ae rfl) (KW λx dx nx ndx ne=>?_)))));exact⟨x,p,dx,wi,hi,hs,rfl,ag,by rw[aq (aB ep nx),aq (aB ep ndx)];exact ep,w1,by lia,h1,by lia,gd,nd,hl,λhs' H' pm O sb=>⟨rfl,q x wi hi hs' H' O m6' (by rw[pm.length_eq];exact hl) (pE s3 nx ndx sb)⟩⟩
end
def xw{xs:List V}{i:Int}(h0:0<=i)(h1:i<xs.length):∃v,atI xs i=some v/\v∈xs:=by
 have hl:i.toNat<xs.length:=by lia
 refine⟨xs[i.toNat],?_,V7 hl⟩;have:=bz (VQ hl)
 rwa[Yb h0]at this
def LB(P:V->Hp->Prop)(h:∀R:VK,(∀v H',P v H'->R v H')->to σ H R)(q:∀v H',P v H'->∃p xs i x,v=.ref p/\H' p=some (.lst xs)/\Ev ti σ H' (.int i)/\atI xs i=some x/\Q x H'):Ep K to ti σ H Q:=h _ λv H' pv=>by obtain⟨p,xs,i,x,rfl,e1,e2,e3,e4⟩:=q v H' pv;exact e2 _ ⟨xs,x,.inl (aR.of e1),e3,e4⟩
noncomputable def CT(x0 xl:Nat)(t1 t2 t3:Zo):List ((Str×Str)×Zo):=[(("without",one x0),t1),(("home",one xl),t2),(("home",one x0),t3)]
def AT(K:Frag)(cB cG:Zo):Sp:=λvs H Q _=>∃(a:Zo)(ns:List Int),vs=[.ref a]/\aR K H a (ns.map V.int)/\∀(g b kq:Zo)(wi hi:Int)(hs:List Int)(ks:List Nat)(us:List (bw×Zo))(ts es:List ((Str×Str)×Zo))(st:Str)(H':Hp),
 fY K cB cG H' g b kq wi hi hs ks us ts es st->ks.length<=2->wi*hi<=6->(hs.length:Int)<wi*hi->aj H H'->Q (.ref g) H'
structure Rr(P:RU)(w:RZ)(K:Frag)(mg:RJ)(Rw:R9)(cB cG:Zo):Prop where
 _law_cell_at:cZ P w K mg Rw "_law_cell_at" ["_law_script","_law_k"] 1 (mU K)
 _law_mixed:cZ P w K mg Rw "_law_mixed" ["_law_script","_law_k"] 2 (AO K)
 _law_kinds:cZ P w K mg Rw "_law_kinds" ["_law_cell"] 1 xh
 _law_rule:cZ P w K mg Rw "_law_rule" ["_law_cell","_law_kinds_here"] 1 xg
 _law_board:cZ P w K mg Rw "_law_board" ["_law_cell"] 6 (xo K cB)
 Game:lS P w K mg Rw "Game" cG ["self","board","kinds","rules","turns","ends","stuck"] 6 (xj K cG)
def gR.neg(h:gR ks u):gR ks ⟨u.kd,u.so,u.ai, -u.ax, -u.up⟩:=by
 refine⟨h.kd,h.so,h.ai,h.jh,?_,?_,?_⟩
 .have:=h.ax;show -(if u.so="leap"then(3:Int)else 1)<=-u.ax/\-u.ax<=(if u.so="leap"then 3 else 1);lia
 .have:=h.up;show -(if u.so="leap"then(3:Int)else 1)<=-u.up/\-u.up<=(if u.so="leap"then 3 else 1);lia
 .have:=h.n0;show¬(-u.ax=0/\-u.up=0);lia
section
def rA{f cB cG:Zo}{fd:R7}(F:cy K "_law_game" "_law_game" fE f fd)(T:Txt mg aS aA aE aW)(C:Rr P w K mg Rw cB cG):aY P w K mg Rw cY 8 f fd ["_law_script"] (AT K cB cG):=by
 refine F.ok2 bo ?_;rintro _ _ _ s H _ Q _ hr hu ⟨a,ns,rfl,hS,k⟩;refine⟨_,(af (aw 1 bo.nd (aG C._law_mixed hr (az (cv 0) (az ah pan))))
  (af (aw 2 bo.nd (aG C._law_kinds hr (az (cv 1) pan)))
  (af (aw 3 bo.nd (c7 K (bh (iw rfl)) (ar (ar (cv 1) ah) ah)))
  (af (aw 4 bo.nd (bh pan))
  (af (jj SW rfl (P8 T.range (az (cv 3) pan)) (dz 5 bo.nd) (af (aw 6 bo.nd (aG C._law_rule hr (az (ar (aG C._law_cell_at hr (az (cv 0) (az (ar ah (cv 5)) pan))) (ar ah (cv 5))) (az (cv 2) pan))))
  (af (cS (iP (cv 4) (cv 6)))
  (am (aZ (aX K hu (ar (ar (cv 1) ah) ah) ah) (am (cS (iP (cv 4) (bD (az (c7 K (cv 6) ah) (az (c7 K (cv 6) ah) (az (c7 K (cv 6) ah) (az (jt (c7 K (cv 6) ah)) (az (jt (c7 K (cv 6) ah)) pan))))))))) aH)))))
  (af (aw 7 bo.nd (aG C._law_mixed hr (az (cv 0) (az ah pan))))
  (af (aw 8 bo.nd (bh pan))
  (af (aZ (PW.pt (iG (aX K hu (kB (eZ K) bC T.len (az (cv 2) pan)) ah) (gb (aX K hu (ar (cv 7) ah) ah)))) (am (aw 8 bo.nd (bh (az (bD (az (c7 K (cv 2) ah) (az (c7 K (cv 2) ah) pan))) pan)))) aH)
  (af (aw 9 bo.nd (bh (az (bD (az aU (az (c7 K (cv 2) ah) pan))) (az (bD (az aU (az (c7 K (cv 2) (jt ah)) pan))) (az (bD (az aU (az (c7 K (cv 2) ah) pan))) pan)))))
  (af (aw 10 bo.nd (c7 K (bh (az (bh pan) (az (bh pan) (az (bh pan) (az (xO K (cv 9) dB (cq ah)) (az (xO K (cv 9) (cq ah) (cq ah)) (az (xO K (cv 9) dB (cq ah)) (az (xO K (cv 9) (cq ah) dB) (az (cv 9) pan))))))))) (ar (ar (cv 7) ah) ah)))
  (af (aw 11 bo.nd (c7 K (bh (iw rfl)) (ar (ar (cv 7) ah) ah)))
  (am (aF (BA C.Game hr (az (aG C._law_board hr (az (aG C._law_mixed hr (az (cv 0) (az ah pan))) pan)) (az (cv 2) (az (cv 4) (az (cv 8) (az (cv 10) (az (cv 11) pan)))))))))))))))))))),?_⟩
 show bn _ _ _ [oR a,none,none,none,none,none,none,none,none,none,none,none] H;refine aO (aK (aa (ae rfl) (aa ao ay)) (λQ q=>⟨a,ns,1,rfl,hS,by decide,q⟩)) ?_;generalize mixF ns 1=c;refine bH (λv H'=>∃(kq:Zo)(ks:List Nat),v=.ref kq/\kT H' kq ks/\ks.length<=2/\aj H H') (λQ q=>?_) ?_
 .exact cu (aa (ae rfl) ay) ⟨_,rfl,λkq ks H' z1 z2 z3 z4=>q _ _ ⟨kq,ks,rfl,z1,z2,z4⟩⟩
 rintro _ H1 ⟨kq,ks,rfl,ek,k2,s1⟩;have hS1:=s1.seq hS;have hpos:(0:Int)<((ks.map strV).length:Int):=by rw[VN];have:=ek.l1;lia
 refine bH (λv H'=>∃n:Int,v=.int n/\0<=n/\n<=5/\aj H1 H') (λQ q=>?_) ?_
 .obtain⟨n,e,hn⟩:=Ox (ns:=[2,3,4,2,5,3,1,4,0,3]) (i:=c / 1300 % 10) (by lia) (by show _<(10:Int);lia);simp only[VO,V3,or_false]at hn;exact pH uN (by decide) (λH'=>(a7 (bx (ae rfl) ao) ao)) e (λH' s=>q _ _ ⟨n,rfl,by lia,by lia,s⟩)
 rintro _ H2 ⟨n,rfl,n0,n5,s2⟩;refine jX λrq hrq=>?_;have sr:aj H2 (upd H2 rq (.lst [])):=(aj.refl H2).upd hrq;refine bV (λσ' H'=>∃us:List (bw×Zo),(∃o5 o6,σ'=[oR a,oJ c,oR kq,oJ n,oR rq,o5,o6,none,none,none,none,none])/\H' rq=some (.lst (rRefs us))/\dQ H' us/\(∀z∈us,gR ks z.1)/\us.length<=12/\aj H2 H') (λK' hK=>?_) ?_
 .refine uu n (λQ q=>kX (v:=.int n) (ae rfl) q) (by lia) (by lia)
   (λi σ' H'=>∃us:List (bw×Zo),(∃o5 o6,σ'=[oR a,oJ c,oR kq,oJ n,oR rq,o5,o6,none,none,none,none,none])/\H' rq=some (.lst (rRefs us))/\dQ H' us/\(∀z∈us,gR ks z.1)/\us.length<=2*i/\aj H2 H')
   ⟨[],⟨_,_,rfl⟩,ag,λ_ z=>(nomatch z),λ_ z=>(nomatch z),XF _,sr⟩ ?_ (λσ' H' h=>?_)
  .rintro i _ H3 hi' ⟨us,⟨o5,o6,rfl⟩,h3,hR,hg,hl,s3⟩;show bn _ _ _ [oR a,oJ c,oR kq,oJ n,oR rq,oJ (0+(i:Int)),o6,none,none,none,none,none] H3;have hS3:=(s2.trans s3).seq hS1;have ek3:=ek.same (s2.trans s3);refine bH (λv H'=>∃(t:Zo)(u:bw),v=.ref t/\gR ks u/\H' t=some (.tup u.vs)/\aj H3 H') (λQ q=>?_) ?_
   .exact cu (aa (cj (aK (aa (ae rfl) (aa (cj ao (ae rfl)) ay)) (λQ q=>⟨a,ns,_,rfl,hS3,by lia,q⟩)) (cr ao (ae rfl) (.inl ⟨by decide,by decide⟩))) (aa (ae rfl) ay)) ⟨_,kq,ks,rfl,ek3,λt u H' g1 g2 g3 g4=>q _ _ ⟨t,u,rfl,g1,g3,g4⟩⟩
   rintro _ H4 ⟨t,u,rfl,gu,et,s4⟩;have h4:=s4 _ _ h3;refine AI (ae rfl) (ae rfl) h4 (by rw[VN,RW];lia) ?_;have ntr:t≠rq:=λe=>by rw[e,h4]at et;cases et
   have R5:dQ (upd H4 rq (.lst (rRefs us++[.ref t]))) (us++[(u,t)]):=(hR.add s4 et).put h4;have e5:(upd H4 rq (.lst (rRefs us++[.ref t]))) rq=some (.lst (rRefs (us++[(u,t)]))):=by rw[ag,show rRefs (us++[(u,t)])=rRefs us++[V.ref t]from VZ ..]
   have t5:(upd H4 rq (.lst (rRefs us++[.ref t]))) t=some (.tup u.vs):=by rw[aq ntr];exact et
   have s5:aj H2 (upd H4 rq (.lst (rRefs us++[.ref t]))):=(s3.trans s4).put hrq;have g5:∀z∈us++[(u,t)],gR ks z.1:=λz hz=>by
    rcases VY.mp hz with w|w
    .exact hg z w
    .rw[VR.mp w];exact gu
   generalize upd H4 rq (.lst (rRefs us++[.ref t]))=H5 at R5 e5 t5 s5 ⊢;have l5:(us++[(u,t)]).length=us.length+1:=by rw[VV];rfl
   generalize us++[(u,t)]=us1 at R5 e5 g5 l5;show qq _ _ _ _ [oR a,oJ c,oR kq,oJ n,oR rq,oJ (0+(i:Int)),oR t,none,none,none,none,none] H5;refine de (bb (yb (a7 (bx (ae rfl) ao) ao) ao)) (λ_=>?_) (λ_=>⟨us1,⟨_,_,rfl⟩,e5,R5,g5,by lia,s5⟩);have tt:aR K H5 t u.vs\/dF K H5 t u.vs:=.inr (dF.of t5);refine uO (ae rfl) ⟨_,e5⟩ (mM (bI (a8 (x:=.str u.kd) (ae rfl) ao tt rfl) (bI (a8 (x:=.str u.so) (ae rfl) ao tt rfl) (bI (a8 (x:=.str u.ai) (ae rfl) ao tt rfl) (bI (jr (a8 (x:=.int u.ax) (ae rfl) ao tt rfl)) (bI (jr (a8 (x:=.int u.up) (ae rfl) ao tt rfl)) (cU ⟨by show 5<=v1;decide,λt2 ht2=>?_⟩)))))));have s6:aj H5 (upd H5 t2 (.tup (bw.vs ⟨u.kd,u.so,u.ai, -u.ax, -u.up⟩))):=(aj.refl H5).upd ht2;refine⟨_,s6 _ _ e5,by rw[VN,l5,RW];lia,us1++[(⟨u.kd,u.so,u.ai, -u.ax, -u.up⟩,t2)],⟨_,_,rfl⟩,?_,(R5.add s6 ag).put (s6 _ _ e5),λz hz=>?_,by rw[VV,l5];show us.length+1+1<=_;lia,(s5.trans s6).put hrq⟩
   .rw[ag,show rRefs (us1++[((⟨u.kd,u.so,u.ai, -u.ax, -u.up⟩:bw),t2)])=rRefs us1++[V.ref t2]from VZ ..]
   .rcases VY.mp hz with w|w
    .exact g5 z w
    .rw[VR.mp w];exact gR.neg gu
  .obtain⟨us,o,x1,x2,x3,x4,x5⟩:=h;exact hK _ _ ⟨us,o,x1,x2,x3,by lia,x5⟩
 rintro _ H3 ⟨us,⟨o5,o6,rfl⟩,h3,hR,hg,hl,s3⟩;have hS3:=(s2.trans s3).seq hS1;refine aO (aK (aa (ae rfl) (aa ao ay)) (λQ q=>⟨a,ns,2,rfl,hS3,by decide,q⟩)) ?_;generalize mixF ns 2=mo;have ek3:=ek.same (s2.trans s3);refine jX λtq0 htq=>?_;have st3:aj H3 (upd H3 tq0 (.lst [])):=(aj.refl H3).upd htq;refine bV (λσ' H'=>∃(tq:Zo)(ts:List ((Str×Str)×Zo)),σ'=[oR a,oJ c,oR kq,oJ n,oR rq,o5,o6,oJ mo,oR tq,none,none,none]/\lU ks ts/\mn H' ts/\H' tq=some (.lst (cA ts))/\aj H3 H') (λK' hK=>?_) ?_
 .have ek3':=ek3.same st3;refine de (i6 (bb (eV (cQ (ae rfl) (.inl (aR.of ek3'.at_))) ao)) (λ_=>bb (eV (a7 (ae rfl) ao) ao))) (λh=>?_) (λ_=>hK _ _ ⟨tq0,[],rfl,⟨XF _,λ_ z=>(nomatch z),Wy,λ_ z=>(nomatch z)⟩,λ_ z=>(nomatch z),ag,st3⟩);have hlen:=RD (Yk.mp h).1;rw[VN]at hlen;obtain⟨x,y,rfl⟩:∃x y,ks=[x,y]:=by
   match ks,hlen with
   | [x,y],_=>exact⟨x,y,rfl⟩
   | [],h=>cases h
   | [_],h=>simp at h
   |_::_::_::_,h=>simp at h;lia
  have nxy:x≠y:=by have:=ek.nd;simp at this;exact this
  refine Cw (fI (cf (mM (bI (a8 (x:=strV x) (ae rfl) ao (.inl (aR.of ek3'.at_)) rfl) (bI (a8 (x:=strV y) (ae rfl) ao (.inl (aR.of ek3'.at_)) rfl) (cU ⟨by show 2<=v1;decide,λt ht=>cU ⟨by show 1<=v1;decide,λp hp=>?_⟩⟩))))));have s4:=st3.upd (o:=.tup [strV x,strV y]) ht;refine hK _ _ ⟨p,[((one x,one y),t)],rfl,⟨by simp,λz hz=>?_,by simp,λz hz z' hz'=>?_⟩,λz hz=>?_,ag,s4.upd hp⟩
  .rw[VR.mp hz];exact⟨⟨x,by simp,rfl⟩,y,by simp,rfl⟩
  .rw[VR.mp hz,VR.mp hz'];exact λe=>nxy (DL e).symm
  .rw[VR.mp hz];exact((aj.refl _).upd hp) _ _ (show(upd (upd H3 tq0 (HO.lst [])) t (HO.tup [strV x,strV y])) t=some (.tup [.str (one x),.str (one y)])from ag)
 rintro _ H4 ⟨tq,ts,rfl,tg,tp,et,s4⟩;have ek4:=ek3.same s4;obtain⟨x0,hx0,ex0⟩:∃x∈ks,atI (ks.map strV) 0=some (strV x):=by obtain⟨v,e,hv⟩:=xw (xs:=ks.map strV) (i:=0) (by decide) hpos;obtain⟨x,hx,rfl⟩:=VP.mp hv;exact⟨x,hx,e⟩
 obtain⟨xl,hxl,exl⟩:∃x∈ks,atI (ks.map strV) (-1)=some (strV x):=by
  rcases List.eq_nil_or_concat ks with e|⟨init,x,e⟩
  .have:=ek.l1;rw[e]at this;simp at this
  .rw[List.concat_eq_append]at e;exact⟨x,by rw[e];simp,by rw[e,VZ];exact Cv _ _⟩
 refine bH (λv H'=>∃sq t1 t2 t3,v=.ref sq/\H' sq=some (.lst [.ref t1,.ref t2,.ref t3])/\H' t1=some (.tup [.str "without",strV x0])/\H' t2=some (.tup [.str "home",strV xl])/\H' t3=some (.tup [.str "home",strV x0])/\aj H4 H') (λQ q=>?_) ?_
 .refine fI (cf (mM (bI ao (bI (a8 (ae rfl) ao (.inl (aR.of ek4.at_)) ex0) (cU ⟨by show 2<=v1;decide,λt1 h1=>?_⟩)))));have sA:aj H4 (upd H4 t1 (.tup [.str "without",strV x0])):=(aj.refl H4).upd h1;have eA:(upd H4 t1 (.tup [.str "without",strV x0])) t1=some (.tup [.str "without",strV x0]):=ag;generalize upd H4 t1 (.tup [.str "without",strV x0])=HA at sA eA ⊢;refine cf (mM (bI ao (bI (a8 (ae rfl) (jr ao) (.inl (aR.of (ek4.same sA).at_)) exl) (cU ⟨by show 2<=v1;decide,λt2 h2=>?_⟩))));have sB:aj HA (upd HA t2 (.tup [.str "home",strV xl])):=(aj.refl HA).upd h2;have eB:(upd HA t2 (.tup [.str "home",strV xl])) t2=some (.tup [.str "home",strV xl]):=ag;generalize upd HA t2 (.tup [.str "home",strV xl])=HB at sB eB ⊢;refine cf (mM (bI ao (bI (a8 (ae rfl) ao (.inl (aR.of (ek4.same (sA.trans sB)).at_)) ex0) (cU ⟨by show 2<=v1;decide,λt3 h3=>cU ⟨by show 3<=v1;decide,λsq hsq=>?_⟩⟩))));have sC:aj HB (upd HB t3 (.tup [.str "home",strV x0])):=(aj.refl HB).upd h3;have sD:=(aj.refl (upd HB t3 (.tup [.str "home",strV x0]))).upd (o:=.lst [.ref t1,.ref t2,.ref t3]) hsq;exact q _ _ ⟨sq,t1,t2,t3,rfl,ag,sD _ _ (sC _ _ (sB _ _ eA)),sD _ _ (sC _ _ eB),sD _ _ ag,((sA.trans sB).trans sC).trans sD⟩
 rintro _ H5 ⟨sq,t1,t2,t3,rfl,esq,et1,et2,et3,s5⟩;have subs:∀(H':Hp),aj H5 H'->∀es:List ((Str×Str)×Zo),(∀z∈es,z∈CT x0 xl t1 t2 t3)->mn H' es/\(∀z∈es,z.1.1∈gY/\∃b∈ks,z.1.2=one b):=λH' s es h=>by
  have all:∀z∈CT x0 xl t1 t2 t3,H' z.2=some (.tup [.str z.1.1,.str z.1.2])/\z.1.1∈gY/\∃b∈ks,z.1.2=one b:=λz hz=>by
   simp only[CT,VO,V3,or_false]at hz
   rcases hz with rfl|rfl|rfl
   .exact⟨s _ _ et1,(by decide:("without":Str)∈gY),x0,hx0,rfl⟩
   .exact⟨s _ _ et2,(by decide:("home":Str)∈gY),xl,hxl,rfl⟩
   .exact⟨s _ _ et3,(by decide:("home":Str)∈gY),x0,hx0,rfl⟩
  exact⟨λz hz=>(all z (h z hz)).1,λz hz=>(all z (h z hz)).2⟩
 refine bH (λv H'=>∃(eq:Zo)(es:List ((Str×Str)×Zo)),v=.ref eq/\H' eq=some (.lst (cA es))/\es.length<=3/\(∀z∈es,z∈CT x0 xl t1 t2 t3)/\aj H5 H') (λQ q=>?_) ?_
 .refine LB (λv H'=>∃p refs,v=.ref p/\H' p=some (.lst refs)/\refs.length=8/\(∀r∈refs,∃(eq:Zo)(es:List ((Str×Str)×Zo)),r=.ref eq/\H' eq=some (.lst (cA es))/\es.length<=3/\∀z∈es,z∈CT x0 xl t1 t2 t3)/\aj H5 H') (λR k=>?_) ?_
  .refine fI (cf (fI (cU ⟨XF _,λp1 h1=>?_⟩)));have sA:aj H5 (upd H5 p1 (.lst [])):=(aj.refl H5).upd h1;have eA:(upd H5 p1 (.lst [])) p1=some (.lst []):=ag;generalize upd H5 p1 (.lst [])=HA at sA eA ⊢;refine cf (fI (cU ⟨XF _,λp2 h2=>?_⟩));have sB:aj HA (upd HA p2 (.lst [])):=(aj.refl HA).upd h2;have eB:(upd HA p2 (.lst [])) p2=some (.lst []):=ag;generalize upd HA p2 (.lst [])=HB at sB eB ⊢;refine cf (fI (cU ⟨XF _,λp3 h3=>?_⟩));have sC:aj HB (upd HB p3 (.lst [])):=(aj.refl HB).upd h3;have eC:(upd HB p3 (.lst [])) p3=some (.lst []):=ag;generalize upd HB p3 (.lst [])=HC at sC eC ⊢;have s3c:=(sA.trans sB).trans sC;refine cf (pq (lo:=none) (hi:=some 1) (ae rfl) kE (iu ao) (aR.of (s3c _ _ esq)) λp4 h4=>?_);have sD:aj HC (upd HC p4 (.lst [.ref t1])):=(aj.refl HC).upd h4;have eD:(upd HC p4 (.lst [.ref t1])) p4=some (.lst [.ref t1]):=ag;show aN _ _ _ (upd HC p4 (.lst [.ref t1])) _;generalize upd HC p4 (.lst [.ref t1])=HD at sD eD ⊢;refine cf (pq (lo:=some 1) (hi:=some 2) (ae rfl) (iu ao) (iu ao) (aR.of ((s3c.trans sD) _ _ esq)) λp5 h5=>?_);have sE:aj HD (upd HD p5 (.lst [.ref t2])):=(aj.refl HD).upd h5;have eE:(upd HD p5 (.lst [.ref t2])) p5=some (.lst [.ref t2]):=ag;show aN _ _ _ (upd HD p5 (.lst [.ref t2])) _;generalize upd HD p5 (.lst [.ref t2])=HE at sE eE ⊢;have s3e:=(s3c.trans sD).trans sE;refine cf (pq (lo:=none) (hi:=some 2) (ae rfl) kE (iu ao) (aR.of (s3e _ _ esq)) λp6 h6=>?_);have sF:aj HE (upd HE p6 (.lst [.ref t1,.ref t2])):=(aj.refl HE).upd h6;have eF:(upd HE p6 (.lst [.ref t1,.ref t2])) p6=some (.lst [.ref t1,.ref t2]):=ag;show aN _ _ _ (upd HE p6 (.lst [.ref t1,.ref t2])) _;generalize upd HE p6 (.lst [.ref t1,.ref t2])=HF at sF eF ⊢;refine cf (pq (lo:=some 2) (hi:=none) (ae rfl) (iu ao) kE (aR.of ((s3e.trans sF) _ _ esq)) λp7 h7=>?_);have sG:aj HF (upd HF p7 (.lst [.ref t3])):=(aj.refl HF).upd h7;have eG:(upd HF p7 (.lst [.ref t3])) p7=some (.lst [.ref t3]):=ag;show aN _ _ _ (upd HF p7 (.lst [.ref t3])) _;generalize upd HF p7 (.lst [.ref t3])=HG at sG eG ⊢;refine bI (ae rfl) (cU ⟨by show 8<=v1;decide,λp hp=>?_⟩);have sP:=(aj.refl HG).upd (o:=.lst [.ref p1,.ref p2,.ref p3,.ref p4,.ref p5,.ref p6,.ref p7,.ref sq]) hp;have zF:=sG.trans sP;have zE:=sF.trans zF;have zD:=sE.trans zE;have zC:=sD.trans zD;have zB:=sC.trans zC;have zA:=sB.trans zB;refine k _ _ ⟨p,_,rfl,ag,rfl,λr hr'=>?_,sA.trans zA⟩;simp only[VO,V3,or_false]at hr'
   rcases hr' with rfl|rfl|rfl|rfl|rfl|rfl|rfl|rfl
   .exact⟨p1,[],rfl,zA _ _ eA,by simp,λ_ z=>(nomatch z)⟩
   .exact⟨p2,[],rfl,zB _ _ eB,by simp,λ_ z=>(nomatch z)⟩
   .exact⟨p3,[],rfl,zC _ _ eC,by simp,λ_ z=>(nomatch z)⟩
   .exact⟨p4,[(("without",one x0),t1)],rfl,zD _ _ eD,by simp,λz hz=>by rw[VR.mp hz];simp[CT]⟩
   .exact⟨p5,[(("home",one xl),t2)],rfl,zE _ _ eE,by simp,λz hz=>by rw[VR.mp hz];simp[CT]⟩
   .exact⟨p6,[(("without",one x0),t1),(("home",one xl),t2)],rfl,zF _ _ eF,by simp,λz hz=>by
     rcases VO.mp hz with h|h
     .rw[h];simp[CT]
     .rw[VR.mp h];simp[CT]⟩
   .exact⟨p7,[(("home",one x0),t3)],rfl,sP _ _ eG,by simp,λz hz=>by rw[VR.mp hz];simp[CT]⟩
   .exact⟨sq,[(("without",one x0),t1),(("home",one xl),t2),(("home",one x0),t3)],rfl,(sA.trans zA) _ _ esq,by simp,λz hz=>hz⟩
  .rintro _ H' ⟨p,refs,rfl,ep,l8,hr',s6⟩;obtain⟨v,e,hv⟩:=xw (xs:=refs) (i:=mo / 2 % 8) (by lia) (by rw[l8];show _<(8:Int);lia);obtain⟨eq,es,rfl,ee,l3,hz⟩:=hr' v hv;exact⟨p,refs,mo / 2 % 8,_,rfl,ep,(a7 (bx (ae rfl) ao) ao),e,q _ _ ⟨eq,es,rfl,ee,l3,hz,s6⟩⟩
 rintro _ H6 ⟨eq,es,rfl,ee,l3,hz3,s6⟩;refine bH (λv H'=>∃st:Str,v=.str st/\st∈jW/\aj H6 H') (λQ q=>?_) ?_
 .obtain⟨n,e,hn⟩:=xv (ss:=["lost","even","lost","won"]) (i:=mo / 16 % 4) (by lia) (by show _<(4:Int);lia);exact pH uN (by decide) (λH'=>(a7 (bx (ae rfl) ao) ao)) e (λH' s=>q _ _ ⟨n,rfl,by
   simp only[VO,V3,or_false]at hn
   rcases hn with rfl|rfl|rfl|rfl<;>decide,s⟩)
 rintro _ H7 ⟨st,rfl,hst,s7⟩;have s37:=((s4.trans s5).trans s6).trans s7;have hS7:=s37.seq hS3;refine Jo (Bu (cf (cu (aa (aK (aa (ae rfl) (aa ao ay)) (λQ q=>⟨a,ns,0,rfl,hS7,by decide,q⟩)) ay) ⟨_,rfl,λb wi hi hs H8 O m6 hl6 s8=>?_⟩)));refine iD (ae rfl) (iD (ae rfl) (iD (ae rfl) (iD (ae rfl) (iD (ae rfl) (KW λg gx ng ngx nne=>?_)))));have sF:aj H8 (upd (upd H8 gx (.own g)) g (.ins cG gx [])):=((aj.refl H8).upd ngx).upd (by rw[aq (Ne.symm nne)];exact ng);have s38:=s37.trans s8;have ekF:=ek3.same (s38.trans sF);have q3:=s38.trans sF;have q4:=(((s5.trans s6).trans s7).trans s8).trans sF;have q6:=(s7.trans s8).trans sF;have q5:aj H5 _:=(((s6.trans s7).trans s8).trans sF);obtain⟨hP,hg5⟩:=subs _ q5 es hz3;have mm:(ks.map one).map V.str=ks.map strV:=by rw[V0];rfl
 have tln:∀z∈ts,z.1.1.length<=1000/\z.1.2.length<=1000:=λz hz=>by obtain⟨⟨a,_,e1⟩,b,_,e2⟩:=tg.kd z hz;rw[e1,e2];exact⟨jl a,jl b⟩
 have eln:∀z∈es,z.1.1.length<=1000/\z.1.2.length<=1000:=λz hz=>by obtain⟨e1,b,_,e2⟩:=hg5 z hz;rw[e2];exact⟨Lw e1,jl b⟩
 refine⟨g,b,kq,rq,tq,eq,gx,ks.map one,rRefs us,cA ts,cA es,st,rfl,ag,by rw[mm];exact ekF.at_,q3 _ _ h3,q4 _ _ et,q6 _ _ ee,Le ekF,Ku (q3 _ _ h3) (hR.same q3) hg,A9 (q4 _ _ et) (tp.same q4) tln,A9 (q6 _ _ ee) hP eln,
  zJ ekF.at_ ek.ltr ek.nd ek.l1 ek.l6,yU (q3 _ _ h3) (hR.same q3) hg (by lia),yE (q4 _ _ et) (tp.same q4) tg,pz (q6 _ _ ee) hP (λz hz=>⟨(hg5 z hz).1,?_⟩) (by lia),hst,(by decide:∀s∈jW,s.length<=1000) st hst,λH9 G sb'=>⟨rfl,?_⟩⟩
 .obtain⟨b,hb,e2⟩:=(hg5 z hz).2;exact VP.mpr ⟨b,hb,e2.symm⟩
 .rw[mm]at G;have s9:aj H8 H9:=pE (aj.refl H8) ng ngx sb';have q5':aj H5 H9:=((s6.trans s7).trans s8).trans s9;have q4':aj H4 H9:=s5.trans q5';have q3':aj H3 H9:=s4.trans q4';obtain⟨hP',_⟩:=subs _ q5' es hz3;exact k g b kq wi hi hs ks us ts es st H9 ⟨G,O.same s9,ek.ltr,ek.l1,ek.l6,ek.nd,hR.same q3',hl,hg,tp.same q4',tg,hP',by lia,hg5,hst⟩ k2 m6 hl6 (((s1.trans s2).trans s3).trans q3')
end
def DT(ho:Ev to σ H (.ref a))(hn:lT C m H a)(q:sp [.ref a] H Q E0):uK C m sp to bG σ H Q:=ho _ ⟨hn,q⟩
theorem B3{α β:Type}(f:α->β):∀(l:List α)(k:Nat),(l.map f).eraseIdx k=(l.eraseIdx k).map f
 | [],_=>rfl
 |_::_,0=>rfl
 |a::l,k+1=>by show f a::(l.map f).eraseIdx k=f a::(l.eraseIdx k).map f;rw[B3 f l k]
def Bb(ho:Ev to σ H (.ref l))(hi:Ev te σ H (.int i))(hl:H l=some (.lst xs))(h0:0<=i)(h1:i<xs.length)(h9:xs.length<=1000)(q:∀v,xs[i.toNat]? =some v->Q v (upd H l (.lst (xs.eraseIdx i.toNat)))):Cp to te σ H Q:=ho _ ⟨⟨xs,hl⟩,hi _ (by
 have hx:xs[i.toNat]? =some (xs[i.toNat]'(by lia)):=VQ (by lia);exact⟨l,xs,i,i.toNat,_,rfl,rfl,hl,by lia,by lia,PySem.StrLaws.seqIndex_nonneg h0 h1,hx,q _ hx⟩)⟩
noncomputable def mOf(wi hi:Int)(hs:List Int):Nat:=if(freeQ wi hi hs).length<5 then 3 else 2
def w9(K:Frag)(cB cG:Zo):Sp:=λvs H Q _=>∃g b kq c wi hi hs ks us ts es st,vs=[.ref g,.int c]/\fY K cB cG H g b kq wi hi hs ks us ts es st/\wi*hi<=6/\
 ∀(t:Zo)(p:Pla)(H':Hp),wL wi hi hs ks (mOf wi hi hs) p->H t=none->H' t=some (.tup [.str p.1,.int p.2])->aj H H'->Q (.ref t) H'
structure Rq(P:RU)(w:RZ)(K:Frag)(mg:RJ)(Rw:R9)(cB:Zo):Prop where
 Board_squares:j6 P w K mg Rw cB "squares" ["self"] 1 (Jj K cB)
def xV(ha:Ev ta σ H (.bl a)):Ev (L2.cB BF (aN ta bG)) σ H (.int (if a then 1 else 0)):=λQ q=>ha _ q
theorem tO:∀{l:List Nat},(∀c∈l,c=35\/c=46)->pcs l=0
 | [],_=>rfl
 |c::l,h=>by rw[cb,RC (h c VW),tO λx hx=>h x (VU _ hx)]
section
def lu{f cB:Zo}{fd:R7}(F:cy K "squares" "Board.squares" bY f fd)(T:Txt mg aS aA aE aW)(B:jN K cB):aY P w K mg Rw cY 1 f fd ["self"] (Jj K cB):=by refine F.ok2 li ?_;rintro _ _ _ s H _ Q _ hr hu ⟨p,wi,hi,hs,rfl,O,k⟩;obtain⟨pf,ff,hf⟩:=O.firm B;have mm:=O.many;refine⟨_,(am (aF (fK (dc (N:=["square","firm"]) (src:=[none,none]) (ak bY) ["self"]) (JD K T.enumerate (bN K (cv 0))) (λ_ _ _=>(P9 K (n:=2) (fH (bA (i:=0) ["square","firm"]) (fH (bA (i:=1) ["square","firm"]) mB)))) (λ_ _ _=>(ny (bq (cv 1)))) (λ_ _ _=>(cv 0))))),?_⟩;show cD _ _ [oR p] H;refine fS (Ad (l:=firmL wi hi hs) (rest:=[]) (aP (ae rfl) ff) hf (by rw[uv];lia) rfl λH' d s hd=>?_);rw[BY];exact k d _ (s.free hd) ag (s.upd hd)
def oK{f cB cG:Zo}{fd:R7}(F:cy K "_law_place" "_law_place" dY f fd)(T:Txt mg aS aA aE aW)(B:jN K cB)(D:uU K cG)(C:Rq P w K mg Rw cB):aY P w K mg Rw cY 2 f fd ["_law_game_here","_law_cell"] (w9 K cB cG):=by
 refine F.ok2 bj ?_;rintro _ _ _ s H _ Q _ hr hu ⟨g,b,kq,c,wi,hi,hs,ks,us,ts,es,st,rfl,G,m6,q⟩;have mm:=G.bd.many;have w8:=G.bd.w8;have w1:=G.bd.w1;refine⟨_,(af (aw 2 bj.nd (Q0 (bh (az aU pan)) (ar (bN K (bN K (cv 0))) (bN K (bN K (cv 0))))))
  (af (jj SW rfl (sw K (bN K (bN K (cv 0)))) (dz 3 bj.nd) (am (vF aU (Be (cv 2) (cv 3) tw))))
  (af (aw 4 bj.nd (K9 C.Board_squares hr (bN K (cv 0))))
  (af (aw 5 bj.nd (ar ah (ar (uo jI ou T.int (az (iK K hu (kB (eZ K) bC T.len (az (cv 4) pan)) ah) pan)) (ar (cv 1) ah))))
  (af (aw 6 bj.nd (ar (ar (cv 1) ah) ah))
  (af (aw 1 bj.nd (ar (cv 1) ah))
  (af (jj SW rfl (P8 T.range (az (kB (Ag rfl) LH T.min (az (cv 5) (az (kB (eZ K) bC T.len (az (cv 4) pan)) pan))) pan)) (dz 7 bj.nd) (af (aw 8 bj.nd (Ck (cv 4) (ar (cv 1) (kB (eZ K) bC T.len (az (cv 4) pan)))))
  (af (aw 1 bj.nd (ar (cv 1) ah))
  (af (aw 9 bj.nd (c7 K (bN K (cv 0)) (ar (ar (ar (cv 1) ah) (kB (eZ K) bC T.len (az (bN K (cv 0)) pan))) (uo jI ou T.int (az (iK K hu (ar (cv 1) ah) ah) pan)))))
  (af (vF (c7 K (bh (az (rP PySem.F.slot_str_upper PySem.F.type_str_upper Bq (cv 9)) (az (cv 9) pan))) (ar (ar (cv 7) (ar (ar (ar (cv 1) ah) ah) (ar (cv 7) ah))) ah)) (Be (cv 2) (cv 8) tw))
  (am (aw 1 bj.nd (ar (cv 1) ah))))))))
  (am (aF (bD (az (ksm PySem.F.slot_str_join PySem.F.type_str_join (JB K) aU (az (cv 2) pan)) (az (cv 6) pan)))))))))))),?_⟩
 show bn _ _ _ [oR g,oJ c,none,none,none,none,none,none,none,none] H;obtain⟨n,hn⟩:∃n:Nat,wi*hi=n:=⟨(wi*hi).toNat,by lia⟩;refine bH (λv H'=>∃sq,v=.ref sq/\H sq=none/\H' sq=some (.lst ((List.replicate n 46).map strV))/\aj H H') (λQ q=>?_) ?_
 .refine(fI (bI ao (cU ⟨by show 1<=v1;decide,λp hp=>?_⟩)):lV _ _ H _);have s1:aj H (upd H p (.lst [.str "."])):=(aj.refl H).upd hp;have G1:=G.same s1;refine(cr (aP (aP (ae rfl) (G1.gm.board D)) (G1.bd.wide B)) (aP (aP (ae rfl) (G1.gm.board D)) (G1.bd.high B)) (.inl ⟨by lia,by lia⟩)) _ ⟨p,wi*hi,[.str "."],rfl,rfl,ag,by lia,by lia,by rw[RW];show 1*_<=_;lia,λp2 hp2=>q _ _ ⟨p2,rfl,s1.free hp2,?_,s1.upd hp2⟩⟩;rw[ag,hn,X2];have e:∀k:Nat,(List.replicate k [V.str "."]).flatten=(List.replicate k 46).map strV:=λk=>by
   induction k with
   |zero=>rfl
   |succ k ih=>
    rw[Ws,WF,ih,Ws,V2];rfl
  rw[e]
 rintro _ H1 ⟨sq,rfl,nsq,e1,s1⟩;have G1:=G.same s1;obtain⟨ph,fh,eh⟩:=G1.bd.holes B;have nph:ph≠sq:=λe=>by obtain⟨ph0,fh0,eh0⟩:=G.bd.holes B;obtain⟨C1,dx1,fs1,a1,_,_,l1⟩:=fh;obtain⟨C2,dx2,fs2,a2,_,_,l2⟩:=fh0;have a3:=s1 _ _ a2;rw[a1]at a3;injection a3 with a3;injection a3 with _ _ a3;rw[a3,l2]at l1;injection l1 with l1;injection l1 with l1;rw[l1,e,nsq]at eh0;cases eh0
 refine bV (λσ' H'=>∃(y3:Option V)(cs:List Nat),σ'=[oR g,oJ c,oR sq,y3,none,none,none,none,none,none]/\H' sq=some (.lst (cs.map strV))/\cs.length=n/\(∀s:Nat,s<n->cs[s]? =some (if(s:Int)∈hs then 35 else 46))/\aj H H') (λKK hK=>?_) ?_
 .refine iz (λv H'=>v=.ref ph/\H1=H') (λQ k=>kX (v:=.ref ph) (aP (aP (ae rfl) (G1.gm.board D)) fh) (k _ _ ⟨rfl,rfl⟩)) ?_;rintro _ _ ⟨rfl,rfl⟩;refine⟨ph,_,rfl,aR.of eh,λi σ' H'=>∃(y3:Option V)(cs:List Nat),σ'=[oR g,oJ c,oR sq,y3,none,none,none,none,none,none]/\H' sq=some (.lst (cs.map strV))/\cs.length=n/\(∀s:Nat,s<n->cs[s]? =some (if(s:Int)∈hs.take i then 35 else 46))/\aj H H'/\SameBut sq H1 H',⟨none,List.replicate n 46,rfl,e1,Xq,λs hs'=>by rw[WS,RC hs'];simp,s1,SameBut.refl _⟩,?_,?_,?_⟩
  .rintro i _ H' _ ⟨_,_,_,_,_,_,_,sb⟩;exact aR.of (sb _ _ eh nph)
  .rintro i v _ H' hv ⟨y3,cs,rfl,ec,lc,hc,s2,sb⟩;rw[VT]at hv;obtain⟨h,hh,rfl⟩:=YA.mp hv;have gd:=G.bd.good h (Wa hh);show oA _ (gSub _ _ A4) _ [some (.ref g),some (.int c),some (.ref sq),some (.int h),none,none,none,none,none,none] H';refine Js (P:=λv H''=>v=strV 35/\H''=H') (l:=sq) (i:=h) (λQ q=>ao _ (q _ _ ⟨RI V.str ut,rfl⟩)) ?_;rintro _ _ ⟨rfl,rfl⟩;refine⟨ae rfl,ae rfl,_,ec,gd.1,by rw[VN,lc];lia,_,cs.set h.toNat 35,rfl,by rw[ag,tu],by rw[WT,lc],λs hs'=>?_,s2.put nsq,?_⟩
   .rw[XC];have et:(s:Int)∈hs.take (i+1)<->(s:Int)∈hs.take i\/(s:Int)=h:=by rw[WH,hh];simp
    by_cases e:h.toNat=s
    .rw[RC e,RC (by rw[lc];lia),RC (et.mpr (.inr (by lia)))]
    .rw[RB e,hc s hs'];have:(s:Int)∈hs.take (i+1)<->(s:Int)∈hs.take i:=by rw[et];exact⟨λz=>z.resolve_right (by lia),.inl⟩
     by_cases hm:(s:Int)∈hs.take i
     .rw[RC hm,RC (this.mpr hm)]
     .rw[RB hm,RB (λz=>hm (this.mp z))]
   .exact λa o e n=>by rw[aq n];exact sb a o e n
  .rintro _ H' ⟨y3,cs,rfl,ec,lc,hc,s2,_⟩;refine hK _ _ ⟨y3,cs,rfl,ec,lc,λs hs'=>?_,s2⟩;have:=hc s hs'
   rwa[VN,Ww]at this
 rintro _ H2 ⟨y3,cs,rfl,ec,lc,hc,s2⟩;have G2:=G.same s2;have l0:(freeQ wi hi hs).length<=n:=by unfold freeQ;rw[VN];refine XG (Wp _ _) ?_;rw[We];lia
 have fin:∀s∈freeQ wi hi hs,0<=s/\s<wi*hi/\¬s∈hs:=λs hs'=>by obtain⟨i,hi',rfl⟩:=VP.mp hs';obtain⟨h1,h2⟩:=Wg.mp hi';have:=V4.mp h1;refine⟨by lia,by lia,?_⟩;simpa using h2
 refine bH (λv H'=>∃qs,v=.ref qs/\H2 qs=none/\H' qs=some (.lst ((freeQ wi hi hs).map V.int))/\aj H2 H') (λQ q=>?_) ?_
 .exact DT (aP (ae rfl) (G2.gm.board D)) G2.bd.no ⟨b,wi,hi,hs,rfl,G2.bd,λq1 H' n1 e1 s1=>q _ _ ⟨q1,rfl,n1,e1,s1⟩⟩
 rintro _ H3 ⟨qs,rfl,nqs,eqs,s3⟩;generalize hfr:freeQ wi hi hs=fr at eqs l0 fin;have ec3:=s3 _ _ ec;have nqq:qs≠sq:=λe=>by rw[e,ec]at nqs;cases nqs
 refine aO (v:=.int (2+(if decide ((fr.length:Int)<5)then 1 else 0)*(c % 2))) (cj ao (cr (xV (uw (by rw[<-VN (as:=fr) V.int];exact cQ (ae rfl) (.inl (aR.of eqs))) ao)) (a7 (ae rfl) ao) (.inr ⟨by lia,by lia⟩))) ?_;have hmany:2<=2+(if decide ((fr.length:Int)<5)then 1 else 0)*(c % 2)/\2+(if decide ((fr.length:Int)<5)then 1 else 0)*(c % 2)<=(mOf wi hi hs:Nat):=by
  unfold mOf;rw[hfr]
  by_cases h:fr.length<5
  .rw[Ry (by lia),RC h];simp;lia
  .rw[RA (by lia),RB h];simp
 generalize 2+(if decide ((fr.length:Int)<5)then 1 else 0)*(c % 2)=many at hmany ⊢;have hm3:mOf wi hi hs<=3:=by unfold mOf;split<;>lia
 refine aO (v:=.int (c / 2 % 2)) (a7 (bx (ae rfl) ao) ao) ?_;have hside:c / 2 % 2=0\/c / 2 % 2=1:=by lia
 generalize c / 2 % 2=side at hside ⊢;refine aO (v:=.int (c / 4)) (bx (ae rfl) ao) ?_;have R3:iR wi hi hs ks ⟨cs.toArray⟩:=by
  refine⟨by show cs.toArray.size=_;rw[VS,lc];lia,λs x hx=>?_⟩;have hx:cs[s]? =some x:=by simpa using hx
  have hlt:=(V5.mp hx).1;rw[hc s (by lia)]at hx;injection hx with hx;subst hx;unfold gP
  by_cases hm:(s:Int)∈hs
  .rw[RC hm,RC rfl];rfl
  .rw[RB hm];simp
 have p3:pcs cs=0:=tO λx hx=>by
  obtain⟨s,hs'⟩:=Xh hx;have hlt:=(V5.mp hs').1;rw[hc s (by lia)]at hs';injection hs' with hs';subst hs';split
  .exact .inl rfl
  .exact .inr rfl
 have s03:=s2.trans s3;have nq0:H qs=none:=s2.free nqs;refine bV (λσ' H'=>∃(y1 y7 y8 y9:Option V)(cs:List Nat),σ'=[oR g,y1,oR sq,y3,oR qs,oJ many,oJ side,y7,y8,y9]/\H' sq=some (.lst (cs.map strV))/\iR wi hi hs ks ⟨cs.toArray⟩/\(pcs cs:Int)<=many/\aj H H') (λKK hK=>?_) ?_
 .generalize hn2:(if(fr.length:Int)<many then(fr.length:Int)else many)=n2;have n20:0<=n2/\n2<=fr.length/\n2<=many:=by
   by_cases h:(fr.length:Int)<many
   .rw[RC h]at hn2;lia
   .rw[RB h]at hn2;lia
  refine uu n2 (λQ q=>(aa (Lr (ae rfl) (cQ (ae rfl) (.inl (aR.of eqs)))) ay) _ (by rw[VN,hn2];exact q)) (by lia) (by lia)
   (λi σ' H'=>∃(c:Int)(y7 y8 y9:Option V)(cs:List Nat)(ms:List Int),σ'=[oR g,oJ c,oR sq,y3,oR qs,oJ many,oJ side,y7,y8,y9]/\H' sq=some (.lst (cs.map strV))/\iR wi hi hs ks ⟨cs.toArray⟩/\pcs cs<=i/\H' qs=some (.lst (ms.map V.int))/\ms.length+i=fr.length/\(∀s∈ms,0<=s/\s<wi*hi/\¬s∈hs)/\aj H H')
   ⟨c / 4,none,none,none,cs,fr,rfl,ec3,R3,by lia,eqs,rfl,fin,s03⟩ ?_ ?_
  .rintro i _ H4 hi4 ⟨c,y7,y8,y9,cs,ms,rfl,e4,R4,p4,m4,l4,f4,s4⟩;show bn _ _ _ [oR g,oJ c,oR sq,y3,oR qs,oJ many,oJ side,oJ (0+(i:Int)),y8,y9] H4;have ml:0<ms.length/\ms.length<=6:=by lia
   have lcs:cs.length=n:=by
    have:=R4.len;have e:(⟨cs.toArray⟩:Str).length=cs.length:=by show cs.toArray.size=_;simp
    lia
   have cl0:0<=c % ((ms.map V.int).length:Int):=X3 _ (by rw[VN];lia);have cl1:c % ((ms.map V.int).length:Int)<((ms.map V.int).length:Int):=X4 _ (by rw[VN];lia);refine bH (λv H'=>∃(sx:Int)(ms':List Int),v=.int sx/\(0<=sx/\sx<wi*hi/\¬sx∈hs)/\ms'.length+(i+1)=fr.length/\(∀s∈ms',0<=s/\s<wi*hi/\¬s∈hs)/\H'=upd H4 qs (.lst (ms'.map V.int))) (λQ q=>?_) ?_
   .refine Bb (ae rfl) (a7 (ae rfl) (cQ (ae rfl) (.inl (aR.of m4))) (by rw[VN];lia)) m4 cl0 cl1 (by rw[VN];lia) (λv hv=>?_);rw[VT]at hv;obtain⟨sx,hsx,rfl⟩:=YA.mp hv;have hlt:=(V5.mp hsx).1;refine q _ _ ⟨sx,ms.eraseIdx (c % ((ms.map V.int).length:Int)).toNat,rfl,f4 sx (Wa hsx),?_,λs hs'=>f4 s (List.mem_of_mem_eraseIdx hs'),?_⟩
    .rw[W9 hlt];lia
    .rw[B3]
   rintro _ _ ⟨sx,ms',rfl,gx,lm',fm',rfl⟩;have e5:(upd H4 qs (.lst (ms'.map V.int))) sq=some (.lst (cs.map strV)):=by rw[aq nqq.symm];exact e4
   have s5:aj H (upd H4 qs (.lst (ms'.map V.int))):=s4.put nq0;have m5:(upd H4 qs (.lst (ms'.map V.int))) qs=some (.lst (ms'.map V.int)):=ag;generalize upd H4 qs (.lst (ms'.map V.int))=H5 at e5 s5 m5 ⊢;refine aO (v:=.int (c / 9)) (bx (ae rfl) ao) ?_;generalize c / 9=c9;have G5:=G.same s5;obtain⟨kq5,fk5,ek5⟩:=G5.gm.kinds D;have kl:1<=ks.length/\ks.length<=6:=⟨G.k1,G.k6⟩;obtain⟨k,hk,ek⟩:∃k∈ks,atI (ks.map strV) (c9 / 3 % ((ks.map strV).length:Int)*(if decide (c9 % 3=1)then 1 else 0))=some (strV k):=by have a0:0<=c9 / 3 % ((ks.map strV).length:Int):=X3 _ (by rw[VN];lia);have a1:c9 / 3 % ((ks.map strV).length:Int)<((ks.map strV).length:Int):=X4 _ (by rw[VN];lia);obtain⟨v,e,hv⟩:=xw (xs:=ks.map strV) (i:=c9 / 3 % ((ks.map strV).length:Int)*(if decide (c9 % 3=1)then 1 else 0)) (by split<;>lia) (by split<;>lia);obtain⟨x,hx,rfl⟩:=VP.mp hv;exact⟨x,hx,e⟩
   refine aO (v:=strV k) (a8 (aP (ae rfl) fk5) (cr (a7 (bx (ae rfl) ao) (cQ (aP (ae rfl) fk5) (.inl (aR.of ek5))) (by rw[VN];lia)) (xV (eV (a7 (ae rfl) ao) ao)) (.inr ⟨by split<;>lia,by split<;>lia⟩)) (.inl (aR.of ek5)) ek) ?_;have hl:=G.ltr k hk;show bn _ _ _ [oR g,oJ c9,oR sq,y3,oR qs,oJ many,oJ side,oJ (0+(i:Int)),oJ sx,some (strV k)] H5;refine bV (λσ' H'=>∃cs':List Nat,σ'=[oR g,oJ c9,oR sq,y3,oR qs,oJ many,oJ side,oJ (0+(i:Int)),oJ sx,some (strV k)]/\H' sq=some (.lst (cs'.map strV))/\iR wi hi hs ks ⟨cs'.toArray⟩/\pcs cs'<=i+1/\H' qs=some (.lst (ms'.map V.int))/\aj H H') (λKK hK=>?_) ?_
   .refine Js (P:=λv H'=>∃x,v=strV x/\(x∈ks\/x∈ks.map (· - 32))/\aj H5 H') (l:=sq) (i:=sx) (λQ q=>?_) ?_
    .obtain⟨x,ex,hx⟩:∃x,atI [V.str (one (k - 32)),V.str (one k)] ((0+(i:Int)+c9 / 2 % 2*((0+(i:Int)) / 2)) % 2)=some (strV x)/\(x∈ks\/x∈ks.map (· - 32)):=by
      rcases(by lia:(0+(i:Int)+c9 / 2 % 2*((0+(i:Int)) / 2)) % 2=0\/(0+(i:Int)+c9 / 2 % 2*((0+(i:Int)) / 2)) % 2=1)with h|h
      .rw[h];exact⟨k - 32,rfl,.inr (VP.mpr ⟨k,hk,rfl⟩)⟩
      .rw[h];exact⟨k,rfl,.inl hk⟩
     exact pH (aa (JK (ae rfl) hl) (aa (ae rfl) ay)) (by show 2<=1000;decide) (λH'=>a7 (cj (ae rfl) (cr (a7 (bx (ae rfl) ao) ao) (bx (ae rfl) ao) (.inl ⟨by lia,by lia⟩))) ao (by decide)) ex (λH' s=>q _ _ ⟨x,rfl,hx,s⟩)
    rintro _ H6 ⟨x,rfl,hx,s6⟩;refine⟨ae rfl,ae rfl,_,s6 _ _ e5,gx.1,by rw[VN,lcs];lia,hK _ _ ⟨cs.set sx.toNat x,rfl,by rw[ag,tu],?_,XG qU (by lia),by rw[aq nqq];exact s6 _ _ m5,(s5.trans s6).put nsq⟩⟩;refine⟨?_,λs' y hy=>?_⟩
    .show(cs.set sx.toNat x).toArray.size=_;rw[VS,WT,lcs];lia
    .have hy:(cs.set sx.toNat x)[s']? =some y:=by simpa using hy
     rw[XC]at hy
     by_cases e:sx.toNat=s'
     .rw[RC e]at hy;split at hy
      .injection hy with hy;subst hy;have:¬(s':Int)∈hs:=by
        have e2:(s':Int)=sx:=by lia
        rw[e2];exact gx.2.2
       unfold gP;rw[RB this,RB (by decide)];exact Ry (.inr hx)
      .cases hy
     .rw[RB e]at hy;exact R4.at_ s' y (by simpa using hy)
   rintro _ H6 ⟨cs',rfl,e6,R6,p6,m6',s6⟩;exact cR (v:=.int (c9 / 4)) (bx (ae rfl) ao) ⟨c9 / 4,_,_,_,cs',ms',rfl,e6,R6,p6,m6',lm',fm',s6⟩
  .rintro _ H4 ⟨c,y7,y8,y9,cs,ms,rfl,e4,R4,p4,m4,l4,f4,s4⟩;exact hK _ _ ⟨_,_,_,_,cs,rfl,e4,R4,by lia,s4⟩
 rintro _ H4 ⟨y1,y7,y8,y9,cs',rfl,e4,R4,p4,s4⟩;have lcs:cs'.length<=6:=by
  have:=R4.len;have e:(⟨cs'.toArray⟩:Str).length=cs'.length:=by show cs'.toArray.size=_;simp
  lia
 refine fS (mM (bI (B1 ao (ae rfl) e4 (by lia)) (bI (ae rfl) (cU ⟨by show 2<=v1;decide,λt ht=>?_⟩))));refine q t (⟨cs'.toArray⟩,side) _ ⟨R4,hside,?_⟩ (s4.free ht) ag (s4.upd ht);show pcs cs'.toArray.toList<=_;rw[List.toList_toArray];lia
end
section
def oP(F:cy K "gather" "Web.gather" eJ f fd)(T:Txt mg aS aA aE aW)(D:CH K cW)(m_TooWide:mg "TooWide"=some (.ref cT))(q_TooWide:YT K cT [.type "ValueError",.type "Exception",.type "BaseException",.type "object"] "ValueError.__new__"=true):aY P w K mg Rw (yy P w) 1 f fd ["self","found","most"] (xi cW cT):=by
 refine F.okX jQ (λvs H Q E h=>?_) (λcdv A Rx s H vs Q E hr h=>?_)
 .obtain⟨x,g,dx,lp,dn,lw,lo,d,zs,fs,ws,os,n,rfl,_⟩:=h;rfl
 .obtain⟨x,g,dx,lp,dn,lw,lo,d,zs,fs,ws,os,n,rfl,W,hd,fk,nd,gl,n1,q,k⟩:=h;have hu:=O0 hr;refine⟨_,(am (jj PassesOwn.leaving rfl (sw K (cv 1)) (dz 3 jQ.nd) (am (aZ (K6 hu (cv 3) (bN K (cv 0))) (af (aZ (aX K hu (kB (eZ K) bC T.len (az (bN K (cv 0)) pan)) (cv 2)) (am (tM PySem.F.excBase_ValueError rfl rfl m_TooWide q_TooWide (az aU pan) lO)) aH) (af (OR hu (bN K (cv 0)) (cv 3) (kB (eZ K) bC T.len (az (bN K (cv 0)) pan))) (am (cS (iP (bN K (cv 0)) (cv 3)))))) aH)))),?_⟩;have ndn:d≠dn:=λe=>by rw[e,W.nb]at hd;cases hd
  refine iz (λv H'=>v=.ref d/\H=H') (λQ k=>kX (v:=.ref d) (ae rfl) (k _ _ ⟨rfl,rfl⟩)) ?_;rintro _ _ ⟨rfl,rfl⟩;refine⟨d,_,rfl,aR.of hd,λi σ' H'=>∃(y:Option V)(zs':List (Pla×Zo)),σ'=[oR x,oR d,oJ n,y]/\zs'.map (·.1)=eO (zs.map (·.1)) ((fs.map (·.1)).take i)/\(zs'.length:Int)<=n/\eS cW H' x g dx lp dn lw lo zs' ws os/\(∀b o,H b=some o->b≠lp->b≠dn->H' b=some o),⟨none,zs,rfl,by simp[eO],gl,W,λb o e _ _=>e⟩,?_,?_,?_⟩
  .rintro i _ H' _ ⟨y,zs',rfl,_,_,_,fr⟩;exact aR.of (fr _ _ hd nd ndn)
  .rintro i v _ H' hv ⟨y,zs',rfl,ez,gz,W',fr⟩;rw[VT]at hv;obtain⟨z,hz,rfl⟩:=YA.mp hv;have hzm:=Wa hz;have tz:=fk z hzm;have tz':H' z.2=some (.tup [.str z.1.1,.int z.1.2]):=fr _ _ tz (λe=>by rw[e,W.pl]at tz;cases tz) (λe=>by rw[e,W.nb]at tz;cases tz);have et:(fs.map (·.1)).take (i+1)=(fs.map (·.1)).take i++[z.1]:=by rw[WH,VT,hz];rfl
   have gn:=pV z.1 ((fs.map (·.1)).take i) (zs.map (·.1));rw[<-et,<-ez]at gn;have gt:=zQ (fs:=fs.map (·.1)) (ps:=zs.map (·.1)) (i+1);have lz:zs'.length=(zs'.map (·.1)).length:=by rw[VN]
   show qq _ _ _ _ [oR x,oR d,oJ n,oR z.2] H';refine de (Db (p:=z.1) (ae rfl) (aP (ae rfl) (W'.fnumbers D)) tz' W'.nb) (λh=>?_) (λh=>?_)
   .rw[Yi,decide_eq_false_iff_not]at h;rw[RB h]at gn;have gl2:zs'.length+1<=(eO (zs.map (·.1)) (fs.map (·.1))).length:=by rw[gn,VV,<-lz]at gt;exact gt
    refine bB (bb (JL (W'.lenp D (ae rfl)) (ae rfl))) (λh=>?_) (λh=>?_)
    .have:=RD h;exact⟨by show 1<=v1;decide,k (by lia) _ fr⟩
    have h2:=RE h;have npd:lp≠dn:=λe=>by have:=W'.pl;rw[e,W'.nb]at this;cases this
    have nxd:x≠dn:=λe=>by have:=W'.at_;rw[e,W'.nb]at this;cases this
    refine Dh (p:=z.1) (ps:=zs'.map (·.1)) (by rw[<-lz];exact W'.lenp D (ae rfl)) (aP (ae rfl) (W'.fnumbers D)) (ae rfl) tz' W'.nb (by assumption) (by rw[<-lz,RW];lia) ?_;refine Dk (aP (ae rfl) ⟨cW,dx,_,(by rw[aq nxd];exact W'.at_),D.cl,D.places,o8⟩) (ae rfl) (by rw[aq npd];exact W'.pl) (by rw[VN,RW];lia) ⟨_,zs'++[z],rfl,by rw[gn,VZ];rfl,by rw[VV];show((zs'.length+1:Nat):Int)<=n;lia,W'.add tz',λb o e n1 n2=>?_⟩;rw[aq n1,aq n2];exact fr b o e n1 n2
   .rw[Yl,decide_eq_true_iff]at h;rw[RC h]at gn;exact⟨_,zs',rfl,by rw[gn],gz,W',fr⟩
  .rintro _ H' ⟨y,zs',rfl,ez,gz,W',fr⟩;rw[VN]at ez;exact q zs' H' gz (by rw[ez,<-VN (as:=fs) (·.1),Ww]) W' fr
end
def OY(h:t σ H λb H1=>if b=true then ta σ H1 Q else tb σ H1 Q):Oo t ta tb σ H Q:=h
section
def tX{f cB cG cW cP cT:Zo}{fd:R7}(F:cy K "__init__" "Web.__init__" bT f fd)(T:Txt mg aS aA aE aW)(D:CH K cW)(m_BadPlace:mg "BadPlace"=some (.ref cP))(q_BadPlace:YT K cP [.type "ValueError",.type "Exception",.type "BaseException",.type "object"] "ValueError.__new__"=true)(C:Rp P w K mg Rw cB cG cW cT):aY P w K mg Rw (yy P w) 8 f fd ["self","game","starts","most"] (mR K cB cG cW cP cT):=by
 refine F.okX fQ (λvs H Q E h=>?_) (λcdv A Rx s H vs Q E hr h=>?_)
 .obtain⟨x,g,b,kq,d,dx,H0,wi,hi,hs,ks,us,ts,es,st,xs,mo,rfl,_⟩:=h;rfl
 .obtain⟨x,g,b,kq,d,dx,H0,wi,hi,hs,ks,us,ts,es,st,xs,mo,rfl,s0,nx,hx,G,hd,l1000,tn,mo0,mo1,q⟩:=h;have hu:=O0 hr;refine⟨_,(af (aZ (bM (bq (kB (zM K) lD T.all (az (fK (dc (N:=["start","game"]) (src:=[none,some 1]) (ak bT) ["self","game","starts","most","place","found"]) (sw K (cv 2)) (λ_ _ _=>(bA (i:=0) ["start","game"])) (λ_ _ _=>bZ) (λ_ _ _=>(aG C.is_place hr (az (cv 1) (az (cv 0) pan))))) pan)))) (am (tM PySem.F.excBase_ValueError rfl rfl m_BadPlace q_BadPlace (az aU pan) lO)) aH) (af (gK K (cv 0) (cv 1)) (af (gK K (cv 0) (bh pan)) (af (gK K (cv 0) Bi) (af (gK K (cv 0) (bh pan)) (af (gK K (cv 0) (bh pan)) (af (cS (Bz C.Web_gather nK hr (cv 0) (az (cv 2) (az (cv 3) pan)))) (am (tL PassesOwn.leaving (aX K hu (kB (eZ K) bC T.len (az (bN K (cv 0)) pan)) (kB (eZ K) bC T.len (az (bN K (cv 0)) pan))) (af (aw 4 fQ.nd (c7 K (bN K (cv 0)) (kB (eZ K) bC T.len (az (bN K (cv 0)) pan)))) (af (aw 5 fQ.nd (aG C.followers hr (az (cv 1) (az (cv 4) pan)))) (af (cS (Bz C.Web_gather nK hr (cv 0) (az (cv 5) (az (cv 3) pan)))) (af (cS (iP (bN K (cv 0)) (fK (dc (N:=["follower","self"]) (src:=[none,some 0]) (ak bT) ["self","game","starts","most","place","found"]) (sw K (cv 5)) (λ_ _ _=>(bA (i:=0) ["follower","self"])) (λ_ _ _=>bZ) (λ_ _ _=>(OS hu (bN K (cv 1)) (cv 0)))))) (am (cS (iP (bN K (cv 0)) (cK (ON K (cv 5)) dj (bD (az (aG C.ending hr (az (cv 1) (az (cv 4) pan))) (az ah pan)))))))))))))))))))),?_⟩;show bn _ _ _ [oR x,oR g,oR d,oJ mo,none,none] H;have mm:=G.bd.many;have w1:=G.bd.w1;have dH:=s0 _ _ hd;refine c8 (λc H'=>c= !(xs.all λv=>ci wi hi hs ks H0 v)/\aj H H') (λQ q=>?_) (λH1 h=>?_) (λH1 h=>?_)
  .refine Kc (Rf (Ac (rest:=[oR g]) (ae rfl) dH (by rw[RW];lia) rfl (λv=>.bl (ci wi hi hs ks H0 v)) (λv hv H' s' Q' q'=>?_) (λH' d' s' hd'=>⟨xs.map λv=>ci wi hi hs ks H0 v,aR.of ?_,?_⟩)))
   .have G':=G.same (s0.trans s');refine cu (aa (ae rfl) (aa (ae rfl) ay)) ⟨g,b,v,wi,hi,hs,ks,_,_,_,st,rfl,G'.gm,G'.bd,G.ltr,G.k6,(tn v hv).same (s0.trans s'),λH2 s2=>?_⟩;rw[gW (tn v hv).thg (s0.trans s')];exact q' _ s2
   .rw[ag,V0];rfl
   .refine q _ _ ⟨?_,s'.upd hd'⟩;rw[WP];rfl
  .rcases q with⟨_,q⟩|⟨fs,m,n,rfl,fk,fg,_⟩
   .exact⟨by show 1<=v1;decide,q _ (s0.trans h.2)⟩
   .exfalso;have h1:=h.1;rw[eq_comm,Yi,Xm]at h1;obtain⟨v,hv,hb⟩:=h1;obtain⟨z,hz,rfl⟩:=VP.mp hv;have et:tupOf H0 (.ref z.2)=some [.str z.1.1,.int z.1.2]:=by simp only[tupOf,fk z hz]
    have:amongB (.int z.1.2) 0 1=true:=by
     rcases(fg z hz).sd with e|e<;>rw[e]<;>decide
    rw[j1 et,Ds (fg z hz).row,this]at hb;exact hb rfl
  obtain⟨h1,s1⟩:=h
  rcases q with⟨hb,_⟩|⟨fs,m,n,rfl,fk,fg,we,n2,qn,qw⟩
  .rw[hb]at h1;cases h1
  clear h1;obtain⟨p0,hP⟩:∃p0:List Pla,p0=fs.map (·.1):=⟨_,rfl⟩;rw[<-hP]at we;generalize hF:folF wi hi hs us ts es=FF at we;have fgood:∀y,wL wi hi hs ks m y->∀z∈FF y,wL wi hi hs ks m z:=λy hy=>by rw[<-hF];exact pX w1 (by lia) G.ltr G.tg hy
  have few:∀j,j<=n->(∀y∈dR FF p0 j,wL wi hi hs ks m y)/\(dR FF p0 j).length<=n:=λj hj=>by
   refine⟨sK (λy hy=>by
    rw[hP]at hy;obtain⟨z,hz,rfl⟩:=VP.mp hy;exact fg z hz) fgood (λk hk=>we.2 k (by lia)),?_⟩
   have:=o7 (F:=FF) (p0:=p0) hj;rw[we.1]at this;exact this
  refine Kk D (s1 _ _ hx) (λH'=>ae rfl) (λH'=>ae rfl) λH2 lp dn lw lo W nlp ndn nlw nlo sb=>?_;have f0:∀a,H1 a=none->H0 a=none:=λa e=>(s0.trans s1).free e;have s2:aj H0 H2:=λa o e=>sb a o ((s0.trans s1) a o e) (λz=>by rw[z,nx]at e;cases e);have fr0:∀(H3 H':Hp),aj H0 H3->(∀b o,H3 b=some o->b≠lp->b≠dn->H' b=some o)->aj H0 H':=λH3 H' s fr a o e=>fr a o (s a o e) (λz=>by rw[z,f0 _ nlp]at e;cases e) (λz=>by rw[z,f0 _ ndn]at e;cases e);refine vd (λH'=>∃zs:List (Pla×Zo),zs.map (·.1)=dR FF p0 0/\(zs.length:Int)<=mo/\eS cW H' x g dx lp dn lw lo zs [] []/\aj H0 H') (λQ k=>?_) ?_
  .refine xF (vs:=[.ref d,.int mo]) (ae rfl) W.no (aa (ae rfl) (aa (ae rfl) ay)) ⟨x,g,dx,lp,dn,lw,lo,d,[],fs,[],[],mo,rfl,W,s2 _ _ hd,fk.same s2,(λe=>by rw[e,f0 _ nlp]at hd;cases hd),mo0,mo1,λzs' H' lz ez W' fr=>k _ _ ⟨zs',by rw[hP];exact ez,lz,W',fr0 _ _ s2 fr⟩,λhlt H' fr=>qw ?_ _ (fr0 _ _ s2 fr)⟩;have:=(few 0 (XF _)).2;rw[hP]at this;have h2:(eO [] (fs.map (·.1))).length<=n:=this;have h3:mo<(eO [] (fs.map (·.1))).length:=hlt;lia
  rintro H3 ⟨zs0,ez0,lz0,W0,s3⟩;refine⟨λmm' σ' H'=>∃(i:Nat)(zs:List (Pla×Zo))(ws os:List V)(y4 y5:Option V),mm'=n - i/\i<=n/\σ'=[oR x,oR g,oR d,oJ mo,y4,y5]/\zs.map (·.1)=dR FF p0 i/\(zs.length:Int)<=mo/\eS cW H' x g dx lp dn lw lo zs ws os/\ws.length=i/\os.length=i/\aj H0 H',⟨_,0,zs0,[],[],none,none,rfl,XF _,rfl,ez0,lz0,W0,rfl,rfl,s3⟩,?_⟩;rintro mm' _ H4 ⟨i,zs,ws,os,y4,y5,rfl,hin,rfl,ez,lzm,W4,lw4,lo4,s4⟩;have lz:zs.length=(dR FF p0 i).length:=by rw[<-ez,VN]
  have fw:=few i hin;refine(bb (uw (cQ (aP (ae rfl) (W4.fways D)) (.inl (aR.of W4.wy))) (W4.lenp D (ae rfl))):Tv _ _ H4 _) _ ?_
  by_cases hlt:(ws.length:Int)<zs.length
  .rw[Ry hlt];have hi':i<zs.length:=by lia
   have hn:i+1<=n:=by lia
   have fw1:=few (i+1) hn;have ei:zs[i]? =some zs[i]:=VQ hi';generalize zs[i]=z at ei;have hzm:=Wa ei;have tz:=W4.pk z hzm;have ewi:(dR FF p0 i).getD i ("",0)=z.1:=by rw[<-ez,VX,VT,ei];rfl
   have Pz:wL wi hi hs ks m z.1:=fw.1 _ (by rw[<-ez];exact VP.mpr ⟨z,hzm,rfl⟩);refine iL ⟨λσ' H'=>∃(zs:List (Pla×Zo))(ws os:List V)(y4 y5:Option V),σ'=[oR x,oR g,oR d,oJ mo,y4,y5]/\zs.map (·.1)=dR FF p0 (i+1)/\(zs.length:Int)<=mo/\eS cW H' x g dx lp dn lw lo zs ws os/\ws.length=i+1/\os.length=i+1/\aj H0 H',?_,?_⟩
   .rintro σ' H' ⟨zs',ws',os',y4',y5',e1,e2,e3,e4,e5,e6,e7⟩;exact⟨n - (i+1),by lia,i+1,zs',ws',os',y4',y5',rfl,hn,e1,e2,e3,e4,e5,e6,e7⟩
   refine aO (v:=.ref z.2) (a8 (aP (ae rfl) (W4.fplaces D)) (cQ (aP (ae rfl) (W4.fways D)) (.inl (aR.of W4.wy))) (.inl (aR.of W4.pl)) (by rw[lw4];exact bz (by rw[VT,ei];rfl))) ?_;show bn _ _ _ [oR x,oR g,oR d,oJ mo,oR z.2,y5] H4;refine bH (λv H'=>∃(qf:Zo)(ps:List (Pla×Zo)),v=.ref qf/\kW wi hi hs z.1.1 us ts es z.1.2 (ps.map (·.1))/\H4 qf=none/\H' qf=some (.lst (plRefs ps))/\jU H' ps/\aj H4 H') (λQ k=>?_) ?_
   .exact cu (aa (ae rfl) (aa (ae rfl) ay)) ⟨g,b,kq,z.2,z.1.1,z.1.2,wi,hi,hs,ks,us,ts,es,st,rfl,G.same s4,dF.of tz,Pz.row,Pz.sd,λls qf H' hf nq hp s=>by
     obtain⟨ps,p1,p2,p3⟩:=hp;exact k _ _ ⟨qf,ps,rfl,p1▸hf,nq,p2,λy hy=>(p3 y hy).2,s⟩⟩
   rintro _ H5 ⟨qf,ps,rfl,hf,nqf,eqf,pk5,s5⟩;have eF:FF z.1=ps.map (·.1):=by rw[<-hF];exact Ed hf
   have ws1:dR FF p0 (i+1)=eO (zs.map (·.1)) (ps.map (·.1)):=by show eO _ (FF ((dR FF p0 i).getD i ("",0)))=_;rw[ewi,eF,ez]
   have W5:=(W4).same s5;have nqp:qf≠lp:=λe=>by rw[e,W4.pl]at nqf;cases nqf
   have nqd:qf≠dn:=λe=>by rw[e,W4.nb]at nqf;cases nqf
   refine vd (λH'=>∃zs':List (Pla×Zo),zs'.map (·.1)=dR FF p0 (i+1)/\(zs'.length:Int)<=mo/\eS cW H' x g dx lp dn lw lo zs' ws os/\(∀a o,H5 a=some o->a≠lp->a≠dn->H' a=some o)) (λQ k=>?_) ?_
   .refine xF (vs:=[.ref qf,.int mo]) (ae rfl) W5.no (aa (ae rfl) (aa (ae rfl) ay)) ⟨x,g,dx,lp,dn,lw,lo,qf,zs,ps,ws,os,mo,rfl,W5,eqf,pk5,nqp,lzm,mo1,λzs' H' lz' ez' W' fr=>k _ _ ⟨zs',by rw[ws1];exact ez',lz',W',fr⟩,λhlt H' fr=>qw ?_ _ (fr0 _ _ (s4.trans s5) fr)⟩;rw[<-ws1]at hlt;have:=fw1.2;lia
   rintro H6 ⟨zs',ez',lz',W6,fr6⟩;have s06:aj H0 H6:=fr0 _ _ (s4.trans s5) fr6;have eqf6:=fr6 _ _ eqf nqp nqd;have pk6:jU H6 ps:=λy hy=>fr6 _ _ (pk5 y hy) (λe=>by have h:=pk5 y hy;rw[e,W5.pl]at h;cases h) (λe=>by have h:=pk5 y hy;rw[e,W5.nb]at h;cases h);have mem:∀y∈ps,y.1∈zs'.map (·.1):=λy hy=>by rw[ez',ws1];exact(jo _ _).mpr (.inr (VP.mpr ⟨y,hy,rfl⟩))
   have psz:ps.length<=4096:=by
    rcases hf with⟨_,e⟩|⟨_,mv,_,l,e⟩
    .have:=RI List.length e;rw[VN]at this;rw[this];exact XF _
    .have:=RI List.length e;rw[VN,VN]at this;lia
   refine Dj (l:=lw) (aP (ae rfl) (W6.fways D)) ⟨_,W6.wy⟩ ?_;refine Cg (d:=qf) (xs:=plRefs ps) (rest:=[oR x]) (ae rfl) eqf6 (by rw[VN,RW];lia) rfl (λ_ _ _=>True) (λ_ _ _ _ _ _=>trivial) (λj v H' hv s' Q k=>?_) (λql H' ys s' hql _ _=>?_)
   .rw[VT]at hv;obtain⟨y,hy,rfl⟩:=YA.mp hv;have hym:=Wa hy;have W':=(W6).same s';have hg:=su.t (k:=gT y.1) W'.nb (s' _ _ (pk6 y hym));rw[nM,RC (mem y hym)]at hg;exact(aP (ae rfl) (W'.fnumbers D)) _ ((ae rfl) _ ⟨dn,_,rfl,hg,k _ _ trivial (aj.refl _)⟩)
   have W':=(W6).same s';have nlq:ql≠lw:=λe=>by rw[e,W'.wy]at hql;cases hql
   refine⟨ws,by rw[aq nlq.symm];exact W'.wy,by rw[lw4,RW];lia,?_⟩;generalize hH7:upd (upd H' ql (HO.lst ys)) lw (HO.lst (ws++[V.ref ql]))=H7;have k7:∀a o,H' a=some o->a≠lw->H7 a=some o:=λa o e n=>by rw[<-hH7,aq n,aq (aB e hql)];exact e
   have tup7:∀(a:Zo)(vs:List V),H' a=some (.tup vs)->H7 a=some (.tup vs):=λa vs h=>k7 a _ h (λe=>by rw[e,W'.wy]at h;cases h);have W7:eS cW H7 x g dx lp dn lw lo zs' (ws++[.ref ql]) os:=⟨k7 _ _ W'.at_ (λe=>by have:=W'.at_;rw[e,W'.wy]at this;cases this),k7 _ _ W'.pl W'.nwp.symm,λy hy=>tup7 _ _ (W'.pk y hy),k7 _ _ W'.nb (λe=>by have:=W'.nb;rw[e,W'.wy]at this;cases this),by rw[<-hH7,ag],k7 _ _ W'.ov W'.nwo.symm,W'.nwp,W'.nop,W'.nwo⟩;have s07:aj H0 H7:=λa o e=>k7 a o (s' _ _ (s06 _ _ e)) (λz=>by rw[z,f0 _ nlw]at e;cases e);have nqw:qf≠lw:=λe=>by rw[e,W4.wy]at nqf;cases nqf
   have eqf7:=k7 _ _ (s' _ _ eqf6) nqw;have tz6:=fr6 _ _ (s5 _ _ tz) (λe=>by have h:=s5 _ _ tz;rw[e,W5.pl]at h;cases h) (λe=>by have h:=s5 _ _ tz;rw[e,W5.nb]at h;cases h);have tz7:=tup7 _ _ (s' _ _ tz6);have G7:=G.same s07;have fin:∀(v:V)(H8:Hp),aj H7 H8->∃(zs:List (Pla×Zo))(ws os':List V)(y4 y5:Option V),[some (V.ref x),some (.ref g),some (.ref d),some (.int mo),some (.ref z.2),some (.ref qf)]=[some (.ref x),some (.ref g),some (.ref d),some (.int mo),y4,y5]/\zs.map (·.1)=dR FF p0 (i+1)/\(zs.length:Int)<=mo/\eS cW (upd H8 lo (.lst (os++[v]))) x g dx lp dn lw lo zs ws os'/\ws.length=i+1/\os'.length=i+1/\aj H0 (upd H8 lo (.lst (os++[v]))):=λv H8 s8=>by
    have W8:=(W7).same s8;have k9:∀a o,H8 a=some o->a≠lo->(upd H8 lo (.lst (os++[v]))) a=some o:=λa o e n=>by rw[aq n];exact e
    have tup9:∀(a:Zo)(vs:List V),H8 a=some (.tup vs)->(upd H8 lo (.lst (os++[v]))) a=some (.tup vs):=λa vs h=>k9 a _ h (λe=>by rw[e,W8.ov]at h;cases h);exact⟨zs',ws++[.ref ql],os++[v],_,_,rfl,ez',lz',⟨k9 _ _ W8.at_ (λe=>by have:=W8.at_;rw[e,W8.ov]at this;cases this),k9 _ _ W8.pl W8.nop.symm,λy hy=>tup9 _ _ (W8.pk y hy),k9 _ _ W8.nb (λe=>by have:=W8.nb;rw[e,W8.ov]at this;cases this),k9 _ _ W8.wy W8.nwo,ag,W8.nwp,W8.nop,W8.nwo⟩,by rw[VV,lw4];rfl,by rw[VV,lo4];rfl,λa o e=>k9 _ _ (s8 _ _ (s07 _ _ e)) (λz=>by rw[z,f0 _ nlo]at e;cases e)⟩
   have lo7:os.length<v1:=by rw[lo4,RW];lia
   show jP (Am _ _) _ [some (.ref x),some (.ref g),some (.ref d),some (.int mo),some (.ref z.2),some (.ref qf)] H7;refine uO (l:=lo) (aP (ae rfl) (W7.fovers D)) ⟨_,W7.ov⟩ (OY (Ja (kX (v:=.ref qf) (ae rfl) ⟨!(plRefs ps).isEmpty,Dc (aR.of eqf7) rfl,?_⟩)))
   by_cases hps:ps=[]
   .subst hps;refine hG (mM (LA (P:=λv H'=>aj H7 H') (λQ k=>?_) ?_))
    .exact cu (aa (ae rfl) (aa (ae rfl) ay)) ⟨g,b,kq,z.2,z.1.1,z.1.2,wi,hi,hs,ks,us,ts,es,st,rfl,G7,dF.of tz7,Pz.row.g G.ltr mm.2,by have:=Pz.row.len;lia,Pz.sd,λv H' he s=>k _ _ s⟩
    intro v H8 s8;exact bI ao (cU ⟨by show 2<=v1;decide,λt ht=>⟨os,(s8.upd ht) _ _ W7.ov,lo7,fin _ _ (s8.upd ht)⟩⟩)
   .have hne:(!(plRefs ps).isEmpty)=true:=by
     cases ps with
     |nil=>exact RF rfl hps
     |cons a l=>rfl
    rw[hne];exact iL ⟨os,W7.ov,lo7,fin _ _ (aj.refl H7)⟩
  .rw[RA hlt];have en:i=n:=by
    by_cases e:i=n
    .exact e
    .have:=we.2 i (by lia);lia
   subst en;refine hG (qn ?_ lp dn lw lo zs ws os H4 ?_ W4 s4)
   .rw[<-we.1,<-lz];exact lzm
   .rw[lz,we.1]
end
def wm{cv:Zn}{b:Bool}(h:Av t σ H [.ref a,y])(hy:∀u,aQ y u->u=cv)(ha:H a=some (CG (.ref D) a))(F:PySem.W.ExcC K D)(hb:YG K (.ref D) cv=some b):Ev (L2.cB (isX K) t) σ H (.bl b):=λQ q=>h _ ⟨a,D,y,cv,b,rfl,hy,ha,F,hb,q⟩
def sR(h:t σ H λc H1=>if c=true then R true H1 else u σ H1 R):L4 t u σ H R:=h
def BE(cs:List Zo)(ha:Ev t0 σ H (.ref a))(ht:Av ta σ H (cs.map V.ref))(hx:H a=some (CG (.ref D) a))(F:PySem.W.ExcC K D)(hb:∀c∈cs,YG K (.ref D) (.ref c)=some false)(hl:cs.length<=100)(q:∀H',aj H H'->Q (.bl false) H'):L2.cB (OW K) (aN t0 (aN (mO ta) bG)) σ H Q:=
 ha _ (ht _ ⟨by rw[VN,RW];lia,λp hp=>⟨a,D,p,cs,rfl,((aj.refl H).upd hp) _ _ hx,F,dF.of ag,hb,q _ ((aj.refl H).upd hp)⟩⟩)
def Ra:("":Str)++("place":Str)="place":=by decide+kernel
def Q9:("":Str)++("wide":Str)="wide":=by decide+kernel
noncomputable def IW(b:Bool):Str:=if b=true then"place"else"wide"
def _root_.L2.FnN.or(F:FnN P w K mg Rw k f fd ps sp)(G:FnN P w K mg Rw k f fd ps sp'):FnN P w K mg Rw k f fd ps (λvs H Q E=>sp vs H Q E\/sp' vs H Q E):=
 ⟨λvs H Q E h=>h.elim (F.len vs H Q E) (G.len vs H Q E),λA Rx s H args us vs Q hr he hb hv hs=>hs.elim (F.run A Rx s H args us vs Q hr he hb hv) (G.run A Rx s H args us vs Q hr he hb hv)⟩
section
def kF(F:cy K "_law_word" "_law_word" fA f fd)(T:Txt mg aS aA aE aW)(AL:Ru mg K D false false false b false (!b) false false false):FnN P w K mg Rw 1 f fd ["_law_e"] (gU D (IW b)):=by
 obtain⟨cBB,m_BadBoard,k1⟩:=AL.f1;obtain⟨cBG,m_BadGame,k2⟩:=AL.f2;obtain⟨cBL,m_BadLine,k3⟩:=AL.f3;obtain⟨cBP,m_BadPlace,k4⟩:=AL.f4;obtain⟨cNM,m_NoMove,k5⟩:=AL.f5;obtain⟨cTW,m_TooWide,k6⟩:=AL.f6;obtain⟨cNW,m_NoWord,k7⟩:=AL.f7;obtain⟨cOv,m_Over,k8⟩:=AL.f8;obtain⟨cNB,m_NothingBack,k9⟩:=AL.f9;have rf:∀(c:Zo)(u:Zn),aQ (.ref c) u->u=.ref c:=λc u h=>h;refine F.okN df (λvs H Q E h=>?_) (λcdv A Rx s H vs Q hr h=>?_)
 .obtain⟨a,rfl,_⟩:=h;rfl
 .obtain⟨a,rfl,ha,q⟩:=h;refine⟨_,(af (aw 1 df.nd aU) (af (aZ (bq (kB (oo K) cM T.isinstance (az (cv 0) (az (kg (v:=.ref _) ⟨_,m_BadPlace,rfl⟩) pan)))) (am (aw 1 df.nd (ar (cv 1) aU))) aH) (af (aZ (bq (kB (oo K) cM T.isinstance (az (cv 0) (az (kg (v:=.ref _) ⟨_,m_TooWide,rfl⟩) pan)))) (am (aw 1 df.nd (ar (cv 1) aU))) aH) (af (aZ (PW.pt (gV (bq (kB (qc K) cM T.isinstance (az (cv 0) (az (bD (az (kg (v:=.ref _) ⟨_,m_BadBoard,rfl⟩) (az (kg (v:=.ref _) ⟨_,m_BadGame,rfl⟩) (az (kg (v:=.ref _) ⟨_,m_BadLine,rfl⟩) pan)))) pan)))) (eX (bq (kB (qc K) cM T.isinstance (az (cv 0) (az (bD (az (kg (v:=.ref _) ⟨_,m_NoMove,rfl⟩) (az (kg (v:=.ref _) ⟨_,m_NoWord,rfl⟩) (az (kg (v:=.ref _) ⟨_,m_Over,rfl⟩) (az (kg (v:=.ref _) ⟨_,m_NothingBack,rfl⟩) pan))))) pan))))))) (am (aw 1 df.nd (ar (cv 1) aU))) aH) (af (aZ (bM (bq (kB (oo K) cM T.isinstance (az (cv 0) (az (xz (v:=.ty "ValueError") rfl T.ValueError oX rfl) pan))))) (am (aw 1 df.nd (ar (cv 1) aU))) aH) (am (aF (cv 1)))))))),?_⟩;show bn _ _ _ [oR a,none] H;refine aO (v:=.str "") ao ?_;refine bV (λσ' H'=>σ'=[oR a,oT (if b=true then"place"else"")]/\H=H') (λKK hK=>?_) ?_
  .refine de (bb (wm (aa (ae rfl) (aa ao ay)) (rf _) ha AL.x k4)) (λh=>?_) (λh=>hK _ _ ⟨by rw[h];rfl,rfl⟩);exact cR (v:=.str (("":Str)++("place":Str))) (gX (ae rfl) ao (by decide+kernel)) (hK _ _ ⟨by rw[h,Ra];rfl,rfl⟩)
  rintro _ _ ⟨rfl,rfl⟩;refine bV (λσ' H'=>σ'=[oR a,oT (IW b)]/\H=H') (λKK hK=>?_) ?_
  .refine de (bb (wm (aa (ae rfl) (aa ao ay)) (rf _) ha AL.x k6)) (λh=>?_) (λh=>?_)
   .cases b with
    |true=>cases h
    |false=>exact cR (v:=.str (("":Str)++("wide":Str))) (gX (ae rfl) ao (by decide+kernel)) (hK _ _ ⟨by rw[Q9];rfl,rfl⟩)
   .cases b with
    |true=>exact hK _ _ ⟨rfl,rfl⟩
    |false=>cases h
  rintro _ _ ⟨rfl,rfl⟩;refine c8 (λc H'=>c=false/\aj H H') (λQ q=>?_) (λH' h=>by cases h.1) (λH1 h=>?_)
  .refine sR (BE [cBB,cBG,cBL] (ae rfl) (aa ao (aa ao (aa ao ay))) ha AL.x (λc hc=>?_) (by show 3<=100;decide) λH1 s1=>hG (A:=Q true H1) (BE [cNM,cNW,cOv,cNB] (ae rfl) (aa ao (aa ao (aa ao (aa ao ay)))) (s1 _ _ ha) AL.x (λc hc=>?_) (by show 4<=100;decide) λH2 s2=>q _ _ ⟨rfl,s1.trans s2⟩))
   .simp at hc
    rcases hc with rfl|rfl|rfl
    .exact k1
    .exact k2
    .exact k3
   .simp at hc
    rcases hc with rfl|rfl|rfl|rfl
    .exact k5
    .exact k7
    .exact k8
    .exact k9
  obtain⟨_,s1⟩:=h;refine bB (cC (bb (wm (aa (ae rfl) (aa ao ay)) (λu h=>h) (s1 _ _ ha) AL.x AL.v))) (λh=>by cases h) (λ_=>?_);exact aL (ae rfl) (q _ s1)
end
noncomputable def pF(n:Nat):Str:=("made":Str)++(toString (n:Int):Str)
def vf(K:Frag)(cB cG:Zo):Sp:=λvs H Q _=>∃(g b kq d:Zo)(wi hi:Int)(hs:List Int)(ks:List Nat)(us:List (bw×Zo))(ts es:List ((Str×Str)×Zo))(st:Str)(xs:List V)(mo:Int),vs=[.ref g,.ref d,.int mo]/\fY K cB cG H g b kq wi hi hs ks us ts es st/\H d=some (.lst xs)/\xs.length<=1000/\(∀v∈xs,cz H 1 v)/\0<=mo/\mo<=10000/\
 (((xs.all λv=>ci wi hi hs ks H v)=false/\∀H',aj H H'->Q (.str "place") H')\/
  ∃(fs:List (Pla×Zo))(m n:Nat),xs=plRefs fs/\jU H fs/\(∀z∈fs,wL wi hi hs ks m z.1)/\C6 (folF wi hi hs us ts es) (fs.map (·.1)) n/\n<=2000/\
   ((n:Int)<=mo->∀H',aj H H'->Q (.str (pF n)) H')/\(mo<n->∀H',aj H H'->Q (.str "wide") H'))
structure CMd(P:RU)(w:RZ)(K:Frag)(mg:RJ)(Rw:R9)(cB cG cW cP cT:Zo):Prop where
 Web:CM P w K mg Rw "Web" cW ["self","game","starts","most"] 8 (mR K cB cG cW cP cT)
 _law_word:LX P w K mg Rw "_law_word" ["_law_e"] 1 (λvs H Q E=>gU cP "place" vs H Q E\/gU cT "wide" vs H Q E)
def On{xs:List V}(t:∀v∈xs,cz H 1 v):∀x∈xs,(flatV x||xU x)=true:=λx hx=>by
 have h:=(t x hx).thg;cases x with
 |non=>rfl
 |bl _=>rfl
 |int _=>rfl
 |str _=>rfl
 |ref _=>rfl
 |_=>exact h.elim
def Ct(h:ta σ H λx H1=>tb σ H1 λy H2=>wH op x y H2 Q):mj op ta tb σ H Q:=h
def uc{n:Nat}(h:n<=2000):("made":Str).length+(toString (n:Int):Str).length<=v1:=by
 have e:(toString (n:Int):String)=Nat.repr n:=rfl;have h2:=PySem.nat_repr_length_le (n:=n) (k:=11) (by decide) (by lia);have h3:("made":Str).length=4:=by decide+kernel
 have h4:(SX (Nat.repr n)).length=(Nat.repr n).length:=by rw[bP,Bn,VN,String.length_toList]
 rw[e,h3,h4,RW];lia
def K1(h1:σ[1]? =some (some (.ref d)))(h3:σ[3]? =some (some (.ref kp)))(h5:σ[5]? =some (some (.ref a)))(ed:H d=some (.lst xs))(ek:H kp=some (.lst xs))(cp:∀x∈xs,(flatV x||xU x)=true)(hw:∀Q:VK,(∀H',aj H H'->Q (.str wd) H')->sp [.ref a] H Q E0)(q:∀H',aj H H'->D.rt (.str wd) H'):cD (Ep K (lV (aN (gQ sp (aN (cL 5) bG)) (aN (tC (.str "changed")) bG))) (L2.cB BF (aN (fL K .NotEq (cL 1) (cL 3)) bG))) D σ H:=by refine fS (JE (fI (cf (cu (aa (ae h5) ay) (hw _ λH' s=>bI ao (cU ⟨by show 2<=v1;decide,λl hl=>?_⟩))))));have s2:=s.upd (o:=.lst [.str wd,.str "changed"]) hl;exact kX (v:=.int 0) (xV (a:=false) (BZ (a:=true) (ae h1) (ae h3) (ux (aR.of (s2 _ _ ed)) (aR.of (s2 _ _ ek)) cp))) ⟨_,_,.inl (aR.of ag),rfl,q _ s2⟩
section
def rz{f cB cG cW cP cT cE:Zo}{fd:R7}(F:cy K "_law_made" "_law_made" fC f fd)(T:Txt mg aS aA aE aW)(D:CH K cW)(m_PlayError:mg "PlayError"=some (.ref cE))(xP:YU K (.ref cP) (.ref cE)=some true)(xT:YU K (.ref cT) (.ref cE)=some true)(C:CMd P w K mg Rw cB cG cW cP cT):aY P w K mg Rw cY 10 f fd ["_law_game_here","_law_starts","_law_most"] (vf K cB cG):=by
 refine F.ok2 iF ?_;rintro _ _ _ s H vs Q E hr hu ⟨g,b,kq,d,wi,hi,hs,ks,us,ts,es,st,xs,mo,rfl,G,hd,l1000,tn,mo0,mo1,q⟩;refine⟨_,(af (aw 3 iF.nd (uo (uk K) g6 T.list (az (cv 1) pan)))
  (af (Dw (jy:=4) (i:=5) C.Web hr (λ_ _ z=>z) (az (cv 0) (az (cv 1) (az (cv 2) pan))) m_PlayError iF.nd rfl rfl (λ_=>(am (aF (c7 K (bh (az (Lg C._law_word (hr.n _) (az (cv 5) pan)) (az aU pan))) (uo jI ou T.int (az (iK K hu (cv 1) (cv 3)) pan)))))))
  (am (aF (ar (c7 K (bh (az aU (az aU pan))) (uo jI ou T.int (az (iK K hu (cv 1) (cv 3)) pan))) (uo qb oq T.str (az (kB (eZ K) bC T.len (az (bN K (cv 4)) pan)) pan))))))),?_⟩
 show bn _ _ _ [oR g,oR d,oJ mo,none,none,none] H;refine bH (λv H'=>∃l:Zo,v=.ref l/\H l=none/\H' l=some (.lst xs)/\aj H H') (λQ q=>OM (ae rfl) (.inl (aR.of hd)) λl hl=>q _ _ ⟨l,rfl,hl,ag,(aj.refl H).upd hl⟩) ?_;rintro _ H1 ⟨kp,rfl,nk,ek,s1⟩;have cp:=On tn;refine J6 (aa (ae rfl) (aa (ae rfl) (aa (ae rfl) ay))) λx dx hx hdx ne=>?_;have hx':(L2.upd H1 dx (.own x)) x=none:=by rw[aq (Ne.symm ne)];exact hx
 refine⟨x,g,b,kq,d,dx,H1,wi,hi,hs,ks,us,ts,es,st,xs,mo,rfl,((aj.refl H1).upd hdx).upd hx',hx,ag,G.same s1,s1 _ _ hd,l1000,λv hv=>(tn v hv).same s1,mo0,mo1,?_⟩;have pall:(xs.all λv=>ci wi hi hs ks H1 v)=xs.all λv=>ci wi hi hs ks H v:=by apply Yg.mpr;rw[Wc,Wc];exact⟨λh v hv=>by rw[<-gW (tn v hv).thg s1];exact h v hv,λh v hv=>by rw[gW (tn v hv).thg s1];exact h v hv⟩
 have hnd:∀(cx:Zo)(wd:Str)(H2:Hp)(a:Zo),aj H1 H2->H2 a=none->(∀H',aj H H'->Q (.str wd) H')->(∀vs H Q E,gU cx wd vs H Q E->gU cP "place" vs H Q E\/gU cT "wide" vs H Q E)->cD (Ep K (lV (aN (gQ (λvs H Q E=>gU cP "place" vs H Q E\/gU cT "wide" vs H Q E) (aN (cL 5) bG)) (aN (tC (.str "changed")) bG))) (L2.cB BF (aN (fL K .NotEq (cL 1) (cL 3)) bG))) {nx:=λ_ _=>False,rt:=Q} [some (.ref g),some (.ref d),some (.int mo),some (.ref kp),none,some (.ref a)] (L2.upd H2 a (CG (.ref cx) a)):=λcx wd H2 a s2 ha qw hsp=>by have s3:aj H1 (L2.upd H2 a (CG (.ref cx) a)):=s2.upd ha;exact K1 (xs:=xs) rfl rfl rfl (s3 _ _ (s1 _ _ hd)) (s3 _ _ ek) cp (λR r=>hsp _ _ _ _ ⟨a,rfl,ag,r⟩) (λH' s=>qw _ ((s1.trans s3).trans s))
 rcases q with⟨ba,q⟩|⟨fs,m,n,rfl,fk,fg,we,n2,qn,qw⟩
 .exact .inl ⟨by rw[pall];exact ba,λH2 s2=>⟨xP,λa ha=>hnd cP "place" H2 a s2 ha q λ_ _ _ _ h=>.inl h⟩⟩
 refine .inr ⟨fs,m,n,rfl,fk.same s1,fg,we,n2,λhle lp dn lw lo zs ws os H2 lz W s2=>⟨rfl,?_⟩,λhlt H2 s2=>⟨xT,λa ha=>hnd cT "wide" H2 a s2 ha (qw hlt) λ_ _ _ _ h=>.inr h⟩⟩;refine fS (Ct (JE (fI (bI ao (bI ao (cU ⟨by show 2<=v1;decide,λl hl=>?_⟩))))));have s3:=s2.upd (o:=.lst [.str "made",.str "changed"]) hl;have W3:=(W).same ((aj.refl H2).upd (o:=.lst [.str "made",.str "changed"]) hl);refine kX (v:=.int 0) (xV (a:=false) (BZ (a:=true) (ae rfl) (ae rfl) (ux (aR.of (s3 _ _ (s1 _ _ hd))) (aR.of (s3 _ _ ek)) cp))) ⟨_,_,.inl (aR.of ag),rfl,?_⟩;refine kX (v:=.str (toString (n:Int))) ?_ ⟨uc n2,qn hle _ (s1.trans s3)⟩;exact x9 (by rw[<-lz];exact W3.lenp D (ae rfl)) (pG (by lia))
end
def oZ(wi hi:Int)(hs:List Int)(ks:List Nat)(H:Hp)(v:V):Prop:=cz H 1 v/\ci wi hi hs ks H v=false
theorem oZ.same(h:oZ wi hi hs ks H v)(s:aj H H'):oZ wi hi hs ks H' v:=⟨h.1.same s,by rw[gW h.1.thg s];exact h.2⟩
section
variable{wi hi:Int}{hs:List Int}{ks:List Nat}
def nw(h:z.length≠(wi*hi).toNat):rowB wi hi hs ks (.str z)=false:=by unfold rowB;dsimp only;rw[RA (by rw[j5];exact h)];rfl
def xt(hk:z.cps.toList[k]? =some c)(hl:k<(wi*hi).toNat)(hb:gP ks c (if(k:Int)∈hs then 35 else 46)=false):rowB wi hi hs ks (.str z)=false:=by unfold rowB;dsimp only;rw[Bool.and_eq_false_iff];refine .inr (Xm.mpr ⟨_,Wa (i:=k) (by rw[Xz,hk,zY hl]),?_⟩);rw[hb];exact Yd
def De(e:v=.ref a)(h:H a=some (.tup xs)\/H a=some (.lst xs))(hx:∀x∈xs,Thg H x):cz H 1 v:=by
 subst e
 rcases h with h|h
 .refine⟨.inr (.inl ⟨_,h⟩),λys hy=>?_⟩;simp only[tupOf,lstOf,h]at hy
  rcases hy with hy|hy<;>cases hy
  exact hx
 .refine⟨.inl ⟨_,h⟩,λys hy=>?_⟩;simp only[tupOf,lstOf,h]at hy
  rcases hy with hy|hy<;>cases hy
  exact hx
def PD(ht:H t=some (.tup [x,y]))(hx:Thg H x)(hy:Thg H y)(hb:(rowB wi hi hs ks x&&amongB y 0 1)=false):oZ wi hi hs ks H (.ref t):=
 ⟨De rfl (.inl ht) (λv hv=>by rcases VO.mp hv with rfl|hv;exact hx;rw[VR.mp hv];exact hy),by rw[j1 (by simp only[tupOf,ht];rfl)];exact hb⟩
def ED(t:cz H 1 v)(h:∀a b,tupOf H v≠some [a,b]):oZ wi hi hs ks H v:=by
 refine⟨t,?_⟩;unfold ci;split
 .rename_i a b e;exact RF e (h a b)
 .rfl
def GE(wi hi:Int)(hs:List Int)(ks:List Nat)(H0:Hp)(σ:L2.St)(te:TE):Prop:= ∀H,aj H0 H->∀Q:VK,(∀v H2,oZ wi hi hs ks H2 v->aj H H2->Q v H2)->te σ H Q
def GB(wi hi:Int)(hs:List Int)(ks:List Nat)(H0:Hp)(σ:L2.St)(n:Nat)(ta:TA):Prop:= ∀H,aj H0 H->∀R:List V->Hp->Prop,(∀vs H2,vs.length=n->(∀v∈vs,oZ wi hi hs ks H2 v)->aj H H2->R vs H2)->ta σ H R
def BR:GB wi hi hs ks H0 σ 0 bG:=λH _ R q=>q [] H rfl (λ_ h=>nomatch h) (aj.refl H)
def cm(h:GE wi hi hs ks H0 σ te)(t:GB wi hi hs ks H0 σ n ta):GB wi hi hs ks H0 σ (n+1) (aN te ta):=λH s R q=>
 h H s _ λv H2 b s2=>t H2 (s.trans s2) _ λvs H3 l a s3=>q (v::vs) H3 (by rw[V1,l]) (λu hu=>by
  rcases VO.mp hu with rfl|hu
  .exact b.same s3
  .exact a u hu) (s2.trans s3)
def wc(hx:∀H,Ev tx σ H x)(t:∀H,cz H 1 x)(h:∀H a b,tupOf H x≠some [a,b]):GE wi hi hs ks H0 σ tx:=λH _ Q q=>hx H _ (q _ _ (ED (t H) (h H)) (aj.refl H))
def kM(hx:∀H,Ev tx σ H x)(hy:∀H,Ev ty σ H y)(fx:∀H,Thg H x)(fy:∀H,Thg H y)(hb:(rowB wi hi hs ks x&&amongB y 0 1)=false):GE wi hi hs ks H0 σ (mO (aN tx (aN ty bG))):=λH _ Q q=>
 hx H _ (hy H _ ⟨by show 2<=v1;decide,λp hp=>q _ _ (PD ag (fx _) (fy _) hb) ((aj.refl H).upd hp)⟩)
def Pd(hx:∀H,Ev tx σ H x)(hy:∀H,Ev ty σ H y)(fx:∀H,Thg H x)(fy:∀H,Thg H y):GE wi hi hs ks H0 σ (lV (aN tx (aN ty bG))):=λH _ Q q=>
 hx H _ (hy H _ ⟨by show 2<=v1;decide,λp hp=>q _ _ (ED (De rfl (.inr ag) (λv hv=>by rcases VO.mp hv with rfl|hv;exact fx _;rw[VR.mp hv];exact fy _)) (λa b=>by simp only[tupOf,ag];exact λh=>nomatch h)) ((aj.refl H).upd hp)⟩)
def Pc(hx:∀H,Ev tx σ H x)(fx:∀H,Thg H x):GE wi hi hs ks H0 σ (mO (aN tx bG)):=λH _ Q q=>
 hx H _ ⟨by show 1<=v1;decide,λp hp=>q _ _ (ED (De rfl (.inl ag) (λv hv=>by rw[VR.mp hv];exact fx _)) (λa b=>by simp only[tupOf,ag];exact λh=>nomatch h)) ((aj.refl H).upd hp)⟩
def Pb(hx:∀H,Ev tx σ H x)(hy:∀H,Ev ty σ H y)(hz:∀H,Ev tz σ H u)(fx:∀H,Thg H x)(fy:∀H,Thg H y)(fz:∀H,Thg H u):GE wi hi hs ks H0 σ (mO (aN tx (aN ty (aN tz bG)))):=λH _ Q q=>
 hx H _ (hy H _ (hz H _ ⟨by show 3<=v1;decide,λp hp=>q _ _ (ED (De rfl (.inl ag) (λv hv=>by
  rcases VO.mp hv with rfl|hv
  .exact fx _
  rcases VO.mp hv with rfl|hv
  .exact fy _
  rw[VR.mp hv];exact fz _)) (λa b=>by simp only[tupOf,ag];exact λh=>nomatch h)) ((aj.refl H).upd hp)⟩))
def Pa(hx:∀H,Ev tx σ H (.str z))(hy:∀H,Ev ty σ H y)(fx:z.length<=1000)(fy:∀H,Thg H y):GE wi hi hs ks H0 σ (mO (aN (L2.cB xK (aN tx bG)) (aN ty bG))):=λH _ Q q=>
 K4 (hx H) fx λl hl=>hy _ _ ⟨by show 2<=v1;decide,λp hp=>q _ _ (PD ag (.inl ⟨_,((aj.refl _).upd hp) _ _ ag⟩) (fy _) rfl) (((aj.refl H).upd hl).upd hp)⟩
end
def Ji(K:Frag)(cB cG:Zo):Sp:=λvs H Q _=>∃g b kq t c p wi hi hs ks us ts es st m,vs=[.ref t,.int c,.ref g]/\fY K cB cG H g b kq wi hi hs ks us ts es st/\H t=some (.tup [.str p.1,.int p.2])/\wL wi hi hs ks m p/\wi*hi<=6/\
 ∀(v:V)(H':Hp),oZ wi hi hs ks H' v->aj H H'->Q v H'
section
def tW{f cB cG:Zo}{fd:R7}(F:cy K "_law_bad" "_law_bad" gD f fd)(T:Txt mg aS aA aE aW)(GC:uU K cG):aY P w K mg Rw cY 1 f fd ["_law_place_here","_law_cell","_law_game_here"] (Ji K cB cG):=by
 refine F.ok2 bE ?_;rintro _ _ _ s H vs Q _ hr hu ⟨g,b,kq,t,c,p,wi,hi,hs,ks,us,ts,es,st,m,rfl,G,ht,Gp,m6,q⟩;refine⟨_,(af (vF (cv 0) (P9 K (n:=2) (fH (dz 3 bE.nd) (fH (dz 4 bE.nd) mB))))
  (af (aw 5 bE.nd (ar (ar (cv 1) ah) (kB (eZ K) bC T.len (az (cv 3) pan))))
  (af (aw 6 bE.nd (c7 K (bh (iw rfl)) (ar (ar (cv 1) ah) ah)))
  (af (aZ (aX K hu (cv 6) (bN K (cv 2))) (am (aw 6 bE.nd aU)) aH)
  (af (aw 7 bE.nd aU)
  (af (aZ (aX K hu (c7 K (cv 3) (cv 5)) aU) (am (aw 7 bE.nd aU)) aH)
  (af (aw 8 bE.nd (ar (ar (xO K (cv 3) dB (cq (cv 5))) (cv 6)) (xO K (cv 3) (cq (ar (cv 5) ah)) dB)))
  (af (aw 9 bE.nd (ar (ar (xO K (cv 3) dB (cq (cv 5))) (cv 7)) (xO K (cv 3) (cq (ar (cv 5) ah)) dB)))
  (af (aw 10 bE.nd (bh (az (bD (az (ar (cv 3) aU) (az (cv 4) pan))) (az (bD (az (xO K (cv 3) dB (cq (jt ah))) (az (cv 4) pan))) (az (bD (az (cv 8) (az (cv 4) pan))) (az (bD (az (cv 9) (az (cv 4) pan))) (az (bD (az (cv 3) (az ah pan))) (az (bD (az (cv 3) (az (jt ah) pan))) (az (bD (az (cv 3) (az gI pan))) pan)))))))))
  (af (aw 10 bE.nd (ar (cv 10) (bh (az (bD (az (cv 3) (az dj pan))) (az (bh (az (cv 3) (az (cv 4) pan))) (az (cv 3) (az dj (az (bD (az (cv 3) pan)) (az (bD (az (cv 3) (az (cv 4) (az ah pan)))) (az ah (az (bD (az (uo (wD rfl) g6 T.list (az (cv 3) pan)) (az (cv 4) pan))) (az (bD (az aU (az (cv 4) pan))) pan))))))))))))
  (am (aF (c7 K (cv 10) (ar (cv 1) ah)))))))))))))),?_⟩
 show bn _ _ _ [oR t,oJ c,oR g,none,none,none,none,none,none,none,none] H;obtain⟨z,sd⟩:=p;have Rz:iR wi hi hs ks z:=Gp.row;have hsd:sd=0\/sd=1:=Gp.sd;have mm:=G.bd.many;have zl:z.length=(wi*hi).toNat:=Rz.len;have zS:z.length<=v1:=by rw[RW];lia
 have z0:0<z.length:=by have:=G.bd.w1;have:=G.bd.h1;have:0<wi*hi:=Int.mul_pos (by lia) (by lia);lia
 refine bV (λσ' H'=>σ'=[oR t,oJ c,oR g,oT z,oJ sd,none,none,none,none,none,none]/\H=H') (λKK hK=>kX (v:=.ref t) (ae rfl) (O8 ht (hK _ _ ⟨rfl,rfl⟩))) ?_;rintro _ _ ⟨rfl,rfl⟩;refine aO (v:=.int (c / 16 % (z.length:Int))) (a7 (bx (ae rfl) ao) (mH (ae rfl) zS) (by lia)) ?_;obtain⟨k,hk,kl⟩:∃k:Nat,c / 16 % (z.length:Int)=k/\k<z.length:=by have h1:=X3 (c / 16) (b:=(z.length:Int)) (by lia);have h2:=X4 (c / 16) (b:=(z.length:Int)) (by lia);exact⟨(c / 16 % (z.length:Int)).toNat,by lia,by lia⟩
 rw[hk];obtain⟨zc,ezc⟩:∃zc,z.cps.toList[k]? =some zc:=⟨_,VQ (by rw[<-bP];exact kl)⟩;have czc:=Rz.at_ k zc ezc;have kl2:k<(wi*hi).toNat:=by lia
 refine bH (λv H'=>∃oc:Nat,v=.str (one oc)/\(oc=43\/oc=49\/oc=32\/oc=120)/\aj H H') (λQ q=>?_) ?_
 .obtain⟨n,e,hn⟩:=xv (ss:=["+","1"," ","x"]) (i:=c / 144 % 4) (by lia) (by show _<(4:Int);lia);refine pH uN (by decide) (λH'=>(a7 (bx (ae rfl) ao) ao)) e (λH' s=>?_);simp only[VO,V3,or_false]at hn
  rcases hn with rfl|rfl|rfl|rfl
  .exact q _ _ ⟨43,rfl,.inl rfl,s⟩
  .exact q _ _ ⟨49,rfl,.inr (.inl rfl),s⟩
  .exact q _ _ ⟨32,rfl,.inr (.inr (.inl rfl)),s⟩
  .exact q _ _ ⟨120,rfl,.inr (.inr (.inr rfl)),s⟩
 rintro _ H1 ⟨oc0,rfl,ho0,s1⟩;have G1:=G.same s1;obtain⟨kq1,fk,ek⟩:=G1.gm.kinds GC;refine bV (λσ' H'=>∃oc:Nat,σ'=[oR t,oJ c,oR g,oT z,oJ sd,oJ k,oT (one oc),none,none,none,none]/\oc≠46/\oc≠35/\oc∉ks/\oc∉ks.map (· - 32)/\H1=H') (λKK hK=>?_) ?_
 .have up:∀n,(n<65\/90<n)->n∉ks.map (· - 32):=λn hn h=>by obtain⟨x,hx,e⟩:=VP.mp h;have:=G.ltr x hx;unfold j7 at this;lia
  have lo:∀n,n<97->n∉ks:=λn hn h=>by have:=G.ltr n h;unfold j7 at this;lia
  refine de (bb (rK (ws:=ks.map one) (ae rfl) (aP (ae rfl) fk) (.inl (by rw[V0];exact aR.of ek)))) (λh=>?_) (λh=>?_)
  .exact cR (v:=.str (one 63)) ao (hK _ _ ⟨63,rfl,by decide,by decide,lo 63 (by decide),up 63 (by decide),rfl⟩)
  .have hn:oc0∉ks:=λhm=>RE h (VP.mpr ⟨oc0,hm,rfl⟩);exact hK _ _ ⟨oc0,rfl,by lia,by lia,hn,up oc0 (by lia),rfl⟩
 rintro _ _ ⟨oc,rfl,o46,o35,oks,oup,rfl⟩;refine aO (v:=.str (one 35)) ao ?_;refine bV (λσ' H'=>∃mc:Nat,σ'=[oR t,oJ c,oR g,oT z,oJ sd,oJ k,oT (one oc),oT (one mc),none,none,none]/\gP ks mc (if(k:Int)∈hs then 35 else 46)=false/\H1=H') (λKK hK=>?_) ?_
 .refine de (bb (gO (iM (ae rfl) (ae rfl) zS (bz ezc)) ao)) (λh=>?_) (λh=>?_)
  .have e:zc=35:=by
    have:=RD h;have:=RI (λx:Str=>x.cps.toList) this;have e35:("#":Str).cps.toList=[35]:=by decide+kernel
    rw[e35]at this;simpa using this
   subst e;refine cR (v:=.str (one 46)) ao (hK _ _ ⟨46,rfl,?_,rfl⟩)
   rcases dE czc with⟨h1,_⟩|⟨_,h2|h2|h2⟩
   .rw[RC h1];rfl
   .cases h2
   .have:=G.ltr _ h2;unfold j7 at this;lia
   .obtain⟨x,hx,e⟩:=VP.mp h2;have:=G.ltr x hx;unfold j7 at this;lia
  .have e:zc≠35:=λe=>RE h (by rw[e];rfl);refine hK _ _ ⟨35,rfl,?_,rfl⟩
   rcases dE czc with⟨_,h1⟩|⟨h1,_⟩
   .exact RF h1 e
   .rw[RB h1];refine RA ?_;rintro(h|h|h)
    .cases h
    .have:=G.ltr _ h;unfold j7 at this;lia
    .obtain⟨x,hx,e⟩:=VP.mp h;have:=G.ltr x hx;unfold j7 at this;lia
 rintro _ _ ⟨mc,rfl,cmc,rfl⟩;have kz:(k:Int)<z.length:=by lia
 have k0:(0:Int)<=k:=by lia
 have put:∀(n i:Nat)(σ:L2.St),σ[3]? =some (some (.str z))->σ[5]? =some (some (.int k))->σ[i]? =some (some (.str (one n)))->Ev (mj .Add (mj .Add (L6 K (cL 3) mr (yq (cL 5))) (cL i)) (L6 K (cL 3) (yq (mj .Add (cL 5) (tC (.int 1)))) mr)) σ H1 (.str (putT z k (one n))):=λn i σ h3 h5 hi=>by
  have l1:=iC z none (some (k:Int));have l2:=iC z (some ((k:Int)+1)) none;have l3:(iO z none (some (k:Int))++one n).length=(iO z none (some (k:Int))).length+1:=by rw[bP,j9,VV,<-bP];rfl
  refine gX (gX (pY (ae h3) kE (iu (ae h5)) zS) (ae hi) ?_) (pY (ae h3) (iu (cj (ae h5) ao)) kE zS) ?_
  .show _+1<=v1;rw[RW];lia
  .rw[l3,RW];lia
 have pc:∀n,(putT z k (one n)).cps.toList[k]? =some n:=λn=>by rw[ir k0 kz,X2,WQ (by rw[<-bP];exact kl)]
 have pl:∀n,(putT z k (one n)).length=z.length:=λn=>gG k0 kz;refine aO (put oc 6 _ rfl rfl rfl) ?_;refine aO (put mc 7 _ rfl rfl rfl) ?_;have b1:rowB wi hi hs ks (.str (putT z k (one oc)))=false:=xt (pc oc) kl2 (by
  unfold gP;split
  .exact RA o35
  .refine RA ?_;rintro(h|h|h)
   .exact o46 h
   .exact oks h
   .exact oup h)
 have b2:rowB wi hi hs ks (.str (putT z k (one mc)))=false:=xt (pc mc) kl2 cmc;have tz:∀H,Thg H (.str z):=λH=>by show z.length<=1000;lia
 have tp:∀n H,Thg H (.str (putT z k (one n))):=λn H=>by show _<=1000;rw[pl];lia
 have pl1:=pl oc;generalize putT z k (one oc)=zo at b1 pl1 tp ⊢;have e1:(z++(".":Str)).length=z.length+1:=by rw[bP,j9,VV,<-bP];rfl
 have e1s:z.length+(".":Str).length<=v1:=by rw[RW,show(".":Str).length=1 from by decide+kernel];lia
 have e2:(iO z none (some (-1))).length≠(wi*hi).toNat:=by
  rw[bP,iB,V8,Wq];have:HT.sIx z.length z.length (some (-1))=z.length - 1:=by unfold HT.sIx;simp;lia
  rw[this];lia
 have e2':(iO z none (some (-1))).length<=1000:=by have:=iC z none (some (-1));lia
 have no2:∀(v:V),amongB v 0 1=false->(rowB wi hi hs ks (.str z)&&amongB v 0 1)=false:=λv h=>by rw[h,Yn]
 have no1:∀(x:Str),rowB wi hi hs ks (.str x)=false->(rowB wi hi hs ks (.str x)&&amongB (.int sd) 0 1)=false:=λx h=>by rw[h];rfl
 have ti:∀(i:Int) H,Thg H (.int i):=λ_ _=>trivial;refine bH (λv H'=>∃(l:Zo)(vs:List V),v=.ref l/\H' l=some (.lst vs)/\vs.length=7/\(∀v∈vs,oZ wi hi hs ks H' v)/\aj H1 H') (λQ q=>fI ((cm (kM (x:=.str (z++(".":Str))) (λH=>gX (ae rfl) ao e1s) (λH=>ae rfl) (λH=>by show _<=1000;rw[e1];lia) (ti sd) (no1 _ (nw (by rw[e1];lia)))) (cm (kM (λH=>pY (ae rfl) kE (iu (jr ao)) zS) (λH=>ae rfl) (λH=>e2') (ti sd) (no1 _ (nw e2)))
  (cm (kM (λH=>ae rfl) (λH=>ae rfl) (λH=>by show zo.length<=1000;lia) (ti sd) (no1 _ b1)) (cm (kM (λH=>ae rfl) (λH=>ae rfl) (tp mc) (ti sd) (no1 _ b2)) (cm (kM (y:=.int 2) (λH=>ae rfl) (λH=>ao) tz (ti 2) (no2 _ rfl)) (cm (kM (y:=.int (-1)) (λH=>ae rfl) (λH=>jr ao) tz (ti _) (no2 _ rfl)) (cm (kM (y:=.bl true) (λH=>ae rfl) (λH=>ao) tz (λ_=>trivial) (no2 _ rfl)) BR))))))) H1 (aj.refl H1) _ λvs H2 l7 ab s2=>⟨by rw[l7,RW];decide,λp hp=>q _ _ ⟨p,vs,rfl,ag,l7,λv hv=>(ab v hv).same ((aj.refl H2).upd hp),s2.upd hp⟩⟩)) ?_
 rintro _ H2 ⟨l1,vs1,rfl,el1,len1,ab1,s2⟩;refine bH (λv H'=>∃(l:Zo)(vs:List V),v=.ref l/\H' l=some (.lst vs)/\vs.length=16/\(∀v∈vs,oZ wi hi hs ks H' v)/\aj H2 H') (λQ q=>Ct (kX (v:=.ref l1) (ae rfl) (fI ((cm (kM (y:=.non) (λH=>ae rfl) (λH=>ao) tz (λ_=>trivial) (no2 _ rfl)) (cm (Pd (λH=>ae rfl) (λH=>ae rfl) tz (ti sd)) (cm (wc (x:=.str z) (λH=>ae rfl) (λH=>⟨tz H,λxs h=>by rcases h with h|h<;>cases h⟩) (λH a b h=>by cases h)) (cm (wc (x:=.non) (λH=>ao) (λH=>⟨trivial,λxs h=>by rcases h with h|h<;>cases h⟩) (λH a b h=>by cases h))
  (cm (Pc (λH=>ae rfl) tz) (cm (Pb (u:=.int 0) (λH=>ae rfl) (λH=>ae rfl) (λH=>ao) tz (ti sd) (ti 0)) (cm (wc (x:=.int 5) (λH=>ao) (λH=>⟨trivial,λxs h=>by rcases h with h|h<;>cases h⟩) (λH a b h=>by cases h)) (cm (Pa (λH=>ae rfl) (λH=>ae rfl) (by lia) (ti sd)) (cm (kM (x:=.str "") (λH=>ao) (λH=>ae rfl) (λH=>by show("":Str).length<=1000;decide+kernel) (ti sd) (no1 _ (nw (by rw[show("":Str).length=0 from by decide+kernel];lia)))) BR))))))))) H2 (aj.refl H2) _ λvs H3 l9 ab s3=>⟨by rw[l9,RW];decide,λp hp=>?_⟩)))) ?_
 .have s4:=s3.upd (o:=.lst vs) hp;refine⟨l1,p,vs1,vs,rfl,rfl,s4 _ _ el1,ag,by rw[len1,l9,RW];decide,λp2 hp2=>q _ _ ⟨p2,vs1++vs,rfl,ag,by rw[VV,len1,l9],λv hv=>?_,s4.upd hp2⟩⟩
  rcases VY.mp hv with h|h
  .exact(ab1 v h).same (s4.upd hp2)
  .exact(ab v h).same (((aj.refl H3).upd hp).upd hp2)
 rintro _ H3 ⟨l2,vs2,rfl,el2,len2,ab2,s3⟩;obtain⟨v,ev,hv⟩:=xw (xs:=vs2) (i:=c % 16) (by lia) (by rw[len2];show _<(16:Int);lia);exact aL (a8 (ae rfl) (a7 (ae rfl) ao) (.inl (aR.of el2)) ev) (q v H3 (ab2 v hv) ((s1.trans s2).trans s3))
end
def xf(K:Frag):Sp:=λvs H Q _=>∃(a:Zo)(ns:List Int),vs=[.ref a]/\aR K H a (ns.map V.int)/\ns.length<=63/\∀H',Q (.bl true) H'
structure CL(P:RU)(w:RZ)(K:Frag)(mg:RJ)(Rw:R9)(cB cG cW cP cT:Zo):Prop where
 _law_mixed:cZ P w K mg Rw "_law_mixed" ["_law_script","_law_k"] 2 (AO K)
 _law_game:cZ P w K mg Rw "_law_game" ["_law_script"] 8 (AT K cB cG)
 _law_place:cZ P w K mg Rw "_law_place" ["_law_game_here","_law_cell"] 2 (w9 K cB cG)
 _law_bad:cZ P w K mg Rw "_law_bad" ["_law_place_here","_law_cell","_law_game_here"] 1 (Ji K cB cG)
 _law_made:cZ P w K mg Rw "_law_made" ["_law_game_here","_law_starts","_law_most"] 10 (vf K cB cG)
 Web:lS P w K mg Rw "Web" cW ["self","game","starts","most"] 8 (λvs H Q _=>mR K cB cG cW cP cT vs H Q E0)
def Oi(m6:wi*hi<=6):∀f,f=((List.range (wi*hi).toNat).filter λ(s:Nat)=> !decide ((s:Int)∈hs)).length->mf 4 f (mOf wi hi hs)<=1000:=by
 intro f hf;have hl:(freeQ wi hi hs).length=f:=by unfold freeQ;rw[VN,hf]
 have h6:f<=6:=by have:=Wp (λ(s:Nat)=> !decide ((s:Int)∈hs)) (List.range (wi*hi).toNat);rw[<-hf,We]at this;lia
 unfold mOf;rw[hl];have:f=0\/f=1\/f=2\/f=3\/f=4\/f=5\/f=6:=by lia
 rcases this with rfl|rfl|rfl|rfl|rfl|rfl|rfl<;>decide
def wX(h:te σ H (fN Q)):ju te σ H Q:=h
def lB(h:ta σ H λx H1=>tb σ H1 λy H2=>gf K op x y H2 Q):fL K op ta tb σ H Q:=h
def Thg.put(h:Thg H v)(hs:H sq=some (.lst xs)):Thg (L2.upd H sq (.lst ys)) v:=by
 cases v with
 |ref a=>
  by_cases e:a=sq
  .subst e;exact .inl ⟨_,ag⟩
  .show(∃xs,(L2.upd H sq (.lst ys)) a=some (.lst xs))\/_\/_;rw[aq e];exact h
 |_=>exact h
def wV(hs:H sq=some (.lst xs)):tupOf (L2.upd H sq (.lst ys)) v=tupOf H v:=by
 cases v with
 |ref a=>
  by_cases e:a=sq
  .subst e;simp only[tupOf,hs,ag]
  .simp only[tupOf,aq e]
 |_=>rfl
theorem cz.put(h:cz H 1 v)(hs:H sq=some (.lst xs))(hy:∀y∈ys,Thg H y):cz (L2.upd H sq (.lst ys)) 1 v:=by
 refine⟨Thg.put h.1 hs,λzs hz x hx=>?_⟩;rw[wV hs]at hz
 rcases hz with hz|hz
 .exact Thg.put (h.2 zs (.inl hz) x hx) hs
 .cases v with
  |ref a=>
   by_cases e:a=sq
   .subst e;simp only[lstOf,ag]at hz;cases hz;exact Thg.put (hy x hx) hs
   .simp only[lstOf,aq e]at hz;exact Thg.put (h.2 zs (.inr hz) x hx) hs
  |_=>cases hz
def za(e:H sq=some (.lst xs)):ci wi hi hs ks (L2.upd H sq (.lst ys)) v=ci wi hi hs ks H v:=by unfold ci;rw[wV e]
def Q8(h:to σ H λx H1=>Pf K x f H1 Q):Er K to f σ H Q:=h
def OX(ho:Ev to σ H (.ref l))(hl:∃xs,H l=some (.lst xs))(q:ta σ H λvs H2=>∃(xs:List V)(k:Nat)(y:V),vs=[.int k,y]/\H2 l=some (.lst xs)/\k<=xs.length/\xs.length<1000/\Q .non (L2.upd H2 l (.lst (xs.take k++y::xs.drop k)))):Px to ta σ H Q:=ho _ ⟨hl,q⟩
def xD(q:Q (.bl false) H):gf K .NotEq (.str z) (.str z) H Q:=by show Q (.bl (!decide (z=z))) H;rw[Ry rfl];exact q
def JM(q:Q (.bl true) H):gf K .Eq (.str z) (.str z) H Q:=by show Q (.bl (decide (z=z))) H;rw[Ry rfl];exact q
section
def KU{f cB cG cW cP cT:Zo}{fd:R7}(F:cy K "law" "law" km f fd)(T:Txt mg aS aA aE aW)(D:CH K cW)(C:CL P w K mg Rw cB cG cW cP cT):aY P w K mg Rw cY 11 f fd ["_law_script"] (xf K):=by
 refine F.ok2 jc ?_;rintro _ A _ s H vs Q _ hr hu ⟨a,ns,rfl,hS,hlen,k⟩;refine⟨_,(af (aw 1 jc.nd (aG C._law_game hr (az (cv 0) pan)))
  (af (aw 2 jc.nd (aG C._law_mixed hr (az (cv 0) (az ah pan))))
  (af (aw 3 jc.nd (bh (az (aG C._law_place hr (az (cv 1) (az (cv 2) pan))) pan)))
  (af (aZ (aX K hu (ar (cv 2) ah) ah) (am (cS (iP (cv 3) (aG C._law_place hr (az (cv 1) (az (ar (ar (ar (cv 2) ah) ah) ah) pan)))))) aH)
  (af (aw 4 jc.nd (aG C._law_mixed hr (az (cv 0) (az ah pan))))
  (af (aZ (aX K hu (ar (cv 4) ah) ah) (af (aw 5 jc.nd (ar (ar (cv 4) ah) (ar (kB (eZ K) bC T.len (az (cv 3) pan)) ah)))
  (af (cS (LC (cv 3) (az (cv 5) (az (aG C._law_bad hr (az (c7 K (cv 3) ah) (az (ar (cv 4) ah) (az (cv 1) pan)))) pan))))
  (am (aF (iK K hu (aG C._law_made hr (az (cv 1) (az (cv 3) (az (ar ah (ar (ar (cv 4) ah) ah)) pan)))) aU))))) aH)
  (af (aw 6 jc.nd (kB (eZ K) bC T.len (az (bN K (BA C.Web hr (az (cv 1) (az (cv 3) (az ah pan))))) pan)))
  (af (aw 7 jc.nd (ar aU (uo qb oq T.str (az (cv 6) pan))))
  (af (aZ (PW.pt (gV (aX K hu (aG C._law_made hr (az (cv 1) (az (cv 3) (az (cv 6) pan)))) (cv 7)) (eX (aX K hu (aG C._law_made hr (az (cv 1) (az (cv 3) (az (ar (cv 6) (ar (ar (cv 4) ah) ah)) pan)))) (cv 7))))) (am (aF gI)) aH)
  (af (aZ (aX K hu (cv 6) ah) (am (aF gI)) aH)
  (af (aZ (PW.pt (gV (aX K hu (aG C._law_made hr (az (cv 1) (az (cv 3) (az (ar (cv 6) ah) pan)))) aU) (eX (aX K hu (aG C._law_made hr (az (cv 1) (az (cv 3) (az (ar ah (ar (ar (cv 4) ah) (ar (cv 6) ah))) pan)))) aU)))) (am (aF gI)) aH)
  (am (aF (iK K hu (aG C._law_made hr (az (cv 1) (az (cv 3) (az (cv 6) pan)))) (cv 7))))))))))))))),?_⟩
 show bn _ _ _ [oR a,none,none,none,none,none,none,none] H;refine bH (λv H'=>∃(g b kq:Zo)(wi hi:Int)(hs:List Int)(ks:List Nat)(us:List (bw×Zo))(ts es:List ((Str×Str)×Zo))(st:Str),v=.ref g/\fY K cB cG H' g b kq wi hi hs ks us ts es st/\ks.length<=2/\wi*hi<=6/\aj H H') (λQ q=>cu (aa (ae rfl) ay) ⟨a,ns,rfl,hS,λg b kq wi hi hs ks us ts es st H' h1 h2 h3 h4 h5=>q _ _ ⟨g,b,kq,wi,hi,hs,ks,us,ts,es,st,rfl,h1,h2,h3,h5⟩⟩) ?_;rintro _ H1 ⟨g,b,kq,wi,hi,hs,ks,us,ts,es,st,rfl,G,k2,m6,s1⟩;have hS1:=s1.seq hS;have mm:=G.bd.many;have hb:=Oi (hs:=hs) m6;refine aO (aK (aa (ae rfl) (aa ao ay)) (λQ q=>⟨a,ns,3,rfl,hS1,by decide,q⟩)) ?_;generalize mixF ns 3=c;refine bH (λv H'=>∃(sq:Zo)(z:Pla×Zo),v=.ref sq/\H1 sq=none/\H' sq=some (.lst [.ref z.2])/\H' z.2=some (.tup [.str z.1.1,.int z.1.2])/\wL wi hi hs ks (mOf wi hi hs) z.1/\aj H1 H') (λQ k=>?_) ?_
 .refine fI (cf (cu (aa (ae rfl) (aa (ae rfl) ay)) ⟨g,b,kq,c,wi,hi,hs,ks,us,ts,es,st,rfl,G,m6,λt p H' Gp nt et s=>cU ⟨by show 1<=v1;decide,λsq hsq=>?_⟩⟩));exact k _ _ ⟨sq,(p,t),rfl,s.free hsq,ag,((aj.refl H').upd hsq) _ _ et,Gp,s.upd hsq⟩
 rintro _ H2 ⟨sq,z,rfl,nsq,e1,ez,Gz,s2⟩;refine bV (λσ' H'=>∃fs:List (Pla×Zo),σ'=[oR a,oR g,oJ c,oR sq,none,none,none,none]/\H' sq=some (.lst (plRefs fs))/\jU H' fs/\(∀z∈fs,wL wi hi hs ks (mOf wi hi hs) z.1)/\1<=fs.length/\fs.length<=2/\aj H1 H') (λKK hK=>?_) ?_
 .refine de (bb (eV (a7 (ae rfl) ao) ao)) (λ_=>?_) (λ_=>hK _ _ ⟨[z],rfl,e1,λy hy=>by rw[VR.mp hy];exact ez,λy hy=>by rw[VR.mp hy];exact Gz,by simp,by simp,s2⟩);refine uO (ae rfl) ⟨_,e1⟩ (cu (aa (ae rfl) (aa (a7 (cr (bx (ae rfl) ao) ao (.inr ⟨by decide,by decide⟩)) ao) ay)) ⟨g,b,kq,_,wi,hi,hs,ks,us,ts,es,st,rfl,G.same s2,m6,λt p H' Gp nt et s=>⟨_,s _ _ e1,by rw[RW];show 1<_;lia,hK _ _ ⟨[z,(p,t)],rfl,ag,λy hy=>?_,λy hy=>?_,by simp,by simp,(s2.trans s).put nsq⟩⟩⟩)
  .have hne:∀(x:Zo)(vs:List V),H' x=some (.tup vs)->(upd H' sq (.lst ([.ref z.2]++[.ref t]))) x=some (.tup vs):=λx vs h=>by rw[aq (λe=>by rw[e,s _ _ e1]at h;cases h)];exact h
   rcases VO.mp hy with rfl|hy
   .exact hne _ _ (s _ _ ez)
   .rw[VR.mp hy];exact hne _ _ et
  .rcases VO.mp hy with rfl|hy
   .exact Gz
   .rw[VR.mp hy];exact Gp
 clear ez Gz e1;rintro _ H3 ⟨fs,rfl,e3,pk,Gf,l1,l2,s3⟩;have G3:=G.same s3;have hS3:=s3.seq hS1;refine aO (aK (aa (ae rfl) (aa ao ay)) (λQ q=>⟨a,ns,8,rfl,hS3,by decide,q⟩)) ?_;have mo0:0<=mixF ns 8:=by unfold mixF;lia
 generalize mixF ns 8=mo at mo0;have tnf:∀v∈plRefs fs,cz H3 1 v:=λv hv=>by obtain⟨y,hy,rfl⟩:=VP.mp hv;exact Om (pk y hy) (by have:=(Gf y hy).row.len;lia)
 have lpf:(plRefs fs).length=fs.length:=VN ..;refine bB (bb (eV (a7 (ae rfl) ao) ao)) (λ_=>?_) (λ_=>?_)
 ·
  refine aO (v:=.int (mo / 2 % ((plRefs fs).length+1:Int))) (a7 (bx (ae rfl) ao) (cj (cQ (ae rfl) (.inl (aR.of e3))) ao) (by lia)) ?_;obtain⟨kn,hk,kl⟩:∃kn:Nat,mo / 2 % ((plRefs fs).length+1:Int)=kn/\kn<=(plRefs fs).length:=by have h1:=X3 (mo / 2) (b:=((plRefs fs).length+1:Int)) (by lia);have h2:=X4 (mo / 2) (b:=((plRefs fs).length+1:Int)) (by lia);exact⟨(mo / 2 % ((plRefs fs).length+1:Int)).toNat,by lia,by lia⟩
  rw[hk];obtain⟨y0,hy0⟩:∃y,fs[0]? =some y:=⟨_,VQ (by lia)⟩;have hm0:=Wa hy0;refine vd (λH'=>∃xs:List V,H' sq=some (.lst xs)/\xs.length<=1000/\(∀v∈xs,cz H' 1 v)/\(xs.all λv=>ci wi hi hs ks H' v)=false/\aj H1 H') (λQ q=>?_) ?_
  .refine OX (ae rfl) ⟨_,e3⟩ (bI (ae rfl) (cf (cu (aa (a8 (x:=.ref y0.2) (ae rfl) ao (.inl (aR.of e3)) (bz (j:=0) (by rw[VT,hy0];rfl))) (aa (bx (ae rfl) ao) (aa (ae rfl) ay))) ⟨g,b,kq,y0.2,_,y0.1,wi,hi,hs,ks,us,ts,es,st,_,rfl,G3,pk y0 hm0,Gf y0 hm0,m6,λv H' bv s=>cU ⟨plRefs fs,kn,v,rfl,s _ _ e3,kl,by lia,q _ _ ?_⟩⟩)));have e3':=s _ _ e3;have all1:∀u∈(plRefs fs).take kn++v::(plRefs fs).drop kn,cz H' 1 u:=λu hu=>by
    rcases VY.mp hu with h|h
    .exact(tnf u (Xi h)).same s
    .rcases VO.mp h with rfl|h
     .exact bv.1
     .exact(tnf u (List.mem_of_mem_drop h)).same s
   refine⟨_,ag,?_,λu hu=>cz.put (all1 u hu) e3' (λy hy=>(all1 y hy).thg),?_,(s3.trans s).put nsq⟩
   .rw[VV,V1,V8,Wq];lia
   .refine Xm.mpr ⟨v,VY.mpr (.inr VW),?_⟩;rw[za e3',bv.2];exact Yd
  rintro H4 ⟨xs,e4,l4,tn4,b4,s4⟩;refine fS (lB (cu (aa (ae rfl) (aa (ae rfl) (aa (cj ao (a7 (bx (ae rfl) ao) ao)) ay))) ⟨g,b,kq,sq,wi,hi,hs,ks,us,ts,es,st,xs,_,rfl,G.same s4,e4,l4,tn4,by lia,by lia,.inl ⟨b4,λH' _=>kX (v:=.str "place") ao (JM (k _))⟩⟩))
 generalize mOf wi hi hs=m at Gf hb;obtain⟨FF,hF⟩:∃FF,FF=folF wi hi hs us ts es:=⟨_,rfl⟩;obtain⟨n,we,n2⟩:=C5 (F:=folF wi hi hs us ts es) (p0:=fs.map (·.1)) (λn hn=>C7 k2 G.ltr (wR _ _ _) (sK (λy hy=>by
  obtain⟨z,hz,rfl⟩:=VP.mp hy;exact Gf z hz) (λy hy=>pX G.bd.w1 (by lia) G.ltr G.tg hy) hn) hb)
 have n1:1<=n:=by
  by_cases e:n=0
  .exfalso;have hw:=we.1;rw[e]at hw;cases hf:fs with
   |nil=>rw[hf]at l1;simp at l1
   |cons y ys=>
    have hy:y.1∈dR (folF wi hi hs us ts es) (fs.map (·.1)) 0:=(jo _ _).mpr (.inr (by rw[hf];exact VW));rw[List.eq_nil_of_length_eq_zero hw]at hy;cases hy
  .lia
 refine bH (λv H'=>v=.int (n:Int)/\aj H3 H') (λQ q=>?_) ?_
 .refine K5 (Q8 (Bu (aa (ae rfl) (aa (ae rfl) (aa ao ay)) _ λx dx hx hdx ne=>?_)));have hx':(L2.upd H3 dx (.own x)) x=none:=by rw[aq (Ne.symm ne)];exact hx
  refine⟨x,g,b,kq,sq,dx,H3,wi,hi,hs,ks,us,ts,es,st,plRefs fs,5000,rfl,((aj.refl H3).upd hdx).upd hx',hx,ag,G3,e3,by lia,tnf,by decide,by decide,.inr ⟨fs,m,n,rfl,pk,Gf,we,n2,λ_ lp dn lw lo zs ws os H' lz W s=>⟨rfl,_,(W).fplaces D,?_⟩,λh=>RF h (by lia)⟩⟩;refine⟨_,.inl (aR.of W.pl),q _ _ ⟨?_,s⟩⟩;rw[VN,lz]
 rintro _ H4 ⟨rfl,s4⟩;refine aO (v:=.str (pF n)) (gX ao (x9 (ae rfl) (pG (by lia))) (uc n2)) ?_;have md:∀(H':Hp)(mo:Int)(Q:VK),aj H4 H'->0<=mo->mo<=10000->((n:Int)<=mo->∀H'',aj H' H''->Q (.str (pF n)) H'')->(mo<n->∀H'',aj H' H''->Q (.str "wide") H'')->vf K cB cG [.ref g,.ref sq,.int mo] H' Q E0:=λH' mo Q s h0 h1 q1 q2=>by have s':=s4.trans s;exact⟨g,b,kq,sq,wi,hi,hs,ks,us,ts,es,st,plRefs fs,mo,rfl,G3.same s',s' _ _ e3,by lia,λv hv=>(tnf v hv).same s',h0,h1,.inr ⟨fs,m,n,rfl,pk.same s',Gf,we,n2,q1,q2⟩⟩
 refine c8 (λc H'=>c=false/\aj H4 H') (λQ q=>?_) (λH' h=>by cases h.1) (λH5 h=>?_)
 .refine sR (wX (lB (cu (aa (ae rfl) (aa (ae rfl) (aa (ae rfl) ay))) (md H4 n _ (aj.refl _) (by lia) (by lia) (λ_ H5 s5=>kX (v:=.str (pF n)) (ae rfl) (xD (hG (A:=Q true H5) ?_))) (λh=>RF h (by lia))))));exact wX (lB (cu (aa (ae rfl) (aa (ae rfl) (aa (cj (ae rfl) (a7 (bx (ae rfl) ao) ao)) ay))) (md H5 _ _ s5 (by lia) (by lia) (λ_ H6 s6=>kX (v:=.str (pF n)) (ae rfl) (xD (q _ _ ⟨rfl,s5.trans s6⟩))) (λh=>RF h (by lia)))))
 obtain⟨_,s5⟩:=h;refine bB (bb (eV (ae rfl) ao)) (λ_=>aL ao (k _)) (λhn=>?_);have hn1:=RE hn;refine c8 (λc H'=>c=false/\aj H4 H') (λQ q=>?_) (λH' h=>by cases h.1) (λH7 h=>?_)
 .refine sR (wX (lB (cu (aa (ae rfl) (aa (ae rfl) (aa (gN (ae rfl) ao) ay))) (md H5 _ _ s5 (by lia) (by lia) (λh=>RF h (by lia)) (λ_ H6 s6=>kX (v:=.str "wide") ao (xD (hG (A:=Q true H6) ?_)))))));have h1:=X3 (mo / 2) (b:=((n:Int) - 1)) (by lia);have h2:=X4 (mo / 2) (b:=((n:Int) - 1)) (by lia);exact wX (lB (cu (aa (ae rfl) (aa (ae rfl) (aa (cj ao (a7 (bx (ae rfl) ao) (gN (ae rfl) ao) (by lia))) ay))) (md H6 _ _ (s5.trans s6) (by lia) (by lia) (λh=>RF h (by lia)) (λ_ H7 s7=>kX (v:=.str "wide") ao (xD (q _ _ ⟨rfl,(s5.trans s6).trans s7⟩))))))
 obtain⟨_,s7⟩:=h;exact fS (lB (cu (aa (ae rfl) (aa (ae rfl) (aa (ae rfl) ay))) (md H7 n _ s7 (by lia) (by lia) (λ_ H8 s8=>kX (v:=.str (pF n)) (ae rfl) (JM (k _))) (λh=>RF h (by lia)))))
end
end K20
namespace L2
open PySem PySem.W PyProof.Rows
def Ay{q:RU}{loose:List Str}{XP:(RJ)->R9->Prop}{YP:RZ->R9->Prop}{α:Type}{Yf:RQ->α}{Ya:RZ->α}{r:RowW}{d:DefRec}{kwd:List (Str×Sz)}{run:Zn->List Zn->Sem Zn}(hY:∀(w:RZ)(s₀ s₁:RQ),Yf s₀=Ya w->(∀b o,s₀.heap.get? b=some o->s₁.heap.get? b=some o)->YP w s₁.heap)(h:WalkO q loose XP YP r d kwd run):PySem.W.WalkX q loose XP Yf Ya r d kwd run:=
 λw s₀ s₁ mg mb G y a o pm cd doc dV kV ho hd hcd hD hmg hg args vals as L hpre hlay hrd hwl hlo=>h w s₀ s₁ mg mb G (hY w s₀ s₁ y L.keeps) a o pm cd doc dV kV ho hd hcd hD hmg hg args vals as hpre hlay hrd hwl hlo
def ln1{P:List Zn->Prop}(h:∀a0:Zn,P [a0]):∀us:List Zn,us.length=1->P us
 | [a0],_=>h a0
def OL{P:List Zn->Prop}(h:∀a0 a1:Zn,P [a0,a1]):∀us:List Zn,us.length=2->P us
 | [a0,a1],_=>h a0 a1
def ln3{P:List Zn->Prop}(h:∀a0 a1 a2:Zn,P [a0,a1,a2]):∀us:List Zn,us.length=3->P us
 | [a0,a1,a2],_=>h a0 a1 a2
def P7{P:List Zn->Prop}(h:∀a0 a1 a2 a3:Zn,P [a0,a1,a2,a3]):∀us:List Zn,us.length=4->P us
 | [a0,a1,a2,a3],_=>h a0 a1 a2 a3
def ln7{P:List Zn->Prop}(h:∀a0 a1 a2 a3 a4 a5 a6:Zn,P [a0,a1,a2,a3,a4,a5,a6]):∀us:List Zn,us.length=7->P us
 | [a0,a1,a2,a3,a4,a5,a6],_=>h a0 a1 a2 a3 a4 a5 a6
noncomputable def u9:Nat->List Obj->Nat->Nat->PySem.W.BT
 |0,_,_,_=>.nil
 |f+1,l,a,b=>(l[b]?).elim .nil λo=>.node o (u9 f l (2*a) (a+b)) (u9 f l (2*a) (2*a+b))
noncomputable def toT(s:RQ):SharedT:=⟨u9 12 s.heap.objs.toList 1 0,s.heap.objs.size,s.heap.life,s.gens,s.drawn,s.toks,s.os⟩
noncomputable abbrev Pe(name qual:Str)(params:Arguments)(body:List Sb)(scope:TV)(globals:Zo)(closure:List (Str×Zo))(dV kV doc pm:Zn)(an:Option Zo)(cdv ct:Zn)(bl:Zo):R7:=
 {name,qualname:=qual,params,body:=.stmts body,scope,globals,closure,defaults:=dV,kwdefaults:=kV,doc,pyModule:=pm,annotations:=an,code:=cdv,closureTuple:=ct,builtins:=bl}
noncomputable def stT(t:PySem.W.BT)(n k:Nat)(P:Uz)(os:TW):SharedT:=⟨t,n,(boot_heap P).life,Array.mk [],boot_drawn,k,os⟩
def zH{p q:RU}{loose:List Str}{Xt:RQ->Bool}{α:Type}{Yf:RQ->α}{Ya:RZ->α}{N:Nat}{g0:Bool}{H₀:Uz->R9}{gs₀:Array U5}{d₀:Drawn}{k₀ m₀:Nat}{ann:Option Zn}{n0 nb n:Nat}{b:List Sb}{env:VE}{qp p0 p1:Vb}{sa:RZ->TW->RQ}{sb:RZ->TW->SharedT}{sf:RZ->TW->RQ}(open_:∀w:RZ,(fencedOpening Sf p w N).map (λs=>(s.heap,s.gens,s.drawn,s.toks))=some (H₀ w.params,gs₀,d₀,k₀))(size:∀w:RZ,((H₀ w.params).isNs RV&&gs₀.size == 0,(H₀ w.params).objs.size,(H₀ w.params).nsMap RV "__annotations__")=(true,m₀,ann))(pre:∀w os,topGo Sf p w m₀ ann n0 ⟨H₀ w.params,gs₀,d₀,k₀,os⟩ (topStub p)=some (sa w os,⟨denote Sf (.body b env),.body b env,p0,[topFrame qp]⟩))(block:∀w os,segRun Sf p w m₀ ann 1 nb (sa w os) (blockOf b env (.body b env) p0 [topFrame qp])=some (.next,(sb w os).abs,.body b env,p1))(main:∀w os,topRun Sf p w m₀ ann n (sb w os).abs (restOf b env (.body b env) p1 [topFrame qp])=some (sf w os))(le:Nat.ble (n0+(nb+n)) N=true)(looks:∀w os,((staticsOk (TD p.main.body) (H₀ w.params) (sf w os).heap&&namesBound p (sf w os).heap&&gensDone (sf w os)&&laidKept (H₀ w.params) (sf w os).heap),
    openSeen q loose (TD p.main.body) Xt g0 (sf w os),Yf (sf w os))=(true,openGood q loose,Ya w)):LeftO p q loose Xt Yf Ya N g0:=λw=>by
 obtain⟨⟨h,gs,d,k,os⟩,e,e'⟩:=YA.mp (open_ w);obtain⟨rfl,rfl,rfl,rfl⟩:h=H₀ w.params/\gs=gs₀/\d=d₀/\k=k₀:=by simpa using e'
 obtain⟨z1,z2,z3⟩:_/\_/\_:=by simpa only[Prod.mk.injEq]using size w
 obtain⟨l1,l2,l3⟩:_/\_/\_:=by simpa only[Prod.mk.injEq]using looks w os
 have r3:=go_top (pre w os) (piece_block (block w os) (main w os));have r:=topRun_mono (N - (n0+(nb+n))) _ _ _ _ r3;rw[show n0+(nb+n)+(N - (n0+(nb+n)))=N by have:=Nat.le_of_ble_eq_true le;lia]at r;have t:topFrom Sf p w N ⟨H₀ w.params,gs,d,k,os⟩=some (sf w os):=by
  unfold topFrom;dsimp only;rw[z1,z2,z3,r];show(match staticsOk (TD p.main.body) (H₀ w.params) (sf w os).heap&&namesBound p (sf w os).heap&&gensDone (sf w os)&&laidKept (H₀ w.params) (sf w os).heap with|true=>_|false=>_)=_
  rw[l1]
 unfold openEnds;rw[e];show(topFrom Sf p w N _).map _=_;rw[t];exact RI some (Prod.ext l2 l3)
noncomputable def x6(as:List Zo)(s:RQ):List (Option Obj):=as.map s.heap.get?
noncomputable def xZ(K:Uz->Frag)(w:RZ):List (Option Obj):=(K w.params).map λp=>some p.2
def O4{K:Uz->Frag}{as:List Zo}(e:∀P,as=(K P).map (·.1))(w:RZ)(s₀ s₁:RQ)(y:x6 as s₀=xZ K w)(k:∀b o,s₀.heap.get? b=some o->s₁.heap.get? b=some o):(K w.params).In s₁.heap:=
 InK.keeps w s₀.heap s₁.heap (InK.of e w s₀ y) k
end L2
namespace K20
open PySem L2
noncomputable def ζw:List Str->Nat->List Zn
 | [],_=>[]
 |x::r,n=>.str x n::ζw r (n+1)
noncomputable abbrev fO(l:List Str)(n:Nat):Array Zn:=⟨ζw l n⟩
noncomputable abbrev dC(x:Array Zn)(n:Nat):Obj:=⟨.type "tuple",none,.seq x n,#[]⟩
noncomputable abbrev dk(a b:Str)(s:Sb):Obj:=⟨.none,none,.func (L2.Pe a b (gc s) (dh s) (ak s) 0 [] .none .none .none .none none .none .none 0),#[]⟩
noncomputable abbrev fP(a b:Str)(n m l:Nat)(i j k o:Int)(r:Nat)(f:Bool)(p:Int)(q x y z:Nat)(u v:Int)(e:Nat):Obj:=⟨.type "code",none,.fields #[.str a n,.str b m,.str "/claim/cut.py" l,.int i 0,.int j 0,.int 0 0,.int k 0,.int o 0,.ref r,.bool f,.int p 0,.ref q,.none,.ref x,.ref y,.ref z,.int u 0,.int v 0,.str "/claim/cut.py" e],#[]⟩
noncomputable abbrev wQ(a b:Str)(n m l:Nat)(i j k o:Int)(r:Nat)(f:Bool)(p:Int)(q:Nat)(u v:Int)(e:Nat):Obj:=⟨.type "code",none,.fields #[.str a n,.str b m,.str "/claim/cut.py" l,.int i 0,.int j 0,.int 0 0,.int k 0,.int o 0,.ref r,.bool f,.int p 0,.ref q,.none,.none,.none,.none,.int u 0,.int v 0,.str "/claim/cut.py" e],#[]⟩
noncomputable abbrev dm(a b:Str)(s:Sb)(m:Str)(n c:Nat):Obj:=⟨.type "function",none,.func (YN a b (gc s) (dh s) (ak s) .none .none .none (.str m n) none (.ref c) .none),#[]⟩
noncomputable abbrev LZ(x:Array Zn):Obj:=⟨.none,none,.fields x,#[]⟩
noncomputable abbrev wP(x:Array Zn):Obj:=⟨.type "code",none,.fields x,#[]⟩
noncomputable abbrev aM(P:Uz)(x:Str)(n:Nat)(v:Zn):DictEntry:=⟨PyData.keyHash P x,.str x n,v⟩
noncomputable abbrev aI(x:Obj):PySem.W.BT:=.node x .nil .nil
noncomputable abbrev aC(x:Obj)(a b:PySem.W.BT):PySem.W.BT:=.node x a b
noncomputable abbrev bW:Zn:=.int 0 0
noncomputable abbrev j8(n:Nat):Zn:=.str "/claim/cut.py" n
noncomputable abbrev aV(n:Int):Zn:=.int n 0
noncomputable abbrev hP:RU:=PySem.Challenge.pw_playboard_k20_webs_refused
noncomputable def hQ:RU:={hP with main:={hP.main with body:=bi 0::bi 2::bi 3::bi 4::bi 5::bi 6::bi 7::bi 8::bi 9::bi 10::bi 11::bi 13::bi 14::bi 15::bi 17::bi 18::bi 19::bi 20::bi 21::bi 22::bi 23::bi 24::bi 25::bi 26::bi 27::bi 28::bi 29::bi 30::bi 31::bi 32::bi 33::bi 34::bi 36::bi 37::bi 38::bi 39::bi 40::bi 41::bi 42::bi 43::bi 44::bi 45::bi 47::bi 49::bi 50::bi 51::bi 52::bi 53::bi 55::bi 56::bi 57::bi 59::bi 60::bi 61::bi 63::bi 64::bi 65::bi 66::bi 67::bi 68::bi 70::bi 72::bi 73::bi 74::bi 76::bi 78::bi 79::bi 80::bi 81::bi 82::bi 83::bi 84::bi 85::bi 86::bi 87::bi 88::[]}}
noncomputable section
variable(P:Uz)
noncomputable def zo3:Obj:=⟨(.type "dict"),none,(.dict #[aM P "__name__" 165 (.str "law_playboard_k20_webs_refused" 944),aM P "__doc__" 166 .none,aM P "__package__" 167 .none,aM P "__loader__" 168 (.builtin "__main__.__loader__#opaque"),aM P "__spec__" 169 .none,aM P "__annotations__" 170 (.ref 6),aM P "__builtins__" 171 (.ref 4),aM P "__file__" 173 (j8 172),aM P "__cached__" 174 .none,aM P "_wall" 193 (.ref 21),aM P "PlayError" 213 (.ref 31),aM P "BadBoard" 229 (.ref 44),aM P "BadGame" 245 (.ref 56),aM P "BadLine" 270 (.ref 75),aM P "BadPlace" 286 (.ref 87),aM P "NoMove" 302 (.ref 99),aM P "TooWide" 318 (.ref 111),aM P "NoWord" 334 (.ref 123),aM P "Over" 350 (.ref 135),aM P "NothingBack" 366 (.ref 147),aM P "is_whole" 375 (.ref 156),aM P "is_letter" 382 (.ref 163),aM P "is_among" 391 (.ref 170),aM P "SORTS" 397 (.ref 171),aM P "AIMS" 401 (.ref 172),aM P "END_WORDS" 404 (.ref 173),aM P "STUCK_WORDS" 408 (.ref 174),aM P "MOST_KINDS" 410 (.int 6 409),aM P "MOST_RULES" 412 (.int 24 411),aM P "MOST_PAIRS" 414 (.int 6 413),aM P "is_word" 422 (.ref 181),aM P "is_tuple_of" 430 (.ref 188),aM P "is_list_of" 439 (.ref 195),aM P "is_step" 449 (.ref 202),aM P "is_rule" 459 (.ref 209),aM P "is_pair" 468 (.ref 216),aM P "are_pairs" 474 (.ref 221),aM P "is_turns" 480 (.ref 226),aM P "is_ends" 488 (.ref 233),aM P "are_kinds" 494 (.ref 238),aM P "are_rules" 500 (.ref 243),aM P "EMPTY" 504 (.str "." 503),aM P "HOLE" 506 (.str "#" 505),aM P "sign_of" 514 (.ref 250),aM P "kind_of" 521 (.ref 257),aM P "side_of" 528 (.ref 264),aM P "empty_row" 534 (.ref 269),aM P "put" 543 (.ref 276),aM P "squares_of" 549 (.ref 281),aM P "is_row" 555 (.ref 286),aM P "is_place" 563 (.ref 293),aM P "ray" 577 (.ref 300),aM P "NOTHING" 582 (.int (-1) 581),aM P "slid" 595 (.ref 307),aM P "jumped" 604 (.ref 314),aM P "by_rule" 616 (.ref 321),aM P "goals" 627 (.ref 328),aM P "column_of" 637 (.ref 335),aM P "row_of" 645 (.ref 342),aM P "square_at" 654 (.ref 349),aM P "moves" 662 (.ref 354),aM P "arrived" 672 (.ref 361),aM P "behind" 687 (.ref 368),aM P "has_kind" 698 (.ref 375),aM P "is_home" 709 (.ref 382),aM P "by_end" 723 (.ref 389),aM P "by_ends" 733 (.ref 396),aM P "ending" 742 (.ref 403),aM P "followers" 748 (.ref 408),aM P "Web" 813 (.ref 451),aM P "LONGEST" 817 (.int 8 816),aM P "are_holes" 823 (.ref 460),aM P "Board" 888 (.ref 501),aM P "Game" 943 (.ref 534),aM P "_law_cell_at" 953 (.ref 545),aM P "_law_mixed" 961 (.ref 552),aM P "_law_kinds" 971 (.ref 559),aM P "_law_rule" 984 (.ref 566),aM P "_law_board" 994 (.ref 573),aM P "_law_game" 1012 (.ref 580),aM P "_law_place" 1028 (.ref 587),aM P "_law_bad" 1045 (.ref 594),aM P "_law_word" 1053 (.ref 601),aM P "_law_made" 1065 (.ref 608),aM P "law" 1079 (.ref 615)] 85),#[]⟩
def au:Obj:=dC #[] 0
def QN:Obj:=LZ #[(aV 1),bW,(.ref 20),(aV 5),bW,(.ref 27),(aV 7),bW,(.ref 40),(aV 9),bW,(.ref 52),(aV 11),bW,(.ref 64),(aV 16),bW,(.ref 83),(aV 18),bW,(.ref 95),(aV 20),bW,(.ref 107),(aV 22),bW,(.ref 119),(aV 24),bW,(.ref 131),(aV 26),bW,(.ref 143),(aV 29),bW,(.ref 155),(aV 31),bW,(.ref 162),(aV 33),bW,(.ref 169),(aV 43),bW,(.ref 180),(aV 45),bW,(.ref 187),(aV 47),bW,(.ref 194),(aV 49),bW,(.ref 201),(aV 54),bW,(.ref 208),(aV 64),bW,(.ref 215),(aV 66),bW,(.ref 220),(aV 68),bW,(.ref 225),(aV 75),bW,(.ref 232),(aV 77),bW,(.ref 237),(aV 81),bW,(.ref 242),(aV 86),bW,(.ref 249),(aV 88),bW,(.ref 256),(aV 90),bW,(.ref 263),(aV 94),bW,(.ref 268),(aV 96),bW,(.ref 275),(aV 98),bW,(.ref 280),(aV 100),bW,(.ref 285),(aV 106),bW,(.ref 292),(aV 109),bW,(.ref 299),(aV 120),bW,(.ref 306),(aV 131),bW,(.ref 313),(aV 135),bW,(.ref 320),(aV 141),bW,(.ref 327),(aV 147),bW,(.ref 334),(aV 149),bW,(.ref 341),(aV 151),bW,(.ref 348),(aV 154),bW,(.ref 353),(aV 160),bW,(.ref 360),(aV 164),bW,(.ref 367),(aV 175),bW,(.ref 374),(aV 177),bW,(.ref 381),(aV 180),bW,(.ref 388),(aV 193),bW,(.ref 395),(aV 199),bW,(.ref 402),(aV 204),bW,(.ref 407),(aV 209),bW,(.ref 414),(aV 245),bW,(.ref 459),(aV 251),bW,(.ref 466),(aV 280),bW,(.ref 511),(aV 306),bW,(.ref 544),(aV 310),bW,(.ref 551),(aV 312),bW,(.ref 558),(aV 317),bW,(.ref 565),(aV 331),bW,(.ref 572),(aV 343),bW,(.ref 579),(aV 361),bW,(.ref 586),(aV 376),bW,(.ref 593),(aV 390),bW,(.ref 600),(aV 401),bW,(.ref 607),(aV 408),bW,(.ref 614)]
def QM:Obj:=wQ "<module>" "<module>" 182 183 184 1 0 0 0 11 false 181 12 185 1 186
def QL:Obj:=⟨(.type "frame"),none,.plain,#[(some (.ref 13)),(some (.ref 3)),(some (.ref 3)),none,(some (.str "__main__" 164)),none,(some (.ref 0))]⟩
def bg:Obj:=LZ #[]
def NP:Obj:=dC #[(.str "k" 190)] 0
def QK:Obj:=dk "_wall" "_wall" xq
def NL:Obj:=fP "_wall" "_wall" 187 188 189 1 1 0 3 15 true 181 16 17 18 19 191 1 192
def NI:Obj:=dm "_wall" "_wall" xq "__main__" 164 20
def NF:Obj:=dC #[(.type "ValueError")] 0
def kY:Obj:=⟨(.type "builtin_function_or_method"),none,(.fields #[(.builtin "type.__prepare__"),(.type "type")]),#[]⟩
noncomputable def QJ:Obj:=⟨(.type "dict"),none,(.dict #[aM P "__module__" 203 (.str "playboard.errors" 194),aM P "__qualname__" 205 (.str "PlayError" 204),aM P "__firstlineno__" 207 (.int 5 206),aM P "__static_attributes__" 208 (.ref 29)] 4),#[]⟩
def QI:Obj:=wQ "PlayError" "PlayError" 198 199 200 5 0 0 0 25 false 181 26 201 5 202
def QH:Obj:=⟨(.type "frame"),none,.plain,#[(some (.ref 27)),(some (.ref 3)),(some (.ref 24)),none,(some (.str "playboard.errors" 194)),none,(some (.ref 0))]⟩
noncomputable def Nq:Obj:=⟨(.type "dict"),none,(.dict #[aM P "__module__" 203 (.str "playboard.errors" 194),aM P "__firstlineno__" 207 (.int 5 206),aM P "__static_attributes__" 208 (.ref 29),aM P "__weakref__" 210 (.ref 32),aM P "__doc__" 211 .none] 3),#[]⟩
def No:Obj:=⟨(.type "type"),none,(.cls ⟨"PlayError",[(.type "ValueError")],[(.ref 31),(.type "ValueError"),(.type "Exception"),(.type "BaseException"),(.type "object")],30,"PlayError",true,[],[(.ref 44),(.ref 56),(.ref 75),(.ref 87),(.ref 99),(.ref 111),(.ref 123),(.ref 135),(.ref 147)],false,none,false⟩),#[(some (.ref 22)),none,(some (.str "PlayError" 196)),(some (.str "PlayError" 204)),(some (.builtin "ValueError.__new__")),(some (.bool true))]⟩
def Nl:Obj:=⟨(.type "getset_descriptor"),none,(.fields #[(.str "__weakref__" 209),(.ref 31),(.builtin "ExceptionGroup.__weakref__"),.none]),#[]⟩
def QG:Obj:=⟨(.type "super"),none,(.fields #[(.ref 31),(.ref 31),(.ref 31)]),#[]⟩
def QF:Obj:=⟨(.type "builtin_function_or_method"),none,(.fields #[(.builtin "object.__init_subclass__"),(.ref 31)]),#[]⟩
def iT:Obj:=dC #[(.ref 31)] 0
noncomputable def QE:Obj:=⟨(.type "dict"),none,(.dict #[aM P "__module__" 221 (.str "playboard.errors" 194),aM P "__qualname__" 223 (.str "BadBoard" 222),aM P "__firstlineno__" 225 (.int 7 224),aM P "__static_attributes__" 226 (.ref 42)] 4),#[]⟩
def QD:Obj:=wQ "BadBoard" "BadBoard" 216 217 218 7 0 0 0 38 false 181 39 219 7 220
def QC:Obj:=⟨(.type "frame"),none,.plain,#[(some (.ref 40)),(some (.ref 3)),(some (.ref 37)),none,(some (.str "playboard.errors" 194)),none,(some (.ref 0))]⟩
noncomputable def M0:Obj:=⟨(.type "dict"),none,(.dict #[aM P "__module__" 221 (.str "playboard.errors" 194),aM P "__firstlineno__" 225 (.int 7 224),aM P "__static_attributes__" 226 (.ref 42),aM P "__doc__" 227 .none] 2),#[]⟩
def MX:Obj:=⟨(.type "type"),none,(.cls ⟨"BadBoard",[(.ref 31)],[(.ref 44),(.ref 31),(.type "ValueError"),(.type "Exception"),(.type "BaseException"),(.type "object")],43,"BadBoard",true,[],[],false,none,false⟩),#[(some (.ref 35)),none,(some (.str "BadBoard" 214)),(some (.str "BadBoard" 222)),(some (.builtin "ValueError.__new__")),(some (.bool true))]⟩
def QB:Obj:=⟨(.type "super"),none,(.fields #[(.ref 44),(.ref 44),(.ref 44)]),#[]⟩
def QA:Obj:=⟨(.type "builtin_function_or_method"),none,(.fields #[(.builtin "object.__init_subclass__"),(.ref 44)]),#[]⟩
noncomputable def Qz:Obj:=⟨(.type "dict"),none,(.dict #[aM P "__module__" 237 (.str "playboard.errors" 194),aM P "__qualname__" 239 (.str "BadGame" 238),aM P "__firstlineno__" 241 (.int 9 240),aM P "__static_attributes__" 242 (.ref 54)] 4),#[]⟩
def Qy:Obj:=wQ "BadGame" "BadGame" 232 233 234 9 0 0 0 50 false 181 51 235 9 236
def Qx:Obj:=⟨(.type "frame"),none,.plain,#[(some (.ref 52)),(some (.ref 3)),(some (.ref 49)),none,(some (.str "playboard.errors" 194)),none,(some (.ref 0))]⟩
noncomputable def Mw:Obj:=⟨(.type "dict"),none,(.dict #[aM P "__module__" 237 (.str "playboard.errors" 194),aM P "__firstlineno__" 241 (.int 9 240),aM P "__static_attributes__" 242 (.ref 54),aM P "__doc__" 243 .none] 2),#[]⟩
def Mt:Obj:=⟨(.type "type"),none,(.cls ⟨"BadGame",[(.ref 31)],[(.ref 56),(.ref 31),(.type "ValueError"),(.type "Exception"),(.type "BaseException"),(.type "object")],55,"BadGame",true,[],[],false,none,false⟩),#[(some (.ref 47)),none,(some (.str "BadGame" 230)),(some (.str "BadGame" 238)),(some (.builtin "ValueError.__new__")),(some (.bool true))]⟩
def Qw:Obj:=⟨(.type "super"),none,(.fields #[(.ref 56),(.ref 56),(.ref 56)]),#[]⟩
noncomputable def Qv:Obj:=⟨(.type "builtin_function_or_method"),none,(.fields #[(.builtin "object.__init_subclass__"),(.ref 56)]),#[]⟩
noncomputable def Qu:Obj:=⟨(.type "dict"),none,(.dict #[aM P "__module__" 253 (.str "playboard.errors" 194),aM P "__qualname__" 255 (.str "BadLine" 254),aM P "__firstlineno__" 257 (.int 11 256),aM P "__init__" 265 (.ref 72),aM P "__static_attributes__" 267 (.ref 73)] 5),#[]⟩
noncomputable def Qt:Obj:=LZ #[(aV 13),(aV 4),(.ref 71)]
noncomputable def Qs:Obj:=wQ "BadLine" "BadLine" 248 249 250 11 0 0 0 62 false 181 63 251 11 252
noncomputable def Qr:Obj:=⟨(.type "frame"),none,.plain,#[(some (.ref 64)),(some (.ref 3)),(some (.ref 61)),none,(some (.str "playboard.errors" 194)),none,(some (.ref 0))]⟩
noncomputable def Mj:Obj:=dC (fO ["self","at"] 261) 0
def Qq:Obj:=dk "__init__" "BadLine.__init__" gE
noncomputable def Mi:Obj:=fP "__init__" "BadLine.__init__" 258 259 260 13 2 0 3 66 true 181 67 68 69 70 263 13 264
def Mh:Obj:=dm "__init__" "BadLine.__init__" gE "playboard.errors" 194 71
noncomputable def Mg:Obj:=dC #[(.str "at" 266)] 0
noncomputable def Mf:Obj:=⟨(.type "dict"),none,(.dict #[aM P "__module__" 253 (.str "playboard.errors" 194),aM P "__firstlineno__" 257 (.int 11 256),aM P "__init__" 265 (.ref 72),aM P "__static_attributes__" 267 (.ref 73),aM P "__doc__" 268 .none] 2),#[]⟩
noncomputable def Me:Obj:=⟨(.type "type"),none,(.cls ⟨"BadLine",[(.ref 31)],[(.ref 75),(.ref 31),(.type "ValueError"),(.type "Exception"),(.type "BaseException"),(.type "object")],74,"BadLine",true,[],[],false,none,false⟩),#[(some (.ref 59)),none,(some (.str "BadLine" 246)),(some (.str "BadLine" 254)),(some (.builtin "ValueError.__new__")),(some (.bool true))]⟩
noncomputable def Qp:Obj:=⟨(.type "super"),none,(.fields #[(.ref 75),(.ref 75),(.ref 75)]),#[]⟩
noncomputable def Qo:Obj:=⟨(.type "builtin_function_or_method"),none,(.fields #[(.builtin "object.__init_subclass__"),(.ref 75)]),#[]⟩
noncomputable def Qn:Obj:=⟨(.type "dict"),none,(.dict #[aM P "__module__" 278 (.str "playboard.errors" 194),aM P "__qualname__" 280 (.str "BadPlace" 279),aM P "__firstlineno__" 282 (.int 16 281),aM P "__static_attributes__" 283 (.ref 85)] 4),#[]⟩
noncomputable def Qm:Obj:=wQ "BadPlace" "BadPlace" 273 274 275 16 0 0 0 81 false 181 82 276 16 277
noncomputable def Ql:Obj:=⟨(.type "frame"),none,.plain,#[(some (.ref 83)),(some (.ref 3)),(some (.ref 80)),none,(some (.str "playboard.errors" 194)),none,(some (.ref 0))]⟩
noncomputable def Md:Obj:=⟨(.type "dict"),none,(.dict #[aM P "__module__" 278 (.str "playboard.errors" 194),aM P "__firstlineno__" 282 (.int 16 281),aM P "__static_attributes__" 283 (.ref 85),aM P "__doc__" 284 .none] 2),#[]⟩
noncomputable def Mc:Obj:=⟨(.type "type"),none,(.cls ⟨"BadPlace",[(.ref 31)],[(.ref 87),(.ref 31),(.type "ValueError"),(.type "Exception"),(.type "BaseException"),(.type "object")],86,"BadPlace",true,[],[],false,none,false⟩),#[(some (.ref 78)),none,(some (.str "BadPlace" 271)),(some (.str "BadPlace" 279)),(some (.builtin "ValueError.__new__")),(some (.bool true))]⟩
noncomputable def Qk:Obj:=⟨(.type "super"),none,(.fields #[(.ref 87),(.ref 87),(.ref 87)]),#[]⟩
noncomputable def Qj:Obj:=⟨(.type "builtin_function_or_method"),none,(.fields #[(.builtin "object.__init_subclass__"),(.ref 87)]),#[]⟩
noncomputable def Qi:Obj:=⟨(.type "dict"),none,(.dict #[aM P "__module__" 294 (.str "playboard.errors" 194),aM P "__qualname__" 296 (.str "NoMove" 295),aM P "__firstlineno__" 298 (.int 18 297),aM P "__static_attributes__" 299 (.ref 97)] 4),#[]⟩
noncomputable def Qh:Obj:=wQ "NoMove" "NoMove" 289 290 291 18 0 0 0 93 false 181 94 292 18 293
noncomputable def Qg:Obj:=⟨(.type "frame"),none,.plain,#[(some (.ref 95)),(some (.ref 3)),(some (.ref 92)),none,(some (.str "playboard.errors" 194)),none,(some (.ref 0))]⟩
noncomputable def Mb:Obj:=⟨(.type "dict"),none,(.dict #[aM P "__module__" 294 (.str "playboard.errors" 194),aM P "__firstlineno__" 298 (.int 18 297),aM P "__static_attributes__" 299 (.ref 97),aM P "__doc__" 300 .none] 2),#[]⟩
noncomputable def Ma:Obj:=⟨(.type "type"),none,(.cls ⟨"NoMove",[(.ref 31)],[(.ref 99),(.ref 31),(.type "ValueError"),(.type "Exception"),(.type "BaseException"),(.type "object")],98,"NoMove",true,[],[],false,none,false⟩),#[(some (.ref 90)),none,(some (.str "NoMove" 287)),(some (.str "NoMove" 295)),(some (.builtin "ValueError.__new__")),(some (.bool true))]⟩
def Oe:Obj:=⟨(.type "super"),none,(.fields #[(.ref 99),(.ref 99),(.ref 99)]),#[]⟩
def Od:Obj:=⟨(.type "builtin_function_or_method"),none,(.fields #[(.builtin "object.__init_subclass__"),(.ref 99)]),#[]⟩
noncomputable def Oc:Obj:=⟨(.type "dict"),none,(.dict #[aM P "__module__" 310 (.str "playboard.errors" 194),aM P "__qualname__" 312 (.str "TooWide" 311),aM P "__firstlineno__" 314 (.int 20 313),aM P "__static_attributes__" 315 (.ref 109)] 4),#[]⟩
def Ob:Obj:=wQ "TooWide" "TooWide" 305 306 307 20 0 0 0 105 false 181 106 308 20 309
def Oa:Obj:=⟨(.type "frame"),none,.plain,#[(some (.ref 107)),(some (.ref 3)),(some (.ref 104)),none,(some (.str "playboard.errors" 194)),none,(some (.ref 0))]⟩
noncomputable def IV:Obj:=⟨(.type "dict"),none,(.dict #[aM P "__module__" 310 (.str "playboard.errors" 194),aM P "__firstlineno__" 314 (.int 20 313),aM P "__static_attributes__" 315 (.ref 109),aM P "__doc__" 316 .none] 2),#[]⟩
def IU:Obj:=⟨(.type "type"),none,(.cls ⟨"TooWide",[(.ref 31)],[(.ref 111),(.ref 31),(.type "ValueError"),(.type "Exception"),(.type "BaseException"),(.type "object")],110,"TooWide",true,[],[],false,none,false⟩),#[(some (.ref 102)),none,(some (.str "TooWide" 303)),(some (.str "TooWide" 311)),(some (.builtin "ValueError.__new__")),(some (.bool true))]⟩
def N9:Obj:=⟨(.type "super"),none,(.fields #[(.ref 111),(.ref 111),(.ref 111)]),#[]⟩
def N8:Obj:=⟨(.type "builtin_function_or_method"),none,(.fields #[(.builtin "object.__init_subclass__"),(.ref 111)]),#[]⟩
noncomputable def N7:Obj:=⟨(.type "dict"),none,(.dict #[aM P "__module__" 326 (.str "playboard.errors" 194),aM P "__qualname__" 328 (.str "NoWord" 327),aM P "__firstlineno__" 330 (.int 22 329),aM P "__static_attributes__" 331 (.ref 121)] 4),#[]⟩
def N6:Obj:=wQ "NoWord" "NoWord" 321 322 323 22 0 0 0 117 false 181 118 324 22 325
def N5:Obj:=⟨(.type "frame"),none,.plain,#[(some (.ref 119)),(some (.ref 3)),(some (.ref 116)),none,(some (.str "playboard.errors" 194)),none,(some (.ref 0))]⟩
noncomputable def IT:Obj:=⟨(.type "dict"),none,(.dict #[aM P "__module__" 326 (.str "playboard.errors" 194),aM P "__firstlineno__" 330 (.int 22 329),aM P "__static_attributes__" 331 (.ref 121),aM P "__doc__" 332 .none] 2),#[]⟩
def IS:Obj:=⟨(.type "type"),none,(.cls ⟨"NoWord",[(.ref 31)],[(.ref 123),(.ref 31),(.type "ValueError"),(.type "Exception"),(.type "BaseException"),(.type "object")],122,"NoWord",true,[],[],false,none,false⟩),#[(some (.ref 114)),none,(some (.str "NoWord" 319)),(some (.str "NoWord" 327)),(some (.builtin "ValueError.__new__")),(some (.bool true))]⟩
def N4:Obj:=⟨(.type "super"),none,(.fields #[(.ref 123),(.ref 123),(.ref 123)]),#[]⟩
def N3:Obj:=⟨(.type "builtin_function_or_method"),none,(.fields #[(.builtin "object.__init_subclass__"),(.ref 123)]),#[]⟩
noncomputable def N2:Obj:=⟨(.type "dict"),none,(.dict #[aM P "__module__" 342 (.str "playboard.errors" 194),aM P "__qualname__" 344 (.str "Over" 343),aM P "__firstlineno__" 346 (.int 24 345),aM P "__static_attributes__" 347 (.ref 133)] 4),#[]⟩
def N1:Obj:=wQ "Over" "Over" 337 338 339 24 0 0 0 129 false 181 130 340 24 341
def N0:Obj:=⟨(.type "frame"),none,.plain,#[(some (.ref 131)),(some (.ref 3)),(some (.ref 128)),none,(some (.str "playboard.errors" 194)),none,(some (.ref 0))]⟩
noncomputable def IR:Obj:=⟨(.type "dict"),none,(.dict #[aM P "__module__" 342 (.str "playboard.errors" 194),aM P "__firstlineno__" 346 (.int 24 345),aM P "__static_attributes__" 347 (.ref 133),aM P "__doc__" 348 .none] 2),#[]⟩
def IQ:Obj:=⟨(.type "type"),none,(.cls ⟨"Over",[(.ref 31)],[(.ref 135),(.ref 31),(.type "ValueError"),(.type "Exception"),(.type "BaseException"),(.type "object")],134,"Over",true,[],[],false,none,false⟩),#[(some (.ref 126)),none,(some (.str "Over" 335)),(some (.str "Over" 343)),(some (.builtin "ValueError.__new__")),(some (.bool true))]⟩
def NZ:Obj:=⟨(.type "super"),none,(.fields #[(.ref 135),(.ref 135),(.ref 135)]),#[]⟩
def NY:Obj:=⟨(.type "builtin_function_or_method"),none,(.fields #[(.builtin "object.__init_subclass__"),(.ref 135)]),#[]⟩
noncomputable def NX:Obj:=⟨(.type "dict"),none,(.dict #[aM P "__module__" 358 (.str "playboard.errors" 194),aM P "__qualname__" 360 (.str "NothingBack" 359),aM P "__firstlineno__" 362 (.int 26 361),aM P "__static_attributes__" 363 (.ref 145)] 4),#[]⟩
def NW:Obj:=wQ "NothingBack" "NothingBack" 353 354 355 26 0 0 0 141 false 181 142 356 26 357
def NV:Obj:=⟨(.type "frame"),none,.plain,#[(some (.ref 143)),(some (.ref 3)),(some (.ref 140)),none,(some (.str "playboard.errors" 194)),none,(some (.ref 0))]⟩
noncomputable def IP:Obj:=⟨(.type "dict"),none,(.dict #[aM P "__module__" 358 (.str "playboard.errors" 194),aM P "__firstlineno__" 362 (.int 26 361),aM P "__static_attributes__" 363 (.ref 145),aM P "__doc__" 364 .none] 2),#[]⟩
def IN:Obj:=⟨(.type "type"),none,(.cls ⟨"NothingBack",[(.ref 31)],[(.ref 147),(.ref 31),(.type "ValueError"),(.type "Exception"),(.type "BaseException"),(.type "object")],146,"NothingBack",true,[],[],false,none,false⟩),#[(some (.ref 138)),none,(some (.str "NothingBack" 351)),(some (.str "NothingBack" 359)),(some (.builtin "ValueError.__new__")),(some (.bool true))]⟩
def NU:Obj:=⟨(.type "super"),none,(.fields #[(.ref 147),(.ref 147),(.ref 147)]),#[]⟩
def NT:Obj:=⟨(.type "builtin_function_or_method"),none,(.fields #[(.builtin "object.__init_subclass__"),(.ref 147)]),#[]⟩
def IM:Obj:=dC #[(.str "thing" 372)] 0
def NS:Obj:=dk "is_whole" "is_whole" gv
def IL:Obj:=fP "is_whole" "is_whole" 369 370 371 29 1 0 3 150 true 181 151 152 153 154 373 29 374
def IK:Obj:=dm "is_whole" "is_whole" gv "playboard.words" 367 155
def IJ:Obj:=dC #[(.str "thing" 379)] 0
def NR:Obj:=dk "is_letter" "is_letter" fu
def II:Obj:=fP "is_letter" "is_letter" 376 377 378 31 1 0 3 157 true 181 158 159 160 161 380 31 381
def IH:Obj:=dm "is_letter" "is_letter" fu "playboard.words" 367 162
def IG:Obj:=dC (fO ["thing","least","most"] 386) 0
def NQ:Obj:=dk "is_among" "is_among" gB
def IF:Obj:=fP "is_among" "is_among" 383 384 385 33 3 0 3 164 true 181 165 166 167 168 389 33 390
def IE:Obj:=dm "is_among" "is_among" gB "playboard.words" 367 169
def ID:Obj:=dC (fO ["leap","slide","jump"] 394) 0
def IC:Obj:=dC (fO ["go","hit","any"] 398) 0
def IB:Obj:=dC (fO ["without","home"] 402) 0
def IA:Obj:=dC (fO ["lost","even","won"] 405) 0
def Iz:Obj:=dC (fO ["thing","words"] 418) 0
def NO:Obj:=dk "is_word" "is_word" ie
def Iy:Obj:=fP "is_word" "is_word" 415 416 417 43 2 0 3 175 true 181 176 177 178 179 420 43 421
def Ix:Obj:=dm "is_word" "is_word" ie "playboard.rules" 392 180
def Iw:Obj:=dC (fO ["thing","many"] 426) 0
def NN:Obj:=dk "is_tuple_of" "is_tuple_of" dt
def Iv:Obj:=fP "is_tuple_of" "is_tuple_of" 423 424 425 45 2 0 3 182 true 181 183 184 185 186 428 45 429
def Iu:Obj:=dm "is_tuple_of" "is_tuple_of" dt "playboard.rules" 392 187
def Ir:Obj:=dC (fO ["thing","least","most"] 434) 0
def NM:Obj:=dk "is_list_of" "is_list_of" dX
def Iq:Obj:=fP "is_list_of" "is_list_of" 431 432 433 47 3 0 3 189 true 181 190 191 192 193 437 47 438
def Ip:Obj:=dm "is_list_of" "is_list_of" dX "playboard.rules" 392 194
def Io:Obj:=dC (fO ["sort","across","up","longest"] 443) 0
def NK:Obj:=dk "is_step" "is_step" ig
def Im:Obj:=fP "is_step" "is_step" 440 441 442 49 3 0 3 196 true 181 197 198 199 200 447 49 448
def Il:Obj:=dm "is_step" "is_step" ig "playboard.rules" 392 201
def Ik:Obj:=dC (fO ["thing","kinds","sort","aim"] 453) 0
def NJ:Obj:=dk "is_rule" "is_rule" ii
def Ij:Obj:=fP "is_rule" "is_rule" 450 451 452 54 2 0 3 203 true 181 204 205 206 207 457 54 458
def Ii:Obj:=dm "is_rule" "is_rule" ii "playboard.rules" 392 208
def Ih:Obj:=dC (fO ["thing","firsts","seconds"] 463) 0
def NH:Obj:=dk "is_pair" "is_pair" ij
def Ig:Obj:=fP "is_pair" "is_pair" 460 461 462 64 3 0 3 210 true 181 211 212 213 214 466 64 467
def Ie:Obj:=dm "is_pair" "is_pair" ij "playboard.rules" 392 215
def NG:Obj:=dk "are_pairs" "are_pairs" dN
def Ic:Obj:=wP #[(.str "are_pairs" 469),(.str "are_pairs" 470),(j8 471),(aV 66),(aV 3),bW,bW,(aV 3),(.ref 217),(.bool true),(aV 181),(.ref 218),.none,.none,.none,(.ref 219),(aV 472),(aV 66),(j8 473)]
def Ib:Obj:=dm "are_pairs" "are_pairs" dN "playboard.rules" 392 220
def NE:Obj:=dk "is_turns" "is_turns" dD
def Ia:Obj:=wP #[(.str "is_turns" 475),(.str "is_turns" 476),(j8 477),(aV 68),(aV 2),bW,bW,(aV 3),(.ref 222),(.bool true),(aV 181),(.ref 223),.none,.none,.none,(.ref 224),(aV 478),(aV 68),(j8 479)]
def HZ:Obj:=dm "is_turns" "is_turns" dD "playboard.rules" 392 225
def HY:Obj:=dC (fO ["thing","kinds"] 484) 0
def ND:Obj:=dk "is_ends" "is_ends" il
def HX:Obj:=fP "is_ends" "is_ends" 481 482 483 75 2 0 3 227 true 181 228 229 230 231 486 75 487
def HW:Obj:=dm "is_ends" "is_ends" il "playboard.rules" 392 232
def NC:Obj:=dk "are_kinds" "are_kinds" dO
def HV:Obj:=wP #[(.str "are_kinds" 489),(.str "are_kinds" 490),(j8 491),(aV 77),(aV 1),bW,bW,(aV 3),(.ref 234),(.bool true),(aV 181),(.ref 235),.none,.none,.none,(.ref 236),(aV 492),(aV 77),(j8 493)]
def HU:Obj:=dm "are_kinds" "are_kinds" dO "playboard.rules" 392 237
def NB:Obj:=dk "are_rules" "are_rules" dM
def HS:Obj:=wP #[(.str "are_rules" 495),(.str "are_rules" 496),(j8 497),(aV 81),(aV 2),bW,bW,(aV 3),(.ref 239),(.bool true),(aV 181),(.ref 240),.none,.none,.none,(.ref 241),(aV 498),(aV 81),(j8 499)]
def HR:Obj:=dm "are_rules" "are_rules" dM "playboard.rules" 392 242
def HQ:Obj:=dC (fO ["kind","side"] 510) 0
def NA:Obj:=dk "sign_of" "sign_of" ia
def HP:Obj:=fP "sign_of" "sign_of" 507 508 509 86 2 0 3 244 true 181 245 246 247 248 512 86 513
def HN:Obj:=dm "sign_of" "sign_of" ia "playboard.places" 501 249
def HM:Obj:=dC #[(.str "sign" 518)] 0
def Nz:Obj:=dk "kind_of" "kind_of" ic
def HL:Obj:=fP "kind_of" "kind_of" 515 516 517 88 1 0 3 251 true 181 252 253 254 255 519 88 520
def HK:Obj:=dm "kind_of" "kind_of" ic "playboard.places" 501 256
def HJ:Obj:=dC #[(.str "sign" 525)] 0
def Ny:Obj:=dk "side_of" "side_of" ib
def HI:Obj:=fP "side_of" "side_of" 522 523 524 90 1 0 3 258 true 181 259 260 261 262 526 90 527
def HH:Obj:=dm "side_of" "side_of" ib "playboard.places" 501 263
def Nx:Obj:=dk "empty_row" "empty_row" dL
def Hz:Obj:=wP #[(.str "empty_row" 529),(.str "empty_row" 530),(j8 531),(aV 94),(aV 1),bW,bW,(aV 3),(.ref 265),(.bool true),(aV 181),(.ref 266),.none,.none,.none,(.ref 267),(aV 532),(aV 94),(j8 533)]
def Hy:Obj:=dm "empty_row" "empty_row" dL "playboard.places" 501 268
def Hx:Obj:=dC (fO ["row","square","sign"] 538) 0
def Nw:Obj:=dk "put" "put" tJ
def Hw:Obj:=fP "put" "put" 535 536 537 96 3 0 3 270 true 181 271 272 273 274 541 96 542
def Hv:Obj:=dm "put" "put" tJ "playboard.places" 501 275
def Nv:Obj:=dk "squares_of" "squares_of" dg
def Hu:Obj:=wP #[(.str "squares_of" 544),(.str "squares_of" 545),(j8 546),(aV 98),(aV 2),bW,bW,(aV 3),(.ref 277),(.bool true),(aV 181),(.ref 278),.none,.none,.none,(.ref 279),(aV 547),(aV 98),(j8 548)]
def Ht:Obj:=dm "squares_of" "squares_of" dg "playboard.places" 501 280
def Nu:Obj:=dk "is_row" "is_row" gw
def Hs:Obj:=wP #[(.str "is_row" 550),(.str "is_row" 551),(j8 552),(aV 100),(aV 2),bW,bW,(aV 3),(.ref 282),(.bool true),(aV 181),(.ref 283),.none,.none,.none,(.ref 284),(aV 553),(aV 100),(j8 554)]
def Hr:Obj:=dm "is_row" "is_row" gw "playboard.places" 501 285
def Hq:Obj:=dC (fO ["game","thing"] 559) 0
def Nt:Obj:=dk "is_place" "is_place" gy
def Ho:Obj:=fP "is_place" "is_place" 556 557 558 106 2 0 3 287 true 181 288 289 290 291 561 106 562
def Hn:Obj:=dm "is_place" "is_place" gy "playboard.places" 501 292
def Hm:Obj:=dC (fO ["board","square","across","up","come_to","here"] 569) 0
def Nr:Obj:=dk "ray" "ray" tI
def Hl:Obj:=fP "ray" "ray" 566 567 568 109 4 0 3 294 true 181 295 296 297 298 575 109 576
def Hk:Obj:=dm "ray" "ray" tI "playboard.rays" 564 299
def Hj:Obj:=dC (fO ["row","side","aim","path","found","goal","owner"] 586) 0
def Np:Obj:=dk "slid" "slid" nu
def Hi:Obj:=fP "slid" "slid" 583 584 585 120 4 0 3 301 true 181 302 303 304 305 593 120 594
def Hh:Obj:=dm "slid" "slid" nu "playboard.reach" 578 306
def Hg:Obj:=dC (fO ["row","side","path"] 599) 0
def Nn:Obj:=dk "jumped" "jumped" je
def Hf:Obj:=fP "jumped" "jumped" 596 597 598 131 3 0 3 308 true 181 309 310 311 312 602 131 603
def He:Obj:=dm "jumped" "jumped" je "playboard.reach" 578 313
def Hd:Obj:=dC (fO ["board","row","square","rule","side","path"] 608) 0
def Nm:Obj:=dk "by_rule" "by_rule" im
def Hc:Obj:=fP "by_rule" "by_rule" 605 606 607 135 4 0 3 315 true 181 316 317 318 319 614 135 615
def Hb:Obj:=dm "by_rule" "by_rule" im "playboard.reach" 578 320
def Ha:Obj:=dC (fO ["game","row","square","found","rule"] 620) 0
def Nk:Obj:=dk "goals" "goals" ko
def G4:Obj:=fP "goals" "goals" 617 618 619 141 3 0 3 322 true 181 323 324 325 326 625 141 626
def G0:Obj:=dm "goals" "goals" ko "playboard.reach" 578 327
def GZ:Obj:=dC (fO ["wide","square"] 633) 0
def Nj:Obj:=dk "column_of" "column_of" fv
def GY:Obj:=fP "column_of" "column_of" 630 631 632 147 2 0 3 329 true 181 330 331 332 333 635 147 636
def GX:Obj:=dm "column_of" "column_of" fv "playboard.squares" 628 334
def GW:Obj:=dC (fO ["wide","square"] 641) 0
def Ni:Obj:=dk "row_of" "row_of" jd
def GV:Obj:=fP "row_of" "row_of" 638 639 640 149 2 0 3 336 true 181 337 338 339 340 643 149 644
def GU:Obj:=dm "row_of" "row_of" jd "playboard.squares" 628 341
def GT:Obj:=dC (fO ["wide","column","row"] 649) 0
def Nh:Obj:=dk "square_at" "square_at" fo
def GS:Obj:=fP "square_at" "square_at" 646 647 648 151 3 0 3 343 true 181 344 345 346 347 652 151 653
def GR:Obj:=dm "square_at" "square_at" fo "playboard.squares" 628 348
def Ng:Obj:=dk "moves" "moves" jD
def GQ:Obj:=wP #[(.str "moves" 657),(.str "moves" 658),(j8 659),(aV 154),(aV 2),bW,bW,(aV 3),(.ref 350),(.bool true),(aV 181),(.ref 351),.none,.none,.none,(.ref 352),(aV 660),(aV 154),(j8 661)]
def GP:Obj:=dm "moves" "moves" jD "playboard.moves" 655 353
def GO:Obj:=dC (fO ["game","sign","side","goal"] 666) 0
def Nf:Obj:=dk "arrived" "arrived" ip
def GN:Obj:=fP "arrived" "arrived" 663 664 665 160 4 0 3 355 true 181 356 357 358 359 670 160 671
def GM:Obj:=dm "arrived" "arrived" ip "playboard.moves" 655 360
def GL:Obj:=dC (fO ["game","place","move","side","start","goal","taken","sign","row"] 676) 0
def Nd:Obj:=dk "behind" "behind" ji
def GK:Obj:=fP "behind" "behind" 673 674 675 164 3 0 3 362 true 181 363 364 365 366 685 164 686
def GJ:Obj:=dm "behind" "behind" ji "playboard.moves" 655 367
def GI:Obj:=dC (fO ["row","kind","side"] 693) 0
def Nc:Obj:=dk "has_kind" "has_kind" gC
def GH:Obj:=fP "has_kind" "has_kind" 690 691 692 175 3 0 3 369 true 181 370 371 372 373 696 175 697
def GG:Obj:=dm "has_kind" "has_kind" gC "playboard.ends" 688 374
def GF:Obj:=dC (fO ["board","row","kind","side","start"] 702) 0
def Nb:Obj:=dk "is_home" "is_home" ik
def GD:Obj:=fP "is_home" "is_home" 699 700 701 177 4 0 3 376 true 181 377 378 379 380 707 177 708
def GA:Obj:=dm "is_home" "is_home" ik "playboard.ends" 688 381
def Gy:Obj:=dC (fO ["board","place","end","row","side","kind","lost","won"] 713) 0
def Na:Obj:=dk "by_end" "by_end" jg
def Gx:Obj:=fP "by_end" "by_end" 710 711 712 180 3 0 3 383 true 181 384 385 386 387 721 180 722
def Gw:Obj:=dm "by_end" "by_end" jg "playboard.ends" 688 388
def Gv:Obj:=dC (fO ["game","place","end","word"] 727) 0
def M9:Obj:=dk "by_ends" "by_ends" io
def Gu:Obj:=fP "by_ends" "by_ends" 724 725 726 193 2 0 3 390 true 181 391 392 393 394 731 193 732
def Gs:Obj:=dm "by_ends" "by_ends" io "playboard.ends" 688 395
def Gr:Obj:=dC (fO ["game","place","word"] 737) 0
def M8:Obj:=dk "ending" "ending" jf
def Gq:Obj:=fP "ending" "ending" 734 735 736 199 2 0 3 397 true 181 398 399 400 401 740 199 741
def Go:Obj:=dm "ending" "ending" jf "playboard.ends" 688 402
def M7:Obj:=dk "followers" "followers" dJ
def Gn:Obj:=wP #[(.str "followers" 743),(.str "followers" 744),(j8 745),(aV 204),(aV 2),bW,bW,(aV 3),(.ref 404),(.bool true),(aV 181),(.ref 405),.none,.none,.none,(.ref 406),(aV 746),(aV 204),(j8 747)]
def Gm:Obj:=dm "followers" "followers" dJ "playboard.ends" 688 407
noncomputable def M6:Obj:=⟨(.type "dict"),none,(.dict #[aM P "__module__" 758 (.str "playboard.webs" 749),aM P "__qualname__" 760 (.str "Web" 759),aM P "__firstlineno__" 762 (.int 209 761),aM P "__init__" 768 (.ref 420),aM P "gather" 778 (.ref 427),aM P "number" 786 (.ref 434),aM P "nexts" 793 (.ref 441),aM P "known" 800 (.ref 448),aM P "__static_attributes__" 806 (.ref 449)] 9),#[]⟩
def M5:Obj:=LZ #[(aV 211),(aV 4),(.ref 419),(aV 227),(aV 4),(.ref 426),(aV 235),(aV 4),(.ref 433),(aV 238),(aV 4),(.ref 440),(aV 241),(aV 4),(.ref 447)]
def M4:Obj:=wQ "Web" "Web" 753 754 755 209 0 0 0 412 false 181 413 756 209 757
def M3:Obj:=⟨(.type "frame"),none,.plain,#[(some (.ref 414)),(some (.ref 3)),(some (.ref 411)),none,(some (.str "playboard.webs" 749)),none,(some (.ref 0))]⟩
def M2:Obj:=dk "__init__" "Web.__init__" bT
def Gk:Obj:=wP #[(.str "__init__" 763),(.str "Web.__init__" 764),(j8 765),(aV 211),(aV 4),bW,bW,(aV 3),(.ref 416),(.bool true),(aV 181),(.ref 417),.none,.none,.none,(.ref 418),(aV 766),(aV 211),(j8 767)]
def Gj:Obj:=dm "__init__" "Web.__init__" bT "playboard.webs" 749 419
def Gi:Obj:=dC (fO ["self","found","most","place"] 772) 0
def M1:Obj:=dk "gather" "Web.gather" eJ
def Gh:Obj:=fP "gather" "Web.gather" 769 770 771 227 3 0 3 421 true 181 422 423 424 425 776 227 777
def Gg:Obj:=dm "gather" "Web.gather" eJ "playboard.webs" 749 426
def Ge:Obj:=dC (fO ["self","place"] 782) 0
def MZ:Obj:=dk "number" "Web.number" ku
def Gd:Obj:=fP "number" "Web.number" 779 780 781 235 2 0 3 428 true 181 429 430 431 432 784 235 785
def Gc:Obj:=dm "number" "Web.number" ku "playboard.webs" 749 433
def Gb:Obj:=dC #[(.str "self" 790)] 0
def MY:Obj:=dk "nexts" "Web.nexts" lK
def Ga:Obj:=fP "nexts" "Web.nexts" 787 788 789 238 1 0 3 435 true 181 436 437 438 439 791 238 792
def F0:Obj:=dm "nexts" "Web.nexts" lK "playboard.webs" 749 440
def FZ:Obj:=dC #[(.str "self" 797)] 0
def MW:Obj:=dk "known" "Web.known" lL
def FY:Obj:=fP "known" "Web.known" 794 795 796 241 1 0 3 442 true 181 443 444 445 446 798 241 799
def FX:Obj:=dm "known" "Web.known" lL "playboard.webs" 749 447
def FW:Obj:=dC (fO ["game","numbers","overs","places","ways"] 801) 0
noncomputable def FV:Obj:=⟨(.type "dict"),none,(.dict #[aM P "__module__" 758 (.str "playboard.webs" 749),aM P "__firstlineno__" 762 (.int 209 761),aM P "__init__" 768 (.ref 420),aM P "gather" 778 (.ref 427),aM P "number" 786 (.ref 434),aM P "nexts" 793 (.ref 441),aM P "known" 800 (.ref 448),aM P "__static_attributes__" 806 (.ref 449),aM P "__dict__" 808 (.ref 452),aM P "__weakref__" 810 (.ref 453),aM P "__doc__" 811 .none] 4),#[]⟩
def FU:Obj:=⟨(.type "type"),none,(.cls ⟨"Web",[(.type "object")],[(.ref 451),(.type "object")],450,"Web",true,[],[],false,none,false⟩),#[none,none,(some (.str "Web" 751)),(some (.str "Web" 759)),(some (.builtin "object.__new__")),(some (.bool true))]⟩
def FT:Obj:=⟨(.type "getset_descriptor"),none,(.fields #[(.str "__dict__" 807),(.ref 451),(.builtin "function.__dict__"),(.builtin "function.__dict__#set")]),#[]⟩
def FS:Obj:=⟨(.type "getset_descriptor"),none,(.fields #[(.str "__weakref__" 809),(.ref 451),(.builtin "ExceptionGroup.__weakref__"),.none]),#[]⟩
def MV:Obj:=⟨(.type "super"),none,(.fields #[(.ref 451),(.ref 451),(.ref 451)]),#[]⟩
def MU:Obj:=⟨(.type "builtin_function_or_method"),none,(.fields #[(.builtin "object.__init_subclass__"),(.ref 451)]),#[]⟩
def MT:Obj:=dk "are_holes" "are_holes" dP
def FR:Obj:=wP #[(.str "are_holes" 818),(.str "are_holes" 819),(j8 820),(aV 245),(aV 2),bW,bW,(aV 3),(.ref 456),(.bool true),(aV 181),(.ref 457),.none,.none,.none,(.ref 458),(aV 821),(aV 245),(j8 822)]
def FQ:Obj:=dm "are_holes" "are_holes" dP "playboard.boards" 814 459
noncomputable def MS:Obj:=⟨(.type "dict"),none,(.dict #[aM P "__module__" 831 (.str "playboard.boards" 814),aM P "__qualname__" 833 (.str "Board" 832),aM P "__firstlineno__" 835 (.int 251 834),aM P "__init__" 841 (.ref 472),aM P "has" 849 (.ref 479),aM P "squares" 855 (.ref 484),aM P "moved" 868 (.ref 491),aM P "far_row" 876 (.ref 498),aM P "__static_attributes__" 881 (.ref 499)] 9),#[]⟩
def MR:Obj:=LZ #[(aV 253),(aV 4),(.ref 471),(aV 263),(aV 4),(.ref 478),(aV 266),(aV 4),(.ref 483),(aV 269),(aV 4),(.ref 490),(aV 277),(aV 4),(.ref 497)]
def MQ:Obj:=wQ "Board" "Board" 826 827 828 251 0 0 0 464 false 181 465 829 251 830
def MP:Obj:=⟨(.type "frame"),none,.plain,#[(some (.ref 466)),(some (.ref 3)),(some (.ref 463)),none,(some (.str "playboard.boards" 814)),none,(some (.ref 0))]⟩
def MO:Obj:=dk "__init__" "Board.__init__" bR
def FP:Obj:=wP #[(.str "__init__" 836),(.str "Board.__init__" 837),(j8 838),(aV 253),(aV 4),bW,bW,(aV 3),(.ref 468),(.bool true),(aV 181),(.ref 469),.none,.none,.none,(.ref 470),(aV 839),(aV 253),(j8 840)]
def FO:Obj:=dm "__init__" "Board.__init__" bR "playboard.boards" 814 471
def FN:Obj:=dC (fO ["self","square"] 845) 0
def MN:Obj:=dk "has" "Board.has" fF
def FM:Obj:=fP "has" "Board.has" 842 843 844 263 2 0 3 473 true 181 474 475 476 477 847 263 848
def FL:Obj:=dm "has" "Board.has" fF "playboard.boards" 814 478
def MM:Obj:=dk "squares" "Board.squares" bY
def FK:Obj:=wP #[(.str "squares" 850),(.str "Board.squares" 851),(j8 852),(aV 266),(aV 1),bW,bW,(aV 3),(.ref 480),(.bool true),(aV 181),(.ref 481),.none,.none,.none,(.ref 482),(aV 853),(aV 266),(j8 854)]
def FJ:Obj:=dm "squares" "Board.squares" bY "playboard.boards" 814 483
def FI:Obj:=dC (fO ["self","square","across","up","column","row","goal"] 859) 0
def ML:Obj:=dk "moved" "Board.moved" dv
def FH:Obj:=fP "moved" "Board.moved" 856 857 858 269 4 0 3 485 true 181 486 487 488 489 866 269 867
def FG:Obj:=dm "moved" "Board.moved" dv "playboard.boards" 814 490
def FE:Obj:=dC (fO ["self","side"] 872) 0
def MJ:Obj:=dk "far_row" "Board.far_row" cJ
def FD:Obj:=fP "far_row" "Board.far_row" 869 870 871 277 2 0 3 492 true 181 493 494 495 496 874 277 875
def FC:Obj:=dm "far_row" "Board.far_row" cJ "playboard.boards" 814 497
def FA:Obj:=dC (fO ["firm","high","holes","wide"] 877) 0
noncomputable def Fz:Obj:=⟨(.type "dict"),none,(.dict #[aM P "__module__" 831 (.str "playboard.boards" 814),aM P "__firstlineno__" 835 (.int 251 834),aM P "__init__" 841 (.ref 472),aM P "has" 849 (.ref 479),aM P "squares" 855 (.ref 484),aM P "moved" 868 (.ref 491),aM P "far_row" 876 (.ref 498),aM P "__static_attributes__" 881 (.ref 499),aM P "__dict__" 883 (.ref 502),aM P "__weakref__" 885 (.ref 503),aM P "__doc__" 886 .none] 4),#[]⟩
def Fy:Obj:=⟨(.type "type"),none,(.cls ⟨"Board",[(.type "object")],[(.ref 501),(.type "object")],500,"Board",true,[],[],false,none,false⟩),#[none,none,(some (.str "Board" 824)),(some (.str "Board" 832)),(some (.builtin "object.__new__")),(some (.bool true))]⟩
def Fx:Obj:=⟨(.type "getset_descriptor"),none,(.fields #[(.str "__dict__" 882),(.ref 501),(.builtin "function.__dict__"),(.builtin "function.__dict__#set")]),#[]⟩
def Fw:Obj:=⟨(.type "getset_descriptor"),none,(.fields #[(.str "__weakref__" 884),(.ref 501),(.builtin "ExceptionGroup.__weakref__"),.none]),#[]⟩
def MI:Obj:=⟨(.type "super"),none,(.fields #[(.ref 501),(.ref 501),(.ref 501)]),#[]⟩
def MH:Obj:=⟨(.type "builtin_function_or_method"),none,(.fields #[(.builtin "object.__init_subclass__"),(.ref 501)]),#[]⟩
noncomputable def MG:Obj:=⟨(.type "dict"),none,(.dict #[aM P "__module__" 898 (.str "playboard.games" 889),aM P "__qualname__" 900 (.str "Game" 899),aM P "__firstlineno__" 902 (.int 280 901),aM P "__init__" 915 (.ref 519),aM P "rules_of" 921 (.ref 524),aM P "turned" 929 (.ref 531),aM P "__static_attributes__" 936 (.ref 532)] 7),#[]⟩
def MF:Obj:=LZ #[(aV 282),(aV 4),(.ref 518),(aV 300),(aV 4),(.ref 523),(aV 303),(aV 4),(.ref 530)]
def ME:Obj:=wQ "Game" "Game" 893 894 895 280 0 0 0 509 false 181 510 896 280 897
def MD:Obj:=⟨(.type "frame"),none,.plain,#[(some (.ref 511)),(some (.ref 3)),(some (.ref 508)),none,(some (.str "playboard.games" 889)),none,(some (.ref 0))]⟩
def Fv:Obj:=dC (fO ["self","board","kinds","rules","turns","ends","stuck"] 906) 0
def MC:Obj:=dk "__init__" "Game.__init__" cI
def Fu:Obj:=fP "__init__" "Game.__init__" 903 904 905 282 7 0 3 513 true 181 514 515 516 517 913 282 914
def Ft:Obj:=dm "__init__" "Game.__init__" cI "playboard.games" 889 518
def MB:Obj:=dk "rules_of" "Game.rules_of" bX
def Fs:Obj:=wP #[(.str "rules_of" 916),(.str "Game.rules_of" 917),(j8 918),(aV 300),(aV 2),bW,bW,(aV 3),(.ref 520),(.bool true),(aV 181),(.ref 521),.none,.none,.none,(.ref 522),(aV 919),(aV 300),(j8 920)]
def Fq:Obj:=dm "rules_of" "Game.rules_of" bX "playboard.games" 889 523
def Fp:Obj:=dC (fO ["self","kind"] 925) 0
def MA:Obj:=dk "turned" "Game.turned" du
def Fo:Obj:=fP "turned" "Game.turned" 922 923 924 303 2 0 3 525 true 181 526 527 528 529 927 303 928
def Fn:Obj:=dm "turned" "Game.turned" du "playboard.games" 889 530
def Fm:Obj:=dC (fO ["board","ends","kinds","rules","stuck","turns"] 930) 0
noncomputable def Fk:Obj:=⟨(.type "dict"),none,(.dict #[aM P "__module__" 898 (.str "playboard.games" 889),aM P "__firstlineno__" 902 (.int 280 901),aM P "__init__" 915 (.ref 519),aM P "rules_of" 921 (.ref 524),aM P "turned" 929 (.ref 531),aM P "__static_attributes__" 936 (.ref 532),aM P "__dict__" 938 (.ref 535),aM P "__weakref__" 940 (.ref 536),aM P "__doc__" 941 .none] 4),#[]⟩
def Fj:Obj:=⟨(.type "type"),none,(.cls ⟨"Game",[(.type "object")],[(.ref 534),(.type "object")],533,"Game",true,[],[],false,none,false⟩),#[none,none,(some (.str "Game" 891)),(some (.str "Game" 899)),(some (.builtin "object.__new__")),(some (.bool true))]⟩
def Fi:Obj:=⟨(.type "getset_descriptor"),none,(.fields #[(.str "__dict__" 937),(.ref 534),(.builtin "function.__dict__"),(.builtin "function.__dict__#set")]),#[]⟩
def Fh:Obj:=⟨(.type "getset_descriptor"),none,(.fields #[(.str "__weakref__" 939),(.ref 534),(.builtin "ExceptionGroup.__weakref__"),.none]),#[]⟩
def Mz:Obj:=⟨(.type "super"),none,(.fields #[(.ref 534),(.ref 534),(.ref 534)]),#[]⟩
def My:Obj:=⟨(.type "builtin_function_or_method"),none,(.fields #[(.builtin "object.__init_subclass__"),(.ref 534)]),#[]⟩
def Fg:Obj:=dC (fO ["_law_script","_law_k"] 949) 0
def Mx:Obj:=dk "_law_cell_at" "_law_cell_at" da
def Ff:Obj:=fP "_law_cell_at" "_law_cell_at" 946 947 948 306 2 0 3 539 true 181 540 541 542 543 951 306 952
def Fe:Obj:=dm "_law_cell_at" "_law_cell_at" da "law_playboard_k20_webs_refused" 944 544
def Fd:Obj:=dC (fO ["_law_script","_law_k"] 957) 0
def Mv:Obj:=dk "_law_mixed" "_law_mixed" dZ
def Fc:Obj:=fP "_law_mixed" "_law_mixed" 954 955 956 310 2 0 3 546 true 181 547 548 549 550 959 310 960
def Fb:Obj:=dm "_law_mixed" "_law_mixed" dZ "law_playboard_k20_webs_refused" 944 551
def Fa:Obj:=dC (fO ["_law_cell","_law_letters","_law_first","_law_found"] 965) 0
def Mu:Obj:=dk "_law_kinds" "_law_kinds" ef
def E9:Obj:=fP "_law_kinds" "_law_kinds" 962 963 964 312 1 0 3 553 true 181 554 555 556 557 969 312 970
def E8:Obj:=dm "_law_kinds" "_law_kinds" ef "law_playboard_k20_webs_refused" 944 558
def E7:Obj:=dC (fO ["_law_cell","_law_kinds_here","_law_kind","_law_sort","_law_aim","_law_across","_law_up"] 975) 0
def Ms:Obj:=dk "_law_rule" "_law_rule" fB
def E6:Obj:=fP "_law_rule" "_law_rule" 972 973 974 317 2 0 3 560 true 181 561 562 563 564 982 317 983
def E5:Obj:=dm "_law_rule" "_law_rule" fB "law_playboard_k20_webs_refused" 944 565
def E4:Obj:=dC (fO ["_law_cell","_law_wide","_law_high","_law_holes"] 988) 0
def Mr:Obj:=dk "_law_board" "_law_board" eI
noncomputable def E3:Obj:=fP "_law_board" "_law_board" 985 986 987 331 1 0 3 567 true 181 568 569 570 571 992 331 993
def E2:Obj:=dm "_law_board" "_law_board" eI "law_playboard_k20_webs_refused" 944 572
noncomputable def E1:Obj:=dC (fO ["_law_script","_law_cell","_law_kinds_here","_law_many","_law_rules","_law_k","_law_rule_here","_law_more","_law_turns","_law_some","_law_ends","_law_stuck"] 998) 0
def Mq:Obj:=dk "_law_game" "_law_game" fE
noncomputable def EZ:Obj:=fP "_law_game" "_law_game" 995 996 997 343 1 0 3 574 true 181 575 576 577 578 1010 343 1011
def EY:Obj:=dm "_law_game" "_law_game" fE "law_playboard_k20_webs_refused" 944 579
noncomputable def EW:Obj:=dC (fO ["_law_game_here","_law_cell","_law_signs","_law_hole","_law_squares","_law_many","_law_side","_law_k","_law_at","_law_kind"] 1016) 0
def Mp:Obj:=dk "_law_place" "_law_place" dY
noncomputable def EV:Obj:=fP "_law_place" "_law_place" 1013 1014 1015 361 2 0 3 581 true 181 582 583 584 585 1026 361 1027
def EU:Obj:=dm "_law_place" "_law_place" dY "law_playboard_k20_webs_refused" 944 586
noncomputable def ET:Obj:=dC (fO ["_law_place_here","_law_cell","_law_game_here","_law_row","_law_side","_law_at","_law_odd","_law_more","_law_spoilt","_law_holed","_law_some"] 1032) 0
def Mo:Obj:=dk "_law_bad" "_law_bad" gD
noncomputable def ES:Obj:=fP "_law_bad" "_law_bad" 1029 1030 1031 376 3 0 3 588 true 181 589 590 591 592 1043 376 1044
def ER:Obj:=dm "_law_bad" "_law_bad" gD "law_playboard_k20_webs_refused" 944 593
noncomputable def EQ:Obj:=dC (fO ["_law_e","_law_word_here"] 1049) 0
def Mn:Obj:=dk "_law_word" "_law_word" fA
noncomputable def EO:Obj:=fP "_law_word" "_law_word" 1046 1047 1048 390 1 0 3 595 true 181 596 597 598 599 1051 390 1052
def EN:Obj:=dm "_law_word" "_law_word" fA "law_playboard_k20_webs_refused" 944 600
noncomputable def EM:Obj:=dC (fO ["_law_game_here","_law_starts","_law_most","_law_kept","_law_web","_law_e"] 1057) 0
def Mm:Obj:=dk "_law_made" "_law_made" fC
noncomputable def EL:Obj:=fP "_law_made" "_law_made" 1054 1055 1056 401 3 0 3 602 true 181 603 604 605 606 1063 401 1064
def EK:Obj:=dm "_law_made" "_law_made" fC "law_playboard_k20_webs_refused" 944 607
noncomputable def EJ:Obj:=dC (fO ["_law_script","_law_game_here","_law_cell","_law_starts","_law_more","_law_at","_law_many","_law_due"] 1069) 0
def Ml:Obj:=dk "law" "law" km
noncomputable def EI:Obj:=fP "law" "law" 1066 1067 1068 408 1 0 3 609 true 181 610 611 612 613 1077 408 1078
def EH:Obj:=dm "law" "law" km "law_playboard_k20_webs_refused" 944 614
end
noncomputable def hK(P:Uz):Frag:=(nat_lit 2,Zi P)::(nat_lit 3,zo3 P)::(nat_lit 15,au)::(nat_lit 17,NP)::(nat_lit 18,au)::(nat_lit 20,NL)::(nat_lit 21,NI)::(nat_lit 22,NF)::(nat_lit 29,au)::(nat_lit 30,Nq P)::(nat_lit 31,No)::(nat_lit 32,Nl)::(nat_lit 35,iT)::(nat_lit 42,au)::(nat_lit 43,M0 P)::(nat_lit 44,MX)::(nat_lit 47,iT)::(nat_lit 54,au)::(nat_lit 55,Mw P)::(nat_lit 56,Mt)::(nat_lit 59,iT)::(nat_lit 66,au)::(nat_lit 68,Mj)::(nat_lit 69,au)::(nat_lit 71,Mi)::(nat_lit 72,Mh)::(nat_lit 73,Mg)::(nat_lit 74,Mf P)::(nat_lit 75,Me)::(nat_lit 78,iT)::(nat_lit 85,au)::(nat_lit 86,Md P)::(nat_lit 87,Mc)::(nat_lit 90,iT)::(nat_lit 97,au)::(nat_lit 98,Mb P)::(nat_lit 99,Ma)::(nat_lit 102,iT)::(nat_lit 109,au)::(nat_lit 110,IV P)::(nat_lit 111,IU)::(nat_lit 114,iT)::(nat_lit 121,au)::(nat_lit 122,IT P)::(nat_lit 123,IS)::(nat_lit 126,iT)::(nat_lit 133,au)::(nat_lit 134,IR P)::(nat_lit 135,IQ)::(nat_lit 138,iT)::(nat_lit 145,au)::(nat_lit 146,IP P)::(nat_lit 147,IN)::(nat_lit 150,au)::(nat_lit 152,IM)::(nat_lit 153,au)::(nat_lit 155,IL)::(nat_lit 156,IK)::(nat_lit 157,au)::(nat_lit 159,IJ)::(nat_lit 160,au)::(nat_lit 162,II)::(nat_lit 163,IH)::(nat_lit 164,au)::(nat_lit 166,IG)::(nat_lit 167,au)::(nat_lit 169,IF)::(nat_lit 170,IE)::(nat_lit 171,ID)::(nat_lit 172,IC)::(nat_lit 173,IB)::(nat_lit 174,IA)::(nat_lit 175,au)::(nat_lit 177,Iz)::(nat_lit 178,au)::(nat_lit 180,Iy)::(nat_lit 181,Ix)::(nat_lit 182,au)::(nat_lit 184,Iw)::(nat_lit 185,au)::(nat_lit 187,Iv)::(nat_lit 188,Iu)::(nat_lit 189,au)::(nat_lit 191,Ir)::(nat_lit 192,au)::(nat_lit 194,Iq)::(nat_lit 195,Ip)::(nat_lit 196,au)::(nat_lit 198,Io)::(nat_lit 199,au)::(nat_lit 201,Im)::(nat_lit 202,Il)::(nat_lit 203,au)::(nat_lit 205,Ik)::(nat_lit 206,au)::(nat_lit 208,Ij)::(nat_lit 209,Ii)::(nat_lit 210,au)::(nat_lit 212,Ih)::(nat_lit 213,au)::(nat_lit 215,Ig)::(nat_lit 216,Ie)::(nat_lit 217,au)::(nat_lit 220,Ic)::(nat_lit 221,Ib)::(nat_lit 222,au)::(nat_lit 225,Ia)::(nat_lit 226,HZ)::(nat_lit 227,au)::(nat_lit 229,HY)::(nat_lit 230,au)::(nat_lit 232,HX)::(nat_lit 233,HW)::(nat_lit 234,au)::(nat_lit 237,HV)::(nat_lit 238,HU)::(nat_lit 239,au)::(nat_lit 242,HS)::(nat_lit 243,HR)::(nat_lit 244,au)::(nat_lit 246,HQ)::(nat_lit 247,au)::(nat_lit 249,HP)::(nat_lit 250,HN)::(nat_lit 251,au)::(nat_lit 253,HM)::(nat_lit 254,au)::(nat_lit 256,HL)::(nat_lit 257,HK)::(nat_lit 258,au)::(nat_lit 260,HJ)::(nat_lit 261,au)::(nat_lit 263,HI)::(nat_lit 264,HH)::(nat_lit 265,au)::(nat_lit 268,Hz)::(nat_lit 269,Hy)::(nat_lit 270,au)::(nat_lit 272,Hx)::(nat_lit 273,au)::(nat_lit 275,Hw)::(nat_lit 276,Hv)::(nat_lit 277,au)::(nat_lit 280,Hu)::(nat_lit 281,Ht)::(nat_lit 282,au)::(nat_lit 285,Hs)::(nat_lit 286,Hr)::(nat_lit 287,au)::(nat_lit 289,Hq)::(nat_lit 290,au)::(nat_lit 292,Ho)::(nat_lit 293,Hn)::(nat_lit 294,au)::(nat_lit 296,Hm)::(nat_lit 297,au)::(nat_lit 299,Hl)::(nat_lit 300,Hk)::(nat_lit 301,au)::(nat_lit 303,Hj)::(nat_lit 304,au)::(nat_lit 306,Hi)::(nat_lit 307,Hh)::(nat_lit 308,au)::(nat_lit 310,Hg)::(nat_lit 311,au)::(nat_lit 313,Hf)::(nat_lit 314,He)::(nat_lit 315,au)::(nat_lit 317,Hd)::(nat_lit 318,au)::(nat_lit 320,Hc)::(nat_lit 321,Hb)::(nat_lit 322,au)::(nat_lit 324,Ha)::(nat_lit 325,au)::(nat_lit 327,G4)::(nat_lit 328,G0)::(nat_lit 329,au)::(nat_lit 331,GZ)::(nat_lit 332,au)::(nat_lit 334,GY)::(nat_lit 335,GX)::(nat_lit 336,au)::(nat_lit 338,GW)::(nat_lit 339,au)::(nat_lit 341,GV)::(nat_lit 342,GU)::(nat_lit 343,au)::(nat_lit 345,GT)::(nat_lit 346,au)::(nat_lit 348,GS)::(nat_lit 349,GR)::(nat_lit 350,au)::(nat_lit 353,GQ)::(nat_lit 354,GP)::(nat_lit 355,au)::(nat_lit 357,GO)::(nat_lit 358,au)::(nat_lit 360,GN)::(nat_lit 361,GM)::(nat_lit 362,au)::(nat_lit 364,GL)::(nat_lit 365,au)::(nat_lit 367,GK)::(nat_lit 368,GJ)::(nat_lit 369,au)::(nat_lit 371,GI)::(nat_lit 372,au)::(nat_lit 374,GH)::(nat_lit 375,GG)::(nat_lit 376,au)::(nat_lit 378,GF)::(nat_lit 379,au)::(nat_lit 381,GD)::(nat_lit 382,GA)::(nat_lit 383,au)::(nat_lit 385,Gy)::(nat_lit 386,au)::(nat_lit 388,Gx)::(nat_lit 389,Gw)::(nat_lit 390,au)::(nat_lit 392,Gv)::(nat_lit 393,au)::(nat_lit 395,Gu)::(nat_lit 396,Gs)::(nat_lit 397,au)::(nat_lit 399,Gr)::(nat_lit 400,au)::(nat_lit 402,Gq)::(nat_lit 403,Go)::(nat_lit 404,au)::(nat_lit 407,Gn)::(nat_lit 408,Gm)::(nat_lit 416,au)::(nat_lit 419,Gk)::(nat_lit 420,Gj)::(nat_lit 421,au)::(nat_lit 423,Gi)::(nat_lit 424,au)::(nat_lit 426,Gh)::(nat_lit 427,Gg)::(nat_lit 428,au)::(nat_lit 430,Ge)::(nat_lit 431,au)::(nat_lit 433,Gd)::(nat_lit 434,Gc)::(nat_lit 435,au)::(nat_lit 437,Gb)::(nat_lit 438,au)::(nat_lit 440,Ga)::(nat_lit 441,F0)::(nat_lit 442,au)::(nat_lit 444,FZ)::(nat_lit 445,au)::(nat_lit 447,FY)::(nat_lit 448,FX)::(nat_lit 449,FW)::(nat_lit 450,FV P)::(nat_lit 451,FU)::(nat_lit 452,FT)::(nat_lit 453,FS)::(nat_lit 456,au)::(nat_lit 459,FR)::(nat_lit 460,FQ)::(nat_lit 468,au)::(nat_lit 471,FP)::(nat_lit 472,FO)::(nat_lit 473,au)::(nat_lit 475,FN)::(nat_lit 476,au)::(nat_lit 478,FM)::(nat_lit 479,FL)::(nat_lit 480,au)::(nat_lit 483,FK)::(nat_lit 484,FJ)::(nat_lit 485,au)::(nat_lit 487,FI)::(nat_lit 488,au)::(nat_lit 490,FH)::(nat_lit 491,FG)::(nat_lit 492,au)::(nat_lit 494,FE)::(nat_lit 495,au)::(nat_lit 497,FD)::(nat_lit 498,FC)::(nat_lit 499,FA)::(nat_lit 500,Fz P)::(nat_lit 501,Fy)::(nat_lit 502,Fx)::(nat_lit 503,Fw)::(nat_lit 513,au)::(nat_lit 515,Fv)::(nat_lit 516,au)::(nat_lit 518,Fu)::(nat_lit 519,Ft)::(nat_lit 520,au)::(nat_lit 523,Fs)::(nat_lit 524,Fq)::(nat_lit 525,au)::(nat_lit 527,Fp)::(nat_lit 528,au)::(nat_lit 530,Fo)::(nat_lit 531,Fn)::(nat_lit 532,Fm)::(nat_lit 533,Fk P)::(nat_lit 534,Fj)::(nat_lit 535,Fi)::(nat_lit 536,Fh)::(nat_lit 539,au)::(nat_lit 541,Fg)::(nat_lit 542,au)::(nat_lit 544,Ff)::(nat_lit 545,Fe)::(nat_lit 546,au)::(nat_lit 548,Fd)::(nat_lit 549,au)::(nat_lit 551,Fc)::(nat_lit 552,Fb)::(nat_lit 553,au)::(nat_lit 555,Fa)::(nat_lit 556,au)::(nat_lit 558,E9)::(nat_lit 559,E8)::(nat_lit 560,au)::(nat_lit 562,E7)::(nat_lit 563,au)::(nat_lit 565,E6)::(nat_lit 566,E5)::(nat_lit 567,au)::(nat_lit 569,E4)::(nat_lit 570,au)::(nat_lit 572,E3)::(nat_lit 573,E2)::(nat_lit 574,au)::(nat_lit 576,E1)::(nat_lit 577,au)::(nat_lit 579,EZ)::(nat_lit 580,EY)::(nat_lit 581,au)::(nat_lit 583,EW)::(nat_lit 584,au)::(nat_lit 586,EV)::(nat_lit 587,EU)::(nat_lit 588,au)::(nat_lit 590,ET)::(nat_lit 591,au)::(nat_lit 593,ES)::(nat_lit 594,ER)::(nat_lit 595,au)::(nat_lit 597,EQ)::(nat_lit 598,au)::(nat_lit 600,EO)::(nat_lit 601,EN)::(nat_lit 602,au)::(nat_lit 604,EM)::(nat_lit 605,au)::(nat_lit 607,EL)::(nat_lit 608,EK)::(nat_lit 609,au)::(nat_lit 611,EJ)::(nat_lit 612,au)::(nat_lit 614,EI)::(nat_lit 615,EH)::[]
noncomputable def hA:List Zo:=(hK {strHash:=λ_=>0,shareClass:=λ_=>0,mergeTok:=id,idOf:=λ_=>0,idOfShared:=λ_ _=>0,followText:=λ_=>true,idOfImm:=λ_=>0}).map (·.1)
noncomputable def hE:VE:={scope:=hP.main.scope,locals:=mainNs,globals:=mainNs,cells:=[],code:=(.ref 13),frame:=some 14}
noncomputable def hB:List Sb:=PySem.W.behindTheImports hP
noncomputable abbrev hC:Code:=.body hB hE
noncomputable abbrev hN:Option Zn:=(some (.ref 6))
noncomputable abbrev hF:List Frame:=[PySem.W.topFrame ⟨0,0,0,0⟩]
noncomputable def hS(w:RZ)(os:TW):RQ:=⟨Y2 w.params,Array.mk [],PySem.W.boot_drawn,PySem.W.boot_toks,os⟩
noncomputable def O7(w:RZ)(os:TW):RQ:=(PySem.W.topGo Sf hP w 11 hN 12 (hS w os) (Zj hP)).elim (hS w os) λx=>x.1
noncomputable def O6(w:RZ)(os:TW):PySem.W.SharedT:=toT ((Zk Sf hP w 11 hN 1 1 (O7 w os) (Zl hB hE hC ⟨0,0,0,0⟩ hF)).elim (O7 w os) λx=>x.2.1)
def hpre(w:RZ)(os:TW):PySem.W.topGo Sf hP w 11 hN 12 (hS w os) (Zj hP)=some (O7 w os,⟨denote Sf hC,hC,⟨0,0,0,0⟩,hF⟩):=by kernel_rfl
def Q6(w:RZ)(os:TW):Zk Sf hP w 11 hN 1 1 (O7 w os) (Zl hB hE hC ⟨0,0,0,0⟩ hF)=some (.next,(O6 w os).abs,hC,⟨0,0,0,0⟩):=by kernel_rfl
noncomputable def hL1(P:Uz):PySem.W.BT:=aC (PySem.W.boot_o_0 P) (aC (PySem.W.boot_o_1 P) (aC (zo3 P) (aC (PySem.W.boot_o_7 P) (aC au (aC No (aC Qt (aC kY (aC Nz (aI ME) .nil) (aI au)) (aC Ir (aC Nm (aI bg) .nil) (aI FY))) (aC Qh (aC IJ (aC au (aI Mx) .nil) (aI M3)) (aC bg (aC bg (aI EL) .nil) (aI FL)))) (aC iT (aC kY (aC NW (aC bg (aI Fp) .nil) (aI Gr)) (aC NJ (aC GX (aI au) .nil) (aI (MS P)))) (aC IU (aC au (aC Hj (aI E8) .nil) (aI au)) (aC au (aI GK) (aI au))))) (aC kY (aC bg (aC Mi (aC IQ (aC HI (aI Ft) .nil) (aI bg)) (aC au (aC G4 (aI EW) .nil) (aI MU))) (aC kY (aC au (aC bg (aI Fc) .nil) (aI Gi)) (aC ND (aC Nf (aI EH) .nil) (aI FI)))) (aC (Mw P) (aC Mc (aC bg (aC Nv (aI Fi) .nil) (aI Gn)) (aC Ig (aC au (aI Mn) .nil) (aI FP))) (aC N6 (aC bg (aC au (aI au) .nil) (aI MY)) (aC au (aI GG) (aI Fw)))))) (aC au (aC QK (aC iT (aC bg (aC N1 (aC bg (aI Fv) .nil) (aI Na)) (aC Ip (aC bg (aI EZ) .nil) (aI FU))) (aC Ma (aC IH (aC Nt (aI bg) .nil) (aI Gk)) (aC au (aC au (aI EJ) .nil) (aI FK)))) (aC bg (aC Qm (aC IN (aC Hw (aI Fn) .nil) (aI Go)) (aC bg (aC au (aI au) .nil) (aI MP))) (aC kY (aC NO (aC Hh (aI au) .nil) (aI au)) (aC HR (aI GI) (aI FA))))) (aC QI (aC (M0 P) (aC Me (aC kY (aC Nx (aI Fs) .nil) (aI Gu)) (aC au (aC GZ (aI EU) .nil) (aI FR))) (aC Ob (aC ID (aC Hl (aI Fa) .nil) (aI Gg)) (aC bg (aI bg) (aI FG)))) (aC iT (aC kY (aC IL (aC bg (aI au) .nil) (aI (M6 P))) (aC NG (aC Nh (aI bg) .nil) (aI FN))) (aC IS (aC Iv (aC au (aI Mr) .nil) (aI bg)) (aC au (aI au) (aI kY))))))) (aC (PySem.W.boot_o_5 P) (aC (PySem.W.boot_o_9 P) (aC NP (aC QG (aC Qr (aC au (aC HK (aI au) .nil) (aI Gy)) (aC NM (aC Hb (aI au) .nil) (aI FW))) (aC au (aC NR (aC Hq (aI Fe) .nil) (aI bg)) (aC Ia (aC GQ (aI au) .nil) (aI bg)))) (aC (Qz P) (aC au (aC au (aC au (aI MA) .nil) (aI M8)) (aC Ii (aC bg (aI ES) .nil) (aI MR))) (aC N8 (aC Iz (aC Np (aI bg) .nil) (aI Gd)) (aC NB (aI au) (aI FD))))) (aC au (aC QC (aC Mg (aC NY (aC au (aI bg) .nil) (aI au)) (aC Im (aC au (aI Mp) .nil) (aI bg))) (aC au (aC IF (aC au (aI au) .nil) (aI M1)) (aC HW (aI GM) (aI ML)))) (aC Qw (aC Qj (aC au (aC Ht (aI Mz) .nil) (aI au)) (aC au (aC GT (aI EN) .nil) (aI au))) (aC au (aC au (aC Hf (aI E4) .nil) (aI F0)) (aC HP (aI bg) (aI MH)))))) (aC QM (aC NI (aC (QE P) (aC au (aC au (aC au (aI MC) .nil) (aI Gw)) (aC bg (aC au (aI au) .nil) (aI FS))) (aC Od (aC bg (aC Hn (aI au) .nil) (aI au)) (aC HY (aC GO (aI Ml) .nil) (aI au)))) (aC Qx (aC au (aC NT (aC au (aI (Fk P)) .nil) (aI bg)) (aC au (aC GV (aI EQ) .nil) (aI bg))) (aC au (aC Ix (aC bg (aI E6) .nil) (aI Gb)) (aC bg (aI Nc) (aI Fy))))) (aC au (aC QB (aC Qo (aC au (aC Hy (aI au) .nil) (aI au)) (aC Ik (aC Nj (aI bg) .nil) (aI au))) (aC au (aC IB (aC au (aI Mu) .nil) (aI bg)) (aC HV (aI au) (aI bg)))) (aC (Qu P) (aC au (aC au (aC Hs (aI Fg) .nil) (aI M5)) (aC Ib (aC GR (aI au) .nil) (aI MN))) (aC N3 (aC au (aC Hd (aI E2) .nil) (aI au)) (aC HM (aI GD) (aI au)))))))) (aC (Zi P) (aC (PySem.W.boot_o_4 P) (aC (PySem.W.boot_o_8 P) (aC bg (aC Nl (aC Qs (aC (N2 P) (aC HL (aI MD) .nil) (aI bg)) (aC au (aC Hc (aI E1) .nil) (aI FX))) (aC Qg (aC au (aC bg (aI Ff) .nil) (aI au)) (aC NE (aC Ng (aI EK) .nil) (aI au)))) (aC kY (aC (Qn P) (aC NV (aC Hx (aI au) .nil) (aI au)) (aC Ij (aC au (aI Mo) .nil) (aI au))) (aC N9 (aC bg (aC au (aI au) .nil) (aI MZ)) (aC bg (aI GJ) (aI MJ))))) (aC (QJ P) (aC QD (aC Mh (aC NZ (aC HH (aI au) .nil) (aI Gv)) (aC NK (aC G0 (aI au) .nil) (aI au))) (aC (Oc P) (aC NQ (aC Hm (aI Fb) .nil) (aI au)) (aC HX (aI GN) (aI au)))) (aC Mt (aC Qk (aC IM (aC Hu (aI Fh) .nil) (aI Gm)) (aC Ie (aC bg (aI EO) .nil) (aI FO))) (aC N5 (aC Iw (aC Nn (aI bg) .nil) (aI Ga)) (aC NA (aI au) (aI MI)))))) (aC QN (aC NL (aC kY (aC Mj (aC N0 (aC HJ (aI au) .nil) (aI Gx)) (aC au (aC Ha (aI EY) .nil) (aI FT))) (aC Oe (aC au (aC Ho (aI Fd) .nil) (aI Gj)) (aC bg (aC bg (aI au) .nil) (aI FJ)))) (aC Qy (aC Ql (aC NU (aC Hv (aI Fm) .nil) (aI au)) (aC Ih (aC Ni (aI bg) .nil) (aI au))) (aC (N7 P) (aC Iy (aC au (aI Ms) .nil) (aI bg)) (aC au (aI au) (aI (Fz P)))))) (aC QH (aC MX (aC Qp (aC (NX P) (aC Hz (aI Fq) .nil) (aI Gs)) (aC bg (aC au (aI au) .nil) (aI FQ))) (aC Oa (aC IC (aC Hk (aI au) .nil) (aI au)) (aC NC (aI GL) (aI au)))) (aC kY (aC (Qi P) (aC IK (aC Nu (aI bg) .nil) (aI au)) (aC Ic (aC GS (aI EM) .nil) (aI au))) (aC N4 (aC Iu (aC bg (aI E3) .nil) (aI FZ)) (aC bg (aI Nb) (aI (MG P)))))))) (aC (PySem.W.boot_o_6 P) (aC (PySem.W.boot_o_10 P) (aC au (aC QF (aC au (aC bg (aC au (aI bg) .nil) (aI au)) (aC Iq (aC au (aI Mq) .nil) (aI (FV P)))) (aC (Mb P) (aC II (aC au (aI au) .nil) (aI M2)) (aC HZ (aC GP (aI bg) .nil) (aI MM)))) (aC au (aC bg (aC (IP P) (aC Nw (aI Fo) .nil) (aI Gq)) (aC au (aC GW (aI ER) .nil) (aI MQ))) (aC iT (aC au (aC Hi (aI E7) .nil) (aI Gc)) (aC HS (aI bg) (aI FC))))) (aC bg (aC au (aC (Mf P) (aC iT (aC bg (aI MB) .nil) (aI M9)) (aC Il (aC bg (aI EV) .nil) (aI MT))) (aC bg (aC IE (aC Nr (aI bg) .nil) (aI Gh)) (aC au (aI au) (aI FH)))) (aC Qv (aC iT (aC NS (aC au (aI My) .nil) (aI kY)) (aC bg (aC au (aI au) .nil) (aI bg))) (aC (IT P) (aC NN (aC He (aI au) .nil) (aI au)) (aC HN (aI GF) (aI au)))))) (aC QL (aC NF (aC au (aC Qq (aC (IR P) (aC Ny (aI Fu) .nil) (aI au)) (aC Io (aC Nk (aI bg) .nil) (aI MV))) (aC iT (aC IG (aC au (aI Mv) .nil) (aI bg)) (aC au (aC au (aI EI) .nil) (aI bg)))) (aC au (aC (Md P) (aC au (aC bg (aI Fj) .nil) (aI M7)) (aC NH (aC GU (aI au) .nil) (aI MO))) (aC bg (aC au (aC Hg (aI E5) .nil) (aI au)) (aC HQ (aI GH) (aI Fx))))) (aC (Nq P) (aC QA (aC iT (aC bg (aC au (aI bg) .nil) (aI bg)) (aC au (aC GY (aI ET) .nil) (aI kY))) (aC (IV P) (aC IA (aC bg (aI E9) .nil) (aI Ge)) (aC HU (aI Nd) (aI FE)))) (aC au (aC bg (aC bg (aC Hr (aI au) .nil) (aI M4)) (aC au (aC au (aI Mm) .nil) (aI FM))) (aC iT (aC bg (aC au (aI au) .nil) (aI MW)) (aC au (aI GA) (aI MF))))))))
noncomputable def Q7(w:RZ)(os:TW):PySem.W.SharedT:=stT (hL1 w.params) 616 1080 w.params os
noncomputable def hT1:List Sb:=(hB.drop 0).take 89
def O3(w:RZ):(λos=>PySem.W.segRunT Sf hP w 11 hN 1 4973 (O6 w os) ⟨(execs hT1 hE).wrap Y8 PySem.W.deadEnd id id,hC,⟨0,0,0,0⟩,hF⟩)=λos=>some (Flow.next,(Q7 w os),hC,⟨408,0,427,72⟩):=by
 rw[PySem.W.Fast.te10110043849684766642,PySem.W.Fast.te12563942051412417395,PySem.W.Fast.te14364793385576792824]
 kernel_rfl
noncomputable def D4(tr:(String->Option SS)->RU->RZ->Nat->Option Zn->Nat->RQ->Thread->Option RQ)(tb:String->Option SS)(w:RZ)(os:TW):RQ:=
 (tr tb hP w 11 hN 2 (Q7 w os).abs ⟨Y8 .next,hC,⟨408,0,427,72⟩,hF⟩).elim (hS w os) id
noncomputable def hX(s:RQ):Bool:=PySem.W.xlAt hQ [] s&&PySem.W.recOk (PySem.W.RowW.records PySem.Challenge.rw_playboard_k20_webs_refused.row.toRowW) s
def Q5(w:RZ):(λos=>YL Sf hP w 11 hN 2 (Q7 w os).abs ⟨Y8 .next,hC,⟨408,0,427,72⟩,hF⟩)=λos=>some (D4 YL Sf w os):=by
 rw[PySem.W.Fast.te14364793385576792824,PySem.W.Fast.te14082659384304107361]
 kernel_rfl
def Lm(w:RZ):(λos=>(PySem.W.staticsOk (TD hP.main.body) (Y2 w.params) (D4 YL Sf w os).heap&&PySem.W.namesBound hP (D4 YL Sf w os).heap&&PySem.W.gensDone (D4 YL Sf w os)&&PySem.W.laidKept (Y2 w.params) (D4 YL Sf w os).heap))=λos=>true:=by
 rw[PySem.W.Fast.te14364793385576792824,PySem.W.Fast.te14082659384304107361,PySem.W.Fast.te5923862056798008813]
 kernel_rfl
def Ll(w:RZ):(λos=>PySem.W.openSeen hQ [] (TD hP.main.body) hX true (D4 YL Sf w os))=λos=>PySem.W.openGood hQ []:=by
 rw[PySem.W.Fast.te14364793385576792824,PySem.W.Fast.te14082659384304107361,PySem.W.Fast.te4187177175401517315,PySem.W.Fast.te5923862056798008813]
 kernel_rfl
def Lk(w:RZ):(λos=>x6 hA (D4 YL Sf w os))=λos=>xZ hK w:=by
 rw[PySem.W.Fast.te14364793385576792824,PySem.W.Fast.te14082659384304107361]
 kernel_rfl
def hBe:hB=(hT1++[]):=by kernel_rfl
def O5(w:RZ)(os:TW):YL Sf hP w 11 hN (4973+2) (O6 w os).abs (Zm hB hE hC ⟨0,0,0,0⟩ hF)=some (D4 YL Sf w os):=by have r:=PySem.W.piece_nil (env:=hE) (congrFun (Q5 w) os);have r:=PySem.W.piece_app (PySem.W.segRun_of (congrFun (O3 w) os)) r;exact(RI (λl=>YL Sf hP w 11 hN (4973+2) (O6 w os).abs (Zm l hE hC ⟨0,0,0,0⟩ hF)) hBe).trans r
def hleft:PySem.W.LeftO hP hQ [] hX (x6 hA) (xZ hK) 10070:=
 zH (n0:=12) (nb:=1) (n:=(4973+2)) (qp:=⟨0,0,0,0⟩) (p0:=⟨0,0,0,0⟩) (p1:=⟨0,0,0,0⟩) (H₀:=Y2) (m₀:=11) (ann:=hN) (b:=hB) (env:=hE) (sa:=O7) (sb:=O6) (sf:=λw os=>(D4 YL Sf w os))
  (PySem.W.boot_open (by kernel_rfl) (by decide+kernel) (λs=>by kernel_rfl)) (λw=>by kernel_rfl) hpre Q6 O5 (by decide+kernel) (λw os=>by rw[congrFun (Lm w) os,congrFun (Ll w) os,congrFun (Lk w) os])
abbrev bO(K:Frag)(x:Str)(st:Sb)(f:Zo)(fd:R7):Prop:=YF K RV x=some (some (.ref f))/\cy K x x st f fd
def mD(P:RU)(w:RZ)(Rw:R9){K:Frag}{h:R9}{mg:RJ}(X:K.In h)(G:h.Ns RV mg){x:Str}{st:Sb}{ps:List Str}{k:Nat}{sp:Sp}{f:Zo}{fd:R7}(F:bO K x st f fd)(o:aY P w K mg Rw cY k f fd ps sp)(b:∀kV doc pm an cdv ct us,us.length=ps.length->bindArgs (YN x x (gc st) (dh st) (ak st) .none kV doc pm an cdv ct) ⟨us,[]⟩=pure (ps.zip us):=by intro _ _ _ _ _ _;first|exact L2.ln1 (λ_=>rfl)|exact L2.OL (λ_ _=>rfl)|exact L2.ln3 (λ_ _ _=>rfl)|exact L2.P7 (λ_ _ _ _=>rfl)|exact L2.ln5 (λ_ _ _ _ _=>rfl)|exact L2.ln6 (λ_ _ _ _ _ _=>rfl)):cZ P w K mg Rw x ps k sp:=⟨f,_,o,YH X G F.1,F.2.kp,F.2.binds b⟩
noncomputable abbrev ζL(o:Zn)(d:Option Zo)(a b:Str)(s:Sb)(k c p:Zn)(n:Option Zo)(e t:Zn)(l:Array (Option Zn)):Obj:=⟨o,d,.func (YN a b (gc s) (dh s) (ak s) .none k c p n e t),l⟩
def all_mk{l:PySem.W.OpenLaw}{w:RZ}{K:Frag}{h:R9}{mg:RJ}{fa f1 f2 f3 f4 f5 f6 f7 f8 f9 f10 f11 f12 f13 f14 f15 f16 f17 f18 f19 f20 f21 f22 f23 f24 f25 f26 f27 f28 f29 f30 f31 f32 f33 f34 f35 f36 f37 f38 f39 f40 f41 f42 f43 f44 f45 f46 f47 f48 f49 f50 f51 f52 f53 f54 f55 f56 f57 f58 f59 f60 f61 cBoard cGame cWeb cPlayError cBadBoard cBadGame cBadLine cBadPlace cNoMove cTooWide cNoWord cOver cNothingBack aS aA aE aW:Zo}(X:K.In h)(G:h.Ns RV mg)(hfa:mg "law"=some (.ref fa)){od61 an61:Option Zo}{sl61:Array (Option Zn)}{oc61 kV61 dc61 pm61 cd61 ct61:Zn}{d1 d2 d3 d4 d5 d6 d7 d8 d9 d10 d11 d12 d13 d14 d15 d16 d17 d18 d19 d20 d21 d22 d23 d24 d25 d26 d27 d28 d29 d30 d31 d32 d33 d34 d35 d36 d37 d38 d39 d40 d41 d42 d43 d44 d45 d46 d47 d48 d49 d50 d51 d52 d53 d54 d55 d56 d57 d58 d59 d60:R7}{u0 u1 u2 u3 u4 u5 u6:Zn}(aCBoard:YF K RV "Board"=some (some (.ref cBoard)))(aCGame:YF K RV "Game"=some (some (.ref cGame)))(aCWeb:YF K RV "Web"=some (some (.ref cWeb)))(aEPlayError:YF K RV "PlayError"=some (some (.ref cPlayError)))(aEBadBoard:YF K RV "BadBoard"=some (some (.ref cBadBoard)))(aEBadGame:YF K RV "BadGame"=some (some (.ref cBadGame)))(aEBadLine:YF K RV "BadLine"=some (some (.ref cBadLine)))(aEBadPlace:YF K RV "BadPlace"=some (some (.ref cBadPlace)))(aENoMove:YF K RV "NoMove"=some (some (.ref cNoMove)))(aETooWide:YF K RV "TooWide"=some (some (.ref cTooWide)))(aENoWord:YF K RV "NoWord"=some (some (.ref cNoWord)))(aEOver:YF K RV "Over"=some (some (.ref cOver)))(aENothingBack:YF K RV "NothingBack"=some (some (.ref cNothingBack)))(F1:bO K "is_whole" gv f1 d1)(F2:bO K "is_letter" fu f2 d2)(F3:bO K "is_among" gB f3 d3)(F4:bO K "is_word" ie f4 d4)(F5:bO K "is_tuple_of" dt f5 d5)(F6:bO K "is_list_of" dX f6 d6)(F7:bO K "is_step" ig f7 d7)(F8:bO K "is_rule" ii f8 d8)(F9:bO K "is_pair" ij f9 d9)(F10:bO K "are_pairs" dN f10 d10)(F11:bO K "is_turns" dD f11 d11)(F12:bO K "is_ends" il f12 d12)(F13:bO K "are_kinds" dO f13 d13)(F14:bO K "are_rules" dM f14 d14)(F15:bO K "sign_of" ia f15 d15)(F16:bO K "kind_of" ic f16 d16)(F17:bO K "side_of" ib f17 d17)(F18:bO K "put" tJ f18 d18)(F19:bO K "squares_of" dg f19 d19)(F20:bO K "empty_row" dL f20 d20)(F21:bO K "is_row" gw f21 d21)(F22:bO K "is_place" gy f22 d22)(F23:bO K "ray" tI f23 d23)(F24:bO K "slid" nu f24 d24)(F25:bO K "jumped" je f25 d25)(F26:bO K "by_rule" im f26 d26)(F27:bO K "goals" ko f27 d27)(F28:bO K "column_of" fv f28 d28)(F29:bO K "row_of" jd f29 d29)(F30:bO K "square_at" fo f30 d30)(F31:bO K "moves" jD f31 d31)(F32:bO K "arrived" ip f32 d32)(F33:bO K "behind" ji f33 d33)(F34:bO K "has_kind" gC f34 d34)(F35:bO K "is_home" ik f35 d35)(F36:bO K "by_end" jg f36 d36)(F37:bO K "by_ends" io f37 d37)(F38:bO K "ending" jf f38 d38)(F39:bO K "followers" dJ f39 d39)(a40:YE K (.ref cWeb) "__init__"=some (some (.ref f40)))(iF40:YJ K (.ref f40)=true)(F40:cy K "__init__" "Web.__init__" bT f40 d40)(a41:YE K (.ref cWeb) "gather"=some (some (.ref f41)))(iF41:YJ K (.ref f41)=true)(F41:cy K "gather" "Web.gather" eJ f41 d41)(F42:bO K "are_holes" dP f42 d42)(a43:YE K (.ref cBoard) "__init__"=some (some (.ref f43)))(iF43:YJ K (.ref f43)=true)(F43:cy K "__init__" "Board.__init__" bR f43 d43)(a44:YE K (.ref cBoard) "has"=some (some (.ref f44)))(iF44:YJ K (.ref f44)=true)(F44:cy K "has" "Board.has" fF f44 d44)(a45:YE K (.ref cBoard) "squares"=some (some (.ref f45)))(iF45:YJ K (.ref f45)=true)(F45:cy K "squares" "Board.squares" bY f45 d45)(a46:YE K (.ref cBoard) "moved"=some (some (.ref f46)))(iF46:YJ K (.ref f46)=true)(F46:cy K "moved" "Board.moved" dv f46 d46)(a47:YE K (.ref cBoard) "far_row"=some (some (.ref f47)))(iF47:YJ K (.ref f47)=true)(F47:cy K "far_row" "Board.far_row" cJ f47 d47)(a48:YE K (.ref cGame) "__init__"=some (some (.ref f48)))(iF48:YJ K (.ref f48)=true)(F48:cy K "__init__" "Game.__init__" cI f48 d48)(a49:YE K (.ref cGame) "rules_of"=some (some (.ref f49)))(iF49:YJ K (.ref f49)=true)(F49:cy K "rules_of" "Game.rules_of" bX f49 d49)(a50:YE K (.ref cGame) "turned"=some (some (.ref f50)))(iF50:YJ K (.ref f50)=true)(F50:cy K "turned" "Game.turned" du f50 d50)(F51:bO K "_law_cell_at" da f51 d51)(F52:bO K "_law_mixed" dZ f52 d52)(F53:bO K "_law_kinds" ef f53 d53)(F54:bO K "_law_rule" fB f54 d54)(F55:bO K "_law_board" eI f55 d55)(F56:bO K "_law_game" fE f56 d56)(F57:bO K "_law_place" dY f57 d57)(F58:bO K "_law_bad" gD f58 d58)(F59:bO K "_law_word" fA f59 d59)(F60:bO K "_law_made" fC f60 d60)(a61:YF K RV "law"=some (some (.ref f61)))(l61:K.lookup f61=some (ζL oc61 od61 "law" "law" km kV61 dc61 pm61 an61 cd61 ct61 sl61))(c61:Y1 K cd61 "law"=true)(k61:YM K (.ref f61)=true)(pgXBoard:YR K cBoard Tb=true)(hdXBoard:YW K cBoard=true)(poXBoard:YY K cBoard=true)(saXBoard:YE K (.ref cBoard) "__setattr__"=some (some (.builtin "object.__setattr__")))(mkXBoard:YZ K cBoard=true)(kcXBoard:YM K (.ref cBoard)=true)(naBoardwide:YE K (.ref cBoard) "wide"=some none)(naBoardhigh:YE K (.ref cBoard) "high"=some none)(naBoardholes:YE K (.ref cBoard) "holes"=some none)(naBoardfirm:YE K (.ref cBoard) "firm"=some none)(pgXGame:YR K cGame Tb=true)(hdXGame:YW K cGame=true)(poXGame:YY K cGame=true)(saXGame:YE K (.ref cGame) "__setattr__"=some (some (.builtin "object.__setattr__")))(mkXGame:YZ K cGame=true)(kcXGame:YM K (.ref cGame)=true)(naGameboard:YE K (.ref cGame) "board"=some none)(naGamekinds:YE K (.ref cGame) "kinds"=some none)(naGamerules:YE K (.ref cGame) "rules"=some none)(naGameturns:YE K (.ref cGame) "turns"=some none)(naGameends:YE K (.ref cGame) "ends"=some none)(naGamestuck:YE K (.ref cGame) "stuck"=some none)(pgXWeb:YR K cWeb Tb=true)(hdXWeb:YW K cWeb=true)(poXWeb:YY K cWeb=true)(saXWeb:YE K (.ref cWeb) "__setattr__"=some (some (.builtin "object.__setattr__")))(mkXWeb:YZ K cWeb=true)(kcXWeb:YM K (.ref cWeb)=true)(naWebgame:YE K (.ref cWeb) "game"=some none)(naWebplaces:YE K (.ref cWeb) "places"=some none)(naWebnumbers:YE K (.ref cWeb) "numbers"=some none)(naWebways:YE K (.ref cWeb) "ways"=some none)(naWebovers:YE K (.ref cWeb) "overs"=some none)(xhn:Zc K (.builtin "object.__class__") "__get__"=some (some (.builtin "getset_descriptor.__get__")))(xtk:Zd K (.builtin "object.__class__")=some true)(pxq:YT K cBadPlace [.type "ValueError",.type "Exception",.type "BaseException",.type "object"] "ValueError.__new__"=true)(pxga:YE K (.ref cBadPlace) "__getattribute__"=some (some (.builtin "BaseException.__getattribute__")))(pxgh:YE K (.ref cBadPlace) "__getattr__"=some none)(pxha:YE K (.ref cBadPlace) "__class__"=some (some (.builtin "object.__class__")))(pxhm:YS K cBadPlace (.type "object")=some true)(pxhb:YS K cBadPlace (.type "BaseException")=some true)(pxem:YU K (.ref cBadPlace) (.ref cPlayError)=some true)(pxv:YG K (.ref cBadPlace) (.type "ValueError")=some true)(pxkBadBoard:YG K (.ref cBadPlace) (.ref cBadBoard)=some false)(pxkBadGame:YG K (.ref cBadPlace) (.ref cBadGame)=some false)(pxkBadLine:YG K (.ref cBadPlace) (.ref cBadLine)=some false)(pxkBadPlace:YG K (.ref cBadPlace) (.ref cBadPlace)=some true)(pxkNoMove:YG K (.ref cBadPlace) (.ref cNoMove)=some false)(pxkTooWide:YG K (.ref cBadPlace) (.ref cTooWide)=some false)(pxkNoWord:YG K (.ref cBadPlace) (.ref cNoWord)=some false)(pxkOver:YG K (.ref cBadPlace) (.ref cOver)=some false)(pxkNothingBack:YG K (.ref cBadPlace) (.ref cNothingBack)=some false)(txq:YT K cTooWide [.type "ValueError",.type "Exception",.type "BaseException",.type "object"] "ValueError.__new__"=true)(txga:YE K (.ref cTooWide) "__getattribute__"=some (some (.builtin "BaseException.__getattribute__")))(txgh:YE K (.ref cTooWide) "__getattr__"=some none)(txha:YE K (.ref cTooWide) "__class__"=some (some (.builtin "object.__class__")))(txhm:YS K cTooWide (.type "object")=some true)(txhb:YS K cTooWide (.type "BaseException")=some true)(txem:YU K (.ref cTooWide) (.ref cPlayError)=some true)(txv:YG K (.ref cTooWide) (.type "ValueError")=some true)(txkBadBoard:YG K (.ref cTooWide) (.ref cBadBoard)=some false)(txkBadGame:YG K (.ref cTooWide) (.ref cBadGame)=some false)(txkBadLine:YG K (.ref cTooWide) (.ref cBadLine)=some false)(txkBadPlace:YG K (.ref cTooWide) (.ref cBadPlace)=some false)(txkNoMove:YG K (.ref cTooWide) (.ref cNoMove)=some false)(txkTooWide:YG K (.ref cTooWide) (.ref cTooWide)=some true)(txkNoWord:YG K (.ref cTooWide) (.ref cNoWord)=some false)(txkOver:YG K (.ref cTooWide) (.ref cOver)=some false)(txkNothingBack:YG K (.ref cTooWide) (.ref cNothingBack)=some false)(z0:YF K RV "isinstance"=some none)(z1:YF K RV "int"=some none)(z2:YF K RV "bool"=some none)(z3:YF K RV "str"=some none)(z4:YF K RV "list"=some none)(z5:YF K RV "tuple"=some none)(z6:YF K RV "len"=some none)(z7:YF K RV "range"=some none)(z8:YF K RV "all"=some none)(z9:YF K RV "any"=some none)(z10:YF K RV "set"=some none)(z11:YF K RV "dict"=some none)(z12:YF K RV "sorted"=some none)(z13:YF K RV "min"=some none)(z14:YF K RV "enumerate"=some none)(z15:YF K RV "zip"=some none)(z16:YF K RV "ValueError"=some none)(kg0:YF K RV "NOTHING"=some (some u0))(rv0:aQ (.int (-1)) u0)(kg1:YF K RV "EMPTY"=some (some u1))(rv1:aQ (.str ".") u1)(kg2:YF K RV "HOLE"=some (some u2))(rv2:aQ (.str "#") u2)(kg3:YF K RV "MOST_PAIRS"=some (some u3))(rv3:aQ (.int 6) u3)(kg4:YF K RV "MOST_KINDS"=some (some u4))(rv4:aQ (.int 6) u4)(kg5:YF K RV "MOST_RULES"=some (some u5))(rv5:aQ (.int 24) u5)(kg6:YF K RV "LONGEST"=some (some u6))(rv6:aQ (.int 8) u6){tO0:Zn}{tD0:Option Zo}{tI0:Array Zn}{tN0:Nat}{tS0:Array (Option Zn)}(kt0:YF K RV "SORTS"=some (some (.ref aS)))(lt0:K.lookup aS=some ⟨tO0,tD0,.seq tI0 tN0,tS0⟩)(ctp0:tO0=.type "tuple")(zt0:tI0.size<=v1)(vt0:iW ([V.str "leap",V.str "slide",V.str "jump"]) tI0.toList){tO1:Zn}{tD1:Option Zo}{tI1:Array Zn}{tN1:Nat}{tS1:Array (Option Zn)}(kt1:YF K RV "AIMS"=some (some (.ref aA)))(lt1:K.lookup aA=some ⟨tO1,tD1,.seq tI1 tN1,tS1⟩)(ctp1:tO1=.type "tuple")(zt1:tI1.size<=v1)(vt1:iW ([V.str "go",V.str "hit",V.str "any"]) tI1.toList){tO2:Zn}{tD2:Option Zo}{tI2:Array Zn}{tN2:Nat}{tS2:Array (Option Zn)}(kt2:YF K RV "END_WORDS"=some (some (.ref aE)))(lt2:K.lookup aE=some ⟨tO2,tD2,.seq tI2 tN2,tS2⟩)(ctp2:tO2=.type "tuple")(zt2:tI2.size<=v1)(vt2:iW ([V.str "without",V.str "home"]) tI2.toList){tO3:Zn}{tD3:Option Zo}{tI3:Array Zn}{tN3:Nat}{tS3:Array (Option Zn)}(kt3:YF K RV "STUCK_WORDS"=some (some (.ref aW)))(lt3:K.lookup aW=some ⟨tO3,tD3,.seq tI3 tN3,tS3⟩)(ctp3:tO3=.type "tuple")(zt3:tI3.size<=v1)(vt3:iW ([V.str "lost",V.str "even",V.str "won"]) tI3.toList):∃fd:R7,(∀s v,Vd s fd ⟨[v],[]⟩ [("_law_script",v)])/\∀Rw:R9,K.In Rw->Rw.Ns RV mg->aY l.prog w K mg Rw cY 11 fa fd ["_law_script"] (xf K):=by have e:=hfa.symm.trans (YH X G a61);cases e;have T:Txt mg aS aA aE aW:=⟨YI X G z0,YI X G z1,YI X G z2,YI X G z3,YI X G z4,YI X G z5,YI X G z6,YI X G z7,YI X G z8,YI X G z9,YI X G z10,YI X G z11,YI X G z12,YI X G z13,YI X G z14,YI X G z15,YI X G z16,⟨_,YH X G kg0,rv0⟩,⟨_,YH X G kg1,rv1⟩,⟨_,YH X G kg2,rv2⟩,⟨_,YH X G kg3,rv3⟩,⟨_,YH X G kg4,rv4⟩,⟨_,YH X G kg5,rv5⟩,⟨_,YH X G kg6,rv6⟩,⟨_,YH X G kt0,rfl⟩,⟨_,YH X G kt1,rfl⟩,⟨_,YH X G kt2,rfl⟩,⟨_,YH X G kt3,rfl⟩⟩;have hT_SORTS:∀H,iV K H aS ["leap","slide","jump"]:=λH=>.inr (.inr ⟨_,tI0,tN0,lt0,ctp0,rfl,zt0,vt0⟩);have hT_AIMS:∀H,iV K H aA ["go","hit","any"]:=λH=>.inr (.inr ⟨_,tI1,tN1,lt1,ctp1,rfl,zt1,vt1⟩);have hT_END_WORDS:∀H,iV K H aE ["without","home"]:=λH=>.inr (.inr ⟨_,tI2,tN2,lt2,ctp2,rfl,zt2,vt2⟩);have hT_STUCK_WORDS:∀H,iV K H aW ["lost","even","won"]:=λH=>.inr (.inr ⟨_,tI3,tN3,lt3,ctp3,rfl,zt3,vt3⟩);have b40:=F40.binds (ps:=["self","game","starts","most"]) λ_ _ _ _ _ _=>L2.P7 (λ_ _ _ _=>rfl);have b41:=F41.binds (ps:=["self","found","most"]) λ_ _ _ _ _ _=>L2.ln3 (λ_ _ _=>rfl);have b43:=F43.binds (ps:=["self","wide","high","holes"]) λ_ _ _ _ _ _=>L2.P7 (λ_ _ _ _=>rfl);have b44:=F44.binds (ps:=["self","square"]) λ_ _ _ _ _ _=>L2.OL (λ_ _=>rfl);have b45:=F45.binds (ps:=["self"]) λ_ _ _ _ _ _=>L2.ln1 (λ_=>rfl);have b46:=F46.binds (ps:=["self","square","across","up"]) λ_ _ _ _ _ _=>L2.P7 (λ_ _ _ _=>rfl);have b47:=F47.binds (ps:=["self","side"]) λ_ _ _ _ _ _=>L2.OL (λ_ _=>rfl);have b48:=F48.binds (ps:=["self","board","kinds","rules","turns","ends","stuck"]) λ_ _ _ _ _ _=>L2.ln7 (λ_ _ _ _ _ _ _=>rfl);have b49:=F49.binds (ps:=["self","kind"]) λ_ _ _ _ _ _=>L2.OL (λ_ _=>rfl);have b50:=F50.binds (ps:=["self","kind"]) λ_ _ _ _ _ _=>L2.OL (λ_ _=>rfl);have b59:=F59.2.binds (ps:=["_law_e"]) λ_ _ _ _ _ _=>L2.ln1 (λ_=>rfl);have F61:=wf (st:=km) l61 c61 k61;have b61:=F61.binds (ps:=["_law_script"]) λ_ _ _ _ _ _=>L2.ln1 (λ_=>rfl);have cl_Board:oY K cBoard:=⟨pgXBoard,hdXBoard,poXBoard,saXBoard⟩;have cl_Game:oY K cGame:=⟨pgXGame,hdXGame,poXGame,saXGame⟩;have cl_Web:oY K cWeb:=⟨pgXWeb,hdXWeb,poXWeb,saXWeb⟩;refine⟨YN "law" "law" (gc km) (dh km) (ak km) .none kV61 dc61 pm61 an61 cd61 ct61,λs v=>.of_eq rfl,λRw _ _=>?_⟩;have M:= @mD l.prog w Rw K h mg X G;have C_is_whole:=M F1 (tR F1.2 T);have C_is_letter:=M F2 (q0 F2.2 T);have C_is_among:=M F3 (tU F3.2 T ⟨C_is_whole⟩);have C_is_word:=M F4 (vM F4.2 T);have C_is_tuple_of:=M F5 (nA F5.2 T);have C_is_list_of:=M F6 (oH F6.2 T);have C_is_step:=M F7 (vN F7.2 T ⟨C_is_among⟩);have R2:RG2 l.prog w K mg Rw:=⟨C_is_word,C_is_tuple_of⟩;have R3:RG3 l.prog w K mg Rw:={toRG2:=R2,is_step:=C_is_step};have C_is_rule:=M F8 (vO F8.2 T hT_SORTS hT_AIMS R3);have C_is_pair:=M F9 (vP F9.2 T R2);have C_are_pairs:=M F10 (rh F10.2 T ⟨C_is_list_of,C_is_pair⟩);have C_is_ends:=M F12 (vR F12.2 T hT_END_WORDS ⟨C_are_pairs⟩);have C_is_turns:=M F11 (tS F11.2 T ⟨C_are_pairs⟩);have G1:Ro l.prog w K mg Rw:=⟨C_is_list_of,C_is_letter,C_is_rule⟩;have C_are_kinds:=M F13 (rj F13.2 T G1);have C_are_rules:=M F14 (re F14.2 T G1);have G2:GG2 l.prog w K mg Rw:=⟨C_are_kinds,C_are_rules,C_is_turns,C_is_ends,C_is_word⟩;have GC:uU K cGame:=⟨cl_Game,naGameboard,naGamekinds,naGamerules,naGameturns,naGameends,naGamestuck⟩;have C_Game:lS l.prog w K mg Rw "Game" cGame _ _ _:=⟨f48,_,⟨mkXGame,a48,iF48,kcXGame⟩,rB F48 T hT_STUCK_WORDS GC G2,YH X G aCGame,b48⟩;have DA:CA l.prog w K mg Rw:=⟨LM C_is_among⟩;have C_are_holes:=M F42 (rk F42.2 T DA);have DB2:CB2 l.prog w K mg Rw:={toCA:=DA,are_holes:=C_are_holes};have BC:jN K cBoard:=⟨cl_Board,naBoardwide,naBoardhigh,naBoardholes,naBoardfirm⟩;have C_Board:lS l.prog w K mg Rw "Board" cBoard _ _ _:=⟨f43,_,⟨mkXBoard,a43,iF43,kcXBoard⟩,oQ F43 T BC DB2,YH X G aCBoard,b43⟩;have C_column_of:=M F28 (rc F28.2 T);have C_row_of:=M F29 (zp F29.2 T);have C_square_at:=M F30 (qZ F30.2 T);have C_Board_moved:j6 l.prog w K mg Rw cBoard "moved" _ _ _:=⟨⟨f46,_,nE F46 T BC ⟨C_column_of,C_row_of,C_square_at⟩,⟨a46,iF46,F46.kp⟩,b46⟩,cl_Board⟩;have DB3:CB3 l.prog w K mg Rw cBoard:={toCB2:=DB2,Board:=C_Board,Board_moved:=C_Board_moved};have C_ray:=M F23 (KR F23.2 T BC DB3);have C_kind_of:=M F16 (vL F16.2 T);have C_side_of:=M F17 (vK F17.2 T);have C_sign_of:=M F15 (vJ F15.2 T);have C_squares_of:=M F19 (oG F19.2 T ⟨C_side_of⟩);have C_put:=M F18 (KS F18.2 T);have C_Board_has:j6 l.prog w K mg Rw cBoard "has" _ _ _:=⟨⟨f44,_,rC F44 T BC DA,⟨a44,iF44,F44.kp⟩,b44⟩,cl_Board⟩;have C_empty_row:=M F20 (ra F20.2 T BC ⟨C_Board_has⟩);have C_is_row:=M F21 (zr F21.2 T BC GC ⟨C_sign_of,C_empty_row⟩);have C_is_place:=M F22 (tT F22.2 T ⟨C_is_tuple_of,C_is_among,C_is_row⟩);have C_Game_turned:j6 l.prog w K mg Rw cGame "turned" _ _ _:=⟨⟨f50,_,nB F50 T GC,⟨a50,iF50,F50.kp⟩,b50⟩,cl_Game⟩;have S1:CRs l.prog w K mg Rw:=⟨C_side_of⟩;have C_slid:=M F24 (DM F24.2 T S1);have C_jumped:=M F25 (zq F25.2 T S1);have S2:CRb l.prog w K mg Rw cBoard:={toCRs:=S1,ray:=C_ray,jumped:=C_jumped,slid:=C_slid};have C_by_rule:=M F26 (vS F26.2 T S2);have C_Game_rules_of:j6 l.prog w K mg Rw cGame "rules_of" _ _ _:=⟨⟨f49,_,lq F49 T GC,⟨a49,iF49,F49.kp⟩,b49⟩,cl_Game⟩;have C_goals:=M F27 (Bl F27.2 T GC ⟨C_kind_of,C_by_rule,C_Game_rules_of⟩);have C_moves:=M F31 (Bk F31.2 T ⟨C_squares_of,C_goals⟩);have C_has_kind:=M F34 (tV F34.2 T ⟨C_sign_of⟩);have C_Board_far_row:j6 l.prog w K mg Rw cBoard "far_row" _ _ _:=⟨⟨f47,_,lv F47 T BC,⟨a47,iF47,F47.kp⟩,b47⟩,cl_Board⟩;have C_is_home:=M F35 (vQ F35.2 T BC ⟨C_has_kind,C_Board_far_row⟩);have C_by_end:=M F36 (zu F36.2 T ⟨C_has_kind,C_is_home⟩);have C_by_ends:=M F37 (vT F37.2 T GC ⟨C_by_end⟩);have C_ending:=M F38 (zt F38.2 T GC ⟨C_by_ends,C_moves⟩);have C_arrived:=M F32 (vU F32.2 T BC GC ⟨C_kind_of,C_sign_of,C_row_of,C_Board_far_row,C_Game_turned⟩);have C_behind:=M F33 (zv F33.2 T ⟨C_arrived,C_put⟩);have C_followers:=M F39 (q9 F39.2 T ⟨C_by_ends,C_moves,C_behind⟩);have WC:CH K cWeb:=⟨cl_Web,naWebgame,naWebplaces,naWebnumbers,naWebways,naWebovers⟩;have C_Web_gather:CN l.prog w K mg Rw cWeb "gather" _ _ _:=⟨⟨f41,_,oP F41 T WC (YH X G aETooWide) txq,⟨a41,iF41,F41.kp⟩,b41⟩,cl_Web⟩;have X_Web:CM l.prog w K mg Rw "Web" cWeb _ _ _:=⟨f40,_,⟨mkXWeb,a40,iF40,kcXWeb⟩,tX F40 T WC (YH X G aEBadPlace) pxq ⟨C_is_place,C_followers,C_ending,C_Web_gather⟩,YH X G aCWeb,b40⟩;have C_Board_squares:j6 l.prog w K mg Rw cBoard "squares" _ _ _:=⟨⟨f45,_,lu F45 T BC,⟨a45,iF45,F45.kp⟩,b45⟩,cl_Board⟩;have C__law_cell_at:=M F51 (lZ F51.2 T);have C__law_mixed:=M F52 (oM F52.2 T ⟨C__law_cell_at⟩);have C__law_kinds:=M F53 (oN F53.2 T);have C__law_rule:=M F54 (rp F54.2 T);have C__law_board:=M F55 (oO F55.2 T ⟨C_Board⟩);have C__law_game:=M F56 (rA F56.2 T ⟨C__law_cell_at,C__law_mixed,C__law_kinds,C__law_rule,C__law_board,C_Game⟩);have C__law_place:=M F57 (oK F57.2 T BC GC ⟨C_Board_squares⟩);have C__law_bad:=M F58 (tW (cB:=cBoard) F58.2 T GC);have ALp:Ru mg K cBadPlace false false false true false false false false false:=⟨⟨pxga,pxgh,pxha,xhn,xtk,pxhm,pxhb,oh pxhm⟩,⟨_,YH X G aEBadBoard,pxkBadBoard⟩,⟨_,YH X G aEBadGame,pxkBadGame⟩,⟨_,YH X G aEBadLine,pxkBadLine⟩,⟨_,YH X G aEBadPlace,pxkBadPlace⟩,⟨_,YH X G aENoMove,pxkNoMove⟩,⟨_,YH X G aETooWide,pxkTooWide⟩,⟨_,YH X G aENoWord,pxkNoWord⟩,⟨_,YH X G aEOver,pxkOver⟩,⟨_,YH X G aENothingBack,pxkNothingBack⟩,pxv,rfl⟩;have ALt:Ru mg K cTooWide false false false false false true false false false:=⟨⟨txga,txgh,txha,xhn,xtk,txhm,txhb,oh txhm⟩,⟨_,YH X G aEBadBoard,txkBadBoard⟩,⟨_,YH X G aEBadGame,txkBadGame⟩,⟨_,YH X G aEBadLine,txkBadLine⟩,⟨_,YH X G aEBadPlace,txkBadPlace⟩,⟨_,YH X G aENoMove,txkNoMove⟩,⟨_,YH X G aETooWide,txkTooWide⟩,⟨_,YH X G aENoWord,txkNoWord⟩,⟨_,YH X G aEOver,txkOver⟩,⟨_,YH X G aENothingBack,txkNothingBack⟩,txv,rfl⟩;have N__law_word:LX l.prog w K mg Rw "_law_word" _ _ _:=⟨f59,_,(kF (b:=true) F59.2 T ALp).or (kF (b:=false) F59.2 T ALt),YH X G F59.1,F59.2.kp,b59⟩;have C__law_made:=M F60 (rz F60.2 T WC (YH X G aEPlayError) pxem txem ⟨X_Web,N__law_word⟩);have C:CL l.prog w K mg Rw cBoard cGame cWeb cBadPlace cTooWide:=⟨C__law_mixed,C__law_game,C__law_place,C__law_bad,C__law_made,X_Web.calm λ_ _ _ _ h=>h⟩;exact KU F61 T WC C
def walk{l:PySem.W.OpenLaw}{q:RU}{loose:List Str}{XP:(RJ)->R9->Prop}{YP:RZ->R9->Prop}{d:DefRec}{K:Uz->Frag}(hn:l.most=some 63)(hdf:d.params.defaults=[])(hY:∀w h,YP w h->(K w.params).In h)(F:∀w mg fa h,(K w.params).In h->h.Ns RV mg->mg d.name=some (.ref fa)->
   ∃fd:R7,(∀s u,Vd s fd ⟨[u],[]⟩ [("_law_script",u)])/\∀Rw:R9,(K w.params).In Rw->Rw.Ns RV mg->aY l.prog w (K w.params) mg Rw cY 11 fa fd ["_law_script"] (xf (K w.params))):PySem.W.WalkO q loose XP YP l.row.toRowW d [] (λf vs=>PySem.call f vs):=
 L2.C9 (n:=63) (k:=11) (x:="_law_script") (CX:=λ_=>cY) (sp:=λw=>xf (K w.params)) hn (by decide) hdf ⟨rfl,by decide,by decide⟩ hY F (λ_ _ a ns hl _ hS=>⟨a,ns,rfl,hS,hl,λ_=>rfl⟩) λ_ _ _ _ _ z=>z
end K20
namespace PySem.W
open Fast in
set_option maxRecDepth 100000 in
set_option maxHeartbeats 0 in
def wsaid:PySem.Challenge.rw_playboard_k20_webs_refused.wellSaid=true:=by
 unfold OpenLaw.wellSaid
 (repeat' (with_reducible first|refine look_both ?_ ?_|(unfold OpenRow.wellSaid)|(unfold OpenRow.partSaid)|(unfold OpenScript.wellSaid)|(unfold OpenRowC.wellSaid)|(unfold looksOpen)))<;>as_aux_lemma=>
  (repeat (first|rw[te10501279942588096481]|rw[te10792542408131684335]|rw[te11788848310118352699]|rw[te12749700546528644094]|rw[te12862048085361865435]|rw[te12879404354523853263]|rw[te13343964577679436407]|rw[te13582783067957832011]|rw[te14412699480532031325]|rw[te16286561074155671207]|rw[te17095254045102204799]|rw[te17119622794617984870]|rw[te17691160309236699985]|rw[te17868728402115742887]|rw[te18344453789297297638]|rw[te2357444279172408678]|rw[te2368527892694137696]|rw[te3471404346716756564]|rw[te4274047373036748609]|rw[te4579403493507170074]|rw[te482687673346738481]|rw[te4857012375875476094]|rw[te5318747976498570220]|rw[te5923862056798008813]|rw[te6984425678791042302]|rw[te7723801398212525404]|rw[te797321630700447069]|rw[te8179353310426384613]|rw[te8326940854005059898]|rw[te8377067652309620493]|rw[te9558739934217749035]|rw[te9572597257264208301]|rw[te9706382859710513879]|rw[te9807087744658564304]))
  kernel_rfl
end PySem.W
open PySem PySem.W PyProof.Rows
set_option maxRecDepth 100000 in
set_option maxHeartbeats 0 in
theorem PySem.Challenge.cw_playboard_k20_webs_refused_holds : PySem.Challenge.rw_playboard_k20_webs_refused.Holds := by
 w_on
 refine PySem.W.holds_law PySem.W.wsaid λsaid=>?_;refine PySem.W.holds_openX (q:=K20.hQ) (loose:=[]) (Xt:=K20.hX) (XP:=PySem.W.XL K20.hQ []) (Yf:=L2.x6 K20.hA) (Ya:=L2.xZ K20.hK) K20.hleft (λs e=>PySem.W.xl_of s (Yk.mp e).1) PySem.W.XL.keeps (by rfl) (by rfl) (by rfl) (λs e=>PySem.W.recFacts_of (Yk.mp e).2) (by rfl) (by first|assumption|decide+kernel) (by decide+kernel) ⟨rfl,rfl,rfl,rfl,rfl,by decide+kernel⟩ ?hw ?hc
 (case hw=>w_witness2)
 k_fill
 refine L2.Ay (L2.O4 (λ_=>by kernel_rfl)) ?_;refine K20.walk (l:=PySem.Challenge.rw_playboard_k20_webs_refused) rfl rfl (λw h Y=>Y) ?F
 case F=>
  intro w mg fa h KX G hmg;apply K20.all_mk KX G hmg
  any_goals first|exact⟨by k_is,L2.wf (by k_is) (by k_is) (by k_is)⟩|exact L2.wf (by k_is) (by k_is) (by k_is)|k_is|exact⟨_,rfl⟩|kernel_rfl|decide|exact .cons ⟨_,rfl⟩ (.cons ⟨_,rfl⟩ .nil)|exact .cons ⟨_,rfl⟩ (.cons ⟨_,rfl⟩ (.cons ⟨_,rfl⟩ .nil))|skip
