import PyProof.Rows.All
import Wide.All
import OpenK.AllK
import Wide.FinOn
import Lean
import PyProof.EqAt
import PyProof.EqKinds
import PyProof.TupleCall
import KE.KIntText
import KE.IntTextLaws
import KE.IntText
import KE.KRevIter
import KE.KEqDict
import PyProof.ZipIter
import PyProof.Draws
import PyProof.EnumMake
import PyProof.ListStr
import PyProof.AttrMissHeap
import KE.KDictOf
import PyProof.SetScanFacts
import PyProof.SetKind
import PyProof.CollectWalk
import PyProof.FactsAll.set
import PyProof.StrLoop
import PyProof.TupleKey
import KE.KSortTup
import PyProof.Rows.SortWalk
import PyProof.Rows.SortStr
import PyProof.NeKinds
import OpenK.ZGo
import PySem.Challenge.RW_playboard_k11_shown_and_read
set_option Elab.async false
set_option linter.all false
set_option maxRecDepth 100000
set_option maxHeartbeats 4000000
set_option compiler.extract_closed false
open List renaming length_map → IL, size_toArray → IM, mem_cons → IN, getElem?_eq_getElem → IP, map_map → IQ, mem_map → IR, mem_singleton → IS, length_append → IT, getElem?_map → IU, map_append → IV, filter_eq_self → IW, length_take → IX, getD_eq_getElem?_getD → IY, all_cons → IZ, mem_append_right → Ja, mem_range → Jb, mem_cons_self → Jc, mem_cons_of_mem → Jd, getElem?_eq_some_iff → Je, mem_append → Jf, length_cons → Jg, map_cons → Jh, all_eq_true → Ji, append_nil → Jj, length_range → Jk, not_mem_nil → Jl, mem_of_getElem? → Jm, length_drop → Jn, lookup_cons → Jo, map_congr_left → Jp, dropLast_concat → Jq, mem_filterMap → Jr, getElem?_eq_none → Js, length_reverse → Jt, getElem?_range → Ju, any_eq_true → Jv, forIn_cons → Jw, getElem_mem → Jx, range_succ → Jy, mem_filter → Jz, filterMap_cons → JA, mem_append_left → JB, nodup_cons → JC, of_mem_zip → JD, any_cons → JE, drop_zero → JF, take_of_length_le → JG, mem_of_mem_drop → JH, mem_of_mem_take → JI, flatten_cons → JJ, sum_cons → JK, getElem?_set_self → JL, getElem?_set_ne → JM, any_eq_false → JN, getElem?_append_right → JO, map_nil → JP, reverse_cons → JQ, length_singleton → JR, ext_getElem? → JS, getElem?_reverse → JT, nodup_append → JU, any_map → JV, take_add_one → JW, map_take → JX, map_drop → JY, ext_getElem → JZ, getElem_range → J0, all_map → J1, getElem?_replicate → J2, mem_iff_getElem → J3, length_filter_le → J4, getElem?_toArray → J6, length_pos_of_mem → J7, nodup_iff_pairwise_ne → J9, pairwise_map → Ka, getElem?_zipWith → Kb, dropLast_concat_getLast → Kc
open Nat renaming le_refl → Kd, ne_of_lt → Ke, le_trans → Kg, zero_le → Kh, lt_of_lt_of_le → Ki, lt_irrefl → Kj, le_succ → Kk, ne_of_gt → Kl, le_add_right → Km, mul_le_mul → Kn, le_of_eq → Ko, succ_ne_self → Kp, add_mul → Kq, one_mul → Kr, mul_comm → Ks, mul_le_mul_left → Ku, le_of_lt → Kv, lt_succ_self → Kw, lt_succ_of_lt → Kx, min_eq_left → Ky, le_of_ble_eq_true → Kz
open Int renaming toNat_of_nonneg → KA, mul_le_mul → KB, emod_nonneg → KC, emod_lt_of_pos → KD, zero_add → KG, natCast_mul → KH
open Bool renaming false_ne_true → KI, and_eq_true → KJ, eq_iff_iff → KL, not_eq_true' → KM, and_eq_true_iff → KN, true_and → KO, false_eq_true → KP
open Array renaming length_toList → KQ, getElem?_toList → KR, getElem?_eq_getElem → KS, mem_toList_iff → KT, size_append → KU, toList_inj → KW
open Option renaming map_eq_some_iff → KY, isSome_iff_exists → KZ, getD_none → K0
open PySem.W renaming nsIn → K1, mg_of → K2, findIn → K3, kitOne → K4, mg_none_of → K5, kia_one → K6, topRun → K7, keepIn → K9, emptyDict → La, fnOf → Lb, instObj → Lc, hideAll_get → Ld, plainGet → Le, isFn → Lf, hasDictIn → Lg, mroIn → Lh, callWith_K → Li, excIn → Lj, exmOne → Lk, lookIn → Ll, plainOver → Lm, makesIn → Ln, codeIn → Lo, boot_heap → Lp, doneF → Lq, methodObj → Lr, plainGet_of → Ls, takerIn → Lu, cellsFrom_some → Lv, boot_o_2 → Lw, hideAll → Lx, of_hideAll → Ly, handedIn → Lz, specialIn → LA, takesIn → LB, kitx_list → LC, kitx_dict → LD, codeRec_of → LF, topStub → LH, segRun → LJ, blockOf → LK, boot_o_0 → LL, boot_o_1 → LM, boot_o_7 → LN, boot_o_5 → LO, boot_o_9 → LP, boot_o_4 → LQ, boot_o_8 → LR, boot_o_6 → LS, boot_o_10 → LU, segRunT → LV, deadEnd → LW, restOf → LX, piece_app → LY, segRun_of → LZ
open PySem.W (Frag)
open PySem renaming wpAny_bind->Ff,mainGlobals->Fg,Shared->Fi,starEach->Fj,wpAny_pure->Fm,Program->Fn,World->Fp,sizeLine_eq->Fq,wpAny->Fs,FuncData->Ft,model->Fu,bootBuiltins->Fv,Heap->Fw,treeTable->Fy,Around->Fz,Expr->FA,backTo->FC,wpAny_Call_Name_kw->FE,eval->FF,Stmt->FG,wpAny_mono->FM,compareOp->FN,wpAny_holding->FO,attributeBase->FP,wpAny_truthy_bool->FQ,wpAny_field->FS,importedModules->FU,wpAny_Call_method_late->FV,codeAny_mono->FW,wpAny_seqItems->FX,wpAny_callSpecial?_slot->FZ,strIterType->Gc,sliceBounds->Gd,wpAny_setField_rec->Ge,OsState->Gf,codeAny_builtin->Gi,Scope->Gj,IsPair->Gn,codeAny_call_builtin->Go,wpAny_specialOf->Gv,wpAny_passesOwn->Gw,codeAny->Gx,wpAny_call->Gy,assignEach->GA,keywordEach->GB,cLine->GD,wpAny_pyIter_list->GF,wpAny_pyIter_enum->GG,foldedSetIterable->GH,binaryOp->GI,Keyword->GK,GenState->GL,Builtin->GN,Pos->GO,wpAny_isInstance->GP,wpAny_call_entry->GQ,call_meets->GR,Params->GT,wpAny_attempt->GU,letOwnedTupleGo->GW,wpAny_typeOf->GY,strValues->G3,wpAny_newFunctionEnv_cells->G4,wpAny_letOwnedTupleGo_enum->He,recursionLimit->Hf,CmpOp->Hg,wpAny_newObj_type->Hl,holding->Hm,IsZip->Hn,wpAny_standAt->Hr,wpAny_comprehension_free->Hs,plainId_quiet->Ht,wpAny_pyNext_enum_itemD->Hv,wpAny_execs_cons->Hw,wpAny_Call_method0_late->Hx,backToKw->Hz,wpAny_pyNext_range_end->HG,wpAny_pyIter_rangeiter->HH,typeIs_str->HI,pyNext->HK,wpAny_execs_nil->HM,codeAny_call_function->HN,builtinLookup_eq_fast->HP,Env->HS,wpAny_listPart->HU,wpAny_letGo->HV,wpAny_bindName->HW,bindName->HX,IsRangeIter->HY,swapsWith->HZ,callerA->H0,BindsTo->Ib,wpAny_onRaise->Ic,assignInOrder->Ie,wpAny_rule->Ig,sliceRange->Ih,revObj->Ii,assign->Ik,seqIndex_neg->Ip,relabel->Iq,SetTable->Iu,Operator->Iv,isTrue->Iz,cellsFrom->IA,Result->IC,standAt->IE,Tok->IF,typeOf->IG,rawInt->IH,bindL->II,bindC->IJ,IsPart->IK
open PySem.Heap renaming get?_push_of_some->Fh,lt_size->Fk,get?_push_size->Fo,size_push->FR,get?_update_other->Gh,SameBut->Gq,get?_update_self->HQ
open PySem.Txt renaming join->Fx
open PySem.Value renaming ref->FD,none->GS,str->HE,type->Il,bool->Im,int->IB
open PySem.Builtin.Str renaming strSliceIndices->FH,occurrences->Ga
open PySem.Builtin.List renaming listExtendWith->FI,listSameRef->FL,listTooLong->Gu,listItems->GM,listSubscript?->GZ,listLengthHint->G0,listAllItems->Hk
open PySem.Calls renaming callWith_builtin->FJ,evalArgs_plain->FT,spliced_cons->Hh,Name_function_global->Hj,spliced_nil->Hq
open PySem.Builtin.SmallTypes renaming ownedTupleIsFree->FK,nextOf->Gr,ownedTupleHandOut->Gs
open PySem.NameKind renaming free->FY,cell->Hu
open PyProof.Rows renaming envOfC->F0,assignInOrder_cons->Gz,AllBare->GV,subscriptTail_builtinR->HJ,IntsAre->Ia
open PySem.Builtin.Range renaming rangeSize->Gb
open PySem.Obj renaming mapSeq->Gg
open PySem.PassesOwn renaming never->Gk
open PySem.Str renaming empty->Gm,ofString->GJ
open PySem.Around renaming under_plainId->Gp,under->Ix
open PyProof.Rows.F renaming plain_set_update_loop->GE,entry_set_update_loop->HF
open PySem.F renaming slot_zip_next->GX,slot_enumerate_next->HR
open PySem.EqBoolInt renaming of_rcne->Ho
open PySem.W renaming topFrame->Hy,namesBound->Ij,topFrom->Io,looks_findIn->Ir,staticsOk->Iy
open PySem.SeqAt renaming EqAt->HL
open PySem.Code renaming isFrame->Iw
open PySem.Flow renaming next->ID
abbrev E5:=@decide_eq_true
abbrev E6:=@decide_eq_false
abbrev E7:=@if_neg
abbrev E8:=@if_pos
abbrev E9:=@of_decide_eq_true
abbrev Fa:=@of_decide_eq_false
abbrev Fb:=@absurd
abbrev Fc:=PySem.Str->Option PySem.Value
abbrev Fd:=PySem.Value->PySem.Shared->Prop
abbrev Fe:=List (PySem.Addr×PySem.Obj)
noncomputable section
namespace L2
open PySem PySem.Spec PyProof.Rows
abbrev Key:=Sum Int Str
def ze:Key->Value->Bool
 | .inl k,v=>Value.isInt k v
 | .inr x,v=>Value.isStrOf x v
def ED(w:Fp):Key->Int
 | .inl k=>hashInt k
 | .inr x=>hashStr w x
theorem bN:∀{k:Key}{v:Value},ze k v=true->(∃i t,k=Sum.inl i/\v=IB i t)\/(∃x t,k=Sum.inr x/\v=HE x t)
 | .inl i,v,h=>by obtain⟨t,e⟩:=Value.isInt_shape (k:=i) (v:=v) h;exact .inl ⟨i,t,rfl,e⟩
 | .inr x,v,h=>by obtain⟨t,e⟩:=Value.isStrOf_shape (x:=x) (v:=v) h;exact .inr ⟨x,t,rfl,e⟩
theorem AQ(a b:Int):decide ((Sum.inl a:Key)=Sum.inl b)=(a == b):=by
 by_cases e:a=b
 .subst e;simp
 .have h:¬(Sum.inl a:Key)=Sum.inl b:=λq=>e (Sum.inl.inj q);rw[E6 h];exact(beq_eq_false_iff_ne.mpr e).symm
theorem AM(a b:Str):decide ((Sum.inr a:Key)=Sum.inr b)=decide (a=b):=by
 by_cases e:a=b
 .subst e;simp
 .have h:¬(Sum.inr a:Key)=Sum.inr b:=λq=>e (Sum.inr.inj q);rw[E6 h,E6 e]
theorem AO(a:Int)(b:Str):decide ((Sum.inl a:Key)=Sum.inr b)=false:=E6 (λq=>nomatch q)
theorem AN(a:Str)(b:Int):decide ((Sum.inr a:Key)=Sum.inl b)=false:=E6 (λq=>nomatch q)
def mixKind(prog:Fn)(w:Fp):PySem.KeyKind prog w Key where
 is:=ze
 hash:=ED w
 inj:=λv a b ha hb=>by
  rcases bN ha with⟨i,t,rfl,rfl⟩|⟨x,t,rfl,rfl⟩
  .rcases bN hb with⟨j,u,rfl,e⟩|⟨y,u,rfl,e⟩
   .injection e with e1 _;rw[e1]
   .exact nomatch e
  .rcases bN hb with⟨j,u,rfl,e⟩|⟨y,u,rfl,e⟩
   .exact nomatch e
   .injection e with e1 _;rw[e1]
 byValue:=λk v h=>by
   rcases bN h with⟨i,t,rfl,rfl⟩|⟨x,t,rfl,rfl⟩<;>rfl
 pyHash:=λhv h=>by
  rcases bN hv with⟨i,t,rfl,rfl⟩|⟨x,t,rfl,rfl⟩
  .exact wpAny_pyHash_int h
  .exact wpAny_pyHash_str h
 eqBool:=λhu hv h=>by
  rcases bN hu with⟨i,t,rfl,rfl⟩|⟨x,t,rfl,rfl⟩
  .rcases bN hv with⟨j,u,rfl,rfl⟩|⟨y,u,rfl,rfl⟩
   .rw[AQ]at h;exact wpAny_eqBool_int h
   .rw[AO]at h;exact SeqAt.EqAt.int_str i t y u _ _ _ _ h
  .rcases bN hv with⟨j,u,rfl,rfl⟩|⟨y,u,rfl,rfl⟩
   .rw[AN]at h;exact SeqAt.EqAt.str_int x t j u _ _ _ _ h
   .rw[AM]at h;exact wpAny_eqBool_str h
 «strs» :=λk x t v h=>by
  rcases bN h with⟨i,u,rfl,e⟩|⟨y,u,rfl,e⟩
  .exact nomatch e
  .injection e with e1 _;subst e1;cases v<;>rfl
inductive V where
 |non|bl (b:Bool)|int (i:Int)|str (x:Str)|byt (b:Array UInt8)|flt (b:UInt64)|ref (a:Addr)|ty (n:String)
 deriving DecidableEq
def RelV:V->Value->Prop
 | .non,u=>u=GS
 | .bl b,u=>u=Im b
 | .int i,u=>∃t,u=IB i t
 | .str x,u=>∃t,u=HE x t
 | .byt b,u=>∃t,u=Value.bytes b t
 | .flt b,u=>∃t,u=Value.float b t
 | .ref a,u=>u=FD a
 | .ty n,u=>u=Il n
abbrev aL:List V->List Value->Prop:=Paired RelV
theorem aL.length{xs:List V}{us:List Value}(r:aL xs us):xs.length=us.length:=Paired.length r
theorem aL.get:∀{xs:List V}{us:List Value}{i:Nat}{x:V},aL xs us->xs[i]? =some x->∃u,us[i]? =some u/\RelV x u
 |_,_,_,_,.nil,e=>by simp at e
 |_,_,0,_,.cons r _,e=>by simp at e;subst e;exact⟨_,rfl,r⟩
 |_,_,i+1,x,.cons _ t,e=>by obtain⟨u,h1,h2⟩:=aL.get (i:=i) (x:=x) t (by simpa using e);exact⟨u,by simpa using h1,h2⟩
theorem aL.set{x:V}{u:Value}(r:RelV x u):∀{xs:List V}{us:List Value}(i:Nat),aL xs us->aL (xs.set i x) (us.set i u)
 |_,_,_,.nil=>.nil
 |_,_,0,.cons _ t=>.cons r t
 |_,_,i+1,.cons q t=>.cons q (aL.set r i t)
theorem aL.append:∀{xs ys:List V}{us ws:List Value},aL xs us->aL ys ws->aL (xs++ys) (us++ws)
 |_,_,_,_,.nil,s=>s
 |_,_,_,_,.cons r t,s=>.cons r (aL.append t s)
theorem aL.take:∀{xs:List V}{us:List Value}(n:Nat),aL xs us->aL (xs.take n) (us.take n)
 |_,_,0,_=>.nil
 |_,_,_+1,.nil=>.nil
 |_,_,n+1,.cons r t=>.cons r (aL.take n t)
theorem aL.drop:∀{xs:List V}{us:List Value}(n:Nat),aL xs us->aL (xs.drop n) (us.drop n)
 |_,_,0,r=>r
 |_,_,_+1,.nil=>.nil
 |_,_,n+1,.cons _ t=>aL.drop n t
def jY:Option V->Option Value->Prop
 |some v,some u=>RelV v u
 |none,none=>True
 |_,_=>False
def KV{κ:Type}:List (κ×V)->List (κ×Value)->Prop:=Paired λ(p:κ×V)(q:κ×Value)=>p.1=q.1/\RelV p.2 q.2
def kV:Key->V
 | .inl i=>.int i
 | .inr x=>.str x
inductive HO where
 |lst (xs:List V)
 |tup (xs:List V)
 |dK (kvs:List (Key×V))|dT (kvs:List (List Key×V))
 |set (S:Int->Bool) (n:Nat)
 |ins (C dx:Addr) (fs:List (Str×V))
 |own (x:Addr)
 |xd (fs:List (Str×V))
 |met (f x:Addr)
 |rng (lo hi:Int)
 |frz (o:Obj) (u:HO)
 |tbl (ps:Array Value)
 |ext (φ:Fw->Prop)
abbrev Hp:=Addr->Option HO
def upd(H:Hp)(a:Addr)(o:HO):Hp:=λb=>if b=a then some o else H b
theorem af{H:Hp}{a:Addr}{o:HO}:upd H a o a=some o:=by unfold upd;rw[E8 rfl]
theorem ar{H:Hp}{a b:Addr}{o:HO}(h:b≠a):upd H a o b=H b:=by unfold upd;rw[E7 h]
theorem au{H:Hp}{a b:Addr}{o:HO}(h:H a=some o)(h':H b=none):a≠b:=by intro e;subst e;rw[h]at h';cases h'
section
variable(P:Fn)(w:Fp)
def bF(H:Hp)(h:Fw)(a:Addr):HO->Prop
 | .lst xs=>xs.length<=sizeLine/\∃(its:List Value)(n:Nat),aL xs its/\h.get? a=some {cls:=.type "list",data:=.seq its.toArray n}
 | .tup xs=>xs.length<=sizeLine/\∃its:List Value,aL xs its/\IsTup h a its.toArray
 | .dK kvs=>kvs.length<=sizeLine/\(a == sysModules)=false/\∃vs,KV kvs vs/\h.DictOf (mixKind P w) a vs
 | .dT kvs=>kvs.length<=sizeLine/\(a == sysModules)=false/\∃xs:List (List Key×Addr×Value),
   Paired (λ(p:List Key×V)(q:List Key×Addr×Value)=>p.1=q.1/\H q.2.1=some (.tup (p.1.map kV))/\RelV p.2 q.2.2) kvs xs/\
   ∃o es ep,h.get? a=some o/\o.ExactDict/\o.data=.dict es ep/\es.toList=xs.map (entryOfKey (tupleKind (mixKind P w)))/\(xs.map (·.1)).Nodup
 | .set S n=>h.SetOf (intKind P w) a S n
 | .ins C dx fs=>H dx=some (.own a)/\fs.length<=1000/\dx≠a/\h.get? a=some (Lc C dx)/\
   ∃mA,h.Ns1 dx mA/\(∀f,jY (fs.lookup f) (mA f))/\PySem.Within mA (fs.map (·.1))
 | .own _=>∃o,h.get? a=some o
 | .xd fs=>∃mA,h.Ns1 a mA/\∀f,jY (fs.lookup f) (mA f)
 | .rng lo hi=>∃t u v,h.get? a=some {cls:=.type "range",data:=.fields #[.int lo t,.int hi u,.int 1 v]}
 | .frz o u=>h.get? a=some o/\bF H h a u
 | .tbl ps=>h.get? a=some {cls:=.none,data:=.fields ps}
 | .met f x=>h.get? a=some (Lr (.ref f) (.ref x))
 | .ext φ=>φ h/\(∃o,h.get? a=some o)/\∀h1 h2:Fw,φ h1->(∀o,h1.get? a=some o->h2.get? a=some o)->φ h2
def iz(H:Hp)(h:Fw):Prop:= ∀a o,H a=some o->bF P w H h a o
end
section
variable{P:Fn}{w:Fp}{H H':Hp}{h h':Fw}{a:Addr}{o:HO}
theorem bF.lt(x:bF P w H h a o):a<h.objs.size:=by
 cases o with
 |lst xs=>obtain⟨_,_,_,_,e⟩:=x;exact Fk e
 |tup xs=>obtain⟨_,_,_,p⟩:=x;exact p.lt
 |dK kvs=>obtain⟨_,_,_,_,o,_,_,e,_⟩:=x;exact Fk e
 |dT kvs=>obtain⟨_,_,_,_,o,_,_,e,_⟩:=x;exact Fk e
 |set S n=>obtain⟨o,_,_,_,e,_⟩:=x;exact Fk e
 |ins C dx fs=>obtain⟨_,_,_,e,_⟩:=x;exact Fk e
 |own y=>obtain⟨_,e⟩:=x;exact Fk e
 |xd fs=>obtain⟨_,⟨_,_,_,e,_⟩,_⟩:=x;exact Fk e
 |rng lo hi=>obtain⟨_,_,_,e⟩:=x;exact Fk e
 |frz ob u=>obtain⟨e,_⟩:=x;exact Fk e
 |tbl ps=>exact Fk (show h.get? a=some _ from x)
 |met f y=>exact Fk (show h.get? a=some _ from x)
 |ext φ=>obtain⟨_,⟨_,e⟩,_⟩:=x;exact Fk e
theorem Paired.mapP{α β:Type}{F G:α->β->Prop}:∀{l₁:List α}{l₂:List β},Paired F l₁ l₂->(∀a b,F a b->G a b)->Paired G l₁ l₂
 |_,_,.nil,_=>.nil
 |_,_,.cons r t,f=>.cons (f _ _ r) (Paired.mapP t f)
theorem bF.stay(x:bF P w H h a o)(k:∀b u,(b=a\/H b=some (.own a))->h.get? b=some u->h'.get? b=some u)
  (ho:∀b,H b=some (.own a)->H' b=some (.own a)) (ht:∀b xs,H b=some (.tup xs)->H' b=some (.tup xs)):bF P w H' h' a o:=by
 induction o with
 |lst xs=>obtain⟨z,its,n,r,e⟩:=x;exact⟨z,its,n,r,k _ _ (.inl rfl) e⟩
 |tup xs=>obtain⟨z,its,r,ob,e,c⟩:=x;exact⟨z,its,r,ob,k _ _ (.inl rfl) e,c⟩
 |dK kvs=>obtain⟨z,y,vs,r,ob,es,ep,e,c⟩:=x;exact⟨z,y,vs,r,ob,es,ep,k _ _ (.inl rfl) e,c⟩
 |dT kvs=>
  obtain⟨z,y,xs,r,ob,es,ep,e,c⟩:=x;exact⟨z,y,xs,Paired.mapP r λp q z=>⟨z.1,ht _ _ z.2.1,z.2.2⟩,ob,es,ep,k _ _ (.inl rfl) e,c⟩
 |set S n=>obtain⟨ob,es,ep,t,e,c⟩:=x;exact⟨ob,es,ep,t,k _ _ (.inl rfl) e,c⟩
 |ins C dx fs=>
  obtain⟨d,z,ne,e,mA,⟨od,es,ep,e2,c⟩,r⟩:=x;exact⟨ho _ d,z,ne,k _ _ (.inl rfl) e,mA,⟨od,es,ep,k _ _ (.inr d) e2,c⟩,r⟩
 |own y=>obtain⟨ob,e⟩:=x;exact⟨ob,k _ _ (.inl rfl) e⟩
 |xd fs=>obtain⟨mA,⟨od,es,ep,e,c⟩,r⟩:=x;exact⟨mA,⟨od,es,ep,k _ _ (.inl rfl) e,c⟩,r⟩
 |rng lo hi=>obtain⟨t,u,v,e⟩:=x;exact⟨t,u,v,k _ _ (.inl rfl) e⟩
 |frz ob u ih=>obtain⟨e,q⟩:=x;exact⟨k _ _ (.inl rfl) e,ih q⟩
 |tbl ps=>
  have e:h.get? a=some {cls:=.none,data:=.fields ps}:=x;show h'.get? a=some {cls:=.none,data:=.fields ps};exact k a _ (.inl rfl) e
 |met f y=>
  have e:h.get? a=some (Lr (.ref f) (.ref y)):=x;show h'.get? a=some (Lr (.ref f) (.ref y));exact k a _ (.inl rfl) e
 |ext φ=>obtain⟨p,⟨o,e⟩,st⟩:=x;exact⟨st _ _ p λo q=>k _ _ (.inl rfl) q,⟨o,k _ _ (.inl rfl) e⟩,st⟩
theorem iz.lt(x:iz P w H h)(e:H a=some o):a<h.objs.size:=(x a o e).lt
theorem iz.fresh(x:iz P w H h)(e:h.objs.size<=a):H a=none:=by
 cases q:H a with
 |none=>rfl
 |some u=>exact Fb (Ki (x.lt q) e) (Kj _)
theorem iz.kept(x:iz P w H h)(k:∀b u,h.get? b=some u->h'.get? b=some u):iz P w H h':=λa o e=>
 (x a o e).stay (λb u _ q=>k b u q) (λ_ q=>q) λ_ _ q=>q
theorem iz.laid(x:iz P w H h)(k:∀b u,h.get? b=some u->h'.get? b=some u)(hp:h.objs.size<=a)(new:bF P w (upd H a o) h' a o):iz P w (upd H a o) h':=λb u e=>by
 have hn:=x.fresh hp
 by_cases hb:b=a
 .subst hb;rw[af]at e;cases e;exact new
 .rw[ar hb]at e;exact(x b u e).stay (λc v _ q=>k c v q) (λc q=>by rw[ar (au q hn)];exact q) λc xs q=>by rw[ar (au q hn)];exact q
end
def Rd(H:Hp)(a:Addr)(u:HO):Prop:=H a=some u\/∃o,H a=some (.frz o u)
theorem Rd.ok{P:Fn}{w:Fp}{H:Hp}{h:Fw}{a:Addr}{u:HO}(r:Rd H a u)(x:iz P w H h):bF P w H h a u:=by
 rcases r with r|⟨o,r⟩
 .exact x a u r
 .obtain⟨_,q⟩:=x a _ r;exact q
def Ei:Option HO->Prop
 |some (.lst _)=>True
 |some (.dK _)=>True
 |some (.dT _)=>True
 |some (.set _ _)=>True
 |some (.ins _ _ _)=>True
 |some (.ext _)=>True
 |_=>False
section
variable{P:Fn}{w:Fp}{H:Hp}{h h':Fw}{x e:Addr}{o':HO}
theorem iz.write(ok:iz P w H h)(mu:Ei (H x))(he:e=x\/H e=some (.own x))(k:∀b u,b≠e->h.get? b=some u->h'.get? b=some u)(heo:∃u,h'.get? e=some u)
  (new:bF P w (upd H x o') h' x o'):iz P w (upd H x o') h':=λb u q=>by
 have nown:∀c y,H c=some (.own y)->c≠x:=λc y r z=>by subst z;rw[r]at mu;exact mu
 have ntup:∀c xs,H c=some (.tup xs)->c≠x:=λc xs r z=>by subst z;rw[r]at mu;exact mu
 by_cases hb:b=x
 .subst hb;rw[af]at q;cases q;exact new
 .rw[ar hb]at q
  by_cases hbe:b=e
  .have q':H b=some (.own x):=by
    rcases he with z|z
    .exact Fb (hbe.trans z) hb
    .rw[hbe];exact z
   rw[q]at q';cases q';obtain⟨v,hv⟩:=heo;exact⟨v,by rw[hbe];exact hv⟩
  .refine(ok b u q).stay (λc v hc r=>k c v ?_ r) (λc r=>by rw[ar (nown c b r)];exact r) λc xs r=>by rw[ar (ntup c xs r)];exact r
   rcases hc with rfl|hc
   .exact hbe
   .rintro rfl
    rcases he with z|z
    .exact nown c b hc z
    .rw[hc]at z;cases z;exact hb rfl
end
structure Un(fs ex:List Addr)(H H':Hp)(h h':Fw):Prop where
 keep:∀b o,h.get? b=some o->H b=none->b∉fs->b∉ex->h'.get? b=some o
 slot:∀b o,h.get? b=some o->H b=none->b∈fs->b∉ex->∃sl,h'.get? b=some {o with slots:=sl}
 free:∀b o,h.get? b=some o->H b=none->b∉ex->H' b=none
 there:∀b o,h.get? b=some o->b∉ex->∃o',h'.get? b=some o'
 tups:∀b xs,H b=some (.tup xs)->H' b=some (.tup xs)
 frzs:∀b o u,H b=some (.frz o u)->H' b=some (.frz o u)
 tbls:∀b ps,H b=some (.tbl ps)->∃more,H' b=some (.tbl (ps++more))
section
variable{fs fs' ex ex':List Addr}{H H1 H2:Hp}{h h1 h2 h':Fw}{a x e:Addr}{o:HO}
theorem Un.any(u:Un fs ex H H1 h h1){b:Addr}{ob:Obj}(q:h.get? b=some ob)(n:H b=none)(hx:b∉ex):∃sl,h1.get? b=some {ob with slots:=sl}:=by
 by_cases hb:b∈fs
 .exact u.slot b ob q n hb hx
 .exact⟨ob.slots,u.keep b ob q n hb hx⟩
theorem Un.kept(k:∀b u,h.get? b=some u->h'.get? b=some u):Un fs ex H H h h':=
 ⟨λb ob q _ _ _=>k b ob q,λb ob q _ _ _=>⟨ob.slots,k b ob q⟩,λ_ _ _ n _=>n,λb ob q _=>⟨ob,k b ob q⟩,λ_ _ q=>q,λ_ _ _ q=>q,λ_ ps q=>⟨#[],by rw[q];simp⟩⟩
theorem Un.refl:Un fs ex H H h h:=Un.kept λ_ _ q=>q
theorem Un.laid(k:∀b u,h.get? b=some u->h'.get? b=some u)(hp:h.objs.size<=a)(hn:H a=none):Un fs ex H (upd H a o) h h' where
 keep:=λb u q _ _ _=>k b u q
 slot:=λb u q _ _ _=>⟨u.slots,k b u q⟩
 free:=λb u q n _=>by rw[ar (Ke (Ki (Fk q) hp))];exact n
 there:=λb u q _=>⟨u,k b u q⟩
 tups:=λb xs q=>by rw[ar (au q hn)];exact q
 frzs:=λb u xs q=>by rw[ar (au q hn)];exact q
 tbls:=λb ps q=>⟨#[],by rw[ar (au q hn),q];simp⟩
theorem Un.write(mu:Ei (H x))(he:e=x\/H e=some (.own x))(k:∀b u,b≠e->h.get? b=some u->h'.get? b=some u)(heo:∃u,h'.get? e=some u):Un fs ex H (upd H x o) h h':=by
 have hx:∀b,H b=none->b≠x:=λb n z=>by subst z;rw[n]at mu;exact mu
 have hb:∀b,H b=none->b≠e:=λb n z=>by
  subst z
  rcases he with r|r
  .exact hx b n r
  .rw[n]at r;cases r
 have hm:∀b u,H b=some u->¬Ei (some u)->b≠x:=λb u q nm z=>by subst z;rw[q]at mu;exact nm mu
 refine⟨λb u q n _ _=>k b u (hb b n) q,λb u q n _ _=>⟨u.slots,k b u (hb b n) q⟩,λb u q n _=>by rw[ar (hx b n)];exact n,λb u q _=>?_,
  λb xs q=>by rw[ar (hm b _ q λz=>z)];exact q,λb u xs q=>by rw[ar (hm b _ q λz=>z)];exact q,λb ps q=>⟨#[],by rw[ar (hm b _ q λz=>z),q];simp⟩⟩
 by_cases hbe:b=e
 .subst hbe;exact heo
 .exact⟨u,k b u hbe q⟩
end
def Ec(h:Fw)(H:Hp):List Addr:=(List.range h.objs.size).filter λa=>(H a).isSome
def lm(h:Fw)(H:Hp):Fw:=Lx h (Ec h H)
theorem qF(h:Fw)(H:Hp):(lm h H).objs.size=h.objs.size:=PySem.W.hideAll_size _ _
theorem t7{h:Fw}{H:Hp}{b:Addr}{o:Obj}(e:h.get? b=some o)(n:H b=none):(lm h H).get? b=some o:=
 Ld _ e λhm=>by have q:(H b).isSome=true:=(Jz.mp hm).2;rw[n]at q;simp at q
theorem vB{h:Fw}{H:Hp}{b:Addr}{o:Obj}(e:(lm h H).get? b=some o):h.get? b=some o/\H b=none:=by
 have e':h.get? b=some o:=Ly (Ec h H) e;refine⟨e',?_⟩;cases q:H b with
 |none=>rfl
 |some x=>
  have hm:b∈Ec h H:=Jz.mpr ⟨Jb.mpr (Fk e'),by simp[q]⟩;have z:(lm h H).get? b=none:=PySem.W.hideAll_none (Ec h H) hm;rw[z]at e;cases e
def v9(g h:Fw)(L:Addr):List (Addr×Obj):=(List.range h.objs.size).filterMap λa=>if a=L\/(g.get? a).isSome=true then none else(h.get? a).map λo=>(a,o)
def rest(g h:Fw)(L d:Addr):List (Addr×Obj):=(v9 g h L).filter λp=>decide (p.1≠d)
structure Mod(K:Frag)(mg:Fc)(E3:Fw):Prop where
 kin:K.In E3
 glob:E3.Ns Fg mg
 blt:∃mb,E3.Ns builtinsNs mb/\∀x:Str,x≠"__name__"->mb x=Fv x
 nolimit:E3.NoLimit
structure Cx where
 prog:Fn
 w:Fp
 K:Frag
 mg:Str->Option Value
 E3:Fw
 A:Fz
 N:List Str
 s₀:Fi
 H₀:Hp
 env:HS
 E4:List HS
 stack:List HS
 ex:List Addr
 fn:Str->Bool
 calm:Bool
 pn:List (Addr×Obj)
 xe:Value->Fi->Prop
def gX(l:List HS):List Addr:=l.filterMap (·.frame)
abbrev Cx.fs(X:Cx):List Addr:=gX X.E4
def Eh(sc:Gj)(x:Str):Prop:=sc.names.lookup x=some .local\/sc.names.lookup x=some .cell\/sc.names.lookup x=some .free
def BF(sc:Gj)(x:Str):Prop:=sc.names.lookup x=some .local\/sc.names.lookup x=some .cell
def EY(env:HS)(h:Fw)(m:Fc)(x:Str)(u:Value):Prop:=
 (env.kindOf x=some .local/\m x=some u)\/((env.kindOf x=some .cell\/env.kindOf x=some .free)/\∃c,env.cells.lookup x=some c/\h.IsCell c (some u))
structure Cx.Ok(X:Cx):Prop where
 mod:Mod X.K X.mg X.E3
 kind:X.env.scope.kind=.function
 glob:X.env.globals=Fg
 blt:X.env.builtins=builtinsNs
 above:X.s₀.heap.objs.size<=X.env.locals
 inj:∀x y c,X.env.cells.lookup x=some c->X.env.cells.lookup y=some c->x=y
 has:∀x,(X.env.kindOf x=some .cell\/X.env.kindOf x=some .free)->∃c,X.env.cells.lookup x=some c
 cab:∀x c,X.fn x=true->X.env.cells.lookup x=some c->X.s₀.heap.objs.size<=c
 hd:X.calm=true->X.A.handled=none
 frames:X.A.frames=some X.stack
 stk:X.stack=X.E4\/(X.stack=X.env::X.E4/\X.env.frame=some X.env.locals)
 exf:∀b∈X.ex,b≠X.env.locals/\∀x c,X.env.cells.lookup x=some c->c≠b
 bs:∀b o,X.E3.get? b=some o->X.s₀.heap.get? b=some o/\X.H₀ b=none
 bsz:X.E3.objs.size<=X.s₀.heap.objs.size
 noex:∀b o,X.E3.get? b=some o->b∉X.ex
 exfs:∀b∈X.ex,b∉X.fs
 funs:X.s₀.heap.FunFrames X.E3 X.E4
 frf:∀b∈X.fs,X.H₀ b=none
structure aC(X:Cx)(gV:Fe)(σ:List (Option V))(H:Hp)(s:Fi):Prop where
 ok:X.Ok
 os:s.os=X.s₀.os
 bare:GV s.gens
 E3:Un X.fs X.ex X.H₀ H X.s₀.heap s.heap
 loc:∃m,s.heap.Ns X.env.locals m/\∀(i:Nat)(x:Str)(v:V),X.N[i]? =some x->σ[i]? =some (some v)->Eh X.env.scope x->∃u,RelV v u/\EY X.env s.heap m x u
 cell:∀x c,X.env.cells.lookup x=some c->∃v,s.heap.IsCell c v
 free:H X.env.locals=none
 freeC:∀x c,X.env.cells.lookup x=some c->H c=none
 pin:∀p∈X.pn++gV,s.heap.get? p.1=some p.2/\H p.1=none/\p.1≠X.env.locals/\p.1∉X.fs/\∀v,p.2.data≠.cell v
 hok:iz X.prog X.w H s.heap
 len:σ.length=X.N.length
section
variable{X:Cx}{gV:Fe}{σ:List (Option V)}{H H':Hp}{s:Fi}{h':Fw}
theorem Cx.Ok.nofr(ok:X.Ok){b:Addr}{o:Obj}(e:X.E3.get? b=some o):b∉X.fs:=λhb=>by have:=(ok.funs.mem hb).1;rw[e]at this;cases this
theorem aC.bs(I:aC X gV σ H s):∀b o,X.E3.get? b=some o->s.heap.get? b=some o/\H b=none:=λb o e=>
 ⟨I.E3.keep b o (I.ok.bs b o e).1 (I.ok.bs b o e).2 (I.ok.nofr e) (I.ok.noex b o e),I.E3.free b o (I.ok.bs b o e).1 (I.ok.bs b o e).2 (I.ok.noex b o e)⟩
theorem aC.bk(I:aC X gV σ H s):∀b o,X.E3.get? b=some o->s.heap.get? b=some o:=λb o e=>(I.bs b o e).1
theorem aC.mod(I:aC X gV σ H s):Mod X.K X.mg X.E3:=I.ok.mod
theorem aC.kIn(I:aC X gV σ H s):X.K.In s.heap:=I.ok.mod.kin.keeps I.bk
theorem aC.lt(I:aC X gV σ H s):X.env.locals<s.heap.objs.size:=let ⟨_,hn,_⟩:=I.loc;hn.lt
theorem aC.sz(I:aC X gV σ H s):X.s₀.heap.objs.size<=s.heap.objs.size:=Kg I.ok.above (Kv I.lt)
theorem aC.nofs(I:aC X gV σ H s){a:Addr}(h:s.heap.objs.size<=a):a∉X.fs:=λhb=>by obtain⟨_,o,ho,_⟩:=I.ok.funs.mem hb;exact Fb (Ki (Fk ho) (Kg I.sz h)) (Kj _)
theorem aC.cne(I:aC X gV σ H s):∀x c,X.env.cells.lookup x=some c->c≠X.env.locals:=λx c e z=>by obtain⟨v,o,ho,hd⟩:=I.cell x c e;obtain⟨m,⟨o',es,ep,ho',hd',_⟩,_⟩:=I.loc;rw[z,ho']at ho;cases ho;rw[hd']at hd;cases hd
theorem aC.funs(I:aC X gV σ H s):s.heap.FunFrames X.E3 X.E4:=by
 have all:∀(l:List HS),(∀b∈gX l,b∈X.fs)->X.s₀.heap.FunFrames X.E3 l->s.heap.FunFrames X.E3 l:=by
  intro l
  induction l with
  |nil=>intro _ _;trivial
  |cons env r ih=>
   intro hs hl;obtain⟨hk,⟨L,o,hf,hn,ho,hd⟩,hr⟩:=hl;have hL:L∈X.fs:=hs L (by unfold gX;rw[JA,hf];exact Jc);obtain⟨sl,e⟩:=I.E3.slot L o ho (I.ok.frf L hL) hL λz=>I.ok.exfs L z hL;exact⟨hk,⟨L,_,hf,hn,e,hd⟩,ih (λb hb=>hs b (by unfold gX;rw[JA,hf];exact Jd _ hb)) hr⟩
 exact all X.E4 (λ_ hb=>hb) I.ok.funs
theorem aC.stack(I:aC X gV σ H s):s.heap.FunFrames X.E3 X.stack:=by
 rcases I.ok.stk with e|⟨e,hf⟩
 .rw[e];exact I.funs
 .rw[e];obtain⟨m,hn,_⟩:=I.loc;refine .cons (by rw[I.ok.kind];decide) hf hn ?_ I.funs;exact Heap.get?_none_of_le (Kg I.ok.bsz I.ok.above)
theorem aC.stkSub(I:aC X gV σ H s):∀b∈gX X.stack,b∈X.env.locals::X.fs:=λb hb=>by
 rcases I.ok.stk with e|⟨e,hf⟩
 .rw[e]at hb;exact Jd _ hb
 .rw[e]at hb;unfold gX at hb;rw[JA,hf]at hb;exact hb
theorem aC.stkFree(I:aC X gV σ H s):∀b∈gX X.stack,H b=none:=λb hb=>by
 rcases IN.mp (I.stkSub b hb)with e|hb
 .rw[e];exact I.free
 .obtain⟨_,o,ho,_⟩:=I.ok.funs.mem hb;exact I.E3.free b o ho (I.ok.frf b hb) λz=>I.ok.exfs b z hb
theorem aC.step{g':Array GL}{t':Nat}{d':Drawn}{ch:List Addr}(I:aC X gV σ H s)
  (hch:∀b∈ch,(b∈X.ex\/X.s₀.heap.objs.size<=b)/\b≠X.env.locals/\(∀x c,X.env.cells.lookup x=some c->c≠b)/\∀p∈X.pn++gV,p.1≠b)
  (keep:∀b o,b≠X.env.locals->b∉X.fs->b∉ch->s.heap.get? b=some o->H b=none->h'.get? b=some o)
  (slot:∀b o,b≠X.env.locals->b∈X.fs->b∉ch->s.heap.get? b=some o->H b=none->∃sl,h'.get? b=some {o with slots:=sl}) (free:∀b o,b∉ch->s.heap.get? b=some o->H b=none->H' b=none)
  (there:∀b o,b∉ch->s.heap.get? b=some o->∃o',h'.get? b=some o')
  (tups:∀b xs,H b=some (.tup xs)->H' b=some (.tup xs)) (frzs:∀b o u,H b=some (.frz o u)->H' b=some (.frz o u)) (tbls:∀b ps,H b=some (.tbl ps)->∃more,H' b=some (.tbl (ps++more)))
  (ns:∀m,s.heap.Ns X.env.locals m->h'.Ns X.env.locals m) (hok:iz X.prog X.w H' h') (hg:GV g'):
  aC X gV σ H' {s with heap:=h',gens:=g',drawn:=d',toks:=t'}:=by
 have neL:∀b o,X.s₀.heap.get? b=some o->b≠X.env.locals:=λb o e=>Ke (Ki (Fk e) I.ok.above);have neC:∀b o,X.s₀.heap.get? b=some o->b∉X.ex->b∉ch:=λb o e hx hb=>by
  rcases(hch b hb).1 with z|z
  .exact hx z
  .exact Fb (Ki (Fk e) z) (Kj _)
 have cellK:∀x c,X.env.cells.lookup x=some c->∀v,s.heap.IsCell c v->h'.IsCell c v:=λx c e v ⟨o,ho,hd⟩=>by
  have nch:c∉ch:=λz=>(hch c z).2.2.1 x c e rfl
  by_cases hc:c∈X.fs
  .obtain⟨sl,q⟩:=slot c o (I.cne x c e) hc nch ho (I.freeC x c e);exact⟨_,q,hd⟩
  .exact⟨o,keep c o (I.cne x c e) hc nch ho (I.freeC x c e),hd⟩
 refine⟨I.ok,I.os,hg,⟨λb o e n hb hx=>?_,λb o e n hb hx=>?_,λb o e n hx=>?_,λb o e hx=>?_,λb xs e=>tups b xs (I.E3.tups b xs e),λb o xs e=>frzs b o xs (I.E3.frzs b o xs e),λb ps e=>?_⟩,?_,λx c e=>?_,?_,λx c e=>?_,λp hp=>?_,hok,I.len⟩
 .exact keep b o (neL b o e) hb (neC b o e hx) (I.E3.keep b o e n hb hx) (I.E3.free b o e n hx)
 .obtain⟨sl,e1⟩:=I.E3.slot b o e n hb hx;obtain⟨sl',e2⟩:=slot b _ (neL b o e) hb (neC b o e hx) e1 (I.E3.free b o e n hx);exact⟨sl',e2⟩
 .obtain⟨o',e1⟩:=I.E3.there b o e hx;exact free b o' (neC b o e hx) e1 (I.E3.free b o e n hx)
 .obtain⟨o',e1⟩:=I.E3.there b o e hx;exact there b o' (neC b o e hx) e1
 .obtain⟨m1,e1⟩:=I.E3.tbls b ps e;obtain⟨m2,e2⟩:=tbls b _ e1;exact⟨m1++m2,by rw[e2,Array.append_assoc]⟩
 .obtain⟨m,hn,hl⟩:=I.loc;refine⟨m,ns m hn,λi x v e1 e2 e3=>?_⟩;obtain⟨u,r,l⟩:=hl i x v e1 e2 e3;refine⟨u,r,?_⟩
  rcases l with l|⟨k,c,e,z⟩
  .exact .inl l
  .exact .inr ⟨k,c,e,cellK x c e _ z⟩
 .obtain⟨v,z⟩:=I.cell x c e;exact⟨v,cellK x c e v z⟩
 .obtain⟨m,⟨o,_,_,ho,_⟩,_⟩:=I.loc;exact free _ o (λz=>(hch _ z).2.1 rfl) ho I.free
 .obtain⟨v,o,ho,hd⟩:=I.cell x c e;exact free c o (λz=>(hch c z).2.2.1 x c e rfl) ho (I.freeC x c e)
 .obtain⟨e,n,ne,nf,d⟩:=I.pin p hp;have nch:p.1∉ch:=λz=>(hch p.1 z).2.2.2 p hp rfl;exact⟨keep p.1 p.2 ne nf nch e n,free p.1 p.2 nch e n,ne,nf,d⟩
theorem aC.un{t':Nat}(I:aC X gV σ H s)(u:Un X.fs [] H H' s.heap h')(hok:iz X.prog X.w H' h'):aC X gV σ H' {s with heap:=h',toks:=t'}:=by
 obtain⟨m,⟨o,es,ep,ho,r⟩,_⟩:=id I.loc;obtain⟨sl,hL⟩:=u.any ho I.free (by simp);exact I.step (g':=s.gens) (d':=s.drawn) (ch:=[]) (λ_ z=>nomatch z) (λb o _ hb _ e n=>u.keep b o e n hb (by simp)) (λb o _ hb _ e n=>u.slot b o e n hb (by simp)) (λb o _ e n=>u.free b o e n (by simp)) (λb o _ e=>u.there b o e (by simp)) u.tups u.frzs u.tbls (λm' hm=>by
  obtain⟨o',es',ep',ho',r'⟩:=hm;rw[ho]at ho';cases ho';exact⟨_,es',ep',hL,r'⟩) hok I.bare
theorem aC.call{g':Array GL}{t':Nat}{d':Drawn}{ch:List Addr}(I:aC X gV σ H s)(u:Un (gX X.stack) ch H H' s.heap h')(hok:iz X.prog X.w H' h')(hg:GV g')
  (hch:∀b∈ch,(b∈X.ex\/X.s₀.heap.objs.size<=b)/\b≠X.env.locals/\(∀x c,X.env.cells.lookup x=some c->c≠b)/\∀p∈X.pn++gV,p.1≠b):
  aC X gV σ H' {s with heap:=h',gens:=g',drawn:=d',toks:=t'}:=by
 obtain⟨m,⟨o,es,ep,ho,r⟩,_⟩:=id I.loc;obtain⟨sl,hL⟩:=u.any ho I.free λz=>(hch _ z).2.1 rfl;exact I.step (ch:=ch) hch (λb o hL hb hc e n=>u.keep b o e n (λz=>(IN.mp (I.stkSub b z)).elim hL hb) hc) (λb o _ _ hc e n=>u.any e n hc) (λb o hc e n=>u.free b o e n hc) (λb o hc e=>u.there b o e hc) u.tups u.frzs u.tbls (λm' hm=>by
  obtain⟨o',es',ep',ho',r'⟩:=hm;rw[ho]at ho';cases ho';exact⟨_,es',ep',hL,r'⟩) hok hg
theorem aC.turned{t':Nat}{it:Addr}(I:aC X gV σ H s)(k:∀b o,b≠it->s.heap.get? b=some o->h'.get? b=some o)(hn:H it=none)(hL:it≠X.env.locals)
  (h1:it∈X.ex\/X.s₀.heap.objs.size<=it) (h2:∀x c,X.env.cells.lookup x=some c->c≠it) (h3:∀p∈X.pn++gV,p.1≠it):aC X gV σ H {s with heap:=h',toks:=t'}:=by
 have nit:∀b u,H b=some u->b≠it:=λb u e z=>by rw[z,hn]at e;cases e
 refine I.step (g':=s.gens) (d':=s.drawn) (ch:=[it]) (λb hb=>?_) (λb o _ _ hc e _=>k b o (λz=>hc (by simp[z])) e) (λb o _ _ hc e _=>⟨o.slots,k b o (λz=>hc (by simp[z])) e⟩) (λ_ _ _ _ n=>n)
  (λb o hc e=>⟨o,k b o (λz=>hc (by simp[z])) e⟩) (λ_ _ e=>e) (λ_ _ _ e=>e) (λb ps e=>⟨#[],by rw[e];simp⟩) (λm hm=>?_) (λb u e=>?_) I.bare
 .have e:b=it:=by simpa using hb
  subst e;exact⟨h1,hL,h2,h3⟩
 .obtain⟨o,es,ep,ho,r⟩:=hm;exact⟨o,es,ep,k _ o (Ne.symm hL) ho,r⟩
 .refine(I.hok b u e).stay (λc v hc q=>k c v ?_ q) (λ_ q=>q) λ_ _ q=>q
  rcases hc with z|z
  .rw[z];exact nit b u e
  .exact nit c _ z
theorem aC.tok(I:aC X gV σ H s)(t:Nat):aC X gV σ H {s with toks:=t}:=I.un (h':=s.heap) (t':=t) Un.refl I.hok
theorem aC.kept{t':Nat}(I:aC X gV σ H s)(k:∀b u,s.heap.get? b=some u->h'.get? b=some u):aC X gV σ H {s with heap:=h',toks:=t'}:=I.un (Un.kept k) (I.hok.kept k)
theorem aC.laid{a:Addr}{o:HO}{t':Nat}(I:aC X gV σ H s)(k:∀b u,s.heap.get? b=some u->h'.get? b=some u)(hp:s.heap.objs.size<=a)(new:bF X.prog X.w (upd H a o) h' a o):
  aC X gV σ (upd H a o) {s with heap:=h',toks:=t'}:=I.un (Un.laid k hp (I.hok.fresh hp)) (I.hok.laid k hp new)
theorem aC.write{x e:Addr}{o:HO}{t':Nat}(I:aC X gV σ H s)(mu:Ei (H x))(he:e=x\/H e=some (.own x))(k:∀b u,b≠e->s.heap.get? b=some u->h'.get? b=some u)(heo:∃u,h'.get? e=some u)
  (new:bF X.prog X.w (upd H x o) h' x o):aC X gV σ (upd H x o) {s with heap:=h',toks:=t'}:=I.un (Un.write mu he k heo) (I.hok.write mu he k heo new)
theorem aC.pins_of{pins':Fe}(I:aC X gV σ H s)(h:∀p∈pins',s.heap.get? p.1=some p.2/\H p.1=none/\p.1≠X.env.locals/\p.1∉X.fs/\∀v,p.2.data≠.cell v):aC X pins' σ H s:=
 ⟨I.ok,I.os,I.bare,I.E3,I.loc,I.cell,I.free,I.freeC,λp hp=>(Jf.mp hp).elim (λz=>I.pin p (JB _ z)) (h p),I.hok,I.len⟩
theorem mo{N:List Str}(hN:N.Nodup){i j:Nat}{x:Str}(a:N[i]? =some x)(b:N[j]? =some x):i=j:=by obtain⟨h1,e1⟩:=Je.mp a;obtain⟨h2,e2⟩:=Je.mp b;exact(List.getElem_inj hN).mp (e1.trans e2.symm)
theorem jZ{M:Model}{A:Fz}{E:Fd}{i:Nat}{x:Str}{v:V}{u:Value}{Q:Unit->Fi->Prop}(I:aC X gV σ H s)(hN:X.N.Nodup)(hi:X.N[i]? =some x)(hx:BF X.env.scope x)(r:RelV v u)
  (h:∀s',aC X gV (σ.set i (some v)) H s'->(∃a,Gq a s.heap s'.heap/\(a=X.env.locals\/X.env.cells.lookup x=some a))->Q () s') (hf:X.fn x=true\/X.env.scope.names.lookup x=some .local:=by first|exact .inl rfl|exact .inr rfl|assumption):Fs M A (storeName X.env x u) Q E s:=by
 obtain⟨m,hn,hl⟩:=id I.loc;have hcls:(X.env.scope.kind == .class||(X.env.scope.kind == .module&&X.env.locals != X.env.globals))=false:=by rw[I.ok.kind];rfl
 have hiσ:i<σ.length:=by rw[I.len];exact(Je.mp hi).1
 have cne:=I.cne;have tracked:∀{a:Addr}{h':Fw},(∃o,s.heap.get? a=some o/\H a=none)->Gq a s.heap h'->iz X.prog X.w H h':=λ{a h'} ha hs b ob e=>by
  obtain⟨_,_,hfree⟩:=ha;refine(I.hok b ob e).stay (λc w' hc q=>(hs.2 c ?_).trans q) (λ_ q=>q) λ_ _ q=>q;rintro rfl
  rcases hc with rfl|hc
  .rw[hfree]at e;cases e
  .rw[hfree]at hc;cases hc
 rcases hx with hk|hk
 .refine wpAny_storeName_local hk hn (λh' hn' hs=>?_) hcls;obtain⟨oL,_,_,hoL,_⟩:=id hn;refine h _ ⟨I.ok,I.os,I.bare,⟨λb o e n hb hx=>?_,λb o e n hb hx=>?_,I.E3.free,λb o e hx=>?_,I.E3.tups,I.E3.frzs,I.E3.tbls⟩,⟨_,hn',λj y v' e1 e2 e3=>?_⟩,λy c e=>?_,I.free,I.freeC,λp hp=>?_,tracked ⟨oL,hoL,I.free⟩ hs,by simpa using I.len⟩ ⟨_,hs,.inl rfl⟩
  .exact(hs.2 b (Ke (Ki (Fk e) I.ok.above))).trans (I.E3.keep b o e n hb hx)
  .obtain⟨sl,e1⟩:=I.E3.slot b o e n hb hx;exact⟨sl,(hs.2 b (Ke (Ki (Fk e) I.ok.above))).trans e1⟩
  .obtain⟨o',e1⟩:=I.E3.there b o e hx;exact⟨o',(hs.2 b (Ke (Ki (Fk e) I.ok.above))).trans e1⟩
  .by_cases hj:j=i
   .subst hj;rw[hi]at e1;cases e1;rw[JL hiσ]at e2;cases e2;exact⟨u,r,.inl ⟨hk,by simp⟩⟩
   .rw[JM (Ne.symm hj)]at e2;obtain⟨u',r',q⟩:=hl j y v' e1 e2 e3;refine⟨u',r',?_⟩
    rcases q with⟨k,e⟩|⟨k,c,e,z⟩
    .refine .inl ⟨k,?_⟩;have:y≠x:=λe=>hj (mo hN e1 (e▸hi));simp[this,e]
    .exact .inr ⟨k,c,e,z.sameBut hs (cne y c e)⟩
  .obtain⟨w',z⟩:=I.cell y c e;exact⟨w',z.sameBut hs (cne y c e)⟩
  .obtain⟨e,n,ne,nf,d⟩:=I.pin p hp;exact⟨(hs.2 p.1 ne).trans e,n,ne,nf,d⟩
 .have hfn:X.fn x=true:=by
   rcases hf with z|z
   .exact z
   .rw[z]at hk;cases hk
  obtain⟨c,hc⟩:=I.ok.has x (.inl hk);obtain⟨w',z⟩:=I.cell x c hc;refine wpAny_storeName_cell I.ok.kind hk hc z (λh' hc' hs=>?_);obtain⟨oc,hoc,hocd⟩:=id z;refine h {s with heap:=h'} ⟨I.ok,I.os,I.bare,⟨λb o e n hb hx=>?_,λb o e n hb hx=>?_,I.E3.free,λb o e hx=>?_,I.E3.tups,I.E3.frzs,I.E3.tbls⟩,⟨m,hn.sameBut hs (Ne.symm (cne x c hc)),λj y v' e1 e2 e3=>?_⟩,λy c' e=>?_,I.free,I.freeC,λp hp=>?_,tracked ⟨oc,hoc,I.freeC x c hc⟩ hs,by simpa using I.len⟩ ⟨c,hs,.inr hc⟩
  .exact(hs.2 b (Ke (Ki (Fk e) (I.ok.cab x c hfn hc)))).trans (I.E3.keep b o e n hb hx)
  .obtain⟨sl,e1⟩:=I.E3.slot b o e n hb hx;exact⟨sl,(hs.2 b (Ke (Ki (Fk e) (I.ok.cab x c hfn hc)))).trans e1⟩
  .obtain⟨o',e1⟩:=I.E3.there b o e hx;exact⟨o',(hs.2 b (Ke (Ki (Fk e) (I.ok.cab x c hfn hc)))).trans e1⟩
  .by_cases hj:j=i
   .subst hj;rw[hi]at e1;cases e1;rw[JL hiσ]at e2;cases e2;exact⟨u,r,.inr ⟨.inl hk,c,hc,hc'⟩⟩
   .rw[JM (Ne.symm hj)]at e2;obtain⟨u',r',q⟩:=hl j y v' e1 e2 e3;refine⟨u',r',?_⟩
    rcases q with q|⟨k,c',e,z'⟩
    .exact .inl q
    .refine .inr ⟨k,c',e,z'.sameBut hs ?_⟩;rintro rfl;exact hj (mo hN e1 (I.ok.inj _ _ _ e hc▸hi))
  .by_cases hcc:c'=c
   .subst hcc;exact⟨_,hc'⟩
   .obtain⟨w2,z2⟩:=I.cell y c' e;exact⟨w2,z2.sameBut hs hcc⟩
  .obtain⟨e,n,ne,nf,d⟩:=I.pin p hp;refine⟨(hs.2 p.1 ?_).trans e,n,ne,nf,d⟩;intro q;rw[q,hoc]at e;have q':oc=p.2:=Option.some.inj e;exact d w' (by rw[<-q'];exact hocd)
theorem fc{M:Model}{A:Fz}{E:Fd}{i:Nat}{x:Str}{v:V}{u:Value}{Q:Unit->Fi->Prop}(I:aC X gV σ H s)(hN:X.N.Nodup)(hi:X.N[i]? =some x)(hx:BF X.env.scope x)(r:RelV v u)
  (h:∀s',aC X gV (σ.set i (some v)) H s'->Q () s') (hf:X.fn x=true\/X.env.scope.names.lookup x=some .local:=by first|exact .inl rfl|exact .inr rfl|assumption):Fs M A (storeName X.env x u) Q E s:=
 jZ I hN hi hx r (λs' I' _=>h s' I') hf
theorem aC.call'{s':Fi}{ch:List Addr}(I:aC X gV σ H s)(ho:s'.os=s.os)(u:Un (gX X.stack) ch H H' s.heap s'.heap)(hok:iz X.prog X.w H' s'.heap)(hg:GV s'.gens)
  (hch:∀b∈ch,(b∈X.ex\/X.s₀.heap.objs.size<=b)/\b≠X.env.locals/\(∀x c,X.env.cells.lookup x=some c->c≠b)/\∀p∈X.pn++gV,p.1≠b):aC X gV σ H' s':=by
 obtain⟨h',g',d',t',o'⟩:=s';have e:o'=s.os:=ho;subst e;exact I.call (g':=g') (t':=t') (d':=d') u hok hg hch
end
abbrev XK:=Value->Option Addr->Hp->Prop
abbrev St:=List (Option V)
abbrev oR(a:Addr):Option V:=some (.ref a)
abbrev oJ(a:Int):Option V:=some (.int a)
abbrev oT(a:Str):Option V:=some (.str a)
abbrev VK:=V->Hp->Prop
abbrev TE:=St->Hp->VK->Prop
abbrev TT:=St->Hp->(Bool->Hp->Prop)->Prop
abbrev TA:=St->Hp->(List V->Hp->Prop)->Prop
structure cD where
 nx:St->Hp->Prop
 rt:VK
 bk:St->Hp->Prop:=λ_ _=>False
 ct:St->Hp->Prop:=λ_ _=>False
abbrev TS:=cD->St->Hp->Prop
def EP(X:Cx)(gV:Fe)(σ:St)(Q:VK)(u:Value)(s':Fi):Prop:= ∃v H',aC X gV σ H' s'/\RelV v u/\Q v H'
def TP(X:Cx)(gV:Fe)(σ:St)(Q:Bool->Hp->Prop)(b:Bool)(s':Fi):Prop:= ∃H',aC X gV σ H' s'/\Q b H'
def AP(X:Cx)(gV:Fe)(σ:St)(Q:List V->Hp->Prop)(us:List Value)(s':Fi):Prop:= ∃vs H',aC X gV σ H' s'/\aL vs us/\Q vs H'
def SP(X:Cx)(gV:Fe)(D:cD)(f:Flow)(s':Fi):Prop:=
 match f with
 | .next=>∃σ' H',aC X gV σ' H' s'/\D.nx σ' H'
 | .brk=>∃σ' H',aC X gV σ' H' s'/\D.bk σ' H'
 | .cont=>∃σ' H',aC X gV σ' H' s'/\D.ct σ' H'
 | .ret u=>∃v σ' H',aC X gV σ' H' s'/\RelV v u/\D.rt v H'
def PE(X:Cx)(e:FA)(t:TE):Prop:=
 ∀(gV:Fe)(s:Fi)(σ:St)(H:Hp)(Q:VK),aC X gV σ H s->t σ H Q->Fs (Fu X.prog X.w) X.A (FF e X.env) (EP X gV σ Q) X.xe s
def PT(X:Cx)(e:FA)(t:TT):Prop:=
 ∀(gV:Fe)(s:Fi)(σ:St)(H:Hp)(Q:Bool->Hp->Prop),aC X gV σ H s->t σ H Q->Fs (Fu X.prog X.w) X.A (Iz e X.env (FF e X.env)) (TP X gV σ Q) X.xe s
def PW(X:Cx)(e:FA)(t:TT):Prop:=
 ∀(whole:Sem Value)(gV:Fe)(s:Fi)(σ:St)(H:Hp)(Q:Bool->Hp->Prop),aC X gV σ H s->t σ H Q->Fs (Fu X.prog X.w) X.A (Iz e X.env whole) (TP X gV σ Q) X.xe s
theorem PW.pt{X:Cx}{e:FA}{t:TT}(h:PW X e t):PT X e t:=h _
def PA(X:Cx)(es:List FA)(t:TA):Prop:=
 ∀(pos:GO)(gV:Fe)(s:Fi)(σ:St)(H:Hp)(Q:List V->Hp->Prop),aC X gV σ H s->t σ H Q->Fs (Fu X.prog X.w) X.A (spliced (FC pos (Fj es X.env))) (AP X gV σ Q) X.xe s
def PS(X:Cx)(st:FG)(t:TS):Prop:=
 ∀(gV:Fe)(s:Fi)(σ:St)(H:Hp)(D:cD),aC X gV σ H s->t D σ H->Fs (Fu X.prog X.w) X.A (exec st X.env) (SP X gV D) X.xe s
def mU(X:Cx)(st:List FG)(t:TS):Prop:=
 ∀(gV:Fe)(s:Fi)(σ:St)(H:Hp)(D:cD),aC X gV σ H s->t D σ H->Fs (Fu X.prog X.w) X.A (execs st X.env) (SP X gV D) X.xe s
theorem bJ{α:Type}{t:Sem α}{Q Q':α->Fi->Prop}{M:Model}{A:Fz}{E:Fd}{s:Fi}(h:Fs M A t Q E s)(hQ:∀a s,Q a s->Q' a s):Fs M A t Q' E s:=FM h hQ λ_ _ x=>x
section
variable{X:Cx}
theorem bin{a b:FA}{ta tb:TE}(ha:PE X a ta)(hb:PE X b tb){gV:Fe}{s:Fi}{σ:St}{H:Hp}{R:V->V->Hp->Prop}(I:aC X gV σ H s)(h:ta σ H λx H1=>tb σ H1 λy H2=>R x y H2)
  {α:Type} {Q:α->Fi->Prop} {f:Value->Value->Sem α}
  (hf:∀v u s2 x y H2,aC X gV σ H2 s2->RelV x v->RelV y u->R x y H2->Fs (Fu X.prog X.w) X.A (f v u) Q X.xe s2):
  Fs (Fu X.prog X.w) X.A (FF a X.env) (λv s₁=>Fs (Fu X.prog X.w) X.A (FF b X.env) (λu s₂=>Fs (Fu X.prog X.w) X.A (f v u) Q X.xe s₂) X.xe s₁) X.xe s:=by
 refine bJ (ha gV s σ H _ I h) λv s1 ⟨x,H1,I1,r1,q1⟩=>?_;refine bJ (hb gV s1 σ H1 _ I1 q1) λu s2 ⟨y,H2,I2,r2,q2⟩=>?_;exact hf v u s2 x y H2 I2 r1 r2 q2
def Ek(i:Nat):TE:=λσ H Q=>∃v,σ[i]? =some (some v)/\Q v H
def tC(v:V):TE:=λ_ H Q=>Q v H
theorem At{i:Nat}{x:Str}{pos:GO}(hN:X.N[i]? =some x)(hv:Eh X.env.scope x)(hd:(x == ("__debug__":Str))=false:=by decide)(hcd:(x == ("__classdict__":Str))=false:=by decide):PE X (.Name x pos) (Ek i):=by
 intro gV s σ H Q I h;obtain⟨v,e,h⟩:=h;obtain⟨m,hn,hl⟩:=I.loc;obtain⟨u,r,l⟩:=hl i x v hN e hv;have fin:EP X gV σ Q u s:=⟨v,H,I,r,h⟩
 rcases l with⟨hk,hm⟩|⟨hk,c,hc,hcell⟩
 .exact wpAny_Name (wpAny_loadName_local I.ok.kind hk hn hm fin) hd
 .rcases hk with hk|hk
  .exact wpAny_Name (wpAny_loadName_cell I.ok.kind hk hc hcell fin) hd
  .exact wpAny_Name (wpAny_loadName_free I.ok.kind hk hc hcell fin hcd) hd
theorem ag{i j pos}:PE X (.Constant (.int i) j pos) (tC (.int i)):=λ_ _ _ H _ I h=>wpAny_Constant_int ⟨.int i,H,I.tok _,⟨_,rfl⟩,h⟩
theorem dA{b j pos}:PE X (.Constant (.bool b) j pos) (tC (.bl b)):=λ_ _ _ H _ I h=>Constant_bool ⟨.bl b,H,I,rfl,h⟩
theorem io{j pos}:PE X (.Constant .none j pos) (tC .non):=λ_ _ _ H _ I h=>Constant_none ⟨.non,H,I,rfl,h⟩
theorem aX{x j pos}:PE X (.Constant (.str x) j pos) (tC (.str x)):=λ_ _ _ H _ I h=>Calls.Constant_str ⟨.str x,H,I.tok _,⟨_,rfl⟩,h⟩
def Gl(X:Cx)(x:Str):Prop:=X.env.kindOf x=some .globalImplicit
theorem fN{E:Fd}{gV:Fe}{s:Fi}{σ:St}{H:Hp}{x:Str}{u:Value}{pos:GO}{Q:Fd}(I:aC X gV σ H s)(hg:Gl X x)(hm:X.mg x=some u)(h:Q u s)
  (hd:(x == ("__debug__":Str))=false:=by decide):Fs (Fu X.prog X.w) X.A (FF (.Name x pos) X.env) Q E s:=
 Hj I.ok.kind hg (Calls.loadGlobal_global (by rw[I.ok.glob];exact I.mod.glob.keeps I.bk) hm h) hd
theorem eE{E:Fd}{gV:Fe}{s:Fi}{σ:St}{H:Hp}{x:Str}{u:Value}{pos:GO}{Q:Fd}(I:aC X gV σ H s)(hg:Gl X x)(hm:X.mg x=none)(hv:Fv x=some u)(h:Q u s)
  (hn:x≠"__name__":=by decide) (hd:(x == ("__debug__":Str))=false:=by decide):Fs (Fu X.prog X.w) X.A (FF (.Name x pos) X.env) Q E s:=by
 obtain⟨mb,h1,h2⟩:=I.mod.blt;exact Hj I.ok.kind hg (Calls.loadGlobal_builtin (by rw[I.ok.glob];exact I.mod.glob.keeps I.bk) hm (by rw[I.ok.blt];exact h1.keeps I.bk) ((h2 x hn).trans hv) h) hd
theorem vt{x:Str}{v:V}{u:Value}{pos:GO}(hg:Gl X x)(hm:X.mg x=some u)(r:RelV v u)(hd:(x == ("__debug__":Str))=false:=by decide):PE X (.Name x pos) (tC v):=
 λ_ _ _ H _ I h=>fN I hg hm ⟨v,H,I,r,h⟩ hd
theorem pw{x:Str}{v:V}{u:Value}{pos:GO}(hg:Gl X x)(hm:X.mg x=none)(hv:Fv x=some u)(r:RelV v u)(hn:x≠"__name__":=by decide)(hd:(x == ("__debug__":Str))=false:=by decide):PE X (.Name x pos) (tC v):=
 λ_ _ _ H _ I h=>eE I hg hm hv ⟨v,H,I,r,h⟩ hn hd
variable{a b:FA}{ta tb:TE}{pos:GO}
def tB(t:TE):TT:=λσ H Q=>t σ H λx H1=>∃c,x=.bl c/\Q c H1
variable{tA tB':TT}{rest:List FA}
def Ah(t u:TT):TT:=λσ H Q=>t σ H λc H1=>if c=true then u σ H1 Q else Q false H1
def Ed(t u:TT):TT:=λσ H Q=>t σ H λc H1=>if c=true then Q true H1 else u σ H1 Q
def sS(t:TT):TT:=λσ H Q=>t σ H λc H1=>Q (!c) H1
theorem eQ(ha:PT X a tA):PW X (.BoolOp .And [a] pos) tA:=by
 intro wh gV s σ H Q I h;refine isTrue_and (bJ (ha gV s σ H Q I h) λc s1 e=>?_);cases c with
 |true=>exact isTrue_and_nil e
 |false=>exact e
theorem cI(ha:PT X a tA):PW X (.BoolOp .Or [a] pos) tA:=by
 intro wh gV s σ H Q I h;refine isTrue_or (bJ (ha gV s σ H Q I h) λc s1 e=>?_);cases c with
 |false=>exact isTrue_or_nil e
 |true=>exact e
theorem gc(ha:PT X a tA)(hb:PW X (.BoolOp .And (b::rest) pos) tB'):PW X (.BoolOp .And (a::b::rest) pos) (Ah tA tB'):=by
 intro wh gV s σ H Q I h;refine isTrue_and (bJ (ha gV s σ H _ I h) λc s1 ⟨H1,I1,q1⟩=>?_);cases c with
 |true=>exact hb wh gV s1 σ H1 Q I1 q1
 |false=>exact⟨H1,I1,q1⟩
theorem dG(ha:PT X a tA)(hb:PW X (.BoolOp .Or (b::rest) pos) tB'):PW X (.BoolOp .Or (a::b::rest) pos) (Ed tA tB'):=by
 intro wh gV s σ H Q I h;refine isTrue_or (bJ (ha gV s σ H _ I h) λc s1 ⟨H1,I1,q1⟩=>?_);cases c with
 |true=>exact⟨H1,I1,q1⟩
 |false=>exact hb wh gV s1 σ H1 Q I1 q1
theorem bw(ha:PT X a tA):PT X (.UnaryOp .Not a pos) (sS tA):=by intro gV s σ H Q I h;exact isTrue_not (ha gV s σ H (λc H1=>Q (!c) H1) I h)
theorem df{op}{t:TE}(h:PE X a t):PE X (.BoolOp op [a] pos) t:=λgV s σ H Q I hw=>BoolOp_one (h gV s σ H Q I hw)
def En(t:TT)(ta tb:TE):TE:=λσ H Q=>t σ H λc H1=>if c=true then ta σ H1 Q else tb σ H1 Q
theorem gf{c:FA}(hc:PT X c tA)(ha:PE X a ta)(hb:PE X b tb):PE X (.IfExp c a b pos) (En tA ta tb):=by
 intro gV s σ H Q I h;refine wpAny_IfExp (bJ (hc gV s σ H _ I h) λd s1 ⟨H1,I1,q1⟩=>?_);cases d with
 |true=>exact ha gV s1 σ H1 Q I1 q1
 |false=>exact hb gV s1 σ H1 Q I1 q1
end
def aM(K:Frag)(H:Hp)(a:Addr)(xs:List V):Prop:=
 Rd H a (.lst xs)\/
  ∃(o:Obj)(its:Array Value)(n:Nat),K.lookup a=some o/\o.cls=.type "list"/\o.dict=none/\o.data=.seq its n/\its.size<=sizeLine/\aL xs its.toList
def dC(K:Frag)(H:Hp)(a:Addr)(xs:List V):Prop:=
 Rd H a (.tup xs)\/
  ∃(o:Obj)(its:Array Value)(n:Nat),K.lookup a=some o/\o.cls=.type "tuple"/\o.data=.seq its n/\its.size<=sizeLine/\aL xs its.toList
def ET:Value->Option V
 | .none=>some .non
 | .bool b=>some (.bl b)
 | .int i _=>some (.int i)
 | .str x _=>some (.str x)
 | .bytes b _=>some (.byt b)
 | .float b _=>some (.flt b)
 | .ref a=>some (.ref a)
 | .type n=>some (.ty n)
 |_=>none
theorem RelV.abs{x:V}{u:Value}(r:RelV x u):ET u=some x:=by
 cases x with
 |non=>cases r;rfl
 |bl _=>cases r;rfl
 |int _=>obtain⟨t,rfl⟩:=r;rfl
 |str _=>obtain⟨t,rfl⟩:=r;rfl
 |byt _=>obtain⟨t,rfl⟩:=r;rfl
 |flt _=>obtain⟨t,rfl⟩:=r;rfl
 |ref _=>cases r;rfl
 |ty _=>cases r;rfl
theorem RelV.inj{x y:V}{u:Value}(r:RelV x u)(q:RelV y u):x=y:=Option.some.inj (r.abs.symm.trans q.abs)
theorem aL.inj:∀{xs ys:List V}{us:List Value},aL xs us->aL ys us->xs=ys
 |_,_,_,.nil,.nil=>rfl
 |_,_,_,.cons r t,.cons r' t'=>by rw[r.inj r',aL.inj t t']
section
variable{X:Cx}{gV:Fe}{σ:St}{H:Hp}{s:Fi}{a:Addr}{xs ys:List V}
theorem aM.of{K:Frag}(h:H a=some (.lst xs)):aM K H a xs:=.inl (.inl h)
theorem dC.of{K:Frag}(h:H a=some (.tup xs)):dC K H a xs:=.inl (.inl h)
theorem aC.list(I:aC X gV σ H s)(h:aM X.K H a xs):∃its:List Value,aL xs its/\PlainL s.heap a its.toArray/\xs.length<=sizeLine:=by
 rcases h with h|⟨o,its,n,hk,hc,hd,hs,hz,r⟩
 .obtain⟨z,its,n,r,e⟩:=h.ok I.hok;exact⟨its,r,⟨_,n,e,rfl,rfl,rfl⟩,z⟩
 .refine⟨its.toList,r,⟨o,n,I.kIn a o hk,hc,hd,by simpa using hs⟩,?_⟩;have e:=r.length;simp only[KQ]at e;omega
theorem aC.tuple(I:aC X gV σ H s)(h:dC X.K H a xs):∃its:List Value,aL xs its/\IsTup s.heap a its.toArray/\xs.length<=sizeLine:=by
 rcases h with h|⟨o,its,n,hk,hc,hs,hz,r⟩
 .obtain⟨z,its,r,p⟩:=h.ok I.hok;exact⟨its,r,p,z⟩
 .refine⟨its.toList,r,⟨o,I.kIn a o hk,hc,n,by simpa using hs⟩,?_⟩;have e:=r.length;simp only[KQ]at e;omega
theorem aC.list_inj(I:aC X gV σ H s)(h:aM X.K H a xs)(h':aM X.K H a ys):xs=ys:=by
 obtain⟨its,r,⟨o,n,e,_,_,d⟩,_⟩:=I.list h;obtain⟨its',r',⟨o',n',e',_,_,d'⟩,_⟩:=I.list h';rw[e]at e';cases e';rw[d]at d';injection d' with d1 _;have:its=its':=by simpa using congrArg Array.toList d1
 subst this;exact r.inj r'
end
abbrev Cx.wish(X:Cx)(E:Fd):Cx:={X with xe:=E}
abbrev Cx.nox(X:Cx):Cx:=X.wish λ_ _=>False
theorem Cx.Ok.wish{X:Cx}(ok:X.Ok)(E:Fd):(X.wish E).Ok:=
 ⟨ok.mod,ok.kind,ok.glob,ok.blt,ok.above,ok.inj,ok.has,ok.cab,ok.hd,ok.frames,ok.stk,ok.exf,ok.bs,ok.bsz,ok.noex,ok.exfs,ok.funs,ok.frf⟩
theorem Cx.Ok.unwish{X:Cx}{E:Fd}(ok:(X.wish E).Ok):X.Ok:=
 ⟨ok.mod,ok.kind,ok.glob,ok.blt,ok.above,ok.inj,ok.has,ok.cab,ok.hd,ok.frames,ok.stk,ok.exf,ok.bs,ok.bsz,ok.noex,ok.exfs,ok.funs,ok.frf⟩
section
variable{X:Cx}{gV:Fe}{σ:St}{H:Hp}{s:Fi}{E:Fd}
theorem aC.wish(I:aC X gV σ H s)(E:Fd):aC (X.wish E) gV σ H s:=⟨I.ok.wish E,I.os,I.bare,I.E3,I.loc,I.cell,I.free,I.freeC,I.pin,I.hok,I.len⟩
theorem aC.unwish(I:aC (X.wish E) gV σ H s):aC X gV σ H s:=⟨I.ok.unwish,I.os,I.bare,I.E3,I.loc,I.cell,I.free,I.freeC,I.pin,I.hok,I.len⟩
theorem SP.unwish{D:cD}{f:Flow}{s':Fi}(h:SP (X.wish E) gV D f s'):SP X gV D f s':=by
 cases f with
 |next=>obtain⟨σ',H',I,q⟩:=h;exact⟨σ',H',I.unwish,q⟩
 |brk=>obtain⟨σ',H',I,q⟩:=h;exact⟨σ',H',I.unwish,q⟩
 |cont=>obtain⟨σ',H',I,q⟩:=h;exact⟨σ',H',I.unwish,q⟩
 |ret u=>obtain⟨v,σ',H',I,r,q⟩:=h;exact⟨v,σ',H',I.unwish,r,q⟩
theorem mU.nox{st:List FG}{t:TS}(h:mU X.nox st t):mU X st t:=λgV s σ H D I hw=>
 FM (h gV s σ H D (I.wish _) hw) (λ_ _ q=>q.unwish) λ_ _ z=>False.elim z
end
section
variable{X:Cx}{st:FG}{rest:List FG}{t u:TS}{e:FA}{te:TE}{pos:GO}
def oK:TS:=λD σ H=>D.nx σ H
def bg(t u:TS):TS:=λD σ H=>t {D with nx:=u D} σ H
theorem aI:mU X [] oK:=λ_ _ σ H _ I h=>HM ⟨σ,H,I,h⟩
theorem ae(h1:PS X st t)(h2:mU X rest u):mU X (st::rest) (bg t u):=by
 intro gV s σ H D I h;refine Hw (bJ (h1 gV s σ H {D with nx:=u D} I h) λf s1 q=>?_);cases f with
 |next=>
  obtain⟨σ',H',I',q⟩:=q;exact h2 gV s1 σ' H' D I' q
 |ret v=>exact q
 |brk=>exact q
 |cont=>exact q
theorem am(h1:PS X st t):mU X [st] t:=by
 intro gV s σ H D I h;refine Hw (bJ (h1 gV s σ H D I h) λf s1 q=>?_);cases f with
 |next=>exact HM q
 |ret v=>exact q
 |brk=>exact q
 |cont=>exact q
theorem aC.quiet{gV:Fe}{σ:St}{H:Hp}{s:Fi}(I:aC X gV σ H s):interactive X.env=false:=by simp[interactive,I.ok.kind]
def lO(te:TE):TS:=λD σ H=>te σ H λ_ H1=>D.nx σ H1
theorem iX(he:PE X e te)(hs:HZ e none pos.line X.env=pure false:=by rfl):PS X (.Expr e pos) (lO te):=by intro gV s σ H D I h;exact wpAny_Expr_any (bJ (he gV s σ H _ I h) λv s1 ⟨x,H1,I1,r1,q1⟩=>⟨σ,H1,I1,q1⟩) I.quiet hs
def cp(te:TE):TS:=λD σ H=>te σ H D.rt
theorem aB(he:PE X e te):PS X (.Return (some e) pos) (cp te):=by intro gV s σ H D I h;exact wpAny_Return_some (bJ (he gV s σ H _ I h) λv s1 ⟨x,H1,I1,r1,q1⟩=>⟨x,σ,H1,I1,r1,q1⟩)
def na(c:TT)(t u:TS):TS:=λD σ H=>c σ H λb H1=>if b=true then t D σ H1 else u D σ H1
theorem bf{c:FA}{a b:List FG}{tc:TT}(hc:PT X c tc)(ha:mU X a t)(hb:mU X b u):PS X (.If c a b pos) (na tc t u):=by
 intro gV s σ H D I h;refine wpAny_If (bJ (hc gV s σ H _ I h) λd s1 ⟨H1,I1,q1⟩=>?_);cases d with
 |true=>exact ha gV s1 σ H1 D I1 q1
 |false=>exact hb gV s1 σ H1 D I1 q1
def Ag:TS:=λ_ _ _=>False
theorem ej:PS X st Ag:=λ_ _ _ _ _ _ h=>h.elim
end
abbrev TG:=V->St->Hp->(St->Hp->Prop)->Prop
abbrev zr:=List V->St->Hp->(St->Hp->Prop)->Prop
def PG(X:Cx)(target:FA)(t:TG):Prop:=
 ∀(gV:Fe)(s:Fi)(σ:St)(H:Hp)(v:V)(u:Value)(Q:St->Hp->Prop),aC X gV σ H s->RelV v u->t v σ H Q->
  Fs (Fu X.prog X.w) X.A (Ik target X.env u) (λ_ s'=>∃σ' H',aC X gV σ' H' s'/\Q σ' H') X.xe s
def BE(X:Cx)(ts:List FA)(t:zr):Prop:=
 ∀(gV:Fe)(s:Fi)(σ:St)(H:Hp)(vs:List V)(us:List Value)(Q:St->Hp->Prop),aC X gV σ H s->aL vs us->t vs σ H Q->
  Fs (Fu X.prog X.w) X.A (Ie ((GA ts X.env).map (·.2)) us) (λ_ s'=>∃σ' H',aC X gV σ' H' s'/\Q σ' H') X.xe s
abbrev Bs:=V->V->V->Hp->(Hp->Prop)->Prop
def D4(X:Cx)(t:Bs):Prop:=
 ∀(gV:Fe)(s:Fi)(σ:St)(H:Hp)(o i v:V)(ov iv u:Value)(Q:Hp->Prop),aC X gV σ H s->RelV o ov->RelV i iv->RelV v u->t o i v H Q->
  Fs (Fu X.prog X.w) X.A (setItem ov iv u) (λ_ s'=>∃H',aC X gV σ H' s'/\Q H') X.xe s
section
variable{X:Cx}{pos:GO}
def gName(i:Nat):TG:=λv σ H Q=>Q (σ.set i (some v)) H
theorem de{i:Nat}{x:Str}(hN:X.N.Nodup)(hi:X.N[i]? =some x)(hx:BF X.env.scope x)(hf:X.fn x=true\/X.env.scope.names.lookup x=some .local:=by first|exact .inl rfl|exact .inr rfl|assumption):PG X (.Name x pos) (gName i):=by intro gV s σ H v u Q I r h;exact wpAny_assign_Name (fc I hN hi hx r (λs' I'=>⟨_,H,I',h⟩) hf)
def vP:zr:=λvs σ H Q=>vs=[]/\Q σ H
def iH(t:TG)(u:zr):zr:=λvs σ H Q=>∃v r,vs=v::r/\t v σ H λσ' H'=>u r σ' H' Q
theorem kM:BE X [] vP:=by intro gV s σ H vs us Q I r h;obtain⟨e,h⟩:=h;subst e;cases r;exact assignInOrder_nil ⟨σ,H,I,h⟩
theorem en{e:FA}{es:List FA}{t:TG}{u:zr}(h1:PG X e t)(h2:BE X es u)
  (hs:(GA (e::es) X.env).map (·.2)=Ik e X.env::(GA es X.env).map (·.2):=by rfl):BE X (e::es) (iH t u):=by
 intro gV s σ H vs us Q I r h;obtain⟨v,vr,e1,h⟩:=h;subst e1;cases r with
 |cons r rr=>
  rw[hs];refine Gz (bJ (h1 gV s σ H _ _ _ I r h) λ_ s1 ⟨σ1,H1,I1,q1⟩=>?_);exact h2 gV s1 σ1 H1 _ _ Q I1 rr q1
def ue(K:Frag)(n:Nat)(t:zr):TG:=λv σ H Q=>∃a xs,v=.ref a/\dC K H a xs/\xs.length=n/\t xs σ H Q
theorem Ar{es:List FA}{k:Nat}{t:zr}{n:Nat}(hc:X.calm=true)(h:BE X es t)
  (hn:(GA es X.env).length=n:=by rfl) (hst:(GA es X.env).findIdx? (·.1)=none:=by rfl):PG X (.Tuple es k pos) (ue X.K n t):=by
 intro gV s σ H v u Q I r hw;obtain⟨a,xs,e1,hq,hl,hw⟩:=hw;subst e1;cases r;obtain⟨its,rv,ht,hz⟩:=I.tuple hq;refine assign_Tuple_tuple (I.ok.hd hc) ht (by simp[hn,<-hl,rv.length]) hst λh' hx=>?_;have I1:aC X gV σ H {s with heap:=h'}:=I.kept (t':=s.toks) λb o e=>hx b o (Ke (Fk e)) e;exact h gV _ σ H xs _ Q I1 (by simpa using rv) hw
def gSub(to ti:TE)(t:Bs):TG:=λv σ H Q=>to σ H λo H1=>ti σ H1 λi H2=>t o i v H2 λH3=>Q σ H3
theorem As{o i:FA}{to ti:TE}{t:Bs}(ho:PE X o to)(hi:PE X i ti)(hs:D4 X t)
  (ha:∀v,Ik (.Subscript o i pos) X.env v=(do
   let ov<-Hm [v] (FF o X.env)
   let iv<-Hm [v,ov] (FF i X.env)
   IE pos
   Hm [v,ov,iv] (setItem ov iv v)
   release [v,ov,iv] []):=by intro _;rfl):PG X (.Subscript o i pos) (gSub to ti t):=by
 intro gV s σ H v u Q I r h;rw[ha];refine Ff (FO (bJ (ho gV s σ H _ I h) λov s1 ⟨x,H1,I1,r1,q1⟩=>?_));refine Ff (FO (bJ (hi gV s1 σ H1 _ I1 q1) λiv s2 ⟨y,H2,I2,r2,q2⟩=>?_));refine Ff (Hr (Ff (FO (bJ (hs gV s2 σ H2 x y v ov iv u _ I2 r1 r2 r q2) λ_ s3 ⟨H3,I3,q3⟩=>?_))));exact wpAny_release ⟨σ,H3,I3,q3⟩
def tAsg(te:TE)(g:TG):TS:=λD σ H=>te σ H λx H1=>g x σ H1 D.nx
theorem tF{tg e:FA}{te:TE}{g:TG}(he:PE X e te)(hg:PG X tg g)(hs:swapsWithSole [tg] e pos.line X.env=pure false:=by rfl)(hw:swappedStores [tg] e X.env=pure none:=by rfl)
  (h1:(GA [tg] X.env).map (·.2)=[Ik tg X.env]:=by rfl):PS X (.Assign [tg] e pos) (tAsg te g):=by
 intro gV s σ H D I h;refine wpAny_Assign_stores (bJ (he gV s σ H _ I h) λv s1 ⟨x,H1,I1,r1,q1⟩=>?_) hs hw;rw[h1];exact bJ (hg gV s1 σ H1 x v _ I1 r1 q1) λ_ s2 q=>q
theorem aF{i:Nat}{x:Str}{e:FA}{te:TE}{pos':GO}(hN:X.N.Nodup)(hi:X.N[i]? =some x)(hx:BF X.env.scope x)(he:PE X e te)(hs:HZ e (some (.Name x pos')) pos.line X.env=pure false:=by rfl)(hf:X.fn x=true\/X.env.scope.names.lookup x=some .local:=by first|exact .inl rfl|exact .inr rfl|assumption):
  PS X (.Assign [.Name x pos'] e pos) (tAsg te (gName i)):=by
 intro gV s σ H D I h;refine wpAny_Assign_Name (bJ (he gV s σ H _ I h) λv s1 ⟨y,H1,I1,r1,q1⟩=>?_) hs;exact fc I1 hN hi hx r1 (λs2 I2=>⟨_,H1,I2,q1⟩) hf
end
structure It where
 go:Nat->Hp->Prop
 yld:Nat->Hp->V->Hp->Prop
 stop:Nat->Hp->Prop
def fT(X:Cx)(gV:Fe)(H:Hp)(b:Addr):Prop:=
 H b=none/\b≠X.env.locals/\b∉X.fs/\(b∈X.ex\/X.s₀.heap.objs.size<=b)/\(∀x c,X.env.cells.lookup x=some c->c≠b)/\∀p∈X.pn++gV,p.1≠b
theorem aC.fpOk{X:Cx}{gV:Fe}{σ:St}{H H':Hp}{s:Fi}{b:Addr}(I:aC X gV σ H s)(hb:s.heap.objs.size<=b)(hn:H' b=none):fT X gV H' b:=by
 refine⟨hn,Kl (Ki I.lt hb),I.nofs hb,.inr (Kg I.sz hb),λx c e z=>?_,λp hp z=>?_⟩
 .obtain⟨v,q⟩:=I.cell x c e;exact Fb (Ki q.lt (by rw[z];exact hb)) (Kj _)
 .exact Fb (Ki (Fk (I.pin p hp).1) (by rw[z];exact hb)) (Kj _)
structure oA(P:Fn)(w:Fp)(K:Frag)(tg:FA)(J:It)(fp:List Addr)(it:Addr)(tn:Nat->Fw->Prop):Prop where
 mem:it∈fp
 obj:∀i h,tn i h->∀b∈fp,∃o,h.get? b=some o/\∀v,o.data≠.cell v
 keep:∀i h h',tn i h->(∀b∈fp,∀o,h.get? b=some o->h'.get? b=some o)->tn i h'
 item:∀(X:Cx),X.prog=P->X.w=w->X.K=K->X.calm=true->∀(i:Nat)(gV:Fe)(s:Fi)(σ:St)(H:Hp)(E:Fd),aC X gV σ H s->(∀b∈fp,fT X gV H b)->tn i s.heap->J.go i H->
  Fs (Fu P w) X.A (HK (.ref it)) (λr s1=>∃u,r=some u/\
   Fs (Fu P w) X.A (GW tg (.ref it) u) (λ_ s2=>∃x H',aC X gV σ H' s2/\RelV x u/\J.yld i H x H'/\tn (i+1) s2.heap/\∀b∈fp,H' b=none) E s1) E s
 done:∀(X:Cx),X.prog=P->X.w=w->X.K=K->X.calm=true->∀(i:Nat)(gV:Fe)(s:Fi)(σ:St)(H:Hp)(E:Fd),aC X gV σ H s->(∀b∈fp,fT X gV H b)->tn i s.heap->J.stop i H->
   Fs (Fu P w) X.A (HK (.ref it)) (λr s1=>r=none/\aC X gV σ H s1) E s
 self:∀(A:Fz)(i:Nat)(s:Fi)(Q:Fd)(E:Fd),tn i s.heap->Q (.ref it) s->Fs (Fu P w) A (pyIter (.ref it)) Q E s
abbrev TI:=St->Hp->(It->Hp->Prop)->Prop
def EX(X:Cx)(gV:Fe)(σ:St)(tg:FA)(R:It->Hp->Prop)(itv:Value)(s2:Fi):Prop:=
 ∃(it:Addr)(fp:List Addr)(tn:Nat->Fw->Prop)(J:It)(H':Hp),itv=.ref it/\aC X gV σ H' s2/\oA X.prog X.w X.K tg J fp it tn/\tn 0 s2.heap/\(∀b∈fp,fT X gV H' b)/\R J H'
def PI(X:Cx)(tg iter:FA)(wi:TI):Prop:=
 ∀(gV:Fe)(s:Fi)(σ:St)(H:Hp)(R:It->Hp->Prop),aC X gV σ H s->wi σ H R->
  Fs (Fu X.prog X.w) X.A (FF iter X.env) (λv s1=>Fs (Fu X.prog X.w) X.A (pyIter v) (EX X gV σ tg R) X.xe s1) X.xe s
theorem ua{M:Model}{A:Fz}{E:Fd}{s:Fi}{tg:FA}{it:Addr}{u:Value}{o:Obj}{n:String}{vs:Array Value}{Q:Unit->Fi->Prop}(ho:s.heap.get? it=some o)(hc:o.cls=.type n)(hd:o.data=.fields vs)
  (hn:["enumerate","zip","dict_itemiterator","dict_reverseitemiterator","odict_iterator","itertools.zip_longest","itertools.pairwise"].contains n=false) (hQ:Q () s):Fs M A (GW tg (.ref it) u) Q E s:=by
 unfold GW;cases tg<;>first
  |exact Fm hQ
  |(cases u<;>first
    |exact Fm hQ
    |(refine Ff (wpAny_load ho ?_)
      rw[hc,hd];show Fs M A (if(["enumerate","zip","dict_itemiterator","dict_reverseitemiterator","odict_iterator","itertools.zip_longest","itertools.pairwise"].contains n&&vs[0]? == some (IH _))=true then _ else _) Q E s;rw[E7 (by intro h;rw[hn,Bool.false_and]at h;cases h)];exact Fm hQ))
def D8(K:Frag)(a:Addr):It:=
 ⟨λi H=>∃xs x,aM K H a xs/\xs[i]? =some x,λi H x H'=>H'=H/\∀xs,aM K H a xs->xs[i]? =some x,λi H=>∃xs,aM K H a xs/\xs.length<=i⟩
def BG(lo:Int)(n:Nat):It:=⟨λi _=>i<n,λi H x H'=>H'=H/\x=.int (lo+i),λi _=>n<=i⟩
theorem pW{P:Fn}{w:Fp}{K:Frag}{tg:FA}(a it:Addr):oA P w K tg (D8 K a) [it] it (λi h=>h.IsListIter it a i) where
 mem:=by simp
 obj:=λi h st b hb=>by
  have e:b=it:=by simpa using hb
  subst e;obtain⟨o,e,c,d⟩:=st;exact⟨o,e,λv z=>by rw[d]at z;cases z⟩
 keep:=λi h h' st k=>st.at λo e=>k it (by simp) o e
 item:=by intro X hP hw hK hc i gV s σ H E I hf st hg;subst hP hw hK;obtain⟨xs,x,hq,hx⟩:=hg;obtain⟨its,rv,p,hz⟩:=I.list hq;obtain⟨u,hu,ru⟩:=rv.get hx;obtain⟨f0,f1,f2,f3,f4,f5⟩:=hf it (by simp);refine wpAny_pyNext_list_item st p.isList (x:=u) (by simpa using hu) λh' st' sb=>?_;have I1:aC X gV σ H {s with heap:=h'}:=I.turned (t':=s.toks) (λb o hb e=>(sb.2 b hb).trans e) f0 f1 f3 f4 f5;obtain⟨o,e,c,d⟩:=id st';exact⟨u,rfl,ua (s:={s with heap:=h'}) e c d (by decide) ⟨x,H,I1,ru,⟨rfl,λys hy=>by rw[I.list_inj hy hq];exact hx⟩,st',λb hb=>(hf b hb).1⟩⟩
 done:=by intro X hP hw hK hc i gV s σ H E I hf st hg;subst hP hw hK;obtain⟨xs,hq,hx⟩:=hg;obtain⟨its,rv,p,hz⟩:=I.list hq;obtain⟨f0,f1,f2,f3,f4,f5⟩:=hf it (by simp);have hl:=rv.length;exact wpAny_pyNext_list_end (I.ok.hd hc) st p.isList (by simp;omega) λh' eb=>⟨rfl,I.turned (t':=s.toks) (λb o hb e=>eb b o hb e) f0 f1 f3 f4 f5⟩
 self:=λ_ _ _ _ _ st h=>wpAny_pyIter_listiter st h
theorem m4{P:Fn}{w:Fp}{K:Frag}{tg:FA}(it:Addr)(lo:Int)(n:Nat):oA P w K tg (BG lo n) [it] it (λi h=>HY h it (lo+(i:Nat)*1) ((n:Int) - (i:Nat)) 1) where
 mem:=by simp
 obj:=λi h st b hb=>by
  have e:b=it:=by simpa using hb
  subst e;exact⟨_,st,λv z=>by
   have z':Data.fields _=Data.cell v:=z;cases z'⟩
 keep:=λi h h' st k=>k it (by simp) _ st
 item:=by intro X hP hw hK hc i gV s σ H E I hf st hg;subst hP hw hK;obtain⟨f0,f1,f2,f3,f4,f5⟩:=hf it (by simp);have W:=Walks.range (prog:=X.prog) (w:=X.w) (I.ok.hd hc) it lo 1 n;refine W.item i s _ _ hg st λv h' tk hv st' kk=>?_;obtain⟨t,rfl⟩:=hv;have I1:aC X gV σ H {s with heap:=h',toks:=tk}:=I.turned (λb o hb e=>kk b o (by simpa using hb) e) f0 f1 f3 f4 f5;refine⟨_,rfl,ua (s:={s with heap:=h',toks:=tk}) (n:="range_iterator") st' rfl rfl (by decide) ⟨.int (lo+i),H,I1,⟨t,?_⟩,⟨rfl,rfl⟩,st',λb hb=>(hf b hb).1⟩⟩;rw[Int.mul_one]
 done:=by intro X hP hw hK hc i gV s σ H E I hf st hg;subst hP hw hK;obtain⟨f0,f1,f2,f3,f4,f5⟩:=hf it (by simp);exact HG (I.ok.hd hc) st (by have:n<=i:=hg;omega) λh' eb=>⟨rfl,I.turned (t':=s.toks) (λb o hb e=>eb b o hb e) f0 f1 f3 f4 f5⟩
 self:=λ_ _ _ _ _ st h=>HH st h
section
variable{X:Cx}{tg:FA}
def mz(K:Frag)(tl:TE):TI:=λσ H R=>tl σ H λx H1=>∃a,x=.ref a/\(∃xs,aM K H1 a xs)/\R (D8 K a) H1
theorem vo{l:FA}{tl:TE}(hl:PE X l tl):PI X tg l (mz X.K tl):=by
 intro gV s σ H R I h;refine bJ (hl gV s σ H _ I h) λv s1 ⟨x,H1,I1,r1,q1⟩=>?_;obtain⟨a,e,⟨xs,hq⟩,q⟩:=q1;subst e;cases r1;obtain⟨its,rv,p,hz⟩:=I1.list hq;refine GF p.isList ?_;refine⟨s1.heap.objs.size,[s1.heap.objs.size],_,_,H1,rfl,I1.kept (t':=s1.toks) λb o e=>Fh _ e,pW a _,⟨_,Fo _ rfl,rfl,rfl⟩,λb hb=>?_,q⟩;have e:b=s1.heap.objs.size:=by simpa using hb
 subst e;exact I1.fpOk (Kd _) (I1.hok.fresh (Kd _))
theorem tz{gV:Fe}{σ:St}{H:Hp}{s:Fi}{R:It->Hp->Prop}{E:Fd}{lo hi:Int}{t u v:IF}{tk:Nat}(I:aC X gV σ H s)(h1: -(2 ^ 62)<=lo)(h2:lo<2 ^ 62)(h3: -(2 ^ 62)<=hi)(h4:hi<2 ^ 62)
  (q:R (BG lo (hi - lo).toNat) H):Fs (Fu X.prog X.w) X.A (pyIter (.ref s.heap.objs.size)) (EX X gV σ tg R) E {s with heap:=s.heap.push {cls:=.type "range",data:=.fields #[.int lo t,.int hi u,.int 1 v]},toks:=tk}:=by
 refine wpAny_pyIter_range (IsRange.new ..) (small_one h1 h2 h3 h4) ?_;have I1:aC X gV σ H {s with heap:=s.heap.push {cls:=.type "range",data:=.fields #[.int lo t,.int hi u,.int 1 v]},toks:=tk}:=I.kept λb o e=>Fh _ e;refine⟨(s.heap.push {cls:=.type "range",data:=.fields #[.int lo t,.int hi u,.int 1 v]}).objs.size,[(s.heap.push {cls:=.type "range",data:=.fields #[.int lo t,.int hi u,.int 1 v]}).objs.size],_,_,H,rfl,
  I1.kept (t':=tk) λb o e=>Fh _ e,m4 _ lo (hi - lo).toNat,?_,λb hb=>?_,q⟩
 .have e1:lo+((0:Nat):Int)*1=lo:=by simp
  have e2:(((hi - lo).toNat:Nat):Int) - ((0:Nat):Int)=Gb lo hi 1:=by rw[rangeSize_one];split<;>omega
  show HY _ _ (lo+((0:Nat):Int)*1) ((((hi - lo).toNat:Nat):Int) - ((0:Nat):Int)) 1;rw[e1,e2];exact Fo _ rfl
 .have e:b=(s.heap.push {cls:=.type "range",data:=.fields #[.int lo t,.int hi u,.int 1 v]}).objs.size:=by simpa using hb
  subst e;exact I1.fpOk (Kd _) (I1.hok.fresh (Kd _))
def j8(ta:TA):TI:=λσ H R=>ta σ H λvs H1=>∃j:Int,vs=[.int j]/\-(2 ^ 62)<=j/\j<2 ^ 62/\R (BG 0 j.toNat) H1
theorem qj{a:FA}{ta:TA}{p pos:GO}(hg:Gl X "range")(hm:X.mg "range"=none)(ha:PA X [a] ta)(hs:Fj [a] X.env=[(false,FF a X.env)]:=by rfl):PI X tg (.Call (.Name "range" p) [a] [] pos) (j8 ta):=by
 intro gV s σ H R I h;refine Call_ (eE I hg hm boot_range (PyProof.Rows.callWith_type1 (bJ (ha pos gV s σ H _ I h) λus s1 ⟨vs,H1,I1,r1,q1⟩=>?_) hs rfl));obtain⟨j,e,q1,q2,q⟩:=q1;subst e;cases r1 with
 |cons r rr=>
  cases rr;obtain⟨t,rfl⟩:=r;exact call_range_1 (tz I1 (by omega) (by omega) q1 q2 (by simpa using q))
def tFor(wi:TI)(g:TG)(tb:TS):TS:=λD σ H=>wi σ H λJ H1=>∃W:Nat->Nat->St->Hp->Prop,(∃m,W 0 m σ H1)/\∀i m σ H,W i m σ H->
 (J.stop i H/\D.nx σ H)\/(J.go i H/\∃N:St->Hp->Prop,(∀σ' H',N σ' H'->∃m',m'<m/\W (i+1) m' σ' H')/\∀x H',J.yld i H x H'->g x σ H' λσ2 H2=>tb {D with nx:=N,ct:=N,bk:=D.nx} σ2 H2)
def ge(fp:List Addr)(h:Fw):List (Addr×Obj):=fp.filterMap λb=>(h.get? b).map λo=>(b,o)
theorem fL{fp:List Addr}{h:Fw}{b:Addr}{o:Obj}(hb:b∈fp)(e:h.get? b=some o):(b,o)∈ge fp h:=Jr.mpr ⟨b,hb,by rw[e];rfl⟩
theorem j4{fp:List Addr}{h:Fw}{p:Addr×Obj}(hp:p∈ge fp h):p.1∈fp/\h.get? p.1=some p.2:=by
 obtain⟨b,hb,e⟩:=Jr.mp hp;cases q:h.get? b with
 |none=>rw[q]at e;cases e
 |some o=>
  rw[q]at e;have e':(b,o)=p:=Option.some.inj e;subst e';exact⟨hb,q⟩
theorem aC.pinned{gV:Fe}{σ:St}{H:Hp}{s:Fi}{fp:List Addr}(I:aC X gV σ H s)(hf:∀b∈fp,fT X gV H b)(ho:∀b∈fp,∃o,s.heap.get? b=some o/\∀v,o.data≠.cell v):aC X (gV++ge fp s.heap) σ H s:=
 I.pins_of λp hp=>(Jf.mp hp).elim (λz=>I.pin p (Ja _ z)) λz=>by obtain⟨hb,e⟩:=j4 z;obtain⟨f0,f1,f2,_⟩:=hf p.1 hb;obtain⟨o,e',d⟩:=ho p.1 hb;rw[e]at e';cases e';exact⟨e,f0,f1,f2,d⟩
theorem aC.unpinned{gV pl:Fe}{σ:St}{H:Hp}{s:Fi}(I:aC X (gV++pl) σ H s):aC X gV σ H s:=I.pins_of λp hp=>I.pin p (Ja _ (JB _ hp))
theorem ik{iter:FA}{body:List FG}{wi:TI}{g:TG}{tb:TS}{pos:GO}(hp:PassesOwn (Fu X.prog X.w) X.A X.env X.xe)(hc:X.calm=true)(hi:PI X tg iter wi)(hg:PG X tg g)(hb:mU X body tb)
  (hs:∀x,GH iter X.env x=pure x:=by intro _;rfl):PS X (.For tg iter body [] pos) (tFor wi g tb):=by
 intro gV s σ H D I h;refine wpAny_For (bJ (hi gV s σ H _ I h) λv s1 h1=>bJ h1 λitv s2 h2=>?_) hs;obtain⟨it,fp,tn,J,H2,e,I2,T,st2,f2,W,⟨m0,w0⟩,turn⟩:=h2;subst e;have stat:∀{H':Hp},(∀b∈fp,H' b=none)->∀b∈fp,fT X gV H' b:=λhn b hb=>⟨hn b hb,(f2 b hb).2⟩;refine codeAny_forLoop_any (λn s'=>∃i σ' H',aC X gV σ' H' s'/\tn i s'.heap/\(∀b∈fp,H' b=none)/\W i n σ' H') ?_ m0 ⟨0,σ,H2,I2,st2,λb hb=>(f2 b hb).1,w0⟩;rintro n s3 ⟨i,σ3,H3,I3,st3,fr3,w3⟩
 rcases turn i n σ3 H3 w3 with⟨stop,qn⟩|⟨go,N,hN,step⟩
 .refine Gw hp (bJ (T.done X rfl rfl rfl hc i gV s3 σ3 H3 X.xe I3 (stat fr3) st3 stop) λr s4 ⟨hr,I4⟩=>?_);subst hr;exact HM ⟨σ3,H3,I4,qn⟩
 .refine Gw hp (bJ (T.item X rfl rfl rfl hc i gV s3 σ3 H3 X.xe I3 (stat fr3) st3 go) λr s4 ⟨u,hr,h4⟩=>?_);subst hr;refine Gw hp (bJ h4 λ_ s5 ⟨x,H5,I5,r5,y5,st5,fr5⟩=>?_);have I5':=I5.pinned (stat fr5) (T.obj _ _ st5);refine Gw hp (bJ (hg _ s5 σ3 H5 x u _ I5' r5 (step x H5 y5)) λ_ s6 ⟨σ6,H6,I6,q6⟩=>?_);refine Gw hp (bJ (hb _ s6 σ6 H6 _ I6 q6) λf s7 q7=>?_);have again:∀{σ7:St}{H7:Hp},aC X (gV++ge fp s5.heap) σ7 H7 s7->N σ7 H7->∃m,m<n/\∃i σ' H',aC X gV σ' H' s7/\tn i s7.heap/\(∀b∈fp,H' b=none)/\W i m σ' H':=λ{σ7 H7} I7 n7=>by obtain⟨m',hm,w7⟩:=hN σ7 H7 n7;refine⟨m',hm,i+1,σ7,H7,I7.unpinned,T.keep _ _ _ st5 λb hb o e=>(I7.pin (b,o) (Ja _ (Ja _ (fL hb e)))).1,λb hb=>?_,w7⟩;obtain⟨o,e,d⟩:=T.obj _ _ st5 b hb;exact(I7.pin (b,o) (Ja _ (Ja _ (fL hb e)))).2.1
  cases f with
  |next=>obtain⟨σ7,H7,I7,n7⟩:=q7;exact again I7 n7
  |cont=>obtain⟨σ7,H7,I7,n7⟩:=q7;exact again I7 n7
  |brk=>obtain⟨σ7,H7,I7,q7⟩:=q7;exact⟨σ7,H7,I7.unpinned,q7⟩
  |ret v=>obtain⟨x7,σ7,H7,I7,r7,q7⟩:=q7;exact⟨x7,σ7,H7,I7.unpinned,r7,q7⟩
end
theorem uh{K:Frag}{a:Addr}{xs:List V}{g:TG}{tb:TS}{D:cD}{σ:St}{H:Hp}(Pv:Nat->St->Hp->Prop)(h0:Pv 0 σ H)(hl:∀i σ H,i<=xs.length->Pv i σ H->aM K H a xs)
  (hs:∀i x σ H,xs[i]? =some x->Pv i σ H->g x σ H λσ2 H2=>tb {D with nx:=Pv (i+1),ct:=Pv (i+1),bk:=D.nx} σ2 H2) (hd:∀σ H,Pv xs.length σ H->D.nx σ H):
  ∃W:Nat->Nat->St->Hp->Prop,(∃m,W 0 m σ H)/\∀i m σ H,W i m σ H->
   ((D8 K a).stop i H/\D.nx σ H)\/((D8 K a).go i H/\∃N:St->Hp->Prop,(∀σ' H',N σ' H'->∃m',m'<m/\W (i+1) m' σ' H')/\∀x H',(D8 K a).yld i H x H'->g x σ H' λσ2 H2=>tb {D with nx:=N,ct:=N,bk:=D.nx} σ2 H2):=by
 refine⟨λi m σ H=>m=xs.length - i/\i<=xs.length/\Pv i σ H,⟨xs.length,by simp,Kh _,h0⟩,?_⟩;rintro i m σ H ⟨rfl,hi,p⟩;have q:=hl i σ H hi p
 by_cases hlt:i<xs.length
 .refine .inr ⟨⟨xs,xs[i],q,by simp[hlt]⟩,Pv (i+1),λσ' H' p'=>⟨xs.length - (i+1),by omega,rfl,hlt,p'⟩,λx H' y=>?_⟩;obtain⟨e,y⟩:=y;subst e;exact hs i x σ _ (y xs q) p
 .have e:i=xs.length:=by omega
  subst e;exact .inl ⟨⟨xs,q,Kd _⟩,hd σ H p⟩
theorem j9{lo:Int}{n:Nat}{g:TG}{tb:TS}{D:cD}{σ:St}{H:Hp}(Pv:Nat->St->Hp->Prop)(h0:Pv 0 σ H)
  (hs:∀i σ H,i<n->Pv i σ H->g (.int (lo+i)) σ H λσ2 H2=>tb {D with nx:=Pv (i+1),ct:=Pv (i+1),bk:=D.nx} σ2 H2) (hd:∀σ H,Pv n σ H->D.nx σ H):
  ∃W:Nat->Nat->St->Hp->Prop,(∃m,W 0 m σ H)/\∀i m σ H,W i m σ H->
   ((BG lo n).stop i H/\D.nx σ H)\/((BG lo n).go i H/\∃N:St->Hp->Prop,(∀σ' H',N σ' H'->∃m',m'<m/\W (i+1) m' σ' H')/\∀x H',(BG lo n).yld i H x H'->g x σ H' λσ2 H2=>tb {D with nx:=N,ct:=N,bk:=D.nx} σ2 H2):=by
 refine⟨λi m σ H=>m=n - i/\i<=n/\Pv i σ H,⟨n,by simp,Kh _,h0⟩,?_⟩;rintro i m σ H ⟨rfl,hi,p⟩
 by_cases hlt:i<n
 .refine .inr ⟨hlt,Pv (i+1),λσ' H' p'=>⟨n - (i+1),by omega,rfl,hlt,p'⟩,λx H' y=>?_⟩;obtain⟨e,y⟩:=y;subst e y;exact hs i σ _ hlt p
 .have e:i=n:=by omega
  subst e;exact .inl ⟨Kd _,hd σ H p⟩
abbrev R2:=V->V->Hp->VK->Prop
def gH(X:Cx)(f:Value->Value->Sem Value)(r:R2):Prop:=
 ∀(gV:Fe)(s:Fi)(σ:St)(H:Hp)(x y:V)(v u:Value)(Q:VK),aC X gV σ H s->RelV x v->RelV y u->r x y H Q->
  Fs (Fu X.prog X.w) X.A (f v u) (EP X gV σ Q) X.xe s
def EU(X:Cx)(f:Value->Sem Value)(r:V->Hp->VK->Prop):Prop:=
 ∀(gV:Fe)(s:Fi)(σ:St)(H:Hp)(x:V)(v:Value)(Q:VK),aC X gV σ H s->RelV x v->r x H Q->
  Fs (Fu X.prog X.w) X.A (f v) (EP X gV σ Q) X.xe s
def bj(X:Cx)(f:Value)(r:List V->Hp->VK->Prop):Prop:=
 ∀(gV:Fe)(s:Fi)(σ:St)(H:Hp)(xs:List V)(us:List Value)(Q:VK),aC X gV σ H s->aL xs us->r xs H Q->
  Fs (Fu X.prog X.w) X.A (call f us) (EP X gV σ Q) X.xe s
def EV(X:Cx)(r:V->Hp->(Bool->Hp->Prop)->Prop):Prop:=
 ∀(gV:Fe)(s:Fi)(σ:St)(H:Hp)(x:V)(v:Value)(Q:Bool->Hp->Prop),aC X gV σ H s->RelV x v->r x H Q->
  Fs (Fu X.prog X.w) X.A (truthy v) (TP X gV σ Q) X.xe s
def Em(r:R2)(ta tb:TE):TE:=λσ H Q=>ta σ H λx H1=>tb σ H1 λy H2=>r x y H2 Q
def rI(C:Int->Int->Prop)(g:Int->Int->V):R2:=λx y H Q=>∃i j,x=.int i/\y=.int j/\C i j/\Q (g i j) H
def y6(g:Int->Int->V):R2:=λx y H Q=>∃i j,x=.int i/\y=.int j/\Q (g i j) H
def rU(g:Int->V):V->Hp->VK->Prop:=λx H Q=>∃i,x=.int i/\Q (g i) H
section
variable{X:Cx}{a b c:FA}{ta tb tc:TE}{pos:GO}
theorem Bk(ha:PE X a ta)(hb:PE X b tb){gV:Fe}{s:Fi}{σ:St}{H:Hp}{R:V->V->Hp->Prop}(I:aC X gV σ H s)
  (h:ta σ H λx H1=>tb σ H1 λy H2=>R x y H2) {Q:Fd} {f:Value->Value->Sem Value}
  (hf:∀v u s2 x y H2,aC X gV σ H2 s2->RelV x v->RelV y u->R x y H2->Fs (Fu X.prog X.w) X.A (f v u) Q X.xe s2):
  Fs (Fu X.prog X.w) X.A (FF a X.env) (λv s₁=>Fs (Fu X.prog X.w) X.A (FF b X.env) (λu s₂=>Fs (Fu X.prog X.w) X.A (f v u) Q X.xe s₂) X.xe s₁) X.xe s:=by
 refine bJ (ha gV s σ H _ I h) λv s1 ⟨x,H1,I1,r1,q1⟩=>?_;refine bJ (hb gV s1 σ H1 _ I1 q1) λu s2 ⟨y,H2,I2,r2,q2⟩=>?_;exact hf v u s2 x y H2 I2 r1 r2 q2
theorem Dg{op:Iv}{r:R2}(ho:gH X (GI op) r)(ha:PE X a ta)(hb:PE X b tb):PE X (.BinOp a op b pos) (Em r ta tb):=by intro gV s σ H Q I h;exact wpAny_BinOp (Bk ha hb I h λv u s2 x y H2 I2 rx ry q=>ho gV s2 σ H2 x y v u Q I2 rx ry q)
theorem Ee{f:Value->Value->Sem Value}{C:Int->Int->Prop}{g:Int->Int->Int}
  (rule:∀(i j:Int)(t u:IF)(s:Fi)(Q:Fd)(E:Fd),C i j->Q (.int (g i j) s.toks) {s with toks:=s.toks+1}->Fs (Fu X.prog X.w) X.A (f (.int i t) (.int j u)) Q E s):
  gH X f (rI C λi j=>.int (g i j)):=by
 intro gV s σ H x y v u Q I rx ry h;obtain⟨i,j,rfl,rfl,hc,q⟩:=h;obtain⟨t,rfl⟩:=rx;obtain⟨t',rfl⟩:=ry;exact rule i j t t' s _ _ hc ⟨.int (g i j),H,I.tok _,⟨_,rfl⟩,q⟩
theorem Dq{f:Value->Value->Sem Value}{g:Int->Int->Int}
  (rule:∀(i j:Int)(t u:IF)(s:Fi)(Q:Fd)(E:Fd),Q (.int (g i j) s.toks) {s with toks:=s.toks+1}->Fs (Fu X.prog X.w) X.A (f (.int i t) (.int j u)) Q E s):
  gH X f (y6 λi j=>.int (g i j)):=by
 intro gV s σ H x y v u Q I rx ry h;obtain⟨i,j,rfl,rfl,q⟩:=h;obtain⟨t,rfl⟩:=rx;obtain⟨t',rfl⟩:=ry;exact rule i j t t' s _ _ ⟨.int (g i j),H,I.tok _,⟨_,rfl⟩,q⟩
theorem vA{f:Value->Value->Sem Value}{g:Int->Int->Bool}
  (rule:∀(i j:Int)(t u:IF)(s:Fi)(Q:Fd)(E:Fd),Q (.bool (g i j)) s->Fs (Fu X.prog X.w) X.A (f (.int i t) (.int j u)) Q E s):
  gH X f (y6 λi j=>.bl (g i j)):=by
 intro gV s σ H x y v u Q I rx ry h;obtain⟨i,j,rfl,rfl,q⟩:=h;obtain⟨t,rfl⟩:=rx;obtain⟨t',rfl⟩:=ry;exact rule i j t t' s _ _ ⟨.bl (g i j),H,I,rfl,q⟩
def By(i j:Int):Prop:=0<j/\j<1073741824
def Ea(i j:Int):Prop:=0<=j/\j<=1000000/\i.natAbs<2 ^ 64
def uS(i j:Int):Prop:=(-(2 ^ 64)<i/\i<2 ^ 64)\/(-(2 ^ 64)<j/\j<2 ^ 64)
theorem uS.ok{i j:Int}(h:uS i j):IntMulOk i j:=by
 rcases h with⟨h1,h2⟩|⟨h1,h2⟩
 .exact .of_left (intBits_le_64 h1 h2)
 .exact .of_right (intBits_le_64 h1 h2)
theorem AF:gH X (GI .Add) (y6 λi j=>.int (i+j)):=Dq λ_ _ _ _ _ _ _ q=>add_int q
theorem Aw:gH X (GI .Sub) (y6 λi j=>.int (i - j)):=Dq λ_ _ _ _ _ _ _ q=>sub_int q
theorem Az:gH X (GI .Mult) (rI uS λi j=>.int (i*j)):=Ee λ_ _ _ _ _ _ _ hc q=>mul_int q hc.ok
theorem vz:gH X (GI .FloorDiv) (rI By λi j=>.int (i / j)):=Ee λi j _ _ _ _ _ hc q=>by have h1:(0:Int)<j:=hc.1;have h2:j<1073741824:=hc.2;exact floordiv_int (by omega) (by rw[Int.fdiv_eq_ediv_of_nonneg i (by omega)];exact q) (.inl (PyProof.noPylong_small (by omega)))
theorem AA:gH X (GI .Mod) (rI (λ_ j=>0<j) λi j=>.int (i % j)):=Ee λi j _ _ _ _ _ hc q=>by have h1:(0:Int)<j:=hc;exact mod_int' (by omega) (by rw[Int.fmod_eq_emod_of_nonneg i (by omega)];exact q)
theorem Ax:gH X (GI .Pow) (rI Ea λi j=>.int (i ^ j.toNat)):=Ee λ_ _ _ _ _ _ _ hc q=>pow_int_small hc.1 hc.2.1 hc.2.2 q
theorem unI{f:Value->Sem Value}{g:Int->Int}
  (rule:∀(i:Int)(t:IF)(s:Fi)(Q:Fd)(E:Fd),Q (.int (g i) s.toks) {s with toks:=s.toks+1}->Fs (Fu X.prog X.w) X.A (f (.int i t)) Q E s):
  EU X f (rU λi=>.int (g i)):=by
 intro gV s σ H x v Q I rx h;obtain⟨i,rfl,q⟩:=h;obtain⟨t,rfl⟩:=rx;exact rule i t s _ _ ⟨.int (g i),H,I.tok _,⟨_,rfl⟩,q⟩
theorem Aa:EU X (unaryOp .USub) (rU λi=>.int (-i)):=unI λ_ _ _ _ _ q=>neg_int q
end
def scal:V->V->Bool
 | .non,.non=>true| .non,.int _=>true| .int _,.non=>true| .non,.bl _=>true| .bl _,.non=>true| .non,.str _=>true| .str _,.non=>true
 | .int _,.int _=>true| .bl _,.bl _=>true| .str _,.str _=>true| .byt _,.byt _=>true
 | .int _,.str _=>true| .str _,.int _=>true| .bl _,.str _=>true| .str _,.bl _=>true
 |_,_=>false
def rEq:R2:=λx y H Q=>scal x y=true/\Q (.bl (decide (x=y))) H
def rNe:R2:=λx y H Q=>scal x y=true/\Q (.bl (!decide (x=y))) H
theorem pL{i j:Int}:decide (V.int i=V.int j)=(i == j):=by rw[KL];simp
theorem dec_bl{i j:Bool}:decide (V.bl i=V.bl j)=(i == j):=by rw[KL];simp
theorem pK{i j:Str}:decide (V.str i=V.str j)=(i == j):=by rw[KL];simp
theorem pM{i j:Array UInt8}:decide (V.byt i=V.byt j)=(i.toList == j.toList):=by rw[KL];cases i;cases j;simp
section
variable{X:Cx}{a b c:FA}{ta tb tc:TE}{pos:GO}
theorem fin_bl{gV:Fe}{σ:St}{H:Hp}{s:Fi}{Q:VK}{k k':Bool}(I:aC X gV σ H s)(q:Q (.bl k) H)(e:k=k'):EP X gV σ Q (.bool k') s:=by subst e;exact⟨.bl k,H,I,rfl,q⟩
theorem Dp:gH X (FN .Eq) rEq:=by
 intro gV s σ H x y v u Q I rx ry h;obtain⟨hs,q⟩:=h;cases x with
 |non=>
  cases rx;cases y with
  |non=>cases ry;exact PySem.EqNone.eq_none_none (fin_bl I q (by simp))
  |bl j=>cases ry;exact PySem.EqNone.eq_none_bool (fin_bl I q (by simp))
  |int j=>obtain⟨t',rfl⟩:=ry;exact PySem.EqNone.eq_none_int (fin_bl I q (by simp))
  |str j=>obtain⟨t',rfl⟩:=ry;exact PySem.EqNone.eq_none_str (fin_bl I q (by simp))
  |_=>exact Fb (show false=true from hs) KI
 |bl i=>
  cases rx;cases y with
  |non=>cases ry;exact PySem.EqNone.eq_bool_none (fin_bl I q (by simp))
  |bl j=>cases ry;exact eq_bool (fin_bl I q dec_bl)
  |str j=>obtain⟨t',rfl⟩:=ry;exact PySem.EqMixed.eq_bool_str (fin_bl I q (by simp))
  |_=>exact Fb (show false=true from hs) KI
 |int i=>
  obtain⟨t,rfl⟩:=rx;cases y with
  |non=>cases ry;exact PySem.EqNone.eq_int_none (fin_bl I q (by simp))
  |int j=>obtain⟨t',rfl⟩:=ry;exact eq_int (fin_bl I q pL)
  |str j=>obtain⟨t',rfl⟩:=ry;exact PySem.EqMixed.eq_int_str (fin_bl I q (by simp))
  |_=>exact Fb (show false=true from hs) KI
 |str i=>
  obtain⟨t,rfl⟩:=rx;cases y with
  |non=>cases ry;exact PySem.EqNone.eq_str_none (fin_bl I q (by simp))
  |bl j=>cases ry;exact PySem.EqMixed.eq_str_bool (fin_bl I q (by simp))
  |int j=>obtain⟨t',rfl⟩:=ry;exact PySem.EqMixed.eq_str_int (fin_bl I q (by simp))
  |str j=>obtain⟨t',rfl⟩:=ry;exact eq_str (fin_bl I q pK)
  |_=>exact Fb (show false=true from hs) KI
 |byt i=>
  obtain⟨t,rfl⟩:=rx;cases y with
  |byt j=>obtain⟨t',rfl⟩:=ry;exact PySem.W.eq_bytes (fin_bl I q pM)
  |_=>exact Fb (show false=true from hs) KI
 |_=>cases y<;>exact Fb (show false=true from hs) KI
theorem Dk:gH X (FN .NotEq) rNe:=by
 intro gV s σ H x y v u Q I rx ry h;obtain⟨hs,q⟩:=h;cases x with
 |non=>
  cases rx;cases y with
  |non=>cases ry;exact PySem.EqNone.ne_none_none (fin_bl I q (by simp))
  |bl j=>cases ry;exact PySem.EqNone.ne_none_bool (fin_bl I q (by simp))
  |int j=>obtain⟨t',rfl⟩:=ry;exact PySem.EqNone.ne_none_int (fin_bl I q (by simp))
  |str j=>obtain⟨t',rfl⟩:=ry;exact PySem.EqNone.ne_none_str (fin_bl I q (by simp))
  |_=>exact Fb (show false=true from hs) KI
 |bl i=>
  cases rx;cases y with
  |non=>cases ry;exact PySem.EqNone.ne_bool_none (fin_bl I q (by simp))
  |bl j=>cases ry;exact ne_bool (fin_bl I q (congrArg not dec_bl))
  |str j=>obtain⟨t',rfl⟩:=ry;exact PySem.EqMixed.ne_bool_str (fin_bl I q (by simp))
  |_=>exact Fb (show false=true from hs) KI
 |int i=>
  obtain⟨t,rfl⟩:=rx;cases y with
  |non=>cases ry;exact PySem.EqNone.ne_int_none (fin_bl I q (by simp))
  |int j=>obtain⟨t',rfl⟩:=ry;exact ne_int (fin_bl I q (congrArg not pL))
  |str j=>obtain⟨t',rfl⟩:=ry;exact PySem.EqMixed.ne_int_str (fin_bl I q (by simp))
  |_=>exact Fb (show false=true from hs) KI
 |str i=>
  obtain⟨t,rfl⟩:=rx;cases y with
  |non=>cases ry;exact PySem.EqNone.ne_str_none (fin_bl I q (by simp))
  |bl j=>cases ry;exact PySem.EqMixed.ne_str_bool (fin_bl I q (by simp))
  |int j=>obtain⟨t',rfl⟩:=ry;exact PySem.EqMixed.ne_str_int (fin_bl I q (by simp))
  |str j=>obtain⟨t',rfl⟩:=ry;exact ne_str (fin_bl I q (congrArg not pK))
  |_=>exact Fb (show false=true from hs) KI
 |byt i=>
  obtain⟨t,rfl⟩:=rx;cases y with
  |byt j=>obtain⟨t',rfl⟩:=ry;exact PySem.W.ne_bytes (fin_bl I q (congrArg not pM))
  |_=>exact Fb (show false=true from hs) KI
 |_=>cases y<;>exact Fb (show false=true from hs) KI
theorem Dl:gH X (FN .Lt) (y6 λi j=>.bl (decide (i<j))):=vA λ_ _ _ _ _ _ _ q=>lt_int q
theorem Dm:gH X (FN .LtE) (y6 λi j=>.bl (decide (i<=j))):=vA λ_ _ _ _ _ _ _ q=>le_int q
theorem Dn:gH X (FN .Gt) (y6 λi j=>.bl (decide (j<i))):=vA λ_ _ _ _ _ _ _ q=>gt_int q
theorem Do:gH X (FN .GtE) (y6 λi j=>.bl (decide (j<=i))):=vA λ_ _ _ _ _ _ _ q=>ge_int q
theorem qm:gH X (FN .Lt) (λx y H Q=>∃i j,x=.str i/\y=.str j/\Q (.bl (decide (i.cps.toList<j.cps.toList))) H):=by intro gV s σ H x y v u Q I rx ry h;obtain⟨i,j,rfl,rfl,q⟩:=h;obtain⟨t,rfl⟩:=rx;obtain⟨t',rfl⟩:=ry;exact lt_str (fin_bl I q rfl)
theorem qr:gH X (FN .In) (λx y H Q=>∃i j,x=.str i/\y=.str j/\Q (.bl (!(Ga j i 0 j.length 1).isEmpty)) H):=by intro gV s σ H x y v u Q I rx ry h;obtain⟨i,j,rfl,rfl,q⟩:=h;obtain⟨t,rfl⟩:=rx;obtain⟨t',rfl⟩:=ry;exact in_str (fin_bl I q rfl)
theorem AB:gH X (FN .Is) (λx y H Q=>y=.non/\Q (.bl (decide (x=.non))) H):=by
 intro gV s σ H x y v u Q I rx ry h;obtain⟨rfl,q⟩:=h;cases ry;refine is_none_gen (fin_bl I q ?_);cases x<;>first
  |(cases rx;rfl)
  |(obtain⟨t,rfl⟩:=rx;rfl)
theorem vy:gH X (FN .IsNot) (λx y H Q=>y=.non/\Q (.bl (!decide (x=.non))) H):=by
 intro gV s σ H x y v u Q I rx ry h;obtain⟨rfl,q⟩:=h;cases ry;refine isnot_none_gen (fin_bl I q ?_);cases x<;>first
  |(cases rx;rfl)
  |(obtain⟨t,rfl⟩:=rx;rfl)
theorem kO:gH X (FN .NotIn) (λx y H Q=>∃i j,x=.str i/\y=.str j/\Q (.bl (!(!(Ga j i 0 j.length 1).isEmpty))) H):=by intro gV s σ H x y v u Q I rx ry h;obtain⟨i,j,rfl,rfl,q⟩:=h;obtain⟨t,rfl⟩:=rx;obtain⟨t',rfl⟩:=ry;exact notIn_str (fin_bl I q rfl)
theorem lh(b:FA){op:Hg}(h:op≠.In:=by decide)(h2:op≠.NotIn:=by decide):behindInMarks op b=false:=by
 have e1:(op == CmpOp.In)=false:=by cases op<;>first|rfl|exact Fb rfl h
 have e2:(op == CmpOp.NotIn)=false:=by cases op<;>first|rfl|exact Fb rfl h2
 cases b<;>simp[behindInMarks,e1,e2]
theorem vw{op:Hg}{r:R2}(ho:gH X (FN op) r)(ha:PE X a ta)(hb:PE X b tb)(hm:behindInMarks op b=false):PE X (.Compare a [op] [b] pos) (Em r ta tb):=by intro gV s σ H Q I h;exact wpAny_Compare1 (Bk ha hb I h λv u s2 x y H2 I2 rx ry q=>ho gV s2 σ H2 x y v u Q I2 rx ry q) hm
def uP(K:Frag)(x:V)(H:Hp)(k:Bool):Prop:=
 match x with
 | .non=>k=false
 | .bl b=>k=b
 | .int i=>k=(i != 0)
 | .str y=>y.length<=sizeLine/\k=((y.length:Int) != 0)
 | .byt y=>y.size<=sizeLine/\k=((y.size:Int) != 0)
 | .ref p=>(∃xs,aM K H p xs/\k= !xs.isEmpty)\/(∃xs,dC K H p xs/\k= !xs.isEmpty)\/∃kvs,H p=some (.dK kvs)/\k= !kvs.isEmpty
 |_=>False
theorem nY{κ:Type}{kvs:List (κ×V)}{vs:List (κ×Value)}(r:KV kvs vs):(!vs.isEmpty)= !kvs.isEmpty:=by cases r<;>rfl
theorem jq{xs:List V}{its:List Value}(r:aL xs its):(!its.toArray.isEmpty)= !xs.isEmpty:=by cases r<;>simp
theorem gN:(sizeLine:Nat)<2 ^ 63:=by rw[Fq];decide
theorem Ae:EV X (λx H Q=>∃k,uP X.K x H k/\Q k H):=by
 intro gV s σ H x v Q I rx h;obtain⟨k,e,q⟩:=h;have hl:=gN;have hs:sizeLine=16777216:=Fq;cases x with
 |non=>
  cases rx;have e':k=false:=e;subst e';exact truthy_none ⟨H,I,q⟩
 |bl b=>
  cases rx;have e':k=b:=e;subst e';exact FQ ⟨H,I,q⟩
 |int i=>
  obtain⟨t,rfl⟩:=rx;have e':k=(i != 0):=e;subst e';exact PySem.P.truthy_int ⟨H,I,q⟩
 |str y=>
  obtain⟨t,rfl⟩:=rx;obtain⟨hy,e'⟩:y.length<=sizeLine/\k=((y.length:Int) != 0):=e;subst e';exact PySem.P.truthy_str (by omega) ⟨H,I.tok _,q⟩
 |byt y=>
  obtain⟨t,rfl⟩:=rx;obtain⟨hy,e'⟩:y.size<=sizeLine/\k=((y.size:Int) != 0):=e;subst e';exact PySem.W.truthy_bytes (by omega) ⟨H,I.tok _,q⟩
 |ref p=>
  cases rx;have e':(∃xs,aM X.K H p xs/\k= !xs.isEmpty)\/(∃xs,dC X.K H p xs/\k= !xs.isEmpty)\/∃kvs,H p=some (.dK kvs)/\k= !kvs.isEmpty:=e
  rcases e' with⟨xs,hx,e'⟩|⟨xs,hx,e'⟩|⟨kvs,hx,e'⟩
  .subst e';obtain⟨its,r,pl,hz⟩:=I.list hx;have hlen:=r.length;exact wpAny_truthy_list pl.isList (by simp only[IM];omega) ⟨H,I.tok _,by rw[jq r];exact q⟩
  .subst e';obtain⟨its,r,pl,hz⟩:=I.tuple hx;have hlen:=r.length;exact truthy_tuple pl (by simp only[IM];omega) ⟨H,I.tok _,by rw[jq r];exact q⟩
  .subst e';obtain⟨hz,hS,vs,r,m⟩:kvs.length<=sizeLine/\(p == sysModules)=false/\∃vs,KV kvs vs/\s.heap.DictOf (mixKind X.prog X.w) p vs:=I.hok p _ hx;have hlen:kvs.length=vs.length:=Paired.length r;exact wpAny_truthy_dict hS m (by omega) ⟨H,I.tok _,by rw[nY r];exact q⟩
 |_=>exact(show False from e).elim
theorem tE(ha:PE X a ta)(he:∀whole,Iz a X.env whole=(do let v<-whole;IE a.pos;Hm [v] (truthy v))):
  PT X a (λσ H Q=>ta σ H λx H'=>∃k,uP X.K x H' k/\Q k H'):=by
 intro gV s σ H Q I h;exact isTrue_plain (bJ (ha gV s σ H _ I h) λv s1 ⟨x,H1,I1,r1,q1⟩=>Ae gV s1 σ H1 x v Q I1 r1 q1) (he _)
theorem nH:gH X (GI .Add) (λx y H Q=>∃i j,x=.str i/\y=.str j/\i.length+j.length<=sizeLine/\Q (.str (i++j)) H):=by intro gV s σ H x y v u Q I rx ry h;obtain⟨i,j,rfl,rfl,hz,q⟩:=h;obtain⟨t,rfl⟩:=rx;obtain⟨t',rfl⟩:=ry;exact add_str (λt' tk=>⟨.str (i++j),H,I.tok _,⟨_,rfl⟩,q⟩) hz
theorem cU{x:V}{us:List Value}(r:aL [x] us):∃u,us=[u]/\RelV x u:=by
 cases r with
 |cons r1 r2=>cases r2;exact⟨_,rfl,r1⟩
theorem yN{x y:V}{us:List Value}(r:aL [x,y] us):∃u w',us=[u,w']/\RelV x u/\RelV y w':=by
 cases r with
 |cons r1 r2=>
  cases r2 with
  |cons r3 r4=>cases r4;exact⟨_,_,rfl,r1,r3⟩
theorem qV:bj X (.type "int") (λxs H Q=>(∃i,xs=[.int i]/\Q (.int i) H)\/∃k,xs=[.bl k]/\Q (.int (if k then 1 else 0)) H):=by
 intro gV s σ H xs us Q I r h
 rcases h with⟨i,rfl,q⟩|⟨k,rfl,q⟩
 .obtain⟨u,rfl,t,rfl⟩:=cU r;exact call_int_int ⟨.int i,H,I,⟨_,rfl⟩,q⟩
 .obtain⟨u,rfl,r1⟩:=cU r;cases r1;exact call_int_bool ⟨.int (if k then 1 else 0),H,I.tok _,⟨_,rfl⟩,q⟩
end
structure oC(h:Fw)(x dx C:Addr)(mA:Fc):Prop where
 obj:h.get? x=some (Lc C dx)
 ns:h.Ns1 dx mA
 ne:dx≠x
theorem qw{h:Fw}{dx:Addr}{mA:Fc}(n:h.Ns1 dx mA):∃od,h.get? dx=some od/\∀name,Ll name od=some (mA name):=by
 obtain⟨o,es,ep,ho,hd,hk,_,hm⟩:=n;refine⟨o,ho,λname=>?_⟩;have e:=hm name;unfold nsFind findBy at e;rw[<-Array.find?_toList]at e;unfold Ll;rw[hd];dsimp only;split
 .rename_i y q;rw[q]at e;exact congrArg some e
 .rename_i q;rw[q]at e;have a:es.toList.any (·.refKey)=false:=by rw[JN];intro y hy;obtain⟨z,t,hkey⟩:=hk y (KT.mp hy);simp[DictEntry.refKey,hkey]
  have a':¬es.toList.any (·.refKey)=true:=by rw[a];exact KI
  rw[E7 a'];exact congrArg some e
theorem oC.look{h:Fw}{x dx C:Addr}{mA:Fc}(I:oC h x dx C mA):∃od,PySem.W.InstAt h x (Lc C dx) C (some od)/\∀name,Ll name od=some (mA name):=
 let ⟨od,ho,hl⟩:=qw I.ns
 ⟨od,⟨I.obj,rfl,rfl,ho⟩,hl⟩
section
variable{prog:Fn}{w:Fp}{A:Fz}{E:Fd}{s:Fi}{K:Frag}{x dx C f:Addr}{mA:Fc}{name:Str}{v:Value}
theorem vO{expr:Bool}{Q:Fd}(X:K.In s.heap)(I:oC s.heap x dx C mA)(hg:Le K C name=true)(hh:Lg K C=true)
  (ha:K3 K (.ref C) name=some none) (hv:mA name=some v) (hv':Lz v=true) (h:Q v {s with toks:=s.toks+1}):
  Fs (Fu prog w) A (getAttr (.ref x) name expr) Q E s:=by
 obtain⟨od,J,hl⟩:=I.look;exact PySem.W.get_value X J (Ls hg).1 (PySem.W.findObj_own hh ha rfl (by rw[hl,hv])) hv' h
theorem ud{pl:Sem Bool}{Q:Value×List Value->Fi->Prop}(X:K.In s.heap)(I:oC s.heap x dx C mA)(hg:Le K C name=true)
  (hf:K3 K (.ref C) name=some (some (.ref f))) (ht:Lf K (.ref f)=true) (hv:mA name=none) (h:Q (.ref f,[.ref x]) s):
  Fs (Fu prog w) A (getMethod (.ref x) name pl) Q E s:=by
 obtain⟨od,J,hl⟩:=I.look;exact PySem.W.method_fn X J (Ls hg).1 (Ls hg).2 hf (beq_iff_eq.mp ht) (by show(Ll name od).map (·.isSome)=some false;rw[hl,hv];rfl) h
theorem vf{ns:List Str}{Q:Unit->Fi->Prop}(X:K.In s.heap)(I:oC s.heap x dx C mA)
  (hs:K3 K (.ref C) "__setattr__"=some (some (.builtin "object.__setattr__"))) (hp:Lm K C=true) (ht:Lu K C name=some none) (hh:Lg K C=true)
  (hw:PySem.Within mA ns) (hsz:ns.length<=sizeLine)
  (h:∀h',oC h' x dx C (λy=>if y=name then some v else mA y)->Gq dx s.heap h'->Q () {s with heap:=h',toks:=s.toks+2}):
  Fs (Fu prog w) A (setAttr (.ref x) name v) Q E s:=by
 obtain⟨od,J,hl⟩:=I.look;refine PySem.W.set_plain X J hs (PySem.W.osa_open (s:={s with toks:=s.toks+1}) (r:=none) X J hp ht λb=>?_);obtain⟨cd,hc,hd'⟩:=PySem.W.any_some hh;have hx:s.heap.get? x=some ⟨.ref C,some dx,.plain,#[]⟩:=I.obj;refine Ff (Fm (Ff (Ff (wpAny_loadPart hx (Ff (PySem.W.Looks.here (s:={s with toks:=s.toks+1}) (PySem.W.looks_clsIn X hc) ?_))))));rw[hd'];refine Fm (a:=some dx) (Ff (Fm (Ff ?_)));refine wpAny_nsSet1 (s:={s with toks:=s.toks+1}) I.ns λh' hn2 hs2=>?_;obtain⟨oD,esD,epD,hoD,hdD,hcD⟩:=hn2.count (PySem.Within.cons name v hw);refine Ff (wpAny_lookBehind hoD (by rw[hdD];exact pastItsLine_dict (Kg hcD (by rw[Jg];omega))) ?_);exact Fm (h _ ⟨(hs2.2 _ (Ne.symm I.ne)).trans I.obj,hn2,I.ne⟩ hs2)
theorem tS{R:IC->Fi->Prop}{vs:List Value}{kw:List (Str×Value)}(X:K.In s.heap)(hm:Ln K C=true)
  (hi:K3 K (.ref C) "__init__"=some (some (.ref f))) (hf:PySem.W.typeIn K (.ref f)=some (.type "function"))
  (h:Gx (Fu prog w) (A.under (.builtin "type.__call__" ⟨.ref C::vs,kw⟩)) (.call (.ref f) ⟨.ref (s.heap.objs.size+1)::vs,kw⟩) (PySem.W.InitBack (s.heap.objs.size+1) R)
   {s with heap:=(s.heap.push La).push (Lc C s.heap.objs.size)}):
  Gx (Fu prog w) A (.call (.ref C) ⟨vs,kw⟩) R s:=by
 obtain⟨hh,g,d,t,os⟩:=s;exact PySem.W.make_core (PySem.W.makes_of X hm) (PySem.W.looks_findIn X hi) (λself=>PySem.W.bind_fn X self hf) (.inl rfl) h
end
def putF(f:Str)(v:V):List (Str×V)->List (Str×V)
 | []=>[(f,v)]
 |(g,x)::r=>if g=f then(g,v)::r else(g,x)::putF f v r
theorem az(f g:Str)(v:V):∀fs:List (Str×V),(putF f v fs).lookup g=if g=f then some v else fs.lookup g
 | []=>by
   show List.lookup g [(f,v)]=_
   by_cases h:g=f
   .have hb:(g == f)=true:=beq_iff_eq.mpr h;simp only[List.lookup,hb,E8 h]
   .have hb:(g == f)=false:=beq_eq_false_iff_ne.mpr h;simp only[List.lookup,hb,E7 h]
 |(k,x)::r=>by
  have ih:=az f g v r;rw[show putF f v ((k,x)::r)=(if k=f then(k,v)::r else(k,x)::putF f v r)from rfl]
  by_cases hk:k=f
  .rw[E8 hk]
   by_cases h:g=k
   .have hb:(g == k)=true:=beq_iff_eq.mpr h;simp only[List.lookup,hb,E8 (h.trans hk)]
   .have hb:(g == k)=false:=beq_eq_false_iff_ne.mpr h;simp only[List.lookup,hb,E7 (λe:g=f=>h (e.trans hk.symm))]
  .rw[E7 hk]
   by_cases h:g=k
   .have hb:(g == k)=true:=beq_iff_eq.mpr h;simp only[List.lookup,hb,E7 (λe:g=f=>hk (h.symm.trans e))]
   .have hb:(g == k)=false:=beq_eq_false_iff_ne.mpr h;simp only[List.lookup,hb];exact ih
theorem ir(f:Str)(v:V):∀fs:List (Str×V),f∈(putF f v fs).map (·.1)/\∀g,g∈fs.map (·.1)->g∈(putF f v fs).map (·.1)
 | []=>⟨by simp[putF],λg h=>by simp at h⟩
 |(k,x)::r=>by
  obtain⟨i1,i2⟩:=ir f v r;rw[show putF f v ((k,x)::r)=(if k=f then(k,v)::r else(k,x)::putF f v r)from rfl]
  by_cases hk:k=f
  .rw[E8 hk];subst hk;exact⟨by simp,λg h=>by simpa using h⟩
  .rw[E7 hk];refine⟨?_,λg h=>?_⟩
   .rw[Jh];exact Jd _ i1
   .rw[Jh]at h ⊢
    rcases IN.mp h with e|e
    .exact IN.mpr (.inl e)
    .exact Jd _ (i2 g e)
theorem bE(f:Str)(v:V):∀fs:List (Str×V),(putF f v fs).length<=fs.length+1
 | []=>by simp[putF]
 |(k,x)::r=>by
  have ih:=bE f v r;rw[show putF f v ((k,x)::r)=(if k=f then(k,v)::r else(k,x)::putF f v r)from rfl]
  by_cases hk:k=f
  .rw[E8 hk,Jg,Jg];omega
  .rw[E7 hk,Jg,Jg];omega
theorem jY.some_of{v:V}{o:Option Value}(r:jY (some v) o):∃u,o=some u/\RelV v u:=by
 cases o with
 |none=>exact(show False from r).elim
 |some u=>exact⟨u,rfl,r⟩
theorem jY.none_of{o:Option Value}(r:jY none o):o=none:=by
 cases o with
 |none=>rfl
 |some u=>exact(show False from r).elim
theorem qG{v:V}{u:Value}(r:RelV v u):Lz u=true:=by
 cases v with
 |non=>cases(show u=GS from r);rfl
 |bl b=>cases(show u=Im b from r);rfl
 |int i=>obtain⟨t,e⟩:=(show∃t,u=IB i t from r);cases e;rfl
 |str x=>obtain⟨t,e⟩:=(show∃t,u=HE x t from r);cases e;rfl
 |byt b=>obtain⟨t,e⟩:=(show∃t,u=Value.bytes b t from r);cases e;rfl
 |flt b=>obtain⟨t,e⟩:=(show∃t,u=Value.float b t from r);cases e;rfl
 |ref a=>cases(show u=FD a from r);rfl
 |ty n=>cases(show u=Il n from r);rfl
section
variable{P:Fn}{w:Fp}{H H':Hp}{h h':Fw}{a C dx:Addr}{fs fs':List (Str×V)}
theorem iZ(hok:iz P w H h)(e:H a=some (.ins C dx fs)):∃mA,oC h a dx C mA/\(∀f,jY (fs.lookup f) (mA f))/\PySem.Within mA (fs.map (·.1))/\fs.length<=1000/\H dx=some (.own a):=by obtain⟨d,z,ne,ob,mA,n,r,q⟩:=(show bF P w H h a (.ins C dx fs)from hok a _ e);exact⟨mA,⟨ob,n,ne⟩,r,q,z,d⟩
end
structure mZ(K:Frag)(C:Addr):Prop where
 pg:Le K C Gm=true
 hd:Lg K C=true
 po:Lm K C=true
 sa:K3 K (.ref C) "__setattr__"=some (some (.builtin "object.__setattr__"))
theorem mZ.get{K:Frag}{C:Addr}(c:mZ K C)(f:Str):Le K C f=true:=c.pg
def bS(K:Frag)(C:Addr)(f:Str):Prop:=K3 K (.ref C) f=some none
theorem bS.taker{K:Frag}{C:Addr}{f:Str}(n:bS K C f):Lu K C f=some none:=by unfold Lu;rw[show K3 K (.ref C) f=some none from n];rfl
structure D6(K:Frag)(C:Addr)(m:Str)(f:Addr):Prop where
 at_:K3 K (.ref C) m=some (some (.ref f))
 fn:Lf K (.ref f)=true
 kp:K9 K (.ref f)=true
section
variable{X:Cx}{gV:Fe}{σ:St}{H:Hp}{s:Fi}{a C dx:Addr}{fs:List (Str×V)}{f:Str}{v:V}{A:Fz}{E:Fd}
theorem n4{b:Bool}{Q:Fd}(I:aC X gV σ H s)(e:H a=some (.ins C dx fs))(c:mZ X.K C)(n:bS X.K C f)(l:fs.lookup f=some v)
  (h:∀u s',aC X gV σ H s'->RelV v u->Q u s'):Fs (Fu X.prog X.w) A (getAttr (.ref a) f b) Q E s:=by
 obtain⟨mA,O,r,_,_,_⟩:=iZ I.hok e;obtain⟨u,hu,ru⟩:=jY.some_of (v:=v) (o:=mA f) (by rw[<-l];exact r f);exact vO I.kIn O (c.get f) c.hd n hu (qG ru) (h u _ (I.tok _) ru)
theorem nZ{m:Str}{g:Addr}{pl:Sem Bool}{Q:Value×List Value->Fi->Prop}(I:aC X gV σ H s)(e:H a=some (.ins C dx fs))(c:mZ X.K C)(k:D6 X.K C m g)(l:fs.lookup m=none)
  (h:Q (.ref g,[.ref a]) s):Fs (Fu X.prog X.w) A (getMethod (.ref a) m pl) Q E s:=by
 obtain⟨mA,O,r,_,_,_⟩:=iZ I.hok e;have hn:mA m=none:=jY.none_of (by rw[<-l];exact r m);exact ud I.kIn O (c.get m) k.at_ k.fn hn h
theorem nv{y:V}{u:Value}{Q:Unit->Fi->Prop}(I:aC X gV σ H s)(e:H a=some (.ins C dx fs))(c:mZ X.K C)(n:bS X.K C f)(hl:fs.length<1000)(ry:RelV y u)
  (h:∀s',aC X gV σ (upd H a (.ins C dx (putF f y fs))) s'->Q () s'):Fs (Fu X.prog X.w) A (setAttr (.ref a) f u) Q E s:=by
 obtain⟨mA,O,r,wi,_,ho⟩:=iZ I.hok e;have hz:(fs.map (·.1)).length<=sizeLine:=by rw[IL,Fq];omega
 refine vf I.kIn O c.sa c.po n.taker c.hd wi hz λh' O' sb=>h _ ?_;have hd:∃o,h'.get? dx=some o:=let ⟨o,_,_,e',_⟩:=O'.ns;⟨o,e'⟩;refine I.write (x:=a) (e:=dx) (by rw[e];exact True.intro) (.inr ho) (λb q hb z=>(sb.2 b hb).trans z) hd ?_;refine⟨by rw[ar O.ne];exact ho,?_,O.ne,O'.obj,_,O'.ns,λg=>?_,λg hg=>?_⟩
 .have:=bE f y fs;omega
 .show jY ((putF f y fs).lookup g) (if g=f then some u else mA g);rw[az]
  by_cases q:g=f
  .rw[E8 q,E8 q];exact ry
  .rw[E7 q,E7 q];exact r g
 .by_cases q:g=f
  .rw[q];exact(ir f y fs).1
  .refine(ir f y fs).2 g (wi g λz=>hg ?_);show(if g=f then some u else mA g)=none;rw[E7 q];exact z
theorem aC.made(I:aC X gV σ H s):aC X gV σ (upd (upd H s.heap.objs.size (.own (s.heap.objs.size+1))) (s.heap.objs.size+1) (.ins C s.heap.objs.size []))
  {s with heap:=(s.heap.push La).push (Lc C s.heap.objs.size)}:=by
 have e1:(s.heap.push La).get? s.heap.objs.size=some La:=Fo s.heap rfl;have e2:((s.heap.push La).push (Lc C s.heap.objs.size)).get? (s.heap.objs.size+1)=some (Lc C s.heap.objs.size):=by
  have:=Fo (s.heap.push La) (o:=Lc C s.heap.objs.size) rfl
  rwa[FR]at this
 have e3:(s.heap.push La).Ns s.heap.objs.size (λ_=>none):=⟨La,#[],_,e1,rfl,(λe he=>Fb he (by simp)),λ_=>rfl⟩;have I1:=I.laid (a:=s.heap.objs.size) (o:=.own (s.heap.objs.size+1)) (h':=s.heap.push La) (t':=s.toks) (λb u q=>Fh _ q) (Kd _) ⟨_,e1⟩;refine I1.laid (a:=s.heap.objs.size+1) (o:=.ins C s.heap.objs.size []) (t':=s.toks) (λb u q=>Fh _ q) (Ko (FR _ _)) ?_;have ne:s.heap.objs.size≠s.heap.objs.size+1:=Ke (Kw _);refine⟨by rw[ar ne,af],Kh _,ne,e2,λ_=>none,(Heap.Ns1.of_empty e3).at λo q=>Fh _ q,λ_=>True.intro,λy hy=>Fb rfl hy⟩
theorem v7{prog:Fn}{w:Fp}{env:HS}{e:FA}{f:Str}{pos:GO}{s:Fi}{Q:Fd}(hb:FP e f env (FF e env)=FF e env)
  (h:Fs (Fu prog w) A (FF e env) (λo s₁=>Fs (Fu prog w) A (getAttr o f true) Q E s₁) E s):Fs (Fu prog w) A (FF (.Attribute e f pos) env) Q E s:=
 Attribute_any_ h (by rw[arm_eval_Attribute,hb])
end
def qb(K:Frag)(ta tv:TE)(f:Str):TS:=λD σ H=>tv σ H λy H1=>ta σ H1 λx H2=>∃a C dx fs,x=.ref a/\H2 a=some (.ins C dx fs)/\mZ K C/\bS K C f/\fs.length<1000/\
 D.nx σ (upd H2 a (.ins C dx (putF f y fs)))
section
variable{X:Cx}{o e value:FA}{f:Str}{pos pos' tpos:GO}{ta tv:TE}
theorem Aq(ha:PE X o ta)(hv:PE X value tv)(hs:HZ value (some (.Attribute o f pos')) pos.line X.env=pure false):PS X (.Assign [.Attribute o f pos'] value pos) (qb X.K ta tv f):=by intro gV s σ H D I h;refine plainObj_wpAny_Assign_Attribute (bJ (hv gV s σ H _ I h) λu s1 ⟨y,H1,I1,ry,q⟩=>bJ (ha gV s1 σ H1 _ I1 q) λov s2 ⟨x,H2,I2,rx,a,C,dx,fs,ex,ea,c,n,l,q2⟩=>?_) hs;subst ex;obtain rfl:ov=FD a:=rx;exact nv I2 ea c n l ry λs3 I3=>⟨σ,_,I3,q2⟩
end
section
variable{X:Cx}{gV:Fe}{σ:St}{H:Hp}{s:Fi}{A:Fz}{E:Fd}{Q:Fd}{c:Value}{b:Bool}
inductive iy(K:Frag)(H:Hp):V->Value->Prop where
 |non:iy K H .non (.type "NoneType")
 |bl (x:Bool):iy K H (.bl x) (.type "bool")
 |int (i:Int):iy K H (.int i) (.type "int")
 |str (x:Str):iy K H (.str x) (.type "str")
 |flt (x:UInt64):iy K H (.flt x) (.type "float")
 |lst {a:Addr} {xs:List V} (e:H a=some (.lst xs)):iy K H (.ref a) (.type "list")
 |frz {a:Addr} {o:Obj} {xs:List V} (e:H a=some (.frz o (.lst xs))):iy K H (.ref a) (.type "list")
 |tup {a:Addr} {xs:List V} (e:H a=some (.tup xs)):iy K H (.ref a) (.type "tuple")
 |dK {a:Addr} {kvs:List (Key×V)} (e:H a=some (.dK kvs)):iy K H (.ref a) (.type "dict")
 |dT {a:Addr} {kvs:List (List Key×V)} (e:H a=some (.dT kvs)):iy K H (.ref a) (.type "dict")
 |ins {a C dx:Addr} {fs:List (Str×V)} (e:H a=some (.ins C dx fs)) (cl:mZ K C) (ha:K3 K (.ref C) "__class__"=some (some (.builtin "object.__class__")))
   (hn:LA K (.builtin "object.__class__") "__get__"=some (some (.builtin "getset_descriptor.__get__"))) (htk:LB K (.builtin "object.__class__")=some true)
   (hm:Lh K C (.type "object")=some true):iy K H (.ref a) (.ref C)
theorem qE{x:V}{u t:Value}(I:aC X gV σ H s)(rx:RelV x u)(ty:iy X.K H x t)(e:K4 X.K t c=some b)(h:∀tk,Q (.bool b) {s with toks:=tk}):
  Fs (Fu X.prog X.w) A (call (.builtin "isinstance") [u,c]) Q E s:=by
 cases ty with
 |non=>cases(show u=GS from rx);exact K6 PySem.W.kitx_none I.kIn True.intro e (λz=>nomatch z) h
 |bl y=>cases(show u=Im y from rx);exact K6 PySem.W.kitx_bool I.kIn True.intro e (λz=>nomatch z) h
 |int i=>obtain⟨t,q⟩:=(show∃t,u=IB i t from rx);cases q;exact K6 PySem.W.kitx_int I.kIn True.intro e (λz=>nomatch z) h
 |str y=>obtain⟨t,q⟩:=(show∃t,u=HE y t from rx);cases q;exact K6 PySem.W.kitx_str I.kIn True.intro e (λz=>nomatch z) h
 |flt y=>obtain⟨t,q⟩:=(show∃t,u=Value.float y t from rx);cases q;exact K6 PySem.W.kitx_float I.kIn True.intro e (λz=>nomatch z) h
 | @lst a xs ea=>
   cases(show u=FD a from rx);obtain⟨_,_,n,_,h1⟩:=(show bF X.prog X.w H s.heap a (.lst xs)from I.hok a _ ea);exact K6 LC I.kIn ⟨_,h1,rfl⟩ e (λz=>nomatch z) h
 | @frz a ob xs ea=>
   cases(show u=FD a from rx);obtain⟨_,_,_,n,_,h1⟩:=(show bF X.prog X.w H s.heap a (.frz ob (.lst xs))from I.hok a _ ea);exact K6 LC I.kIn ⟨_,h1,rfl⟩ e (λz=>nomatch z) h
 | @tup a xs ea=>
   cases(show u=FD a from rx);obtain⟨_,_,_,p⟩:=(show bF X.prog X.w H s.heap a (.tup xs)from I.hok a _ ea);obtain⟨o,h1,h2,_⟩:=p;exact K6 PySem.W.kitx_tuple I.kIn ⟨o,h1,h2⟩ e (λz=>nomatch z) h
 | @dK a kvs ea=>
   cases(show u=FD a from rx);obtain⟨_,_,vs,_,p⟩:=(show bF X.prog X.w H s.heap a (.dK kvs)from I.hok a _ ea);obtain⟨o,es,ep,h1,h2,_⟩:=p;exact K6 LD I.kIn ⟨o,h1,h2.1⟩ e (λz=>nomatch z) h
 | @dT a kvs ea=>
   cases(show u=FD a from rx);obtain⟨_,_,xs,_,o,es,ep,h1,h2,_⟩:=(show bF X.prog X.w H s.heap a (.dT kvs)from I.hok a _ ea);exact K6 LD I.kIn ⟨o,h1,h2.1⟩ e (λz=>nomatch z) h
 | @ins a C dx fs ea cl ha hn htk hm=>
   cases(show u=FD a from rx);obtain⟨mA,O,_⟩:=iZ I.hok ea;obtain⟨od,J,_⟩:=O.look;exact K6 (PySem.W.kitx_own (cl.get _) cl.hd ha hn htk hm) I.kIn J e (λz=>nomatch z) h
end
structure cn(k:Nat)(A:Fz):Prop where
 hd:A.handled=none
 dp:A.depth+3*k+5<Hf
 un:A.units+16*k+200<GD
theorem cn.mono{j k:Nat}{A:Fz}(r:cn k A)(h:j<=k):cn j A:=⟨r.hd,by have:=r.dp;omega,by have:=r.un;omega⟩
theorem cn.deeper{k:Nat}{A:Fz}(r:cn (k+1) A)(env:HS):cn k (A.deeper env):=
 ⟨r.hd,by have:=r.dp;show A.depth+1+3*k+5<_;omega,by have:=r.un;show A.units+3+16*k+200<_;omega⟩
theorem nT{A:Fz}{C:Addr}{us:List Value}{kw:List (Str×Value)}:(A.under (.builtin "type.__call__" ⟨.ref C::us,kw⟩)).depth=A.depth+1:=by
 first|rfl|simp[Ix,Code.weight,Code.isCreation,Code.isGuard,Code.isCaller,Code.frames,Iw,guardIds]
theorem nS{A:Fz}{C:Addr}{us:List Value}{kw:List (Str×Value)}:(A.under (.builtin "type.__call__" ⟨.ref C::us,kw⟩)).units=A.units+1:=by
 first|rfl|simp[Ix,Code.cUnits,Code.frames,Iw]
theorem cn.make{k:Nat}{A:Fz}(r:cn (k+1) A)(C:Addr)(us:List Value)(kw:List (Str×Value)):cn k (A.under (.builtin "type.__call__" ⟨.ref C::us,kw⟩)):=
 ⟨r.hd,by have:=r.dp;rw[nT];omega,by have:=r.un;rw[nS];omega⟩
theorem cn.depth{k:Nat}{A:Fz}(r:cn k A):A.depth<Hf:=by have:=r.dp;omega
theorem cn.units{k:Nat}{A:Fz}(r:cn k A):A.units+64<GD:=by have:=r.un;omega
def ce:TA:=λ_ H Q=>Q [] H
def aV(ta:TE)(tr:TA):TA:=λσ H Q=>ta σ H λx H1=>tr σ H1 λxs H2=>Q (x::xs) H2
section
variable{X:Cx}{e:FA}{es:List FA}{te:TE}{t:TA}{pos:GO}
theorem pa_nil:PA X [] ce:=λ_ _ _ _ H Q I h=>Hq ⟨[],H,I,.nil,h⟩
theorem pa_cons(ha:PE X e te)(hr:PA X es t)(hs:Fj (e::es) X.env=(false,FF e X.env)::Fj es X.env:=by rfl):PA X (e::es) (aV te t):=by intro pos gV s σ H Q I h;rw[hs];show Fs _ _ (spliced ((false,FF e X.env)::FC pos (Fj es X.env))) _ _ s;refine Hh (bJ (ha gV s σ H _ I h) λu s1 ⟨x,H1,I1,r1,q1⟩=>?_);exact bJ (hr pos gV s1 σ H1 _ I1 q1) λus s2 ⟨xs,H2,I2,r2,q2⟩=>⟨x::xs,H2,I2,.cons r1 r2,q2⟩
def u9(t:TA):TE:=λσ H Q=>t σ H λxs H1=>xs.length<=sizeLine/\∀p,H1 p=none->Q (.ref p) (upd H1 p (.tup xs))
def jF(t:TA):TE:=λσ H Q=>t σ H λxs H1=>xs.length<=sizeLine/\∀p,H1 p=none->Q (.ref p) (upd H1 p (.lst xs))
theorem ji{x1}(h:PA X es t):PE X (.Tuple es x1 pos) (u9 t):=by intro gV s σ H Q I hq;refine wpAny_Tuple_spliced (bJ (h pos gV s σ H _ I hq) λus s1 ⟨xs,H1,I1,r,z,q⟩=>⟨by rw[<-r.length];exact z,?_⟩);have hf:H1 s1.heap.objs.size=none:=I1.hok.fresh (Kd _);refine⟨.ref s1.heap.objs.size,upd H1 s1.heap.objs.size (.tup xs),I1.laid (t':=s1.toks) (λb u e=>Fh _ e) (Kd _) ?_,rfl,q _ hf⟩;exact⟨z,us,r,⟨_,Fo _ rfl,rfl,_,rfl⟩⟩
theorem aY(h:PA X es t):PE X (.List es pos) (jF t):=by intro gV s σ H Q I hq;refine wpAny_List_spliced (bJ (h pos gV s σ H _ I hq) λus s1 ⟨xs,H1,I1,r,z,q⟩=>⟨by rw[<-r.length];exact z,?_⟩);have hf:H1 s1.heap.objs.size=none:=I1.hok.fresh (Kd _);refine⟨.ref s1.heap.objs.size,upd H1 s1.heap.objs.size (.lst xs),I1.laid (t':=s1.toks) (λb u e=>Fh _ e) (Kd _) ?_,rfl,q _ hf⟩;exact⟨z,us,0,r,Fo _ rfl⟩
end
abbrev Sp:=List V->Hp->VK->XK->Prop
abbrev pS:=List HS->Hp->Fi->XK->Value->Fi->Prop
structure lJ(P:Fn)(w:Fp)(K:Frag)(mg:Fc)(E3:Fw)(A:Fz)(E4:List HS)(s:Fi)(H:Hp):Prop where
 frames:A.frames=some E4
 mod:Mod K mg E3
 bs:∀b o,E3.get? b=some o->s.heap.get? b=some o/\H b=none
 bsz:E3.objs.size<=s.heap.objs.size
 funs:s.heap.FunFrames E3 E4
 frf:∀b∈gX E4,H b=none
 hok:iz P w H s.heap
 bare:GV s.gens
def CE(E4:List HS)(P:Fn)(w:Fp)(H:Hp)(s:Fi)(Q:VK)(u:Value)(s':Fi):Prop:=
 ∃v H',s'.os=s.os/\GV s'.gens/\Un (gX E4) [] H H' s.heap s'.heap/\iz P w H' s'.heap/\RelV v u/\Q v H'
def CR(CX:pS)(E4:List HS)(P:Fn)(w:Fp)(H:Hp)(s:Fi)(Q:VK)(E:XK)(r:IC)(s':Fi):Prop:=
 match r with
 | .ok (.ret u)=>CE E4 P w H s Q u s'
 | .ok _=>False
 | .error e=>CX E4 H s E e s'
structure bo(P:Fn)(w:Fp)(K:Frag)(mg:Fc)(E3:Fw)(CX:pS)(k:Nat)(f:Addr)(fd:Ft)(ps:List Str)(sp:Sp):Prop where
 len:∀vs H Q E,sp vs H Q E->vs.length=ps.length
 run:∀(A:Fz)(E4:List HS)(s:Fi)(H:Hp)(args:Args)(us:List Value)(vs:List V)(Q:VK)(E:XK),cn k A->lJ P w K mg E3 A E4 s H->Ib s fd args (ps.zip us)->aL vs us->sp vs H Q E->
  Gx (Fu P w) A (.call (.ref f) args) (CR CX E4 P w H s Q E) s
theorem bo.imp{P:Fn}{w:Fp}{K:Frag}{mg:Fc}{E3:Fw}{CX:pS}{k:Nat}{f:Addr}{fd:Ft}{ps:List Str}{sp sp':Sp}(F:bo P w K mg E3 CX k f fd ps sp)
  (h:∀vs H Q E,sp' vs H Q E->sp vs H Q E):bo P w K mg E3 CX k f fd ps sp':=
 ⟨λvs H Q E q=>F.len vs H Q E (h _ _ _ _ q),λA E4 s H args us vs Q E hr he hb hv hs=>F.run A E4 s H args us vs Q E hr he hb hv (h _ _ _ _ hs)⟩
theorem lJ.make{P:Fn}{w:Fp}{K:Frag}{mg:Fc}{E3:Fw}{A:Fz}{E4:List HS}{s:Fi}{H:Hp}(e:lJ P w K mg E3 A E4 s H)(C:Addr)(us:List Value)(kw:List (Str×Value)):
  lJ P w K mg E3 (A.under (.builtin "type.__call__" ⟨.ref C::us,kw⟩)) E4 s H:=⟨by first|exact e.frames|(simpa[Ix,Code.envs,Iw,pushEnvs]using e.frames),e.mod,e.bs,e.bsz,e.funs,e.frf,e.hok,e.bare⟩
section
variable{X:Cx}{gV:Fe}{σ:St}{H:Hp}{s s':Fi}
theorem aC.env0(I:aC X gV σ H s):lJ X.prog X.w X.K X.mg X.E3 X.A X.stack s H:=
 ⟨I.ok.frames,I.ok.mod,I.bs,Kg I.ok.bsz I.sz,I.stack,I.stkFree,I.hok,I.bare⟩
theorem aC.after{Q:VK}{u:Value}(I:aC X gV σ H s)(h:CE X.stack X.prog X.w H s Q u s'):EP X gV σ Q u s':=by obtain⟨v,H',os,bare,un,hok,r,q⟩:=h;obtain⟨hh,g,d,t,os'⟩:=s';obtain rfl:os'=s.os:=os;exact⟨v,H',I.call (h':=hh) (g':=g) (d':=d) (t':=t) (ch:=[]) un hok bare (λb z=>Fb z (by simp)),r,q⟩
end
def sU(sp:Sp)(dvs:List V)(E:XK)(t:TA):TE:=λσ H Q=>t σ H λvs H1=>sp (vs++dvs) H1 Q E
def sT(C:Addr)(sp:Sp)(dvs:List V)(E:XK)(t:TA):TE:=λσ H Q=>t σ H λvs H1=>∀x dx,H1 x=none->H1 dx=none->dx≠x->
 sp (.ref x::(vs++dvs)) (upd (upd H1 dx (.own x)) x (.ins C dx [])) (λv H2=>v=.non/\Q (.ref x) H2) E
def eW(K:Frag)(fd:Ft)(ps:List Str)(ds:List Value):Prop:=
 ∀(s:Fi)(us:List Value),K.In s.heap->(us++ds).length=ps.length->Ib s fd ⟨us,[]⟩ (ps.zip (us++ds))
theorem eW.all{K:Frag}{fd:Ft}{ps:List Str}(h:∀us:List Value,us.length=ps.length->bindArgs fd ⟨us,[]⟩=pure (ps.zip us)):eW K fd ps []:=λs us _ hl=>by rw[Jj]at hl ⊢;exact .of_eq (h us hl)
def jD(CX:pS)(X:Cx)(E:XK):Prop:= ∀(gV:Fe)(σ:St)(H:Hp)(s:Fi)(e:Value)(s':Fi),aC X gV σ H s->CX X.stack H s E e s'->X.xe e s'
section
variable{X:Cx}{CX:pS}{k:Nat}{f C:Addr}{fd:Ft}{ps:List Str}{sp:Sp}{dvs:List V}{ds:List Value}{E:XK}{x m:Str}{p pos apos:GO}{e o:FA}{es:List FA}{ta:TE}{t:TA}
theorem tu{gV:Fe}{σ:St}{H:Hp}{s:Fi}{Q:VK}{us:List Value}{vs:List V}(F:bo X.prog X.w X.K X.mg X.E3 CX k f fd ps sp)(hr:cn k X.A)(hb:eW X.K fd ps ds)(hd:aL dvs ds)(hx:jD CX X E)
  (I:aC X gV σ H s) (r:aL vs us) (h:sp (vs++dvs) H Q E):Fs (Fu X.prog X.w) X.A (call (.ref f) us) (EP X gV σ Q) X.xe s:=by
 have r2:aL (vs++dvs) (us++ds):=r.append hd;have hl:(us++ds).length=ps.length:=by rw[<-r2.length];exact F.len _ _ _ _ h
 refine Gy (FW (F.run X.A X.stack s H ⟨us,[]⟩ (us++ds) (vs++dvs) Q E hr I.env0 (hb s us I.kIn hl) r2 h) λr s' hq=>?_);cases r with
 |error e=>exact hx gV σ H s e s' I hq
 |ok fl=>
  cases fl with
  |ret u=>exact I.after hq
  |next=>exact False.elim hq
  |brk=>exact False.elim hq
  |cont=>exact False.elim hq
theorem vx(F:bo X.prog X.w X.K X.mg X.E3 CX k f fd ps sp)(hr:cn k X.A)(hg:Gl X x)(hm:X.mg x=some (.ref f))(hk:K9 X.K (.ref f)=true)(hb:eW X.K fd ps ds)(hd:aL dvs ds)(hx:jD CX X E)
  (ha:PA X (e::es) t) (hdb:(x == ("__debug__":Str))=false:=by decide) (he:Fj (e::es) X.env=(false,FF e X.env)::Fj es X.env:=by rfl) (hpl:(FC pos (Fj es X.env)).any (·.1)=false:=by rfl):
  PE X (.Call (.Name x p) (e::es) [] pos) (sU sp dvs E t):=by
 intro gV s σ H Q I h;refine FE (fN I hg hm ?_ hdb);refine Li (h₀:=X.E3) I.ok.mod.kin hk (bJ (ha pos gV s σ H _ I h) λus s1 ⟨vs,H1,I1,r,q⟩=>⟨I1.kIn,?_⟩) he hpl;exact tu F hr hb hd hx I1 r q
structure Mk(K:Frag)(C f:Addr):Prop where
 makes:Ln K C=true
 init:K3 K (.ref C) "__init__"=some (some (.ref f))
 fn:Lf K (.ref f)=true
 kp:K9 K (.ref C)=true
theorem tm{gV:Fe}{σ:St}{H:Hp}{s:Fi}{Q:VK}{us:List Value}{vs:List V}(M:Mk X.K C f)(F:bo X.prog X.w X.K X.mg X.E3 CX k f fd ps sp)(hr:cn (k+1) X.A)(hb:eW X.K fd ps ds)(hd:aL dvs ds)
  (hx:jD CX X E) (I:aC X gV σ H s) (r:aL vs us)
  (h:∀x dx,H x=none->H dx=none->dx≠x->sp (.ref x::(vs++dvs)) (upd (upd H dx (.own x)) x (.ins C dx [])) (λv H2=>v=.non/\Q (.ref x) H2) E):
  Fs (Fu X.prog X.w) X.A (call (.ref C) us) (EP X gV σ Q) X.xe s:=by
 have hq:=h (s.heap.objs.size+1) s.heap.objs.size (I.hok.fresh (Kk _)) (I.hok.fresh (Kd _)) (Ke (Kw _));have I2:=aC.made (C:=C) I;have r2:aL (V.ref (s.heap.objs.size+1)::(vs++dvs)) (FD (s.heap.objs.size+1)::(us++ds)):=.cons rfl (r.append hd);have hl:(FD (s.heap.objs.size+1)::us++ds).length=ps.length:=by have e:=r2.length;rw[F.len _ _ _ _ hq]at e;exact e.symm
 refine Gy (tS (f:=f) I.kIn M.makes M.init (beq_iff_eq.mp M.fn) (FW (F.run _ X.stack _ _ ⟨FD (s.heap.objs.size+1)::us,[]⟩ (FD (s.heap.objs.size+1)::(us++ds)) _ _ E (hr.make C us [])
  (I2.env0.make C us []) (hb _ (FD (s.heap.objs.size+1)::us) I2.kIn hl) r2 hq) λr s' hq'=>?_))
 cases r with
 |error e=>exact hx gV σ _ _ e s' I2 hq'
 |ok fl=>
  cases fl with
  |ret u=>
   obtain⟨v,H',I3,rv,ev,q3⟩:=I2.after hq';subst ev;exact⟨rv,⟨V.ref (s.heap.objs.size+1),H',I3,rfl,q3⟩⟩
  |next=>exact False.elim hq'
  |brk=>exact False.elim hq'
  |cont=>exact False.elim hq'
theorem vq(M:Mk X.K C f)(F:bo X.prog X.w X.K X.mg X.E3 CX k f fd ps sp)(hr:cn (k+1) X.A)(hg:Gl X x)(hm:X.mg x=some (.ref C))(hb:eW X.K fd ps ds)(hd:aL dvs ds)(hx:jD CX X E)
  (ha:PA X (e::es) t) (hdb:(x == ("__debug__":Str))=false:=by decide) (he:Fj (e::es) X.env=(false,FF e X.env)::Fj es X.env:=by rfl) (hpl:(FC pos (Fj es X.env)).any (·.1)=false:=by rfl):
  PE X (.Call (.Name x p) (e::es) [] pos) (sT C sp dvs E t):=by
 intro gV s σ H Q I h;refine FE (fN I hg hm ?_ hdb);refine Li (h₀:=X.E3) I.ok.mod.kin M.kp (bJ (ha pos gV s σ H _ I h) λus s1 ⟨vs,H1,I1,r,q⟩=>⟨I1.kIn,?_⟩) he hpl;exact tm M F hr hb hd hx I1 r q
end
structure aH(N P:List Str)(sc:Gj):Prop where
 kind:sc.kind=.function
 co:sc.isCoroutine=false
 gen:sc.isGenerator=false
 nd:N.Nodup
 pre:N.take P.length=P
 par:∀x∈P,sc.names.lookup x=some .local\/sc.names.lookup x=some .cell
 nofree:∀y∈sc.names,y.2≠.free
theorem kj{kindOf:Str->Option NameKind}{x:Str}:∀{binds:List (Str×Value)}{m:Fc},(∀v,(x,v)∉binds)->II kindOf binds m x=m x
 | [],_,_=>rfl
 |(n,v)::r,m,h=>by
  unfold II;rw[kj λw hw=>h w (Jd _ hw)];split
  .have:x≠n:=by rintro rfl;exact h v Jc
   simp[this]
  .rfl
theorem kn{kindOf:Str->Option NameKind}{x:Str}:∀{binds:List (Str×Value)}{m:Fc},(∀v,(x,v)∉binds)->IJ kindOf binds m x=m x
 | [],_,_=>rfl
 |(n,v)::r,m,h=>by
  unfold IJ;rw[kn λw hw=>h w (Jd _ hw)];split
  .rfl
  .have:x≠n:=by rintro rfl;exact h v Jc
   simp[this]
theorem km{kindOf:Str->Option NameKind}{x:Str}{v:Value}:∀{P:List Str}{vs:List Value}{i:Nat}{m:Fc},P.Nodup->P[i]? =some x->vs[i]? =some v->kindOf x=some .local->
  II kindOf (P.zip vs) m x=some v
 | [],_,_,_,_,h,_,_=>by simp at h
 |_::_,[],_,_,_,_,h,_=>by simp at h
 |p::P,w::vs,0,m,nd,h1,h2,hk=>by simp at h1 h2;subst h1;subst h2;show II kindOf ((p,w)::P.zip vs) m p=_;unfold II;rw[kj λv hv=>(JC.mp nd).1 (JD hv).1,E8 hk];simp
 |p::P,w::vs,i+1,m,nd,h1,h2,hk=>by show II kindOf ((p,w)::P.zip vs) m x=_;unfold II;exact km (i:=i) (JC.mp nd).2 (by simpa using h1) (by simpa using h2) hk
theorem ko{kindOf:Str->Option NameKind}{x:Str}{v:Value}:∀{P:List Str}{vs:List Value}{i:Nat}{m:Fc},P.Nodup->P[i]? =some x->vs[i]? =some v->kindOf x≠some .local->
  IJ kindOf (P.zip vs) m x=some v
 | [],_,_,_,_,h,_,_=>by simp at h
 |_::_,[],_,_,_,_,h,_=>by simp at h
 |p::P,w::vs,0,m,nd,h1,h2,hk=>by simp at h1 h2;subst h1;subst h2;show IJ kindOf ((p,w)::P.zip vs) m p=_;unfold IJ;rw[kn λv hv=>(JC.mp nd).1 (JD hv).1,E7 hk];simp
 |p::P,w::vs,i+1,m,nd,h1,h2,hk=>by show IJ kindOf ((p,w)::P.zip vs) m x=_;unfold IJ;exact ko (i:=i) (JC.mp nd).2 (by simpa using h1) (by simpa using h2) hk
def fg(N:List Str)(vs:List V):St:=vs.map some++List.replicate (N.length - vs.length) none
def jw(CX:pS)(P:Fn)(w:Fp)(K:Frag)(mg:Fc)(E3:Fw)(N:List Str)(qual:Str)(scope:Gj)(f:Addr)(cd:Value)(A:Fz)(E4:List HS)(s:Fi)(H:Hp)(E:XK):Cx where
 prog:=P
 w:=w
 K:=K
 mg:=mg
 E3:=E3
 A:=A.deeper (F0 qual scope s.heap.objs.size f cd)
 N:=N
 s₀:=s
 H₀:=H
 env:=F0 qual scope s.heap.objs.size f cd
 E4:=E4
 stack:=F0 qual scope s.heap.objs.size f cd::E4
 ex:=[]
 calm:=true
 fn:=λ_=>true
 pn:=[]
 xe:=λe s'=>Fs (Fu P w) (A.deeper (F0 qual scope s.heap.objs.size f cd)) (leaving (F0 qual scope s.heap.objs.size f cd) e) (λ_ s''=>CX E4 H s E e s'') (λe' s''=>CX E4 H s E e' s'') s'
theorem mQ{sc:Gj}{n:Nat}{x:Str}(h:sc.names.lookup x=some .cell):∃c,(IA n sc.names []).lookup x=some c:=by have q:=Lv sc.names n [] (.inl h);exact KZ.mp q
theorem j7{CX:pS}{P:Fn}{w:Fp}{K:Frag}{mg:Fc}{E3:Fw}{N ps:List Str}{qual:Str}{scope:Gj}{f:Addr}{cd:Value}{A:Fz}{E4:List HS}{s s1:Fi}{H:Hp}{E:XK}{us:List Value}{vs:List V}
  (S:aH N ps scope) (hd:A.handled=none) (e0:lJ P w K mg E3 A E4 s H) (hl:vs.length=ps.length) (r:aL vs us)
  (x:InCallC s s.heap.objs.size (II (F0 qual scope s.heap.objs.size f cd).kindOf (ps.zip us) λ_=>none) (IA (s.heap.objs.size+1) scope.names []) (IJ (F0 qual scope s.heap.objs.size f cd).kindOf (ps.zip us) λ_=>none) s1):
  aC (jw CX P w K mg E3 N qual scope f cd A E4 s H E) [] (fg N vs) H s1:=by
 have hpl:ps.length<=N.length:=by have:=congrArg List.length S.pre;rw[IX]at this;omega
 obtain⟨h1,tk,rfl,hk⟩:=x.done;have noA:∀b:Addr,b∉(jw CX P w K mg E3 N qual scope f cd A E4 s H E).ex:=λb z=>Fb (show b∈([]:List Addr)from z) (by simp);refine⟨⟨e0.mod,S.kind,rfl,rfl,Kd _,λy z c h1 h2=>?_,λy hy=>?_,λy c _ h=>?_,λ_=>hd,Around.frames_deeper e0.frames,.inr ⟨rfl,rfl⟩,λb z=>Fb z (noA b),e0.bs,e0.bsz,λb _ _=>noA b,λb z=>Fb z (noA b),e0.funs,e0.frf⟩,
  rfl,e0.bare,Un.kept hk,⟨_,x.toInCall.ns,λi y v h1 h2 h3=>?_⟩,λy c h=>⟨_,x.cell y c h⟩,e0.hok.fresh (Kd _),λy c h=>?_,λp hp=>Fb (show p∈([]:Fe)from hp) (by simp),e0.hok.kept hk,?_⟩
 .exact name_of_addr x.apart (PySem.mem_of_lookup h1) (PySem.mem_of_lookup h2)
 .have hy:scope.names.lookup y=some .cell\/scope.names.lookup y=some .free:=hy
  rcases hy with hy|hy
  .exact mQ hy
  .exact Fb rfl (S.nofree _ (PySem.mem_of_lookup hy))
 .exact Kv (x.above y c (PySem.mem_of_lookup h))
 .have hi:i<vs.length:=by
   unfold fg at h2
   by_cases hi:i<vs.length
   .exact hi
   .rw[JO (by simpa using hi)]at h2;rw[J2]at h2;split at h2<;>cases h2
  have ha:vs[i]? =some v:=by
   unfold fg at h2;rw[List.getElem?_append_left (by simpa using hi),IU]at h2;cases e:vs[i]? with
   |none=>rw[e]at h2;cases h2
   |some a=>rw[e]at h2;cases h2;rfl
  obtain⟨u,hu,rv⟩:=r.get ha;have hp:ps[i]? =some y:=by rw[<-S.pre,List.getElem?_take_of_lt (by omega)];exact h1
  have ndP:ps.Nodup:=by rw[<-S.pre];exact S.nd.sublist (List.take_sublist _ _)
  refine⟨u,rv,?_⟩
  rcases S.par y (Jm hp)with k|k
  .exact .inl ⟨k,km ndP hp hu k⟩
  .obtain⟨c,e⟩:=mQ (n:=s.heap.objs.size+1) k;refine .inr ⟨.inl k,c,e,?_⟩;have q:=x.cell y c e;rw[ko ndP hp hu (by show scope.names.lookup y≠_;rw[k];decide)]at q;exact q
 .exact e0.hok.fresh (Kv (x.above y c (PySem.mem_of_lookup h)))
 .unfold fg;show _=N.length;rw[IT,IL,List.length_replicate];omega
theorem zg{CX:pS}{P:Fn}{w:Fp}{K:Frag}{mg:Fc}{E3:Fw}{k:Nat}{f:Addr}{name qual:Str}{params:Arguments}{body:List FG}{scope:Gj}{dV kV doc pm cdv ct oc:Value}{an od:Option Addr}
  {osl:Array (Option Value)} {N ps:List Str} {sp:Sp} (lk:K.lookup f=some ⟨oc,od,.func (Lb name qual params body scope dV kV doc pm an cdv ct),osl⟩) (hcd:Lo K cdv qual=true) (S:aH N ps scope)
  (len:∀vs H Q E,sp vs H Q E->vs.length=ps.length)
  (hbody:∀(A:Fz)(E4:List HS)(s:Fi)(H:Hp)(vs:List V)(Q:VK)(E:XK),cn k (A.deeper (F0 qual scope s.heap.objs.size f cdv))->sp vs H Q E->
   ∃t,mU (jw CX P w K mg E3 N qual scope f cdv A E4 s H E) body t/\t {nx:=λ_ H'=>Q .non H',rt:=Q} (fg N vs) H):
  bo P w K mg E3 CX (k+1) f (Lb name qual params body scope dV kV doc pm an cdv ct) ps sp:=by
 refine⟨len,λA E4 s H args us vs Q E hr e0 hb r hsp=>?_⟩;have hl:=len _ _ _ _ hsp;have KX:K.In s.heap:=e0.mod.kin.keeps λb o e=>(e0.bs b o e).1;have lim:s.heap.NoLimit:=e0.mod.nolimit.keeps λb o e=>(e0.bs b o e).1;have hkind:∀y∈ps.zip us,scope.names.lookup y.1=some .local\/(scope.names.lookup y.1=some .cell/\((IA (s.heap.objs.size+1) scope.names []).lookup y.1).isSome=true):=λ⟨n,v⟩ hy=>by
  rcases S.par n (JD hy).1 with q|q
  .exact .inl q
  .exact .inr ⟨q,Lv _ _ _ (.inl q)⟩
 refine HN hr.depth (KX _ _ lk) rfl S.co S.gen rfl (LF KX hcd) (hb _ _ _ _ ?_);refine G4 S.kind hkind λenv he s1 x=>?_;subst he;refine⟨lim.keeps x.toInCall.keep,codeAny_func ?_⟩;obtain⟨t,ht,hq⟩:=hbody A E4 s H vs Q E (hr.deeper _) hsp;have I:aC (jw CX P w K mg E3 N qual scope f cdv A E4 s H E) [] (fg N vs) H s1:=j7 S hr.hd e0 hl r x;refine FM (ht [] s1 (fg N vs) H _ I hq) (λfl s' hs=>?_) λe s' hs=>hs;have fin:∀{σ':St}{H':Hp}{v:V}{u:Value},aC (jw CX P w K mg E3 N qual scope f cdv A E4 s H E) [] σ' H' s'->RelV v u->Q v H'->CE E4 P w H s Q u s':=
  λ{σ' H' v u} J rv q=>⟨v,H',J.os,J.bare,J.E3,J.hok,rv,q⟩
 cases fl with
 |ret u=>
  obtain⟨v,σ',H',J,rv,q⟩:=hs;exact fin J rv q
 |next=>
  obtain⟨σ',H',J,q⟩:=hs;exact fin (v:=V.non) (u:=GS) J rfl q
 |brk=>
  obtain⟨_,_,_,q⟩:=hs;exact False.elim q
 |cont=>
  obtain⟨_,_,_,q⟩:=hs;exact False.elim q
section
variable{X:Cx}{x:Str}{p pos:GO}{e:FA}{es:List FA}{t:TA}{id T:String}{r:List V->Hp->VK->Prop}
def tCB(r:List V->Hp->VK->Prop)(t:TA):TE:=λσ H Q=>t σ H λvs H1=>r vs H1 Q
theorem tK(hc:bj X (.builtin id) r)(hg:Gl X x)(hm:X.mg x=none)(hv:Fv x=some (.builtin id))(ha:PA X (e::es) t)(hn:x≠"__name__":=by decide)(hdb:(x == ("__debug__":Str))=false:=by decide)
  (he:Fj (e::es) X.env=(false,FF e X.env)::Fj es X.env:=by rfl) (hpl:(FC pos (Fj es X.env)).any (·.1)=false:=by rfl):PE X (.Call (.Name x p) (e::es) [] pos) (tCB r t):=by
 intro gV s σ H Q I h;refine FE (eE I hg hm hv ?_ hn hdb);exact PyProof.Rows.callWith_builtin1 (bJ (ha pos gV s σ H _ I h) λus s1 ⟨vs,H1,I1,r1,q1⟩=>hc gV s1 σ H1 vs us Q I1 r1 q1) he hpl
theorem qk(hc:bj X (.type T) r)(hg:Gl X x)(hm:X.mg x=none)(hv:Fv x=some (.type T))(ha:PA X (e::es) t)(hn:x≠"__name__":=by decide)(hdb:(x == ("__debug__":Str))=false:=by decide)
  (he:Fj (e::es) X.env=(false,FF e X.env)::Fj es X.env:=by rfl) (hpl:(FC pos (Fj es X.env)).any (·.1)=false:=by rfl):PE X (.Call (.Name x p) (e::es) [] pos) (tCB r t):=by
 intro gV s σ H Q I h;refine FE (eE I hg hm hv ?_ hn hdb);exact PyProof.Rows.callWith_type1 (bJ (ha pos gV s σ H _ I h) λus s1 ⟨vs,H1,I1,r1,q1⟩=>hc gV s1 σ H1 vs us Q I1 r1 q1) he hpl
end
end L2
namespace HT
open PySem PyProof.Rows
section
variable{prog:Fn}{w:Fp}{A:Fz}{E:Fd}{s:Fi}
def sIx(n d:Nat):Option Int->Nat
 |none=>d
 |some v=>if v<0 then(v+(n:Int)).toNat else min v.toNat n
theorem sIx_nat(n d k:Nat):sIx n d (some (k:Int))=min k n:=by show(if(k:Int)<0 then((k:Int)+(n:Int)).toNat else min (k:Int).toNat n)=min k n;rw[E7 (by omega),Int.toNat_natCast]
theorem sIx_le(n d:Nat)(hd:d<=n)(o:Option Int):sIx n d o<=n:=by
 cases o with
 |none=>exact hd
 |some v=>
  show(if v<0 then(v+(n:Int)).toNat else min v.toNat n)<=n
  by_cases hv:v<0
  .rw[E8 hv];omega
  .rw[E7 hv];exact Nat.min_le_right _ _
end
end HT
namespace L2
open PySem PySem.Spec PyProof.Rows
abbrev TO:=St->Hp->(Option Int->Hp->Prop)->Prop
def PO(X:Cx)(e:Option FA)(t:TO):Prop:=
 ∀(gV:Fe)(s:Fi)(σ:St)(H:Hp)(Q:Option Int->Hp->Prop),aC X gV σ H s->t σ H Q->
  Fs (Fu X.prog X.w) X.A (evalPart e X.env) (λu s'=>∃o H',aC X gV σ H' s'/\IK u o/\Q o H') X.xe s
def gY:TO:=λ_ H Q=>Q none H
theorem jr{ns:List Int}:∀{us:List Value},aL (ns.map V.int) us->Ia us ns:=by
 induction ns with
 |nil=>intro us r;rw[JP]at r;cases r;exact .nil
 |cons n ns ih=>
  intro us r;rw[Jh]at r;cases r with
  |cons r1 r2=>
   obtain⟨t,e⟩:=r1;subst e;exact .cons n t (ih r2)
section
variable{X:Cx}{e:FA}{te:TE}{lo hi:Option FA}{tl th:TO}{pos p2:GO}
theorem bc:PO X none gY:=by intro gV s σ H Q I h;rw[evalPart_none];exact Fm ⟨none,H,I,.none,h⟩
def q9(X:Cx)(r:V->Option Int->Option Int->Hp->VK->Prop):Prop:=
 ∀(gV:Fe)(s:Fi)(σ:St)(H:Hp)(x:V)(v vl vu:Value)(lo hi:Option Int)(sl:Addr)(Q:VK),aC X gV σ H s->RelV x v->s.heap.IsSliceOf sl vl vu .none->IK vl lo->IK vu hi->r x lo hi H Q->
  ∃T id,typeLookup (.type T) "__getitem__"=pure (some (.builtin id))/\s.TypeIs v T/\Fs (Fu X.prog X.w) X.A (getItem v (.ref sl)) (EP X gV σ Q) X.xe s
theorem q9.or{r r':V->Option Int->Option Int->Hp->VK->Prop}(h:q9 X r)(h':q9 X r'):q9 X (λx lo hi H Q=>r x lo hi H Q\/r' x lo hi H Q):=by
 intro gV s σ H x v vl vu lo hi sl Q I rx hs pl pu q
 rcases q with q|q
 .exact h gV s σ H x v vl vu lo hi sl Q I rx hs pl pu q
 .exact h' gV s σ H x v vl vu lo hi sl Q I rx hs pl pu q
def tSl(r:V->Option Int->Option Int->Hp->VK->Prop)(te:TE)(tl th:TO):TE:=λσ H Q=>te σ H λx H1=>tl σ H1 λl H2=>th σ H2 λu H3=>r x l u H3 Q
theorem tI{r:V->Option Int->Option Int->Hp->VK->Prop}(hr:q9 X r)(he:PE X e te)(hl:PO X lo tl)(hu:PO X hi th):PE X (.Subscript e (.Slice lo hi none p2) pos) (tSl r te tl th):=by intro gV s σ H Q I h;refine Subscript_ (bJ (he gV s σ H _ I h) λv s1 ⟨x,H1,I1,r1,q1⟩=>?_);refine wpAny_Slice (bJ (hl gV s1 σ H1 _ I1 q1) λvl s2 ⟨l,H2,I2,pl,q2⟩=>bJ (hu gV s2 σ H2 _ I2 q2) λvu s3 ⟨u,H3,I3,pu,q3⟩=>?_);rw[evalPart_none];refine Fm ?_;have I4:aC X gV σ H3 {s3 with heap:=s3.heap.push {cls:=.type "slice",data:=.fields #[vl,vu,.none]}}:=I3.kept (t':=s3.toks) λb ob q=>Fh _ q;obtain⟨T,id,hT,ht,hg⟩:=hr gV {s3 with heap:=s3.heap.push {cls:=.type "slice",data:=.fields #[vl,vu,.none]}} σ H3 x v vl vu l u s3.heap.objs.size Q I4 r1 (Heap.IsSliceOf.new ..) pl pu q3;show Fs (Fu X.prog X.w) X.A (subscriptTail e (.Slice lo hi none p2) v (.ref s3.heap.objs.size)) (EP X gV σ Q) X.xe {s3 with heap:=s3.heap.push {cls:=.type "slice",data:=.fields #[vl,vu,.none]}};exact tail_any (ops:=[.ref s3.heap.objs.size,v]) ht hT hg (by with_unfolding_all rfl)
def dh(xs:List V)(lo hi:Option Int):List V:=(xs.drop (HT.sIx xs.length 0 lo)).take (HT.sIx xs.length xs.length hi - HT.sIx xs.length 0 lo)
theorem iI(xs:List V)(lo hi:Option Int):(dh xs lo hi).length<=xs.length:=by unfold dh;rw[IX,Jn];omega
end
def ixN(n:Nat)(i:Int):Option Nat:=if 0<=i then(if i<n then some i.toNat else none)else if -(n:Int)<=i then some (i+n).toNat else none
def iK{α:Type}(xs:List α)(i:Int):Option α:=(ixN xs.length i).bind λj=>xs[j]?
theorem pB{n:Nat}{i:Int}{j:Nat}(h:ixN n i=some j):seqIndex? i n=some j/\j<n/\-(n:Int)<=i/\i<n:=by
 unfold ixN at h
 by_cases h0:0<=i
 .rw[E8 h0]at h
  by_cases h1:i<n
  .rw[E8 h1]at h;have e:i.toNat=j:=Option.some.inj h;exact⟨by rw[seqIndex_of h0 h1,e],by omega,by omega,h1⟩
  .rw[E7 h1]at h;cases h
 .rw[E7 h0]at h
  by_cases h1: -(n:Int)<=i
  .rw[E8 h1]at h;have e:(i+n).toNat=j:=Option.some.inj h;exact⟨by rw[Ip (by omega) h1,e],by omega,h1,by omega⟩
  .rw[E7 h1]at h;cases h
theorem lG{α:Type}{xs:List α}{i:Int}{v:α}(h:iK xs i=some v):∃j,seqIndex? i xs.length=some j/\xs[j]? =some v/\j<xs.length/\-(xs.length:Int)<=i/\i<xs.length:=by
 unfold iK at h;cases e:ixN xs.length i with
 |none=>rw[e]at h;cases h
 |some j=>
  rw[e]at h;obtain⟨h1,h2,h3,h4⟩:=pB e;exact⟨j,h1,h,h2,h3,h4⟩
theorem bD{α:Type}{xs:List α}{j:Nat}{v:α}(h:xs[j]? =some v):iK xs (j:Int)=some v:=by
 have hj:j<xs.length:=(Je.mp h).1;have e:ixN xs.length (j:Int)=some j:=by unfold ixN;rw[E8 (by omega),E8 (by omega)];simp
 unfold iK;rw[e];exact h
def lH(b:FA):Prop:= ∀o i,subscripted b false o i=operate [o,i] (getItem o i)
def pP(X:Cx)(r:R2):Prop:=
 ∀(value slice:FA)(gV:Fe)(s:Fi)(σ:St)(H:Hp)(x y:V)(v u:Value)(Q:VK),aC X gV σ H s->RelV x v->RelV y u->r x y H Q->
  subscripted slice false v u=operate [v,u] (getItem v u)->Fs (Fu X.prog X.w) X.A (subscriptTail value slice v u) (EP X gV σ Q) X.xe s
def rc(X:Cx)(id:String)(r:V->List V->Hp->VK->Prop):Prop:=
 ∀(gV:Fe)(s:Fi)(σ:St)(H:Hp)(x:V)(xs:List V)(v:Value)(us:List Value)(Q:VK),aC X gV σ H s->RelV x v->aL xs us->r x xs H Q->
  Fs (Fu X.prog X.w) X.A (call (.builtin id) (v::us)) (EP X gV σ Q) X.xe s
section
variable{X:Cx}{a b:FA}{ta tb:TE}{pos:GO}
theorem pP.or{r r':R2}(h:pP X r)(h':pP X r'):pP X (λx y H Q=>r x y H Q\/r' x y H Q):=by
 intro value slice gV s σ H x y v u Q I rx ry q hs
 rcases q with q|q
 .exact h value slice gV s σ H x y v u Q I rx ry q hs
 .exact h' value slice gV s σ H x y v u Q I rx ry q hs
theorem Dh{r:R2}(hr:pP X r)(ha:PE X a ta)(hb:PE X b tb)(hs:lH b):PE X (.Subscript a b pos) (Em r ta tb):=by intro gV s σ H Q I h;exact Subscript_ (Bk ha hb I h λv u s2 x y H2 I2 rx ry q=>hr a b gV s2 σ H2 x y v u Q I2 rx ry q (hs _ _))
def Dd(K:Frag):R2:=λx y H Q=>∃p xs i v,x=.ref p/\y=.int i/\aM K H p xs/\iK xs i=some v/\Q v H
def Db(K:Frag):R2:=λx y H Q=>∃p xs i v,x=.ref p/\y=.int i/\dC K H p xs/\iK xs i=some v/\Q v H
def Dc:R2:=λx y H Q=>∃z i c,x=.str z/\y=.int i/\z.length<=sizeLine/\iK z.cps.toList i=some c/\Q (.str ⟨#[c]⟩) H
theorem vL:pP X (Dd X.K):=by
 intro value slice gV s σ H x y v u Q I rx ry h hs;obtain⟨p,xs,i,z,rfl,rfl,hq,he,q⟩:=h;cases rx;obtain⟨t,rfl⟩:=ry;obtain⟨its,r,pl,hz⟩:=I.list hq;obtain⟨j,h1,h2,h3,h4,h5⟩:=lG he;obtain⟨w,ew,rw'⟩:=r.get h2;have hl:=r.length;have hn:=gN;have fin:EP X gV σ Q w s:=⟨z,H,I,rw',q⟩
 by_cases h0:0<=i
 .have hj:i.toNat=j:=by rw[seqIndex_of h0 h5]at h1;exact Option.some.inj h1
  exact item_listR pl.isList h0 (by omega) (by rw[hj];simpa using ew) fin hs
 .have hj:(i+(its.toArray.size:Int)).toNat=j:=by rw[Ip (by omega) h4]at h1;rw[IM,<-hl];exact Option.some.inj h1
  exact HJ (x:=w) pl.isList.typeIs slot_list_getitem.lookup
   (wpAny_getItem_list_neg (Q:=λr s'=>r=w/\EP X gV σ Q r s') pl.isList (by omega) (by rw[IM]<;>omega) (by omega) (by rw[hj];simpa using ew) ⟨rfl,fin⟩) hs
theorem AT:pP X (Db X.K):=by
 intro value slice gV s σ H x y v u Q I rx ry h hs;obtain⟨p,xs,i,z,rfl,rfl,hq,he,q⟩:=h;cases rx;obtain⟨t,rfl⟩:=ry;obtain⟨its,r,pl,hz⟩:=I.tuple hq;obtain⟨j,h1,h2,h3,h4,h5⟩:=lG he;obtain⟨w,ew,rw'⟩:=r.get h2;have hl:=r.length;have hn:=gN;have fin:EP X gV σ Q w s:=⟨z,H,I,rw',q⟩;exact HJ (x:=w) pl.typeIs slot_tuple_getitem.lookup
  (getItem_tuple (j:=j) (Q:=λr s'=>r=w/\EP X gV σ Q r s') pl (by omega) (by omega) (by rw[IM,<-hl];exact h1) (by simpa using ew) ⟨rfl,fin⟩) hs
theorem AU:pP X Dc:=by
 intro value slice gV s σ H x y v u Q I rx ry h hs;obtain⟨z,i,c,rfl,rfl,hz,he,q⟩:=h;obtain⟨t,rfl⟩:=rx;obtain⟨t',rfl⟩:=ry;obtain⟨j,h1,h2,h3,h4,h5⟩:=lG he;have hl:z.cps.toList.length=z.length:=by simp[Str.length]
 rw[hl]at h1 h4 h5;have hn:=gN;exact tail_any (HI s z t) slot_str_getitem.lookup (getItem_str (c:=c) (by
  have e1:decide (i< -(2 ^ 63:Int))=false:=E6 (by omega);have e2:decide (i≥2 ^ 63)=false:=E6 (by omega);rw[e1,e2,Bool.or_false]) (by rw[h1];simpa using h2) ⟨.str ⟨#[c]⟩,H,I.tok _,⟨_,rfl⟩,q⟩) hs
def rIx(K:Frag):R2:=λx y H Q=>Dd K x y H Q\/Db K x y H Q\/Dc x y H Q
theorem AV:pP X (rIx X.K):=vL.or (AT.or AU)
theorem nR(its:List Value)(n j:Nat)(u:Value):Gg (·.setIfInBounds j u) {cls:=.type "list",data:=.seq its.toArray n}={cls:=.type "list",data:=.seq (its.set j u).toArray n}:=by simp[Gg]
theorem aC.lst{gV:Fe}{σ:St}{H:Hp}{s:Fi}{p:Addr}{xs:List V}(I:aC X gV σ H s)(h:H p=some (.lst xs)):
  ∃(its:List Value)(n:Nat),aL xs its/\s.heap.get? p=some {cls:=.type "list",data:=.seq its.toArray n}/\xs.length<=sizeLine:=by
 obtain⟨z,its,n,r,e⟩:=I.hok p _ h;exact⟨its,n,r,e,z⟩
theorem aC.lstUpd{gV:Fe}{σ:St}{H:Hp}{s:Fi}{p:Addr}{xs ys:List V}{its its':List Value}{n n':Nat}{f:Obj->Obj}(I:aC X gV σ H s)(h:H p=some (.lst xs))
  (ho:s.heap.get? p=some {cls:=.type "list",data:=.seq its.toArray n}) (hf:f {cls:=.type "list",data:=.seq its.toArray n}={cls:=.type "list",data:=.seq its'.toArray n'}) (r:aL ys its') (hz:ys.length<=sizeLine) (t:Nat):
  aC X gV σ (upd H p (.lst ys)) {s with heap:=s.heap.update p f,toks:=t}:=by
 have e:(s.heap.update p f).get? p=some {cls:=.type "list",data:=.seq its'.toArray n'}:=by rw[HQ f ho (by rw[hf]<;>rfl),hf]
 refine I.write (x:=p) (e:=p) (by rw[h];trivial) (.inl rfl) (λb u hb q=>(Gh _ _ (Ne.symm hb)).trans q) ⟨_,e⟩ ?_;exact⟨hz,its',n',r,e⟩
def yY:V->V->V->Hp->(Hp->Prop)->Prop:=λo i v H Q=>∃p xs k j,o=.ref p/\i=.int k/\H p=some (.lst xs)/\ixN xs.length k=some j/\Q (upd H p (.lst (xs.set j v)))
theorem tf:D4 X yY:=by
 intro gV s σ H o i v ov iv u Q I ro ri rv h;obtain⟨p,xs,k,j,rfl,rfl,hp,hj,q⟩:=h;cases ro;obtain⟨t,rfl⟩:=ri;obtain⟨its,n,r,ho,hz⟩:=I.lst hp;obtain⟨h1,h2,h3,h4⟩:=pB hj;have hl:=r.length;have hn:=gN;have I':aC X gV σ (upd H p (.lst (xs.set j v))) {s with heap:=s.heap.update p (Gg (·.setIfInBounds j u))}:=
  I.lstUpd hp ho (nR its n j u) (r.set rv j) (by rw[List.length_set];exact hz) s.toks
 by_cases h0:0<=k
 .have hk:k.toNat=j:=by rw[seqIndex_of h0 h4]at h1;exact Option.some.inj h1
  exact PySem.W.ki_setAt ho h0 (by omega) (by rw[IM,<-hl];exact h4) (by rw[hk];exact⟨_,I',q⟩)
 .have hk:(k+(its.toArray.size:Int)).toNat=j:=by rw[Ip (by omega) h3]at h1;rw[IM,<-hl];exact Option.some.inj h1
  exact PySem.W.ki_setBack ho (by omega) (by rw[IM,<-hl];exact h3) (by omega) (by rw[hk];exact⟨_,I',q⟩)
theorem kA(lo hi:Option Int)(n:Nat):(Gd lo hi none n).1=((HT.sIx n 0 lo:Nat):Int)/\(Gd lo hi none n).2.1=((HT.sIx n n hi:Nat):Int)/\(Gd lo hi none n).2.2=1:=by
 refine⟨?_,?_,rfl⟩
 .cases lo with
  |none=>simp[Gd,HT.sIx]
  |some i=>
   simp only[Gd,HT.sIx,K0,show(1:Int) > 0 by decide,if_true]
   by_cases h:i<0
   .simp only[h,if_true]<;>omega
   .simp only[h,if_false]<;>omega
 .cases hi with
  |none=>simp[Gd,HT.sIx]
  |some i=>
   simp only[Gd,HT.sIx,K0,show(1:Int) > 0 by decide,if_true]
   by_cases h:i<0
   .simp only[h,if_true]<;>omega
   .simp only[h,if_false]<;>omega
theorem jG(its:List Value)(lo hi:Option Int):slicePick its.toArray lo hi none=((its.drop (HT.sIx its.length 0 lo)).take (HT.sIx its.length its.length hi - HT.sIx its.length 0 lo)).toArray:=by obtain⟨h1,h2,h3⟩:=kA lo hi its.toArray.size;unfold slicePick;rw[h1,h2,h3];simp only[sliceRange_one,pick_run,IM]<;>rfl
def Es(K:Frag):V->Option Int->Option Int->Hp->VK->Prop:=λx lo hi H Q=>∃a xs,x=.ref a/\aM K H a xs/\∀p,H p=none->Q (.ref p) (upd H p (.lst (dh xs lo hi)))
theorem vd:q9 X (Es X.K):=by intro gV s σ H x v vl vu lo hi sl Q I rx hs pl pu h;obtain⟨a,xs,rfl,hx,q⟩:=h;cases rx;obtain⟨its,r,ht,hz⟩:=I.list hx;have hlen:=r.length;refine⟨"list",_,slot_list_getitem.lookup,ht.isList.typeIs,?_⟩;refine wpAny_getItem_list_slice ht.isList hs pl pu .none (by simp) ?_ (by rw[IM]<;>omega);rw[jG,<-hlen];refine⟨.ref s.heap.objs.size,_,I.laid (t':=s.toks) (o:=.lst (dh xs lo hi)) (λb ob q=>Fh _ q) (Kd _) ?_,rfl,q _ (I.hok.fresh (Kd _))⟩;exact⟨Kg (iI xs lo hi) hz,_,0,(r.drop (HT.sIx xs.length 0 lo)).take (HT.sIx xs.length xs.length hi - HT.sIx xs.length 0 lo),Fo _ rfl⟩
def bO:V->Bool
 | .non=>true
 | .bl _=>true
 | .int _=>true
 | .str _=>true
 |_=>false
def eqV:V->V->Bool
 | .non,.non=>true
 | .bl a,.bl b=>a == b
 | .bl a,.int b=>(if a then 1 else 0) == b
 | .int a,.bl b=>a == (if b then 1 else 0)
 | .int a,.int b=>a == b
 | .str a,.str b=>a == b
 |_,_=>false
theorem lu{A:Fz}{s:Fi}{y x:V}{u v:Value}(ry:RelV y u)(rx:RelV x v)(fy:bO y=true)(fx:bO x=true):HL A s u v (eqV y x):=by
 cases y with
 |non=>
  cases ry;cases x with
  |non=>cases rx;exact SeqAt.EqAt.same _
  |bl b=>cases rx;exact SeqAt.EqAt.none_bool b
  |int b=>obtain⟨t,rfl⟩:=rx;exact SeqAt.EqAt.none_int b t
  |str b=>obtain⟨t,rfl⟩:=rx;exact SeqAt.EqAt.none_str b t
  |_=>exact Fb (show false=true from fx) KI
 |bl a=>
  cases ry;cases x with
  |non=>cases rx;exact SeqAt.EqAt.bool_none a
  |bl b=>cases rx;exact SeqAt.EqAt.bool_bool a b
  |int b=>obtain⟨t,rfl⟩:=rx;exact SeqAt.EqAt.bool_int a b t
  |str b=>obtain⟨t,rfl⟩:=rx;exact SeqAt.EqAt.bool_str a b t
  |_=>exact Fb (show false=true from fx) KI
 |int a=>
  obtain⟨t',rfl⟩:=ry;cases x with
  |non=>cases rx;exact SeqAt.EqAt.int_none a t'
  |bl b=>cases rx;exact SeqAt.EqAt.int_bool a t' b
  |int b=>obtain⟨t,rfl⟩:=rx;exact SeqAt.EqAt.int_int a t' b t
  |str b=>obtain⟨t,rfl⟩:=rx;exact SeqAt.EqAt.int_str a t' b t
  |_=>exact Fb (show false=true from fx) KI
 |str a=>
  obtain⟨t',rfl⟩:=ry;cases x with
  |non=>cases rx;exact SeqAt.EqAt.str_none a t'
  |bl b=>cases rx;exact SeqAt.EqAt.str_bool a t' b
  |int b=>obtain⟨t,rfl⟩:=rx;exact SeqAt.EqAt.str_int a t' b t
  |str b=>obtain⟨t,rfl⟩:=rx;exact SeqAt.EqAt.str_str a t' b t
  |_=>exact Fb (show false=true from fx) KI
 |_=>exact Fb (show false=true from fy) KI
def mI(x:V)(u:Value):Bool:=match u with
 | .none=>eqV .non x
 | .bool b=>eqV (.bl b) x
 | .int i _=>eqV (.int i) x
 | .str z _=>eqV (.str z) x
 |_=>false
theorem oh{x y:V}{u:Value}(r:RelV y u)(f:bO y=true):mI x u=eqV y x:=by
 cases y with
 |non=>cases r;rfl
 |bl b=>cases r;rfl
 |int i=>obtain⟨t,rfl⟩:=r;rfl
 |str z=>obtain⟨t,rfl⟩:=r;rfl
 |_=>exact Fb (show false=true from f) KI
theorem ic{x:V}:∀{xs:List V}{us:List Value},aL xs us->xs.all bO=true->us.any (mI x)=xs.any λy=>eqV y x
 |_,_,.nil,_=>rfl
 |y::xs,u::us,.cons r t,f=>by rw[IZ,KJ]at f;rw[JE,JE,oh r f.1,ic t f.2]
theorem fB{A:Fz}{s:Fi}{x:V}{v:Value}(rx:RelV x v)(fx:bO x=true):∀{xs:List V}{us:List Value},aL xs us->xs.all bO=true->∀u∈us,HL A s u v (mI x u)
 |_,_,.nil,_=>λu hu=>by cases hu
 |y::xs,u::us,.cons r t,f=>λu' hu=>by
  rw[IZ,KJ]at f
  rcases IN.mp hu with rfl|hu
  .rw[oh r f.1];exact lu r rx f.1 fx
  .exact fB rx fx t f.2 u' hu
def BB(x:V)(xs:List V):Bool:=xs.any λy=>eqV y x
def yZ(K:Frag)(neg:Bool):R2:=λx y H Q=>∃p xs,y=.ref p/\(aM K H p xs\/dC K H p xs)/\bO x=true/\xs.all bO=true/\Q (.bl (if neg then !BB x xs else BB x xs)) H
theorem qs:gH X (FN .In) (yZ X.K false):=by
 intro gV s σ H x y v u Q I rx ry h;obtain⟨p,xs,rfl,hq,fx,fs,q⟩:=h;cases ry
 rcases hq with hq|hq
 .obtain⟨its,r,pl,hz⟩:=I.list hq;refine SeqAt.in_listAt (mI x) pl.isList (λw hw=>fB rx fx r fs w (by simpa using hw)) ⟨.bl _,H,I,rfl,?_⟩;rw[show its.toArray.any (mI x)=its.any (mI x) by simp,ic r fs];exact q
 .obtain⟨its,r,pl,hz⟩:=I.tuple hq;refine SeqAt.in_tupleAt (mI x) pl (λw hw=>fB rx fx r fs w (by simpa using hw)) ⟨.bl _,H,I,rfl,?_⟩;rw[show its.toArray.any (mI x)=its.any (mI x) by simp,ic r fs];exact q
theorem kP:gH X (FN .NotIn) (yZ X.K true):=by
 intro gV s σ H x y v u Q I rx ry h;obtain⟨p,xs,rfl,hq,fx,fs,q⟩:=h;cases ry
 rcases hq with hq|hq
 .obtain⟨its,r,pl,hz⟩:=I.list hq;refine SeqAt.notIn_listAt (mI x) pl.isList (λw hw=>fB rx fx r fs w (by simpa using hw)) ⟨.bl _,H,I,rfl,?_⟩;rw[show its.toArray.any (mI x)=its.any (mI x) by simp,ic r fs];exact q
 .obtain⟨its,r,pl,hz⟩:=I.tuple hq;refine SeqAt.notIn_tupleAt (mI x) pl (λw hw=>fB rx fx r fs w (by simpa using hw)) ⟨.bl _,H,I,rfl,?_⟩;rw[show its.toArray.any (mI x)=its.any (mI x) by simp,ic r fs];exact q
theorem lB:bj X (.builtin "len") (λxs H Q=>∃p ys,xs=[.ref p]/\(aM X.K H p ys\/dC X.K H p ys)/\Q (.int ys.length) H):=by
 intro gV s σ H xs us Q I r h;obtain⟨p,ys,rfl,hq,q⟩:=h;obtain⟨u,rfl,rx⟩:=cU r;cases rx;have hn:=gN
 rcases hq with hq|hq
 .obtain⟨its,r',pl,hz⟩:=I.list hq;have hlen:=r'.length;exact Calls.call_len_list pl.isList (by simp only[IM]<;>omega) ⟨.int ys.length,H,I.tok _,⟨s.toks+1,by rw[IM,hlen]⟩,q⟩
 .obtain⟨its,r',pl,hz⟩:=I.tuple hq;have hlen:=r'.length;exact len_tuple pl (by simp only[IM]<;>omega) ⟨.int ys.length,H,I.tok _,⟨s.toks+1,by rw[IM,hlen]⟩,q⟩
theorem lA:bj X (.builtin "len") (λxs H Q=>∃z,xs=[.str z]/\z.length<=sizeLine/\Q (.int z.length) H):=by intro gV s σ H xs us Q I r h;obtain⟨z,rfl,hz,q⟩:=h;obtain⟨u,rfl,t,rfl⟩:=cU r;have hn:=gN;exact len_str (by omega) ⟨.int z.length,H,I.tok _,⟨_,rfl⟩,q⟩
theorem bj.or{f:Value}{r r':List V->Hp->VK->Prop}(h:bj X f r)(h':bj X f r'):bj X f (λxs H Q=>r xs H Q\/r' xs H Q):=by
 intro gV s σ H xs us Q I rs q
 rcases q with q|q
 .exact h gV s σ H xs us Q I rs q
 .exact h' gV s σ H xs us Q I rs q
theorem ly:bj X (.type "list") (λxs H Q=>∃p ys,xs=[.ref p]/\(aM X.K H p ys\/dC X.K H p ys)/\∀l,H l=none->Q (.ref l) (upd H l (.lst ys))):=by
 intro gV s σ H xs us Q I r h;obtain⟨p,ys,rfl,hq,q⟩:=h;obtain⟨u,rfl,rx⟩:=cU r;cases rx;have fin:∀(its:List Value),aL ys its->ys.length<=sizeLine->∀(h':Fw)(c':Nat),(∀b o',s.heap.get? b=some o'->h'.get? b=some o')->
   h'.get? s.heap.objs.size=some {cls:=.type "list",dict:=none,data:=.seq its.toArray c',slots:= #[]}->EP X gV σ Q (.ref s.heap.objs.size) {s with heap:=h'}:=λits r' hz h' c' kp e=>
  ⟨.ref s.heap.objs.size,_,I.laid (t':=s.toks) kp (Kd _) (show bF X.prog X.w _ h' _ (.lst ys)from⟨hz,its,c',r',e⟩),rfl,q _ (I.hok.fresh (Kd _))⟩
 rcases hq with hq|hq
 .obtain⟨its,r',pl,hz⟩:=I.list hq;have hlen:=r'.length;obtain⟨o,ho,hc,n,hd⟩:=pl.isList;exact call_list_seq p (.inl rfl) ho hc hd (λh' c' kp e=>fin its r' hz h' c' kp e) (by simp only[IM]<;>omega)
 .obtain⟨its,r',pl,hz⟩:=I.tuple hq;have hlen:=r'.length;obtain⟨o,ho,hc,n,hd⟩:=pl;exact call_list_seq p (.inr rfl) ho hc hd (λh' c' kp e=>fin its r' hz h' c' kp e) (by simp only[IM]<;>omega)
def yO(K:Frag)(T:String)(x:V)(H:Hp):Prop:=match x with
 | .str _=>T="str"
 | .int _=>T="int"
 | .ref p=>(T="list"/\∃xs,aM K H p xs)\/(T="tuple"/\∃o,K.lookup p=some o/\o.cls=.type "tuple"/\o.dict=none)\/
   (T="dict"/\((∃kvs,H p=some (.dK kvs))\/∃kvs,H p=some (.dT kvs)))\/(T="set"/\∃S n,H p=some (.set S n))
 |_=>False
theorem gJ{gV:Fe}{σ:St}{H:Hp}{s:Fi}{T:String}{x:V}{v:Value}(I:aC X gV σ H s)(r:RelV x v)(ty:yO X.K T x H):
  s.TypeIs v T/\∀a,v=.ref a->∃ob,s.heap.get? a=some ob/\ob.dict=none:=by
 cases x with
 |str z=>
  obtain⟨t,rfl⟩:=r;cases(show T="str"from ty);exact⟨HI s z t,λ_ e=>nomatch e⟩
 |int i=>
  obtain⟨t,rfl⟩:=r;cases(show T="int"from ty);exact⟨typeIs_int s i t,λ_ e=>nomatch e⟩
 |ref p=>
  cases r
  rcases ty with⟨rfl,xs,hq⟩|⟨rfl,o,hk,hc,hd⟩|⟨rfl,hk⟩|⟨rfl,S,n,hk⟩
  .obtain⟨its,_,pl,_⟩:=I.list hq;refine⟨pl.isList.typeIs,λa e=>?_⟩;cases e;obtain⟨o,n,e,c,hd,_⟩:=pl;exact⟨o,e,hd⟩
  .refine⟨⟨o,I.kIn p o hk,hc⟩,λa e=>?_⟩;cases e;exact⟨o,I.kIn _ o hk,hd⟩
  .have z:∃o,s.heap.get? p=some o/\o.ExactDict:=by
    rcases hk with⟨kvs,hk⟩|⟨kvs,hk⟩
    .obtain⟨_,_,_,_,o,_,_,e,ex,_⟩:=I.hok p _ hk;exact⟨o,e,ex⟩
    .obtain⟨_,_,_,_,o,_,_,e,ex,_⟩:=I.hok p _ hk;exact⟨o,e,ex⟩
   obtain⟨o,e,ex⟩:=z;refine⟨⟨o,e,ex.1⟩,λa e2=>?_⟩;cases e2;exact⟨o,e,ex.2.1⟩
  .obtain⟨o,_,_,_,e,ex,_⟩:=I.hok p _ hk;refine⟨⟨o,e,ex.1⟩,λa e2=>?_⟩;cases e2;exact⟨o,e,ex.2.1⟩
 |_=>exact False.elim ty
variable{o e:FA}{es:List FA}{to:TE}{t:TA}{name:Str}{apos cpos:GO}{T id:String}{r:V->List V->Hp->VK->Prop}
end
def D5(X:Cx)(id:String)(r:V->List V->Hp->VK->Prop):Prop:=
 ∀(gV:Fe)(s:Fi)(σ:St)(H:Hp)(x:V)(xs:List V)(v:Value)(us:List Value)(Q:VK),aC X gV σ H s->RelV x v->aL xs us->r x xs H Q->
  Fs (Fu X.prog X.w) X.A (call (.builtin id) (v::us)) (EP X gV σ Q) X.xe s
theorem aL.one:∀{x:V}{us:List Value},aL [x] us->∃u,us=[u]/\RelV x u
 |_,_,.cons r .nil=>⟨_,rfl,r⟩
theorem aL.two:∀{x y:V}{us:List Value},aL [x,y] us->∃u v,us=[u,v]/\RelV x u/\RelV y v
 |_,_,_,.cons r (.cons q .nil)=>⟨_,_,rfl,r,q⟩
theorem aL.zero:∀{us:List Value},aL [] us->us=[]
 |_,.nil=>rfl
theorem aL.dropLast{xs:List V}{us:List Value}(h:aL xs us):aL xs.dropLast us.dropLast:=by
 induction h with
 |nil=>exact .nil
 |cons r t ih=>
  cases t with
  |nil=>exact .nil
  |cons q t'=>exact .cons r ih
theorem aL.reverse{xs:List V}{us:List Value}(h:aL xs us):aL xs.reverse us.reverse:=by
 induction h with
 |nil=>exact .nil
 |cons r t ih=>rw[JQ,JQ];exact aL.append ih (.cons r .nil)
theorem og{α:Type}(l:List α):l.eraseIdx (l.length - 1)=l.dropLast:=by
 induction l with
 |nil=>rfl
 |cons a r ih=>
  cases r with
  |nil=>rfl
  |cons b r=>
   have e:(a::b::r).length - 1=((b::r).length - 1)+1:=by have h1:(a::b::r).length=r.length+2:=rfl;have h2:(b::r).length=r.length+1:=rfl;omega
   rw[e,List.eraseIdx_cons_succ,ih]
   all_goals rfl
section
variable{X:Cx}{gV:Fe}{σ:St}{H:Hp}{s:Fi}{l b:Addr}{xs ys zs:List V}
theorem aC.lset{its its':List Value}{n:Nat}{f:Array Value->Array Value}{t':Nat}(I:aC X gV σ H s)(hH:H l=some (.lst xs))
  (e:s.heap.get? l=some {cls:=.type "list",data:=.seq its.toArray n}) (hf:f its.toArray=its'.toArray) (hv:aL ys its') (hz:ys.length<=sizeLine):
  aC X gV σ (upd H l (.lst ys)) {s with heap:=s.heap.update l (Gg f),toks:=t'}:=by
 have q:=PySem.IsL.update e f;rw[hf]at q;refine I.write (x:=l) (e:=l) (by rw[hH];exact trivial) (.inl rfl) (λb' u hb hu=>(Gh s.heap (Gg f) (Ne.symm hb)).trans hu) ⟨_,q⟩ ?_;exact⟨hz,its',_,hv,q⟩
theorem aC.lnew{its:List Value}{t':Nat}(I:aC X gV σ H s)(hv:aL ys its)(hz:ys.length<=sizeLine):
  aC X gV σ (upd H s.heap.objs.size (.lst ys)) {s with heap:=s.heap.push {cls:=.type "list",data:=.seq its.toArray},toks:=t'}:=
 I.laid (λ_ _ q=>Fh _ q) (Kd _) ⟨hz,its,0,hv,Fo _ rfl⟩
theorem aC.fresh(I:aC X gV σ H s):H s.heap.objs.size=none:=I.hok.fresh (Kd _)
theorem aC.lstM(I:aC X gV σ H s)(hH:H l=some (.lst xs)):xs.length<=sizeLine/\∃(its:List Value)(n:Nat),aL xs its/\xs.length=its.length/\s.heap.get? l=some {cls:=.type "list",data:=.seq its.toArray n}:=by obtain⟨z,its,n,r,e⟩:=I.hok l _ hH;exact⟨z,its,n,r,r.length,e⟩
theorem jk{n:Nat}(h:n<=sizeLine):Gu n=false:=by unfold Gu;exact E6 (by omega)
end
section
variable{X:Cx}
def vk:V->List V->Hp->VK->Prop:=λx vs H Q=>∃l xs y,x=.ref l/\vs=[y]/\H l=some (.lst xs)/\xs.length<sizeLine/\Q .non (upd H l (.lst (xs++[y])))
theorem qu:D5 X "list.append" vk:=by intro gV s σ H x vs v us Q I rx rv h;obtain⟨l,xs,y,rfl,rfl,hH,hz,q⟩:=h;cases rx;obtain⟨u,rfl,ru⟩:=rv.one;obtain⟨z,its,n,r,hl,e⟩:=I.lstM hH;refine GR F.slot_list_append ⟨_,e,rfl⟩ F.entry_list_append (F.args_list_append_2 _ _) (PySem.list_append l its.toArray n u (by rw[IM];omega)) ⟨e,?_⟩;refine⟨.non,_,I.lset (its':=its++[u]) hH e (by simp) (r.append (.cons ru .nil)) ?_,rfl,q⟩;rw[IT,JR];omega
def vj:V->List V->Hp->VK->Prop:=λx vs H Q=>∃l b xs zs,x=.ref l/\vs=[.ref b]/\H l=some (.lst xs)/\H b=some (.lst zs)/\xs.length+zs.length<=sizeLine/\Q .non (upd H l (.lst (xs++zs)))
theorem BA:D5 X "list.extend" vj:=by
 intro gV s σ H x vs v us Q I rx rv h;obtain⟨l,b,xs,zs,rfl,rfl,hH,hB,hz,q⟩:=h;cases rx;obtain⟨u,rfl,ru⟩:=rv.one;cases ru;obtain⟨z,its,n,r,hl,e⟩:=I.lstM hH;obtain⟨z2,its2,n2,r2,hl2,e2⟩:=I.lstM hB;have hsz:its.toArray.size+its2.toArray.size<=sizeLine:=by rw[IM,IM];omega
 have hlong:¬(!its.toArray.isEmpty&&Gu (its.toArray.size+its2.toArray.size))=true:=by rw[jk hsz,Bool.and_false];exact KI
 refine GR F.slot_list_extend ⟨_,e,rfl⟩ F.entry_list_extend (F.args_list_extend_2 _ _)
  (AutoSeq1.list_extend_list_list_0 l its.toArray n b its2.toArray n2 hlong (by rw[IM];omega) (by omega)) ⟨e,e2,?_⟩
 refine⟨.non,_,I.lset (its':=its++its2) hH e (by simp) (r.append r2) ?_,rfl,q⟩;rw[IT];omega
def Et:V->List V->Hp->VK->Prop:=λx vs H Q=>∃l xs y,x=.ref l/\vs=[]/\H l=some (.lst xs)/\xs[xs.length - 1]? =some y/\Q y (upd H l (.lst xs.dropLast))
theorem Ex:D5 X "list.pop" Et:=by
 intro gV s σ H x vs v us Q I rx rv h;obtain⟨l,xs,y,rfl,rfl,hH,hy,q⟩:=h;cases rx;have hus:=rv.zero;subst hus;obtain⟨z,its,n,r,hl,e⟩:=I.lstM hH;obtain⟨u,hu,ru⟩:=r.get hy;have hy':its.toArray[its.toArray.size - 1]? =some u:=by show its.toArray[its.length - 1]? =some u;rw[<-KR,<-hl];exact hu
 refine GR F.slot_list_pop ⟨_,e,rfl⟩ F.entry_list_pop (F.args_list_pop_1 _) (MeetsSeq.list_pop_last l its.toArray n u hy' (by rw[IM];omega)) ⟨e,?_⟩;refine⟨y,_,I.lset (its':=its.dropLast) hH e ?_ r.dropLast ?_,ru,q⟩
 .show its.toArray.eraseIdxIfInBounds (its.toArray.size - 1)=its.dropLast.toArray;rw[IM,List.eraseIdxIfInBounds_toArray,og]
 .rw[List.length_dropLast];omega
def tD:V->List V->Hp->VK->Prop:=λx vs H Q=>∃l xs,x=.ref l/\vs=[]/\H l=some (.lst xs)/\Q .non (upd H l (.lst []))
theorem tR:D5 X "list.clear" tD:=by intro gV s σ H x vs v us Q I rx rv h;obtain⟨l,xs,rfl,rfl,hH,q⟩:=h;cases rx;have hus:=rv.zero;subst hus;obtain⟨z,its,n,r,hl,e⟩:=I.lstM hH;refine GR F.slot_list_clear ⟨_,e,rfl⟩ F.entry_list_clear (F.args_list_clear_1 _) (AutoSeq1.list_clear_list_0 l its.toArray n (by rw[IM];omega)) ⟨e,?_⟩;exact⟨.non,_,I.lset (its':=[]) (ys:=[]) hH e rfl .nil (Kh _),rfl,q⟩
def Ap:R2:=λx y H Q=>∃l b xs zs,x=.ref l/\y=.ref b/\H l=some (.lst xs)/\H b=some (.lst zs)/\xs.length+zs.length<=sizeLine/\∀p,H p=none->Q (.ref p) (upd H p (.lst (xs++zs)))
theorem AD:gH X (GI .Add) Ap:=by
 intro gV s σ H x y v u Q I rx ry h;obtain⟨l,b,xs,zs,rfl,rfl,hH,hB,hz,q⟩:=h;cases rx;cases ry;obtain⟨z,its,n,r,hl,e⟩:=I.lstM hH;obtain⟨z2,its2,n2,r2,hl2,e2⟩:=I.lstM hB;refine PySem.P.add_list e e2 ?_ (by rw[IM,IM];omega);have ea:its.toArray++its2.toArray=(its++its2).toArray:=by simp
 rw[ea];exact⟨.ref _,_,I.lnew (t':=s.toks) (r.append r2) (by rw[IT];omega),rfl,q _ I.fresh⟩
end
section
variable{prog:Fn}{w:Fp}{A:Fz}{E:Fd}{s:Fi}
theorem ox{a c n:Nat}(hac:a<=c)(hc:c<=n):Gd (some (a:Int)) (some (c:Int)) none n=((a:Int),(c:Int),1):=by
 simp only[Gd,K0];have h1:¬((a:Int)<0):=by omega
 have h2:¬((c:Int)<0):=by omega
 simp only[h1,h2,if_false,show(1:Int) > 0 by decide,if_true];congr 1
 .omega
 .congr 1;omega
set_option maxRecDepth 100000 in
theorem uT{l b sl:Addr}{items new:Array Value}{n n2:Nat}{vl vu:Value}{a c:Nat}{Q:Unit->Fi->Prop}
  (e:s.heap.get? l=some {cls:=.type "list",data:=.seq items n}) (e2:s.heap.get? b=some {cls:=.type "list",data:=.seq new n2}) (hne:l≠b)
  (hs:s.heap.IsSliceOf sl vl vu .none) (pl:IK vl (some (a:Int))) (pu:IK vu (some (c:Int))) (hac:a<=c) (hc:c<=items.size)
  (hsz:items.size+new.size<=sizeLine) (h:Q () {s with heap:=s.heap.update l (Gg λxs=>xs.extract 0 a++new++xs.extract c xs.size)}):
  Fs (Fu prog w) A (setItem (.ref l) (.ref sl) (.ref b)) Q E s:=by
 have hl:s.heap.IsList l items:=PySem.IsL.isList e;have hb:s.heap.IsList b new:=PySem.IsL.isList e2;obtain⟨os,hos,hcs,hds⟩:=id hs;have hTs:s.TypeIs (.ref sl) "slice":=⟨os,hos,hcs⟩;have hstep:¬((rawPart none == IH 0)=true):=KI;have hsame:FL (.ref l) (.ref b)=false:=by unfold FL;exact beq_eq_false_iff_ne.mpr hne
 have hmax:(max (a:Int) (c:Int)).toNat=c:=by omega
 have hz':((λxs:Array Value=>xs.extract 0 a++new++xs.extract c xs.size) items).size<=sizeLine+1:=by simp only[KU,Array.size_extract];omega
 unfold setItem
 try with_reducible refine FO ?_
 first|refine Ff (Fm ?_)|skip
 refine Ff (wpAny_sequenceKey hl.typeIs (by decide) ?_);refine Ff (FZ (name:=GJ "__setitem__") hl.typeIs slot_list_setitem
  (GQ slot_list_setitem hl.typeIs entry_list_setitem ?_ (args_list_setitem _ _ _)))
 show Fs _ _ (GZ (.ref sl) >>= _) _ _ s;refine Ff ?_;unfold GZ;refine Ff (Gv hTs slice_no_index ?_);simp only[Option.isNone_none,if_true];refine Fm ?_;show Fs _ _ (IG (.ref sl) >>= _) _ _ s;refine Ff (GY hTs ?_)
 first
  |rw[E7 (by decide)]
  |refine PySem.W.KFB.if_not (by decide) ?_
 rw[listSliceParts_eq];refine Ff (Ff (FS hos hds (x:=.none) rfl (Ff (HU .none ?_))));rw[E7 hstep];refine Ff (FS hos hds (x:=vl) rfl (Ff (HU pl ?_)));refine Ff (FS hos hds (x:=vu) rfl (Ff (HU pu (Fm ?_))))
 first
  |simp only[hsame,KP,if_false]
  |refine PySem.W.KFB.if_not hsame ?_
  |(dsimp only
    rw[E7 (by rw[hsame];exact KI)])
 refine Ff (m:=Hk (.ref b) "must assign iterable to extended slice") ?_;unfold Hk;refine Ff (GY hb.typeIs ?_)
 first
  |refine PySem.W.KFB.if_so (by decide) ?_
  |rw[E8 (by decide)]
  |simp only[beq_self_eq_true,Bool.true_or,if_true]
 unfold GM;refine Ff (FX e2 rfl (Fm ?_));refine Ff (Ff (FX e rfl (Fm ?_)));refine Ff (wpAny_of_eq ((sliceIndices_raw (some (a:Int)) (some (c:Int)) none items.size (by simp)).trans (congrArg (pure:Int×Int×Int->Sem (Int×Int×Int)) (ox hac hc))) ?_);show Fs _ _ (if((1:Int) == 1)=true then _ else _) _ _ s;rw[E8 (by decide)];refine Ff (Ig ?_)
 first
  |simp only[jk hsz,KP,if_false]
  |refine PySem.W.KFB.if_not (jk hsz) ?_
 first|refine Ff (Fm ?_)|skip
 show Fs _ _ (updateSeq l (λxs=>xs.extract 0 ((a:Int)).toNat++new++xs.extract (max (a:Int) (c:Int)).toNat xs.size) >>= _) _ _ s;rw[hmax,Int.toNat_natCast];refine Ff (wpAny_updateSeq (hz:=Kg (Km _ _) hsz) (_hz':=hz') e rfl ?_);refine Ff (HV ?_)
 first
  |exact Ff (Fm (Fm ⟨.none,rfl,Fm h⟩))
  |exact Fm ⟨.none,rfl,Fm h⟩
end
end L2
namespace Att
open PySem PySem.W PySem.Calls PyProof.Rows
theorem iQ{P:GT}{h:Fw}:∀(ns:List Int)(vs:List Value),WellAll P h vs (ns.map WData.int)->Ia vs ns:=by
 intro ns
 induction ns with
 |nil=>
  intro vs w;rw[JP]at w;cases w;exact .nil
 |cons n ns ih=>
  intro vs w;rw[Jh]at w;cases w with
  |cons a b=>
   cases a;exact .cons _ _ (ih _ b)
theorem qa{l:OpenLaw}{n:Nat}(hn:l.most=some n){P:GT}{h:Fw}{args:List WData}{vals:List Value}
  (hpre:l.row.toRowW.claim.pre args=true) (hwl:WellAll P h vals args):
  ∃a vs ns,vals=[FD a]/\args=[WData.list (ns.map WData.int)]/\h.get? a=some {cls:=.type "list",data:=.seq vs.toArray}/\Ia vs ns/\ns.length<=n:=by
 have hsh:WShape.hasAll [] args [.list .int]=true:=(pre_splitW hpre).1;have hc:l.pre.holds [] {args:=args}=true:=(pre_splitW hpre).2;obtain⟨d,r,rfl,h1,h2⟩:=hasAllW_cons hsh;obtain rfl:=hasAllW_nil h2;obtain⟨xs,rfl,h3⟩:=hasW_list h1;obtain⟨ns,rfl⟩:=items_int h3;have hlen:ns.length<=n:=by
  unfold OpenLaw.pre at hc;have h4:(WTm.not (.lt (.lit (.int (n:Int))) (.len (.arg 0)))).holds [] {args:=[.list (ns.map .int)]}=true:=by have h4:=(holds_andW hc).1;rw[hn]at h4;exact h4
  have h5:=condW_of h4 (w_not (w_lt w_lit (w_len_list (w_arg rfl))));rw[IL]at h5;refine Nat.le_of_not_lt λq=>?_;have q':(n:Int)<((ns.length:Nat):Int):=by omega
  first
   |(rw[E5 q']at h5;exact Fb h5 (by decide))
   |(simp at h5;omega)
 cases hwl with
 |cons w1 w2=>
  cases w2;cases w1 with
  |list ho hall=>exact⟨_,_,ns,rfl,rfl,ho,iQ ns _ hall,hlen⟩
theorem qg(l:OpenLaw)(args:List WData):l.row.toRowW.claim.post args (.bool true) args=true:=
 postW_of (r:=l.row.toRowW) (X:=(true == true))
  (show WShape.has [] (.bool true) .bool=true by first|rfl|decide|simp[WShape.has,WShape.arms,WShape.armsAll])
  (show(WTm.eq .res (.lit (.bool true))).value [] {args:=args,res:=some (.bool true),after:=args}=some (.bool (true == true))from w_eq_bool (w_res rfl) w_lit) rfl
theorem attach_call{l:OpenLaw}{n:Nat}{q:Fn}{loose:List Str}{XP:(Fc)->Fw->Prop}{YP:Fp->Fw->Prop}{d:DefRec}
  (hn:l.most=some n) (hdf:d.params.defaults=[])
  (call:∀(w:Fp)(s₀ s₁:Fi)(mg mb:Fc)(fa:Addr)(o:Obj)(pm cd doc:Value)(a:Addr)(vs:List Value)(ns:List Int),
   Ground q loose [] XP w s₀ mg mb s₁.heap->YP w s₁.heap->
   s₁.heap.get? fa=some o->o.data=.func (docDef d.name d.params d.body d.scope pm cd doc)->s₁.heap.CodeRec cd d.name->mg d.name=some (.ref fa)->
   s₁.heap.get? a=some {cls:=.type "list",data:=.seq vs.toArray}->Ia vs ns->ns.length<=n->s₁.gens= #[]->
   Gx (Fu l.prog w) H0 (.call (.ref fa) ⟨[.ref a],[]⟩) (λr s'=>r=.ok (.ret (.bool true))/\OldK s₁.heap s'.heap/\s'.os=s₁.os/\GV s'.gens) s₁):
  WalkO q loose XP YP l.row.toRowW d [] (λf vs=>PySem.call f vs):=by
 intro w s₀ s₁ mg mb G Y fa o pm cd doc dV kV ho hd hcd hD hmg hg args vals as hpre hlay hrd hwl hlo;obtain rfl:dV=.none:=Dflts.none hD hdf;obtain rfl:kV=.none:=Dflts.noKw hD;obtain⟨a,vs,ns,rfl,rfl,hobj,hints,hlen⟩:=qa hn hpre hwl;refine enter_call (FW (call w s₀ s₁ mg mb fa o pm cd doc a vs ns G Y ho (fd_plain hd) hcd hmg hobj hints hlen hg) λr s' hq=>?_);obtain⟨rfl,h2,h3,h4⟩:=hq;exact⟨.inl ⟨.bool true,.bool true,[],rfl,λ_=>rfl,.bool true,qg l _,λ_=>⟨List.Pairwise.nil,λ_ hm=>(nomatch hm)⟩⟩,h2,h3,h4⟩
end Att
namespace L2
open PySem PySem.Spec PyProof.Rows
theorem ig:∀{vs:List Value}{ns:List Int},Ia vs ns->aL (ns.map V.int) vs
 |_,_,.nil=>.nil
 |_,_,.cons n t h=>.cons ⟨t,rfl⟩ (ig h)
def Bu(H:Hp):Prop:= ∀b,H b=none\/∃o xs,H b=some (.frz o (.lst xs))
theorem tY{P:Fn}{w:Fp}{K:Frag}{mg mb:Fc}{CX:pS}{k:Nat}{fa a:Addr}{fd:Ft}{x:Str}{sp:Sp}{s₁:Fi}{vs:List Value}{ns:List Int}
  (KX:K.In s₁.heap) (hns:s₁.heap.Ns Fg mg) (hb:s₁.heap.Ns builtinsNs mb) (hbb:∀x:Str,x≠"__name__"->mb x=Fv x) (hlim:s₁.heap.NoLimit) (hg:s₁.gens= #[])
  (ha:s₁.heap.get? a=some {cls:=.type "list",data:=.seq vs.toArray}) (hi:Ia vs ns) (hl:ns.length<=sizeLine) (hr:cn k H0)
  (F:∀E3:Fw,K.In E3->E3.Ns Fg mg->bo P w K mg E3 CX k fa fd [x] sp) (hbind:∀(s:Fi)(u:Value),Ib s fd ⟨[u],[]⟩ [(x,u)])
  (hsp:∀H:Hp,Bu H->aM K H a (ns.map V.int)->sp [.ref a] H (λv _=>v=.bl true) λ_ _ _=>False)
  (hCX:∀H e s',CX [] H s₁ (λ_ _ _=>False) e s'->False):
  Gx (Fu P w) H0 (.call (.ref fa) ⟨[.ref a],[]⟩) (λr s'=>r=.ok (.ret (.bool true))/\OldK s₁.heap s'.heap/\s'.os=s₁.os/\GV s'.gens) s₁:=by
 have rv:=ig hi;have lenV:=hi.length;have core:∀H:Hp,Bu H->aM K H a (ns.map V.int)->iz P w H s₁.heap->(∀b,H b≠none->b=a)->(H a≠none->K.lookup a=none)->
   Gx (Fu P w) H0 (.call (.ref fa) ⟨[.ref a],[]⟩) (λr s'=>r=.ok (.ret (.bool true))/\OldK s₁.heap s'.heap/\s'.os=s₁.os/\GV s'.gens) s₁:=by
  intro H hO hS hok hA hK;have base_of:∀{b:Addr}{o:Obj},s₁.heap.get? b=some o->H b=none->(lm s₁.heap H).get? b=some o:=λe n=>t7 e n;have noA:∀{b:Addr}{o:Obj}{es:Array DictEntry}{ep:Nat},s₁.heap.get? b=some o->o.data=.dict es ep->H b=none:=λ{b o es ep} e d=>by
   cases q:H b with
   |none=>rfl
   |some u=>
    have e':b=a:=hA b (by rw[q];simp);subst e';rw[ha]at e;cases e;have d':Data.seq vs.toArray _=Data.dict es ep:=d;cases d'
  have nsK:∀{b:Addr}{m:Fc},s₁.heap.Ns b m->(lm s₁.heap H).Ns b m:=λ{b m} ⟨o,es,ep,e,d,r⟩=>⟨o,es,ep,base_of e (noA e d),d,r⟩;have hKb:K.In (lm s₁.heap H):=λb o e=>base_of (KX b o e) (by
   cases q:H b with
   |none=>rfl
   |some u=>
    have e':b=a:=hA b (by rw[q];simp);subst e';rw[hK (by rw[q];simp)]at e;cases e)
  have hM:Mod K mg (lm s₁.heap H):=⟨hKb,nsK hns,⟨mb,nsK hb,hbb⟩,let ⟨mc,h1,h2⟩:=hlim;⟨mc,nsK h1,h2⟩⟩;have e0:lJ P w K mg (lm s₁.heap H) H0 [] s₁ H:=⟨rfl,hM,λb o e=>vB e,Ko (qF _ _),trivial,λb hb=>Fb (show b∈([]:List Addr)from hb) (by simp),hok,.of_eq hg⟩;refine FW ((F _ hKb (nsK hns)).run H0 [] s₁ H ⟨[.ref a],[]⟩ [.ref a] [.ref a] _ _ hr e0 (hbind s₁ (.ref a)) (.cons rfl .nil) (hsp H hO hS)) λr s' h=>?_;cases r with
  |error e=>exact(hCX H e s' h).elim
  |ok fl=>
   cases fl with
   |next=>exact False.elim h
   |brk=>exact False.elim h
   |cont=>exact False.elim h
   |ret u=>
    obtain⟨v,H',os,bare,un,hok',r',q⟩:=h;have q':v=.bl true:=q;subst q';obtain rfl:u=Im true:=r';refine⟨rfl,OldK.of_keep λb o e=>?_,os,bare⟩;cases q:H b with
    |none=>exact un.keep b o e q (by intro z;exact Fb (show b∈([]:List Addr)from z) (by simp)) (by simp)
    |some u=>
     rcases hO b with z|⟨ob,xs,z⟩
     .rw[q]at z;cases z
     .have z2:=un.frzs b ob _ z;obtain⟨e1,_⟩:=hok b _ z;obtain⟨e2,_⟩:=hok' b _ z2;rw[e]at e1;cases e1;exact e2
 cases hk:K.lookup a with
 |some o=>
  have e:=KX a o hk;rw[ha]at e;cases e;refine core (λ_=>none) (λ_=>.inl rfl) (.inr ⟨_,vs.toArray,_,hk,rfl,rfl,rfl,by rw[IM,lenV];exact hl,by simpa using rv⟩) (λb u z=>by have z':(none:Option HO)=some u:=z;cases z') (λb z=>Fb rfl z) λz=>Fb rfl z
 |none=>
  refine core (λb=>if b=a then some (.frz {cls:=.type "list",data:=.seq vs.toArray} (.lst (ns.map V.int)))else none) (λb=>?_) (.inl (.inr ⟨{cls:=.type "list",data:=.seq vs.toArray},E8 rfl⟩)) (λb u z=>?_) (λb z=>?_) λ_=>hk
  .by_cases hb:b=a
   .exact .inr ⟨_,_,E8 hb⟩
   .exact .inl (E7 hb)
  .by_cases hb:b=a
   .have z':=(E8 hb).symm.trans z;cases z';subst hb;exact⟨ha,by rw[IL];exact hl,vs,_,rv,ha⟩
   .have z':=(E7 hb).symm.trans z;cases z'
  .by_cases hb:b=a
   .exact hb
   .exact Fb (E7 hb) z
theorem uZ{l:PySem.W.OpenLaw}{n k:Nat}{q:Fn}{loose:List Str}{XP:(Fc)->Fw->Prop}{YP:Fp->Fw->Prop}{d:DefRec}{K:GT->Frag}{CX:Fp->pS}{sp:Fp->Sp}{x:Str}
  (hn:l.most=some n) (hn2:n<=sizeLine) (hdf:d.params.defaults=[]) (hr:cn k H0)
  (hY:∀(w:Fp)(h:Fw),YP w h->(K w.params).In h)
  (F:∀(w:Fp)(mg:Fc)(fa:Addr)(h:Fw),(K w.params).In h->h.Ns Fg mg->mg d.name=some (.ref fa)->
   ∃fd:Ft,(∀(s:Fi)(u:Value),Ib s fd ⟨[u],[]⟩ [(x,u)])/\
    ∀E3:Fw,(K w.params).In E3->E3.Ns Fg mg->bo l.prog w (K w.params) mg E3 (CX w) k fa fd [x] (sp w))
  (hsp:∀(w:Fp)(H:Hp)(a:Addr)(ns:List Int),ns.length<=n->Bu H->aM (K w.params) H a (ns.map V.int)->sp w [.ref a] H (λv _=>v=.bl true) λ_ _ _=>False)
  (hCX:∀(w:Fp)(H:Hp)(s:Fi)(e:Value)(s':Fi),CX w [] H s (λ_ _ _=>False) e s'->False):
  PySem.W.WalkO q loose XP YP l.row.toRowW d [] (λf vs=>PySem.call f vs):=by
 refine Att.attach_call hn hdf λw s₀ s₁ mg mb fa o pm cd doc a vs ns G Y ho hd hcd hmg hobj hints hlen hg=>?_;have KX:=hY w _ Y;obtain⟨fd,hb,hF⟩:=F w mg fa _ KX G.T.g hmg;exact tY KX G.T.g G.T.b G.T.builtins G.T.nolimit hg hobj hints (Kg hlen hn2) hr hF hb (λH hO hS=>hsp w H a ns hlen hO hS) λH e s'=>hCX w H s₁ e s'
def dJ(s:FG)(j:Nat):FG:=match s with
 | .ClassDef _ _ _ body _ _ _ _ _ _ _=>body.getD j (.Pass ⟨0,0,0,0⟩)
 |_=>.Pass ⟨0,0,0,0⟩
def eT(s:FG):Arguments:=match s with
 | .FunctionDef _ a _ _ _ _ _ _ _ _=>a
 |_=>{posonlyargs:=[],args:=[],vararg:=none,kwonlyargs:=[],kw_defaults:=[],kwarg:=none,defaults:=[]}
def dg(s:FG):List FG:=match s with
 | .FunctionDef _ _ b _ _ _ _ _ _ _=>b
 |_=>[]
def aj(s:FG):Gj:=match s with
 | .FunctionDef _ _ _ _ _ _ sc _ _ _=>sc
 |_=>{kind:=.function,names:=[],isGenerator:=false,isCoroutine:=false}
abbrev dO:pS:=λ_ _ _ _ _ _=>False
abbrev E0:XK:=λ_ _ _=>False
theorem tL{X:Cx}:jD dO X E0:=λ_ _ _ _ _ _ _ h=>h.elim
structure bT(K:Frag)(x qual:Str)(st:FG)(f:Addr)(fd:Ft):Prop where
 ex:∃(oc:Value)(od:Option Addr)(kV doc pm:Value)(an:Option Addr)(cdv ct:Value)(osl:Array (Option Value)),
  fd=Lb x qual (eT st) (dg st) (aj st) .none kV doc pm an cdv ct/\K.lookup f=some ⟨oc,od,.func fd,osl⟩/\Lo K cdv qual=true
 kp:K9 K (.ref f)=true
section
variable{P:Fn}{w:Fp}{K:Frag}{mg:Fc}{E3:Fw}
theorem bT.ok{x qual:Str}{st:FG}{f:Addr}{fd:Ft}{N ps:List Str}{k:Nat}{sp:Sp}(F:bT K x qual st f fd)(S:aH N ps (aj st))(len:∀vs H Q E,sp vs H Q E->vs.length=ps.length)
  (hbody:∀(cdv:Value)(A:Fz)(E4:List HS)(s:Fi)(H:Hp)(vs:List V)(Q:VK)(E:XK),cn k (A.deeper (F0 qual (aj st) s.heap.objs.size f cdv))->sp vs H Q E->
   ∃t,mU (jw dO P w K mg E3 N qual (aj st) f cdv A E4 s H E).nox (dg st) t/\t {nx:=λ_ H'=>Q .non H',rt:=Q} (fg N vs) H):bo P w K mg E3 dO (k+1) f fd ps sp:=by
 obtain⟨oc,od,kV,doc,pm,an,cdv,ct,osl,rfl,lk,hcd⟩:=F.ex;refine zg lk hcd S len λA E4 s H vs Q E hr hsp=>?_;obtain⟨t,h,q⟩:=hbody cdv A E4 s H vs Q E hr hsp;exact⟨t,h.nox,q⟩
theorem bT.binds{x qual:Str}{st:FG}{f:Addr}{fd:Ft}{ps:List Str}(F:bT K x qual st f fd)
  (h:∀(kV doc pm:Value)(an:Option Addr)(cdv ct:Value)(us:List Value),us.length=ps.length->bindArgs (Lb x qual (eT st) (dg st) (aj st) .none kV doc pm an cdv ct) ⟨us,[]⟩=pure (ps.zip us)):eW K fd ps []:=by
 obtain⟨oc,od,kV,doc,pm,an,cdv,ct,osl,rfl,lk,hcd⟩:=F.ex;exact .all (h kV doc pm an cdv ct)
theorem aT{x qual:Str}{st:FG}{f:Addr}{oc:Value}{od an:Option Addr}{osl:Array (Option Value)}{kV doc pm cdv ct:Value}(l:K.lookup f=some ⟨oc,od,.func (Lb x qual (eT st) (dg st) (aj st) .none kV doc pm an cdv ct),osl⟩)
  (c:Lo K cdv qual=true) (k:K9 K (.ref f)=true):bT K x qual st f (Lb x qual (eT st) (dg st) (aj st) .none kV doc pm an cdv ct):=⟨⟨oc,od,kV,doc,pm,an,cdv,ct,osl,rfl,l,c⟩,k⟩
end
theorem ll{A B:Prop}(h:B):if false=true then A else B:=by rw[E7 KI];exact h
theorem jU{A B:Prop}(h:A):if true=true then A else B:=by rw[E8 rfl];exact h
def al(H H':Hp):Prop:= ∀b o,H b=some o->H' b=some o
theorem al.refl(H:Hp):al H H:=λ_ _ h=>h
theorem al.trans{H H1 H2:Hp}(a:al H H1)(b:al H1 H2):al H H2:=λc o h=>b c o (a c o h)
theorem al.free{H H':Hp}(e:al H H'){l:Addr}(h:H' l=Option.none):H l=Option.none:=by
 cases q:H l with
 |none=>rfl
 |some o=>
  rw[e l o q]at h;cases h
theorem al.seq{K:Frag}{H H':Hp}{a:Addr}{xs:List V}(e:al H H')(h:aM K H a xs):aM K H' a xs:=by
 rcases h with(h|⟨o,h⟩)|h
 .exact .inl (.inl (e _ _ h))
 .exact .inl (.inr ⟨o,e _ _ h⟩)
 .exact .inr h
def ib(env:HS):List (Str×NameKind)->List (Str×Addr)->List (Str×Addr)
 | [],cs=>cs
 |(n,k)::r,cs=>ib env r (if k == .free then(match env.cells.lookup n with|some a=>(n,a)::cs|none=>cs)else cs)
theorem eZ(env:HS):∀(l:List (Str×NameKind))(cs:List (Str×Addr)),(∀x∈l,x.2=.free->∃c,env.cells.lookup x.1=some c)->
  (forIn l cs λ(x:Str×NameKind) r=>if(x.2 == FY)=true then do let a<-cellOf env x.1;pure (ForInStep.yield ((x.1,a)::r))else pure (ForInStep.yield r):Sem (List (Str×Addr)))=pure (ib env l cs)
 | [],cs,_=>rfl
 |(n,k)::r,cs,h=>by
  have hr:∀x∈r,x.2=.free->∃c,env.cells.lookup x.1=some c:=λx hx=>h x (Jd _ hx);rw[Jw,ib]
  by_cases hk:(k == FY)=true
  .obtain⟨c,hc⟩:=h (n,k) Jc (by simpa using hk);have hc':env.cells.lookup n=some c:=hc;have e:cellOf env n=pure c:=by unfold cellOf;rw[hc']
   simp only[hk,if_true,e,pure_bind,hc'];exact eZ env r _ hr
  .simp only[hk,if_false,pure_bind];exact eZ env r _ hr
theorem gG{scope:Gj}{env:HS}(h:∀x∈scope.names,x.2=.free->∃c,env.cells.lookup x.1=some c):closureFor scope env=pure (ib env scope.names []):=by have e:=eZ env scope.names [] h;unfold closureFor;show(forIn scope.names ([]:List (Str×Addr)) _ >>= λr=>pure r:Sem (List (Str×Addr)))=_;rw[bind_pure];exact e
theorem mP(env:HS):∀(l:List (Str×NameKind))(cs:List (Str×Addr))(x:Str)(c:Addr),cs.lookup x=some c->env.cells.lookup x=some c->(ib env l cs).lookup x=some c
 | [],_,_,_,h,_=>h
 |(n,k)::r,cs,x,c,h,e=>by
  rw[ib];refine mP env r _ x c ?_ e;split
  .cases q:env.cells.lookup n with
   |none=>exact h
   |some a=>
    show List.lookup x ((n,a)::cs)=some c;rw[Jo];cases hx:x == n with
    |false=>exact h
    |true=>
     have:x=n:=by simpa using hx
     subst this;rw[q]at e;exact e
  .exact h
theorem jy(env:HS):∀(l:List (Str×NameKind))(cs:List (Str×Addr))(x:Str)(c:Addr),(∀y d,cs.lookup y=some d->env.cells.lookup y=some d)->(ib env l cs).lookup x=some c->env.cells.lookup x=some c
 | [],cs,x,c,h,e=>h x c e
 |(n,k)::r,cs,x,c,h,e=>by
  rw[ib]at e;refine jy env r _ x c ?_ e;intro y d q;split at q
  .cases z:env.cells.lookup n with
   |none=>rw[z]at q;exact h y d q
   |some a=>
    rw[z]at q;have q2:List.lookup y ((n,a)::cs)=some d:=q;rw[Jo]at q2;cases hx:y == n with
    |false=>rw[hx]at q2;exact h y d q2
    |true=>
     rw[hx]at q2;have hyn:y=n:=by simpa using hx
     rw[hyn,z];exact q2
  .exact h y d q
theorem jz(env:HS):∀(l:List (Str×NameKind))(cs:List (Str×Addr))(x:Str)(c:Addr),(x,FY)∈l->env.cells.lookup x=some c->(ib env l cs).lookup x=some c
 | [],_,_,_,h,_=>by simp at h
 |(n,k)::r,cs,x,c,h,e=>by
  rw[ib]
  rcases IN.mp h with h|h
  .have h1:n=x:=(congrArg Prod.fst h).symm;have h2:k=FY:=(congrArg Prod.snd h).symm;subst h1 h2;refine mP env r _ n c ?_ e;rw[e];show List.lookup n (if(FY == FY)=true then(n,c)::cs else cs)=some c;rw[E8 (by decide),Jo];simp
  .exact jz env r _ x c h e
theorem hU(scope:Gj)(env:HS)(x:Str):(Iq scope env).names.lookup x=
  (scope.names.lookup x).map λk=>if(k == .free&&env.scope.kind == .function&&env.kindOf x == some .cell)=true then Hu else k:=by
 show(scope.names.map λ(p:Str×NameKind)=>if(p.2 == .free&&env.scope.kind == .function&&env.kindOf p.1 == some .cell)=true then(p.1,Hu)else(p.1,p.2)).lookup x=_
 induction scope.names with
 |nil=>rfl
 |cons p r ih=>
  obtain⟨n,k⟩:=p;rw[Jh];show List.lookup x ((if(k == .free&&env.scope.kind == .function&&env.kindOf n == some .cell)=true then(n,Hu)else(n,k))::_)=_;cases hx:x == n with
  |false=>
   have e1:List.lookup x ((n,k)::r)=List.lookup x r:=by rw[Jo,hx]
   rw[e1];split<;>(rw[Jo,hx];exact ih)
  |true=>
   have:x=n:=by simpa using hx
   subst this;have e1:List.lookup x ((x,k)::r)=some k:=by rw[Jo,hx]
   rw[e1];show _=some _;split
   .rename_i hc;rw[Jo,hx];show some Hu=some (if _ then _ else _);rw[E8 hc]
   .rename_i hc;rw[Jo,hx];show some k=some (if _ then _ else _);rw[E7 hc]
structure bU(X:Cx)(N:List Str)(src:List (Option Nat))(scope:Gj):Prop where
 kind:scope.kind=.function
 nocell:∀y∈scope.names,y.2≠.cell
 names:∀y∈scope.names,y.2=.local->scope.names.lookup y.1=some .local
 fre:∀y∈scope.names,y.2=.free->X.env.kindOf y.1=some .cell\/X.env.kindOf y.1=some .free
 len:src.length=N.length
 nd:N.Nodup
 src:∀(j i:Nat)(x:Str),N[j]? =some x->src[j]? =some (some i)->X.N[i]? =some x/\scope.names.lookup x=some .free
def oj(dsc:Gj)(XN N:List Str)(src:List (Option Nat))(scope:Gj):Bool:=
 decide (scope.kind=.function)&&scope.names.all (λy=>decide (y.2≠.cell))&&scope.names.all (λy=> !decide (y.2=.local)||decide (scope.names.lookup y.1=some .local))&&
 scope.names.all (λy=> !decide (y.2=.free)||decide (dsc.names.lookup y.1=some .cell)||decide (dsc.names.lookup y.1=some .free))&&decide (src.length=N.length)&&decide N.Nodup&&
 (N.zip src).all λp=>match p.2 with
  |none=>true
  |some i=>decide (XN[i]? =some p.1)&&decide (scope.names.lookup p.1=some .free)
theorem bU.of{X:Cx}{dsc:Gj}{XN N:List Str}{src:List (Option Nat)}{scope:Gj}(he:X.env.scope=dsc)(hN:X.N=XN)(h:oj dsc XN N src scope=true):bU X N src scope:=by
 subst he hN;unfold oj at h;simp only[KJ,decide_eq_true_eq,Ji,Bool.or_eq_true,KM,decide_eq_false_iff_not]at h;obtain⟨⟨⟨⟨⟨⟨h1,h2⟩,h3⟩,h4⟩,h5⟩,h6⟩,h7⟩:=h;refine⟨h1,h2,λy hy e=>?_,λy hy e=>?_,h5,h6,λj i x e1 e2=>?_⟩
 .rcases h3 y hy with q|q
  .exact Fb e q
  .exact q
 .rcases h4 y hy with(q|q)|q
  .exact Fb e q
  .exact .inl q
  .exact .inr q
 .have hm:(x,some i)∈N.zip src:=by
   have:(N.zip src)[j]? =some (x,some i):=by rw[List.getElem?_zip_eq_some];exact⟨e1,e2⟩
   exact Jm this
  have q:=h7 _ hm;simpa using q
def cxC(X:Cx)(scope:Gj)(N:List Str)(s:Fi)(H:Hp)(ex:List Addr):Cx:=
 {X with
  N:=N
  s₀:=s
  H₀:=H
  env:=compEnvC scope (ib X.env scope.names []) s.heap.objs.size X.env
  E4:=X.stack
  ex:=ex
  fn:=λ_=>false
  pn:=[]
  xe:=λ_ _=>False}
def dR(src:List (Option Nat))(σ:St):St:=src.map λo=>match o with|none=>none|some i=>(σ[i]?).join
section
variable{X:Cx}{gV:Fe}{σ:St}{H:Hp}{s:Fi}{N:List Str}{src:List (Option Nat)}{scope:Gj}{ex:List Addr}
theorem bU.cells(S:bU X N src scope)(ok:X.Ok):∀x∈scope.names,x.2=.free->∃c,X.env.cells.lookup x.1=some c:=λx hx e=>ok.has _ (S.fre x hx e)
theorem aC.enterC(I:aC X gV σ H s)(S:bU X N src scope)(hf:∀b∈ex,fT X gV H b)(hlt:∀b∈ex,b<s.heap.objs.size){h1:Fw}{m:Fc}{tk:Nat}
  (hns:h1.Ns s.heap.objs.size m) (hk:∀b o,s.heap.get? b=some o->h1.get? b=some o):aC (cxC X scope N s H ex) [] (dR src σ) H {s with heap:=h1,toks:=tk}:=by
 have neC:∀b o,s.heap.get? b=some o->b≠s.heap.objs.size:=λb o e=>Ke (Fk e);have sub:∀x c,(ib X.env scope.names []).lookup x=some c->X.env.cells.lookup x=some c:=λx c e=>jy X.env _ _ x c (λy d z=>by simp at z) e;refine⟨⟨I.ok.mod,S.kind,I.ok.glob,I.ok.blt,Kd _,λx y c e1 e2=>I.ok.inj x y c (sub x c e1) (sub y c e2),λx hx=>?_,λx c z=>Fb z (by simp[cxC]),I.ok.hd,I.ok.frames,.inl rfl,λb hb=>?_,I.bs,Kg I.ok.bsz I.sz,λb o e hb=>?_,λb hb hz=>?_,I.stack,I.stkFree⟩,
  rfl,I.bare,Un.kept hk,⟨m,hns,λj x v e1 e2 e3=>?_⟩,λx c e=>?_,I.hok.fresh (Kd _),λx c e=>I.freeC x c (sub x c e),λp hp=>Fb (show p∈([]:Fe)from hp) (by simp),I.hok.kept hk,?_⟩
 .have hx:(Iq scope X.env).names.lookup x=some .cell\/(Iq scope X.env).names.lookup x=some .free:=hx;have hm:(x,FY)∈scope.names:=by
   rw[hU]at hx;cases q:scope.names.lookup x with
   |none=>rw[q]at hx;simp at hx
   |some k=>
    have hm:=PySem.mem_of_lookup q;cases k with
    |free=>exact hm
    |cell=>exact Fb rfl (S.nocell _ hm)
    |_=>rw[q]at hx;simp at hx
  obtain⟨c,hc⟩:=S.cells I.ok _ hm rfl;exact⟨c,jz X.env _ _ x c hm hc⟩
 .obtain⟨f0,f1,f2,f3,f4,f5⟩:=hf b hb;exact⟨Ke (hlt b hb),λx c e=>f4 x c (sub x c e)⟩
 .obtain⟨f0,f1,f2,f3,f4,f5⟩:=hf b hb
  rcases f3 with z|z
  .exact I.ok.noex b o e z
  .exact Fb (Ki (Fk (I.ok.bs b o e).1) z) (Kj _)
 .obtain⟨f0,f1,f2,f3,f4,f5⟩:=hf b hb
  rcases IN.mp (I.stkSub b hz)with z|z
  .exact f1 z
  .exact f2 z
 .have e2:(dR src σ)[j]? =some (some v):=e2;unfold dR at e2;rw[IU]at e2;cases q:src[j]? with
  |none=>rw[q]at e2;simp at e2
  |some o=>
   rw[q]at e2;cases o with
   |none=>simp at e2
   |some i=>
    have e2:(σ[i]?).join=some v:=by simpa using e2
    have e2:σ[i]? =some (some v):=by
     cases z:σ[i]? with
     |none=>rw[z]at e2;simp at e2
     |some w=>rw[z]at e2;simp at e2;rw[e2]
    obtain⟨hX,hfr⟩:=S.src j i x e1 q;have hm:=PySem.mem_of_lookup hfr;have hk2:=S.fre _ hm rfl;obtain⟨mX,hnX,hl⟩:=I.loc;have hvis:Eh X.env.scope x:=.inr hk2;obtain⟨u,r,l⟩:=hl i x v hX e2 hvis;refine⟨u,r,?_⟩
    rcases l with⟨l1,_⟩|⟨_,c,hc,hcell⟩
    .rcases hk2 with z|z
     .have:X.env.kindOf x=some .cell:=z;rw[l1]at this;cases this
     .have:X.env.kindOf x=some .free:=z;rw[l1]at this;cases this
    .refine .inr ⟨?_,c,jz X.env _ _ x c hm hc,?_⟩
     .show(Iq scope X.env).names.lookup x=some .cell\/(Iq scope X.env).names.lookup x=some .free;rw[hU,hfr]
      by_cases hcc:(FY == .free&&X.env.scope.kind == .function&&X.env.kindOf x == some .cell)=true
      .left
       show some (if _ then _ else _)=_;rw[E8 hcc]
      .right
       show some (if _ then _ else _)=_;rw[E7 hcc]
     .exact hcell.keeps hk
 .obtain⟨v,z⟩:=I.cell x c (sub x c e);exact⟨v,z.keeps hk⟩
 .show(dR src σ).length=N.length;unfold dR;rw[IL];exact S.len
end
def mV(X:Cx)(ifs:List FA)(t:TT):Prop:=
 ∀(gV:Fe)(s:Fi)(σ:St)(H:Hp)(Q:Bool->Hp->Prop),aC X gV σ H s->t σ H Q->
  Fs (Fu X.prog X.w) X.A (forIn ifs true λc r=>if r=true then do let ok<-Iz c X.env (FF c X.env);pure (ForInStep.yield ok)else pure (ForInStep.yield r)) (TP X gV σ Q) X.xe s
def iB:TT:=λ_ H Q=>Q true H
theorem bx{X:Cx}:mV X [] iB:=λ_ _ _ H _ I h=>wpAny_tests_nil ⟨H,I,h⟩
theorem ma{X:Cx}{c:FA}{t:TT}(h:PT X c t):mV X [c] t:=λgV s σ H Q I hw=>wpAny_tests_one (h gV s σ H Q I hw)
def gm(g:TG)(tt:TT)(te:TE)(src:List (Option Nat))(σ:St)(Q:VK)(J:It)(H1:Hp):Prop:=
 ∃W:Nat->Nat->List V->St->Hp->Prop,(∃m,W 0 m [] (dR src σ) H1)/\∀i m ys σ' H',W i m ys σ' H'->
  (J.stop i H'/\∀p,H' p=none->Q (.ref p) (upd H' p (.lst ys)))\/
  (J.go i H'/\ys.length<sizeLine/\∀x H2,J.yld i H' x H2->g x σ' H2 λσ3 H3=>tt σ3 H3 λb H4=>
   if b=true then te σ3 H4 λv H5=>∃m',m'<m/\W (i+1) m' (ys++[v]) σ3 H5 else∃m',m'<m/\W (i+1) m' ys σ3 H4)
def tComp(wi:TI)(g:TG)(tt:TT)(te:TE)(src:List (Option Nat)):TE:=λσ H Q=>wi σ H (gm g tt te src σ Q)
def pR(X:Cx)(gV:Fe)(σ:St)(Q:VK)(acc:Value)(C:Addr)(r:IC)(s':Fi):Prop:=
 (∃f,r=.ok f)/\∃D H',acc=.ref D/\aC X gV σ H' s'/\(∃m,s'.heap.Ns C m)/\fT X gV H' C/\Q (.ref D) H'
theorem lw{prog:Fn}{w:Fp}{A:Fz}{R:IC->Fi->Prop}{s:Fi}{elt target iter:FA}{ifs:List FA}{scope:Gj}{pos:GO}{it acc:Value}{env:HS}(I:Nat->Fi->Prop)
  (turn:∀n s,I n s->Fs (Fu prog w) A (HK it) (λr s₁=>match r with
   |none=>R (.ok .next) s₁
   |some v=>Fs (Fu prog w) A (GW target it v) (λ_ s₂=>Fs (Fu prog w) A (Ik target env v) (λ_ s₃=>
     Fs (Fu prog w) A (forIn ifs true λc r=>if r=true then do let ok<-Iz c env (FF c env);pure (ForInStep.yield ok)else pure (ForInStep.yield r)) (λok s₄=>
      if ok=true then Fs (Fu prog w) A (FF elt env) (λx s₅=>Fs (Fu prog w) A (call (.builtin "list.append") [acc,x]) (λ_ s₆=>∃m,m<n/\I m s₆) (λ_ _=>False) s₅) (λ_ _=>False) s₄
      else∃m,m<n/\I m s₄) (λ_ _=>False) s₃) (λ_ _=>False) s₂) (λ_ _=>False) s₁) (λ_ _=>False) s)
  (n:Nat) (h:I n s):Gx (Fu prog w) A (.compLoop (.ListComp elt [⟨target,iter,ifs,0⟩] scope pos) 0 it acc env) R s:=by
 refine codeAny_loop rfl I (λn s hI=>?_) n h;show Fs _ A ((compTurn (.ListComp elt [⟨target,iter,ifs,0⟩] scope pos) 0 it acc env).onRaise (λx=>do noteFrame x env;theTreesLotGoes x)) _ _ s;refine wpAny_noted ?_;rw[compTurn_list];refine Ff (Hr (Ff (FM (turn n s hI) (λr s₁ h₁=>?_) λ_ _ f=>f.elim)));cases r with
 |none=>exact Fm h₁
 |some v=>
  refine Ff (FM h₁ (λ_ s₂ h₂=>?_) λ_ _ f=>f.elim);refine Ff (FM h₂ (λ_ s₃ h₃=>Ff (FM h₃ (λok s₄ h₄=>?_) λ_ _ f=>f.elim)) λ_ _ f=>f.elim);cases ok with
  |false=>exact Fm ⟨rfl,h₄⟩
  |true=>
   exact Ff (Ff (FM h₄ (λx s₅ h₅=>Ff (FM h₅ (λ_ s₆ h₆=>Fm (Fm ⟨rfl,h₆⟩)) λ_ _ f=>f.elim)) λ_ _ f=>f.elim))
abbrev gA(us:List Value)(k:Nat):Obj:={cls:=.type "list",data:=.seq us.toArray k}
section
variable{X:Cx}{N:List Str}{src:List (Option Nat)}{scope:Gj}{elt tg iter:FA}{ifs:List FA}{pos:GO}{wi:TI}{g:TG}{tt:TT}{te:TE}
theorem mL(hc:X.calm=true)(S:bU X N src scope)(hg:∀s H ex,PG (cxC X scope N s H ex) tg g)(ht:∀s H ex,mV (cxC X scope N s H ex) ifs tt)(he:∀s H ex,PE (cxC X scope N s H ex) elt te)
  {gV:Fe} {σ:St} {Q:VK} {itv:Value} {s2:Fi} {E:Fd} (h:EX X gV σ tg (gm g tt te src σ Q) itv s2):
  Fs (Fu X.prog X.w) X.A (newList []) (λacc s₃=>Fs (Fu X.prog X.w) X.A (newFunctionEnv scope X.env.globals (ib X.env scope.names []) [] X.env.qual none .none (some X.env)) (λcenv s₄=>
   Gx (Fu X.prog X.w) X.A (.compStart (.ListComp elt [⟨tg,iter,ifs,0⟩] scope pos) 0 itv acc {cenv with scope:=Iq scope X.env}) (pR X gV σ Q acc cenv.locals) s₄) E s₃) E s2:=by
 obtain⟨it,fp,tn,J,H1,e,I2,T,st2,f2,W,⟨m0,w0⟩,turn⟩:=h;subst e;refine Hl (wpAny_newFunctionEnv S.nocell (by intro y hy;simp at hy) (λh₁ hns₁ hsb₁=>?_) S.kind);dsimp only at hns₁ hsb₁ ⊢;generalize hH2:s2.heap.push {cls:=.type "list",dict:=none,data:=.seq ([]:List Value).toArray}=H2 at hns₁ hsb₁ ⊢;have hC:H2.objs.size=s2.heap.objs.size+1:=by rw[<-hH2,FR]
 have push:∀b o,s2.heap.get? b=some o->H2.get? b=some o:=λb o e=>hH2▸Fh _ e;have hD2:H2.get? s2.heap.objs.size=some (gA [] 0):=hH2▸Fo _ rfl;have hk:∀b o,H2.get? b=some o->h₁.get? b=some o:=λb o e=>hsb₁.extBut b o (Ke (Fk e)) (Fh _ e);generalize hD:s2.heap.objs.size=D at*;have I3:aC X gV σ H1 {s2 with heap:=H2}:=I2.kept (t':=s2.toks) push;have fD:fT X gV H1 D:=I2.fpOk (Ko hD) (I2.hok.fresh (Ko hD));have fpl:∀b∈fp,b<D:=λb hb=>by obtain⟨o,e,_⟩:=T.obj _ _ st2 b hb;rw[<-hD];exact Fk e
 have fex:∀b∈D::fp,fT X gV H1 b:=λb hb=>by
  rcases IN.mp hb with z|z
  .rw[z];exact fD
  .exact f2 b z
 have lex:∀b∈D::fp,b<({s2 with heap:=H2}:Fi).heap.objs.size:=λb hb=>by
  show b<H2.objs.size
  rcases IN.mp hb with z|z
  .rw[z,hC];exact Kw _
  .rw[hC];exact Kx (fpl b z)
 have I4:=I3.enterC (N:=N) S fex lex (h1:=h₁) (tk:=s2.toks+([]:List (Str×Value)).length) hns₁ hk;generalize hY:cxC X scope N {s2 with heap:=H2} H1 (D::fp)=Y at*;have yP:Y.prog=X.prog:=by rw[<-hY];rfl
 have yw:Y.w=X.w:=by rw[<-hY];rfl
 have yA:Y.A=X.A:=by rw[<-hY];rfl
 have yC:Y.env.locals=H2.objs.size:=by rw[<-hY];rfl
 have yK:Y.K=X.K:=by rw[<-hY];rfl
 have yc:Y.calm=true:=by rw[<-hY];exact hc
 have yfs:Y.fs=gX X.stack:=by rw[<-hY];rfl
 have yex:Y.ex=D::fp:=by rw[<-hY];rfl
 have ypn:Y.pn=[]:=by rw[<-hY];rfl
 have yxe:Y.xe=λ_ _=>False:=by rw[<-hY];rfl
 have ycl:∀x c,Y.env.cells.lookup x=some c->X.env.cells.lookup x=some c:=by rw[<-hY];exact λx c e=>jy X.env _ _ x c (λy d z=>by simp at z) e
 have ye:Y.env=compEnvC scope (ib X.env scope.names []) H2.objs.size X.env:=by rw[<-hY];rfl
 have ys0:Y.s₀={s2 with heap:=H2}:=by rw[<-hY];rfl
 have yH0:Y.H₀=H1:=by rw[<-hY];rfl
 have hgY:PG Y tg g:=by rw[<-hY];exact hg _ _ _
 have htY:mV Y ifs tt:=by rw[<-hY];exact ht _ _ _
 have heY:PE Y elt te:=by rw[<-hY];exact he _ _ _
 have nfs:∀b∈D::fp,b∉Y.fs:=λb hb z=>by
  rw[yfs]at z;obtain⟨f0,f1,f2',_⟩:=fex b hb
  rcases IN.mp (I2.stkSub b z)with q|q
  .exact f1 q
  .exact f2' q
 have ncl:∀b∈D::fp,∀x c,Y.env.cells.lookup x=some c->c≠b:=λb hb x c e=>(fex b hb).2.2.2.2.1 x c (ycl x c e);have nC:∀b∈D::fp,b≠Y.env.locals:=λb hb=>by rw[yC];exact Ke (lex b hb)
 have stat:∀{H':Hp}{us:List Value}{k:Nat},(∀b∈fp,H' b=none)->∀b∈fp,fT Y [(D,gA us k)] H' b:=λ{H' us k} hn b hb=>
  ⟨hn b hb,nC b (Jd _ hb),nfs b (Jd _ hb),.inl (by rw[yex];exact Jd _ hb),ncl b (Jd _ hb),λp hp=>by
   rw[ypn]at hp;have hp1:p=(D,gA us k):=by simpa using hp
   rw[hp1];exact Kl (fpl b hb)⟩
 have pinD:∀{σ':St}{H':Hp}{s':Fi}{pl:Fe}{us:List Value}{k:Nat},aC Y pl σ' H' s'->s'.heap.get? D=some (gA us k)->H' D=none->aC Y [(D,gA us k)] σ' H' s':=λ{σ' H' s' pl us k} I' e n=>
  I'.pins_of λp hp=>by
   have hp1:p=(D,gA us k):=by simpa using hp
   subst hp1;exact⟨e,n,nC D Jc,nfs D Jc,λv z=>by cases z⟩
 have I4':aC Y [(D,gA [] 0)] (dR src σ) H1 {s2 with heap:=h₁,toks:=s2.toks+([]:List (Str×Value)).length}:=pinD I4 (hk _ _ hD2) fD.1;have loop:Gx (Fu X.prog X.w) X.A (.compLoop (.ListComp elt [⟨tg,iter,ifs,0⟩] scope pos) 0 (.ref it) (.ref D) Y.env) (pR X gV σ Q (.ref D) H2.objs.size) {s2 with heap:=h₁,toks:=s2.toks+([]:List (Str×Value)).length}:=by
  refine lw (λn s'=>∃i ys us k σ' H',aC Y [(D,gA us k)] σ' H' s'/\tn i s'.heap/\(∀b∈fp,H' b=none)/\aL ys us/\ys.length<=sizeLine/\W i n ys σ' H') ?_ m0
   ⟨0,[],[],0,_,H1,I4',T.keep _ _ _ st2 λb hb o e=>hk _ _ (push b o e),λb hb=>(f2 b hb).1,.nil,Kh _,w0⟩
  rintro n s3 ⟨i,ys,us,k,σ3,H3,I3',st3,fr3,rv,hz,w3⟩
  rcases turn i n ys σ3 H3 w3 with⟨stop,q⟩|⟨go,hlen,step⟩
  .have hd:=T.done Y yP yw yK yc i _ s3 σ3 H3 (λ_ _=>False) I3' (stat fr3) st3 stop;rw[yA]at hd;refine bJ hd λr s4 ⟨hr,I4⟩=>?_;subst hr;obtain⟨eD,nD,_⟩:=I4.pin (D,gA us k) (by simp);have eD:s4.heap.get? D=some (gA us k):=eD;have nD:H3 D=none:=nD;have E3:Un (gX X.stack) (D::fp) H1 H3 H2 s4.heap:=by have b:=I4.E3;rw[yex,yH0,ys0,yfs]at b;exact b
   have hnD:∀b o,s2.heap.get? b=some o->b≠D:=λb o e=>by rw[<-hD];exact Ke (Fk e)
   have nx:∀b o,s2.heap.get? b=some o->b∉fp->b∉D::fp:=λb o e hb z=>(IN.mp z).elim (hnD b o e) hb;have un:Un (gX X.stack) fp H1 (upd H3 D (.lst ys)) s2.heap s4.heap:=
    ⟨λb o e n hb hx=>E3.keep b o (push b o e) n hb (nx b o e hx),λb o e n hb hx=>E3.slot b o (push b o e) n hb (nx b o e hx),λb o e n hx=>by rw[ar (hnD b o e)];exact E3.free b o (push b o e) n (nx b o e hx),
     λb o e hx=>E3.there b o (push b o e) (nx b o e hx),λb xs e=>by rw[ar (au e fD.1)];exact E3.tups b xs e,λb o u e=>by rw[ar (au e fD.1)];exact E3.frzs b o u e,
     λb ps e=>by rw[ar (au e fD.1)];exact E3.tbls b ps e⟩
   have hok:iz X.prog X.w (upd H3 D (.lst ys)) s4.heap:=λb u e=>by
    by_cases hb:b=D
    .subst hb;rw[af]at e;cases e;exact⟨hz,us,k,rv,eD⟩
    .rw[ar hb]at e;have x:=I4.hok b u e;rw[yP,yw]at x;exact x.stay (λc v _ z=>z) (λc z=>by rw[ar (au z nD)];exact z) λc xs z=>by rw[ar (au z nD)];exact z
   have ho:s4.os=s2.os:=by rw[I4.os,ys0]
   have J':aC X gV σ (upd H3 D (.lst ys)) s4:=I2.call' (ch:=fp) ho un hok I4.bare λb hb=>⟨(f2 b hb).2.2.2.1,(f2 b hb).2.1,(f2 b hb).2.2.2.2.1,(f2 b hb).2.2.2.2.2⟩;refine⟨⟨_,rfl⟩,D,_,rfl,J',?_,?_,q D nD⟩
   .obtain⟨m,hm,_⟩:=I4.loc;rw[yC]at hm;exact⟨m,hm⟩
   .refine I2.fpOk (by rw[hC,hD];exact Kk _) ?_;rw[ar (by rw[hC];exact Kp D)];have z:=I4.free;rw[yC]at z;exact z
  .have hd:=T.item Y yP yw yK yc i _ s3 σ3 H3 (λ_ _=>False) I3' (stat fr3) st3 go;rw[yA]at hd;refine bJ hd λr s4 ⟨u,hr,h4⟩=>?_;subst hr;refine bJ h4 λ_ s5 ⟨x,H5,I5,r5,y5,st5,fr5⟩=>?_;have I5':=I5.pinned (stat fr5) (T.obj _ _ st5);have hg':=hgY _ s5 σ3 H5 x u _ I5' r5 (step x H5 y5);rw[yP,yw,yA,yxe]at hg';refine bJ hg' λ_ s6 ⟨σ6,H6,I6,q6⟩=>?_;have ht':=htY _ s6 σ6 H6 _ I6 q6;rw[yP,yw,yA,yxe]at ht';refine bJ ht' λok s7 ⟨H7,I7,q7⟩=>?_;have again:∀{σ8:St}{H8:Hp}{s8:Fi}{ys':List V}{us':List Value}{k' m':Nat},aC Y ([(D,gA us' k')]++ge fp s5.heap) σ8 H8 s8->aL ys' us'->ys'.length<=sizeLine->m'<n->W (i+1) m' ys' σ8 H8->
     ∃m,m<n/\∃i ys us k σ' H',aC Y [(D,gA us k)] σ' H' s8/\tn i s8.heap/\(∀b∈fp,H' b=none)/\aL ys us/\ys.length<=sizeLine/\W i m ys σ' H':=λ{σ8 H8 s8 ys' us' k' m'} I8 rv' hz' hm w8=>by
    refine⟨m',hm,i+1,ys',us',k',σ8,H8,I8.unpinned,T.keep _ _ _ st5 λb hb o e=>(I8.pin (b,o) (Ja _ (Ja _ (fL hb e)))).1,λb hb=>?_,rv',hz',w8⟩;obtain⟨o,e,d⟩:=T.obj _ _ st5 b hb;exact(I8.pin (b,o) (Ja _ (Ja _ (fL hb e)))).2.1
   cases ok with
   |false=>
    obtain⟨m',hm,w8⟩:=q7;exact again I7 rv hz hm w8
   |true=>
    rw[E8 rfl];have he':=heY _ s7 σ6 H7 _ I7 q7;rw[yP,yw,yA,yxe]at he';refine bJ he' λu8 s8 ⟨v,H8,I8,r8,m',hm,w8⟩=>?_;obtain⟨eD,nD,_⟩:=I8.pin (D,gA us k) (by simp);have eD:s8.heap.get? D=some (gA us k):=eD;have nD:H8 D=none:=nD;have hl:=rv.length;refine GR F.slot_list_append ⟨_,eD,rfl⟩ F.entry_list_append (F.args_list_append_2 _ _) (PySem.list_append D us.toArray k u8 (by rw[IM];omega)) ⟨eD,?_⟩;have q:=PySem.IsL.update eD (λa=>a.push u8);have eu:us.toArray.push u8=(us++[u8]).toArray:=by simp
    rw[eu]at q;obtain⟨k',q⟩:∃k',(s8.heap.update D (Gg λa=>a.push u8)).get? D=some (gA (us++[u8]) k'):=⟨_,q⟩;have I8':aC Y (ge fp s5.heap) σ6 H8 s8:=I8.pins_of λp hp=>I8.pin p (Ja _ (Ja _ hp));have I9:aC Y (ge fp s5.heap) σ6 H8 {s8 with heap:=s8.heap.update D (Gg λa=>a.push u8)}:=I8'.turned (it:=D) (t':=s8.toks) (λb o hb e=>(Gh s8.heap _ (Ne.symm hb)).trans e) nD (nC D Jc)
     (.inl (by rw[yex];exact Jc)) (ncl D Jc) λp hp=>by
      rw[ypn]at hp;have hp:p∈ge fp s5.heap:=by simpa using hp
      exact Ke (fpl _ (j4 hp).1)
    refine again (us':=us++[u8]) (ys':=ys++[v]) (m':=m') (k':=k') (I9.pins_of λp hp=>?_) (rv.append (.cons r8 .nil)) (by rw[IT,JR];omega) hm w8
    rcases Jf.mp hp with z|z
    .have hp1:p=(D,gA (us++[u8]) k'):=by simpa using z
     subst hp1;exact⟨q,nD,nC D Jc,nfs D Jc,λv z=>by cases z⟩
    .exact I9.pin p (Ja _ z)
 rw[ye]at loop;exact codeAny_compStart_list loop (T.self _ 0 _ _ _ (T.keep _ _ _ st2 λb hb o e=>hk _ _ (push b o e)) loop)
theorem vv(hc:X.calm=true)(S:bU X N src scope)(hi:PI X tg iter wi)(hg:∀s H ex,PG (cxC X scope N s H ex) tg g)(ht:∀s H ex,mV (cxC X scope N s H ex) ifs tt)(he:∀s H ex,PE (cxC X scope N s H ex) elt te)
  (hs:∀x,GH iter X.env x=pure x:=by intro _;rfl):PE X (.ListComp elt [⟨tg,iter,ifs,0⟩] scope pos) (tComp wi g tt te src):=by
 intro gV s σ H Q I h;rw[eval_ListComp];refine Hs (use:=none) rfl hs (gG (S.cells I.ok)) S.kind S.names (bJ (hi gV s σ H _ I h) λv s1 h1=>bJ h1 λit s2 h2=>?_);refine bJ (mL hc S hg ht he h2) λacc s3 h3=>bJ h3 λcenv s4 h4=>FW h4 λr s' hr=>?_;obtain⟨⟨f,rfl⟩,D,H',rfl,J,⟨m,hm⟩,hf,q⟩:=hr;refine⟨m,hm,λh' sb=>?_⟩;exact⟨.ref D,H',J.turned (t':=s'.toks) (λb o hb e=>(sb.2 b hb).trans e) hf.1 hf.2.1 hf.2.2.2.1 hf.2.2.2.2.1 hf.2.2.2.2.2,rfl,q⟩
theorem iW{i:Nat}{y:Str}{py spos:GO}(hc:X.calm=true)(S:bU X N src scope)(hi:PI X tg iter wi)(hg:∀s H ex,PG (cxC X scope N s H ex) tg g)(ht:∀s H ex,mV (cxC X scope N s H ex) ifs tt)(he:∀s H ex,PE (cxC X scope N s H ex) elt te)
  (hN:X.N.Nodup) (hy:X.N[i]? =some y) (hx:BF X.env.scope y) (hsw:HZ (.ListComp elt [⟨tg,iter,ifs,0⟩] scope pos) (some (.Name y py)) spos.line X.env=pure true) (hf:X.fn y=true\/X.env.scope.names.lookup y=some .local)
  (hs:∀x,GH iter X.env x=pure x:=by intro _;rfl):PS X (.Assign [.Name y py] (.ListComp elt [⟨tg,iter,ifs,0⟩] scope pos) spos) (tAsg (tComp wi g tt te src) (gName i)):=by
 intro gV s σ H D I h;rw[exec_Assign_Name_used _ _ _ _ hsw];refine Ff (Hr (Ff ?_));show Fs _ X.A (do let _<-comprehension (.ListComp elt [⟨tg,iter,ifs,0⟩] scope pos) scope X.env _ (newList []) false (FF iter X.env) (some (Ik (.Name y py) X.env))) _ _ s;refine Ff (FM (Hs (use:=some (Ik (.Name y py) X.env)) (Q:=λ_ s'=>SP X gV D .next s') rfl hs (gG (S.cells I.ok)) S.kind S.names (bJ (hi gV s σ H _ I h) λv s1 h1=>bJ h1 λit s2 h2=>?_)) (λ_ s' hq=>Fm (Fm hq)) λ_ _ e=>e);refine bJ (mL hc S hg ht he h2) λacc s3 h3=>bJ h3 λcenv s4 h4=>FW h4 λr s' hr=>?_;obtain⟨⟨f,rfl⟩,D',H',rfl,J,⟨m,hm⟩,hfp,q⟩:=hr;show Fs _ X.A (Ik (.Name y py) X.env (.ref D')) _ _ _;refine wpAny_assign_Name (jZ J hN hy hx (v:=.ref D') rfl (λs5 I5 ⟨a,sb,ha⟩=>?_) hf);have hne:cenv.locals≠a:=by
  rcases ha with z|z
  .rw[z];exact hfp.2.1
  .exact Ne.symm (hfp.2.2.2.2.1 y a z)
 refine⟨m,hm.sameBut sb hne,λh' sb'=>?_⟩;exact⟨_,H',I5.turned (t':=s5.toks) (λb o hb e=>(sb'.2 b hb).trans e) hfp.1 hfp.2.1 hfp.2.2.2.1 hfp.2.2.2.2.1 hfp.2.2.2.2.2,q⟩
end
section
variable{X:Cx}
theorem PE.imp{e:FA}{t t':TE}(h:PE X e t)(i:∀σ H Q,t' σ H Q->t σ H Q):PE X e t':=λgV s σ H Q I q=>h gV s σ H Q I (i σ H Q q)
theorem bj.imp{f:Value}{r r':List V->Hp->VK->Prop}(h:bj X f r)(i:∀xs H Q,r' xs H Q->r xs H Q):bj X f r':=λgV s σ H xs us Q I r q=>h gV s σ H xs us Q I r (i xs H Q q)
theorem rc.imp{id:String}{r r':V->List V->Hp->VK->Prop}(h:rc X id r)(i:∀x xs H Q,r' x xs H Q->r x xs H Q):rc X id r':=λgV s σ H x xs v us Q I rx r q=>h gV s σ H x xs v us Q I rx r (i x xs H Q q)
abbrev Str.tl(x:Str):List Nat:=x.cps.toList
theorem iT{x y:Str}(h:x.cps.toList=y.cps.toList):x=y:=by obtain⟨a⟩:=x;obtain⟨b⟩:=y;have:a=b:=KW.mp h;rw[this]
theorem gr(x:Str):x.length=x.cps.toList.length:=by simp[Str.length]
theorem qo:gH X (FN .LtE) (λx y H Q=>∃i j,x=.str i/\y=.str j/\Q (.bl (!decide (j.cps.toList<i.cps.toList))) H):=by intro gV s σ H x y v u Q I rx ry h;obtain⟨i,j,rfl,rfl,q⟩:=h;obtain⟨t,rfl⟩:=rx;obtain⟨t',rfl⟩:=ry;exact PySem.P.le_str (fin_bl I q rfl)
theorem tO:rc X "str.upper" (λx vs H Q=>∃a,x=.str a/\vs=[]/\a.length<=sizeLine/\(∀c∈a.cps.toList,c<128)/\Q (.str ⟨a.cps.map up1⟩) H):=by
 intro gV s σ H x xs v us Q I rx r h;obtain⟨a,rfl,rfl,hz,ha,q⟩:=h;obtain⟨t,rfl⟩:=rx;cases r;have e:placed a (λ_ c=>Unicode.upperOf c)=a.cps.map up1:=placed_single a _ up1 λi c hc=>upperOf_ascii c (ha c (Jm hc));have hfit:Builtin.Str.tooLong (placed a λ_ c=>Unicode.upperOf c).size=false:=by rw[e,Array.size_map];unfold Builtin.Str.tooLong;exact E6 (by show¬a.cps.size > sizeLine;have:a.length=a.cps.size:=rfl;omega)
 refine call_gives F.slot_str_upper (HI _ _ _) F.entry_str_upper (F.args_str_upper_1 _) (gives_str_upper a t hfit) ?_;rw[e];exact⟨by show(a.cps.map up1).size<=sizeLine;rw[Array.size_map];exact hz,⟨.str _,H,I.tok _,⟨_,rfl⟩,q⟩⟩
def gQ(x:Str)(lo hi:Option Int):Str:=⟨((x.cps.toList.drop (HT.sIx x.length 0 lo)).take (HT.sIx x.length x.length hi - HT.sIx x.length 0 lo)).toArray⟩
theorem pp(l:List Nat):∀(k i:Nat),i+k<=l.length->(List.range' i k).filterMap (λm=>l[m]?)=(l.drop i).take k
 |0,i,_=>by simp
 |k+1,i,h=>by have ih:=pp l k (i+1) (by omega);rw[List.range'_succ,JA,IP (by omega),List.drop_eq_getElem_cons (by omega),List.take_succ_cons];show l[i]::_=_;rw[ih]
theorem tH(x:Str)(i k:Nat)(h:i+k<=x.length):((List.range k).map λ(m:Nat)=>i+m).filterMap (x.cps[·]?)=(x.cps.toList.drop i).take k:=by have hx:x.cps.toList.length=x.length:=(gr x).symm;rw[<-List.range'_eq_map_range,<-pp _ _ _ (by omega)];congr 1;funext m;rw[KR]
theorem pC(lo hi:Option Int)(n:Nat):FH lo hi 1 n=(List.range (HT.sIx n n hi - HT.sIx n 0 lo)).map λm=>HT.sIx n 0 lo+m:=by
 have cl:∀(v:Int)(d:Nat),max 0 (min (if v<0 then v+(n:Int)else v) (n:Int))=((HT.sIx n d (some v):Nat):Int):=λv d=>by
  show _=(((if v<0 then(v+(n:Int)).toNat else min v.toNat n):Nat):Int)
  by_cases hv:v<0
  .simp only[E8 hv];omega
  .simp only[E7 hv];omega
 have main:∀(a b:Nat),Ih (a:Int) (b:Int) 1=(List.range (b - a)).map λm=>a+m:=λa b=>by
  have e:(if(1:Int) > 0 then(if(a:Int)<(b:Int)then((b:Int) - a+1 - 1) / 1 else 0)else(if(a:Int) > b then((a:Int) - b - 1 - 1) / (-1)else 0)).toNat=b - a:=by rw[E8 (by decide)];split<;>omega
  show(List.range (if(1:Int) > 0 then(if(a:Int)<(b:Int)then((b:Int) - a+1 - 1) / 1 else 0)else(if(a:Int) > b then((a:Int) - b - 1 - 1) / (-1)else 0)).toNat).map (λ(k:Nat)=>((a:Int)+1*(k:Int)).toNat)=_;rw[e];apply Jp;intro m _;omega
 have e1:HT.sIx n 0 none=0:=rfl;have e2:HT.sIx n n none=n:=rfl;unfold FH;simp only[show(1:Int) > 0 by decide,if_true];cases lo with
 |none=>
  cases hi with
  |none=>exact main 0 n
  |some h=>show Ih ((0:Nat):Int) (max 0 (min (if h<0 then h+(n:Int)else h) (n:Int))) 1=_;rw[cl h n];exact main _ _
 |some l=>
  cases hi with
  |none=>show Ih (max 0 (min (if l<0 then l+(n:Int)else l) (n:Int))) (n:Int) 1=_;rw[cl l 0];exact main _ _
  |some h=>show Ih (max 0 (min (if l<0 then l+(n:Int)else l) (n:Int))) (max 0 (min (if h<0 then h+(n:Int)else h) (n:Int))) 1=_;rw[cl l 0,cl h n];exact main _ _
theorem pY(x:Str)(lo hi:Option Int):(⟨((FH lo hi 1 x.length).filterMap (x.cps[·]?)).toArray⟩:Str)=gQ x lo hi:=by
 unfold gQ;rw[pC];have h1:=HT.sIx_le x.length 0 (Kh _) lo;have h2:=HT.sIx_le x.length x.length (Kd _) hi
 by_cases h:HT.sIx x.length 0 lo<=HT.sIx x.length x.length hi
 .rw[tH x _ _ (by omega)]
 .have e:HT.sIx x.length x.length hi - HT.sIx x.length 0 lo=0:=by omega
  rw[e];simp
theorem ke(x:Str)(lo hi:Option Int):(gQ x lo hi).cps.toList=(x.cps.toList.drop (HT.sIx x.length 0 lo)).take (HT.sIx x.length x.length hi - HT.sIx x.length 0 lo):=by unfold gQ;simp
theorem mK(x:Str)(lo hi:Option Int):(gQ x lo hi).length<=x.length:=by rw[gr,ke,gr x,IX,Jn];omega
theorem oi{x:Str}{lo hi:Option Int}(h:(FH lo hi 1 x.length).length=x.length):gQ x lo hi=x:=by
 rw[pC,IL,Jk]at h;have h1:=HT.sIx_le x.length 0 (Kh _) lo;have h2:=HT.sIx_le x.length x.length (Kd _) hi;apply iT;rw[ke]
 by_cases z:x.length=0
 .have e:x.cps.toList=[]:=List.length_eq_zero_iff.mp (by rw[<-gr];exact z);rw[e];simp
 .have e1:HT.sIx x.length 0 lo=0:=by omega
  rw[h,e1,JF,JG (by rw[<-gr];exact Kd _)]
def Er:V->Option Int->Option Int->Hp->VK->Prop:=λx lo hi H Q=>∃z,x=.str z/\z.length<=sizeLine/\Q (.str (gQ z lo hi)) H
theorem md{v:Value}{o:Option Int}(p:IK v o):∃q:Option (Int×IF),v=partValue q/\q.map (·.1)=o:=by
 cases p with
 |none=>exact⟨none,rfl,rfl⟩
 |int i t=>exact⟨some (i,t),rfl,rfl⟩
theorem Aj:q9 X Er:=by
 intro gV s σ H x v vl vu lo hi sl Q I rx hs pl pu h;obtain⟨z,rfl,hz,q⟩:=h;obtain⟨t,rfl⟩:=rx;obtain⟨l,rfl,el⟩:=md pl;obtain⟨u,rfl,eu⟩:=md pu;refine⟨"str",_,F.slot_str_getitem.lookup,HI _ _ _,?_⟩;obtain⟨o,ho,hc,hd⟩:=hs;refine wpAny_getItem_str_slice (l:=l) (u:=u) (st:=none) ⟨o,ho,hc,hd⟩ rfl ?_;unfold sliceMade slicePicked;rw[el,eu];split
 .rename_i hw;have hw:(FH lo hi 1 z.length).length=z.length:=by simpa using hw
  rw[oi hw]at q;exact⟨.str z,H,I,⟨t,rfl⟩,q⟩
 .have e:=pY z lo hi;have e':(⟨((FH lo hi ((Option.map (·.1) (none:Option (Int×IF))).getD 1) z.length).filterMap (z.cps[·]?)).toArray⟩:Str)=gQ z lo hi:=e;rw[e'];exact⟨Kg (mK z lo hi) hz,⟨.str _,H,I.tok _,⟨_,rfl⟩,q⟩⟩
theorem jW:bj X (.type "int") (λxs H Q=>∃x n,xs=[.str x]/\PySem.intText? x=some n/\x.length<=640/\Q (.int n) H):=by intro gV s σ H xs us Q I r h;obtain⟨x,n,rfl,hn,hl,q⟩:=h;obtain⟨u,rfl,t,rfl⟩:=cU r;exact PySem.W.KIN.call_text hn hl ⟨.int n,H,I.tok _,⟨_,rfl⟩,q⟩
theorem gK:∀{ys:List Str}{us:List Value},aL (ys.map V.str) us->StrsAre us ys
 | [],us,r=>by rw[JP]at r;cases r;exact .nil
 |y::ys,us,r=>by
  rw[Jh]at r;cases r with
  |cons r1 r2=>
   obtain⟨t,e⟩:=r1;subst e;exact .cons y t (gK r2)
theorem vC:rc X "str.join" (λx vs H Q=>∃sep p ys,x=.str sep/\vs=[.ref p]/\aM X.K H p (ys.map V.str)/\(ys.map (·.length)).sum+ys.length*sep.length<=16777216/\Q (.str (Fx sep ys)) H):=by intro gV s σ H x xs v us Q I rx r h;obtain⟨sep,p,ys,rfl,rfl,hp,hz,q⟩:=h;obtain⟨t,rfl⟩:=rx;obtain⟨u,rfl,ru⟩:=cU r;cases ru;obtain⟨its,rv,pl,hl⟩:=I.list hp;exact join_list pl.isList (by simpa using gK rv) hz λt' k=>⟨.str _,H,I.tok _,⟨t',rfl⟩,q⟩
theorem lM{P:Fn}{w:Fp}{A:Fz}{its:List Value}{ks:List Bool}(r:aL (ks.map V.bl) its):TruthOf P w A (λi v=>its.toArray[i]? =some v) (λi=>ks.getD i false):=by
 intro i v s Q E hv hq;have hv:its[i]? =some v:=by simpa using hv
 have hlen:=r.length;rw[IL]at hlen;have hi:i<its.length:=(Je.mp hv).1;have hk:(ks.map V.bl)[i]? =some (V.bl (ks.getD i false)):=by rw[IU,IP (by omega),IY,IP (by omega)];rfl
 obtain⟨u,hu,ru⟩:=r.get hk;rw[hv]at hu;cases hu;cases ru;exact FQ hq
theorem qd(ks:List Bool):(List.range ks.length).all (λi=>ks.getD i false)=ks.all id:=by
 rw[KL,Ji,Ji]
 constructor
 .intro h b hb;obtain⟨i,hi,e⟩:=J3.mp hb;have:=h i (Jb.mpr hi);rw[IY,IP hi]at this;rw[<-e];exact this
 .intro h i hi;have hi:=Jb.mp hi;rw[IY,IP hi];exact h _ (Jx hi)
theorem uF(hc:X.calm=true):bj X (.builtin "all") (λxs H Q=>∃(p:Addr)(ks:List Bool),xs=[.ref p]/\aM X.K H p (ks.map V.bl)/\Q (.bl (ks.all id)) H):=by
 intro gV s σ H xs us Q I r h;obtain⟨p,ks,rfl,hp,q⟩:=h;obtain⟨u,rfl,ru⟩:=cU r;cases ru;obtain⟨its,rv,pl,hl⟩:=I.list hp;have hlen:=rv.length;rw[IL]at hlen;refine call_all_walk (GF pl.isList ?_);have hne:p≠s.heap.objs.size:=by obtain⟨o,ho,_⟩:=pl.isList;exact Ke (Fk ho)
 have W:=Walks.list (prog:=X.prog) (w:=X.w) (A:=X.A.in1) (show X.A.in1.handled=none from I.ok.hd hc) s.heap.objs.size p hne its.toArray;have hpush:∀o b ob,s.heap.get? b=some ob->(s.heap.push o).get? b=some ob:=λo b ob e=>Fh _ e;refine⟨_,_,_,_,_,_,λi=>ks.getD i false,rfl,W,⟨⟨_,Fo _ rfl,rfl,rfl⟩,pl.isList.at λo e=>hpush _ _ o e⟩,lM rv,λh' tk k=>?_⟩;have e:(List.range its.toArray.size).all (λi=>ks.getD i false)=ks.all id:=by rw[<-qd,IM,<-hlen]
 rw[e];refine⟨.bl _,H,I.kept (t':=tk) (h':=h') λb ob e=>k b ob ?_ (hpush _ b ob e),rfl,q⟩;intro hb;have:b=s.heap.objs.size:=by simpa using hb
 subst this;exact Fb (Fk e) (Kj _)
end
inductive re(K:Frag)(H:Hp):Nat->V->V->Bool->Prop
 |flat {n:Nat} {x y:V} (hx:bO x=true) (hy:bO y=true):re K H n x y (eqV x y)
 |same {n:Nat} {a:Addr}:re K H n (.ref a) (.ref a) true
 |len {n:Nat} {a b:Addr} {xs ys:List V} (ha:aM K H a xs) (hb:aM K H b ys) (hab:a≠b) (hl:xs.length≠ys.length):re K H (n+1) (.ref a) (.ref b) false
 |lst {n:Nat} {a b:Addr} {xs ys:List V} {es:Nat->Bool} (ha:aM K H a xs) (hb:aM K H b ys) (hab:a≠b) (hl:xs.length=ys.length)
   (he:∀i x y,xs[i]? =some x->ys[i]? =some y->re K H n x y (es i)):re K H (n+1) (.ref a) (.ref b) ((List.range xs.length).all es)
 |tup {n:Nat} {a b:Addr} {xs ys:List V} {es:Nat->Bool} (ha:dC K H a xs) (hb:dC K H b ys) (hab:a≠b)
   (he:∀i x y,xs[i]? =some x->ys[i]? =some y->re K H n x y (es i)):re K H (n+1) (.ref a) (.ref b) ((List.range (min xs.length ys.length)).all es&&xs.length == ys.length)
 |nref {n:Nat} {x:V} {a:Addr} {xs:List V} (hx:bO x=true) (ha:aM K H a xs\/dC K H a xs):re K H n x (.ref a) false
 |refn {n:Nat} {x:V} {a:Addr} {xs:List V} (hx:bO x=true) (ha:aM K H a xs\/dC K H a xs):re K H n (.ref a) x false
section
variable{X:Cx}{gV:Fe}{σ:St}{H:Hp}{s:Fi}
theorem dD{xs:List V}{its:List Value}(r:aL xs its){j:Nat}(h:j<its.toArray.size):∃x,xs[j]? =some x/\RelV x its.toArray[j]:=by
 have hl:=r.length;have hj:j<its.length:=by simpa using h
 have hx:xs[j]? =some (xs[j]'(by omega)):=IP (by omega);obtain⟨u,hu,ru⟩:=r.get hx;refine⟨_,hx,?_⟩;have e:its.toArray[j]=u:=by rw[IP hj]at hu;simpa using Option.some.inj hu
 rw[e];exact ru
theorem lv(I:aC X gV σ H s):∀{n:Nat}{x y:V}{k:Bool},re X.K H n x y k->∀(A:Fz),A.units+n<GD->∀{u v:Value},RelV x u->RelV y v->HL A s u v k:=by
 intro n x y k h
 induction h with
 |flat hx hy=>exact λA _ u v ru rv=>lu ru rv hx hy
 |same=>
  intro A _ u v ru rv;cases ru;cases rv;exact SeqAt.EqAt.same _
 |len ha hb hab hl=>
  intro A hu u v ru rv;cases ru;cases rv;obtain⟨its,r1,p1,_⟩:=I.list ha;obtain⟨its2,r2,p2,_⟩:=I.list hb;have l1:=r1.length;have l2:=r2.length;refine .of_refs hab (.lists_lengths p1.isList p2.isList (by simp;omega) (by omega))
 | @lst n a b xs ys es ha hb hab hl he ih=>
   intro A hu u v ru rv;cases ru;cases rv;obtain⟨its,r1,p1,_⟩:=I.list ha;obtain⟨its2,r2,p2,_⟩:=I.list hb;have l1:=r1.length;have l2:=r2.length;have e:(List.range xs.length).all es=(List.range its.toArray.size).all es:=by rw[IM,l1]
   rw[e];refine .of_refs hab (.lists p1.isList p2.isList (by simp;omega) (by omega) λj h1 h2=>?_);obtain⟨x,hx,rx⟩:=dD r1 h1;obtain⟨y,hy,ry⟩:=dD r2 h2;exact ih j x y hx hy A.in1 (by show A.units+1+n<GD;omega) rx ry
 | @tup n a b xs ys es ha hb hab he ih=>
   intro A hu u v ru rv;cases ru;cases rv;obtain⟨its,r1,p1,_⟩:=I.tuple ha;obtain⟨its2,r2,p2,_⟩:=I.tuple hb;have l1:=r1.length;have l2:=r2.length;have e:((List.range (min xs.length ys.length)).all es&&xs.length == ys.length)=((List.range (min its.toArray.size its2.toArray.size)).all es&&its.toArray.size == its2.toArray.size):=by rw[IM,IM,l1,l2]
   rw[e];refine .of_refs hab (.tuples (show s.heap.IsTuple a its.toArray from p1) (show s.heap.IsTuple b its2.toArray from p2) (by omega) λj h1 h2=>?_);obtain⟨x,hx,rx⟩:=dD r1 h1;obtain⟨y,hy,ry⟩:=dD r2 h2;exact ih j x y hx hy A.in1 (by show A.units+1+n<GD;omega) rx ry
 | @nref n x a xs hx ha=>
   intro A hu u v ru rv;cases rv
   rcases ha with ha|ha
   .obtain⟨its,r1,p1,_⟩:=I.list ha;have hl:=p1.isList;cases x with
    |non=>cases ru;exact .none_list hl (by omega)
    |bl b=>cases ru;exact .bool_list b hl (by omega)
    |int b=>obtain⟨t,rfl⟩:=ru;exact .int_list b t hl (by omega)
    |str b=>obtain⟨t,rfl⟩:=ru;exact .str_list b t hl (by omega)
    |_=>simp[bO]at hx
   .obtain⟨its,r1,p1,_⟩:=I.tuple ha;have hl:s.heap.IsTuple a its.toArray:=p1;cases x with
    |non=>cases ru;exact .none_tuple hl (by omega)
    |bl b=>cases ru;exact .bool_tuple b hl (by omega)
    |int b=>obtain⟨t,rfl⟩:=ru;exact .int_tuple b t hl (by omega)
    |str b=>obtain⟨t,rfl⟩:=ru;exact .str_tuple b t hl (by omega)
    |_=>simp[bO]at hx
 | @refn n x a xs hx ha=>
   intro A hu u v ru rv;cases ru
   rcases ha with ha|ha
   .obtain⟨its,r1,p1,_⟩:=I.list ha;have hl:=p1.isList;cases x with
    |non=>cases rv;exact .list_none hl (by omega)
    |bl b=>cases rv;exact .list_bool b hl (by omega)
    |int b=>obtain⟨t,rfl⟩:=rv;exact .list_int b t hl (by omega)
    |str b=>obtain⟨t,rfl⟩:=rv;exact .list_str b t hl (by omega)
    |_=>simp[bO]at hx
   .obtain⟨its,r1,p1,_⟩:=I.tuple ha;have hl:s.heap.IsTuple a its.toArray:=p1;cases x with
    |non=>cases rv;exact .tuple_none hl (by omega)
    |bl b=>cases rv;exact .tuple_bool b hl (by omega)
    |int b=>obtain⟨t,rfl⟩:=rv;exact .tuple_int b t hl (by omega)
    |str b=>obtain⟨t,rfl⟩:=rv;exact .tuple_str b t hl (by omega)
    |_=>simp[bO]at hx
end
inductive pQ(K:Frag)(H:Hp):Nat->V->V->Bool->Prop
 |len {n:Nat} {a b:Addr} {xs ys:List V} (ha:aM K H a xs) (hb:aM K H b ys) (hl:xs.length≠ys.length):pQ K H (n+1) (.ref a) (.ref b) false
 |lst {n:Nat} {a b:Addr} {xs ys:List V} {es:Nat->Bool} (ha:aM K H a xs) (hb:aM K H b ys) (hl:xs.length=ys.length)
   (he:∀i x y,xs[i]? =some x->ys[i]? =some y->re K H n x y (es i)):pQ K H (n+1) (.ref a) (.ref b) ((List.range xs.length).all es)
 |tup {n:Nat} {a b:Addr} {xs ys:List V} {es:Nat->Bool} (ha:dC K H a xs) (hb:dC K H b ys)
   (he:∀i x y,xs[i]? =some x->ys[i]? =some y->re K H n x y (es i)):pQ K H (n+1) (.ref a) (.ref b) ((List.range (min xs.length ys.length)).all es&&xs.length == ys.length)
section
variable{X:Cx}
theorem AC{n:Nat}(hu:X.A.units+n<GD):gH X (FN .Eq) (λx y H Q=>∃k,pQ X.K H n x y k/\Q (.bl k) H):=by
 intro gV s σ H x y v u Q I rx ry h;obtain⟨k,h,q⟩:=h;cases h with
 | @len n a b xs ys ha hb hl=>
   cases rx;cases ry;obtain⟨its,r1,p1,_⟩:=I.list ha;obtain⟨its2,r2,p2,_⟩:=I.list hb;have l1:=r1.length;have l2:=r2.length;exact SeqAt.eq_list_lengthsAt p1.isList p2.isList (by simp;omega) (by omega) (fin_bl I q rfl)
 | @lst n a b xs ys es ha hb hl he=>
   cases rx;cases ry;obtain⟨its,r1,p1,_⟩:=I.list ha;obtain⟨its2,r2,p2,_⟩:=I.list hb;have l1:=r1.length;have l2:=r2.length;refine SeqAt.eq_listAt (e:=es) p1.isList p2.isList (by simp;omega) (by omega) (λj h1 h2=>?_) (fin_bl I q (by rw[IM,l1]));obtain⟨x,hx,rx⟩:=dD r1 h1;obtain⟨y,hy,ry⟩:=dD r2 h2;exact lv I (he j x y hx hy) X.A.in1 (by show X.A.units+1+n<GD;omega) rx ry
 | @tup n a b xs ys es ha hb he=>
   cases rx;cases ry;obtain⟨its,r1,p1,_⟩:=I.tuple ha;obtain⟨its2,r2,p2,_⟩:=I.tuple hb;have l1:=r1.length;have l2:=r2.length;refine SeqAt.eq_tupleAt (e:=es) (show s.heap.IsTuple a its.toArray from p1) (show s.heap.IsTuple b its2.toArray from p2) (by omega) (λj h1 h2=>?_) (fin_bl I q (by rw[IM,IM,l1,l2]));obtain⟨x,hx,rx⟩:=dD r1 h1;obtain⟨y,hy,ry⟩:=dD r2 h2;exact lv I (he j x y hx hy) X.A.in1 (by show X.A.units+1+n<GD;omega) rx ry
theorem Ay{n:Nat}(hu:X.A.units+n<GD):gH X (FN .NotEq) (λx y H Q=>∃k,pQ X.K H n x y k/\Q (.bl (!k)) H):=by
 intro gV s σ H x y v u Q I rx ry h;obtain⟨k,h,q⟩:=h;cases h with
 | @len n a b xs ys ha hb hl=>
   cases rx;cases ry;obtain⟨its,r1,p1,_⟩:=I.list ha;obtain⟨its2,r2,p2,_⟩:=I.list hb;have l1:=r1.length;have l2:=r2.length;exact Ho (SeqAt.RcNeAt.lists_lengths p1.isList p2.isList (by simp;omega) (by omega)) (fin_bl I q rfl)
 | @lst n a b xs ys es ha hb hl he=>
   cases rx;cases ry;obtain⟨its,r1,p1,_⟩:=I.list ha;obtain⟨its2,r2,p2,_⟩:=I.list hb;have l1:=r1.length;have l2:=r2.length;refine Ho (SeqAt.RcNeAt.lists (e:=es) p1.isList p2.isList (by simp;omega) (by omega) (λj h1 h2=>?_)) (fin_bl I q (by rw[IM,l1]));obtain⟨x,hx,rx⟩:=dD r1 h1;obtain⟨y,hy,ry⟩:=dD r2 h2;exact lv I (he j x y hx hy) X.A.in1 (by show X.A.units+1+n<GD;omega) rx ry
 | @tup n a b xs ys es ha hb he=>
   cases rx;cases ry;obtain⟨its,r1,p1,_⟩:=I.tuple ha;obtain⟨its2,r2,p2,_⟩:=I.tuple hb;have l1:=r1.length;have l2:=r2.length;refine Ho (SeqAt.RcNeAt.tuples (e:=es) (show s.heap.IsTuple a its.toArray from p1) (show s.heap.IsTuple b its2.toArray from p2) (by omega) (λj h1 h2=>?_)) (fin_bl I q (by rw[IM,IM,l1,l2]));obtain⟨x,hx,rx⟩:=dD r1 h1;obtain⟨y,hy,ry⟩:=dD r2 h2;exact lv I (he j x y hx hy) X.A.in1 (by show X.A.units+1+n<GD;omega) rx ry
end
def qZ(op:Iv)(x y:V)(H:Hp)(Q:VK):Prop:=match op,x,y with
 | .Add,.int i,.int j=>Q (.int (i+j)) H
 | .Add,.str i,.str j=>i.length+j.length<=sizeLine/\Q (.str (i++j)) H
 | .Add,.ref a,.ref b=>Ap (.ref a) (.ref b) H Q
 | .Sub,.int i,.int j=>Q (.int (i - j)) H
 | .Mult,.int i,.int j=>uS i j/\Q (.int (i*j)) H
 | .FloorDiv,.int i,.int j=>By i j/\Q (.int (i / j)) H
 | .Mod,.int i,.int j=>0<j/\Q (.int (i % j)) H
 | .Pow,.int i,.int j=>Ea i j/\Q (.int (i ^ j.toNat)) H
 |_,_,_=>False
section
variable{X:Cx}{a b c:FA}{ta tb tc:TE}{pos:GO}
theorem AE(op:Iv):gH X (GI op) (qZ op):=by
 intro gV s σ H x y v u Q I rx ry h;unfold qZ at h;split at h
 .exact AF gV s σ H _ _ v u Q I rx ry ⟨_,_,rfl,rfl,h⟩
 .exact nH gV s σ H _ _ v u Q I rx ry ⟨_,_,rfl,rfl,h.1,h.2⟩
 .exact AD gV s σ H _ _ v u Q I rx ry h
 .exact Aw gV s σ H _ _ v u Q I rx ry ⟨_,_,rfl,rfl,h⟩
 .exact Az gV s σ H _ _ v u Q I rx ry ⟨_,_,rfl,rfl,h.1,h.2⟩
 .exact vz gV s σ H _ _ v u Q I rx ry ⟨_,_,rfl,rfl,h.1,h.2⟩
 .exact AA gV s σ H _ _ v u Q I rx ry ⟨_,_,rfl,rfl,h.1,h.2⟩
 .exact Ax gV s σ H _ _ v u Q I rx ry ⟨_,_,rfl,rfl,h.1,h.2⟩
 .exact h.elim
def eqB:V->V->Option Bool
 | .non,.non=>some true
 | .int i,.int j=>some (decide (i=j))
 | .bl i,.bl j=>some (decide (i=j))
 | .str i,.str j=>some (decide (i=j))
 | .non,.int _=>some false| .int _,.non=>some false| .non,.bl _=>some false| .bl _,.non=>some false| .non,.str _=>some false| .str _,.non=>some false
 | .int _,.str _=>some false| .str _,.int _=>some false| .bl _,.str _=>some false| .str _,.bl _=>some false
 |_,_=>none
theorem mJ{x y:V}{k:Bool}(h:eqB x y=some k):scal x y=true/\decide (x=y)=k:=by
 cases x<;>cases y<;>simp[eqB,scal]at h ⊢ <;>first|exact h|(subst h;rfl)
def gC(K:Frag)(op:Hg)(x y:V)(H:Hp)(Q:VK):Prop:=match op,x,y with
 | .Eq,.ref a,.ref b=>∃k,pQ K H 20 (.ref a) (.ref b) k/\Q (.bl k) H
 | .NotEq,.ref a,.ref b=>∃k,pQ K H 20 (.ref a) (.ref b) k/\Q (.bl (!k)) H
 | .Eq,x,y=>match eqB x y with|some k=>Q (.bl k) H|none=>False
 | .NotEq,x,y=>match eqB x y with|some k=>Q (.bl (!k)) H|none=>False
 | .Lt,.int i,.int j=>Q (.bl (decide (i<j))) H
 | .LtE,.int i,.int j=>Q (.bl (decide (i<=j))) H
 | .Gt,.int i,.int j=>Q (.bl (decide (j<i))) H
 | .GtE,.int i,.int j=>Q (.bl (decide (j<=i))) H
 | .Lt,.str i,.str j=>Q (.bl (decide (i.cps.toList<j.cps.toList))) H
 | .LtE,.str i,.str j=>Q (.bl (!decide (j.cps.toList<i.cps.toList))) H
 | .In,.str i,.str j=>Q (.bl (!(Ga j i 0 j.length 1).isEmpty)) H
 | .NotIn,.str i,.str j=>Q (.bl (!(!(Ga j i 0 j.length 1).isEmpty))) H
 | .In,x,.ref p=>yZ K false x (.ref p) H Q
 | .NotIn,x,.ref p=>yZ K true x (.ref p) H Q
 | .Is,x,.non=>Q (.bl (decide (x=.non))) H
 | .IsNot,x,.non=>Q (.bl (!decide (x=.non))) H
 |_,_,_=>False
theorem kR(op:Hg)(hu:X.A.units+20<GD):gH X (FN op) (gC X.K op):=by
 intro gV s σ H x y v u Q I rx ry h;unfold gC at h;split at h
 .exact AC hu gV s σ H _ _ v u Q I rx ry h
 .exact Ay hu gV s σ H _ _ v u Q I rx ry h
 .split at h
  .rename_i k e;obtain⟨h1,h2⟩:=mJ e;exact Dp gV s σ H _ _ v u Q I rx ry ⟨h1,by rw[h2];exact h⟩
  .exact h.elim
 .split at h
  .rename_i k e;obtain⟨h1,h2⟩:=mJ e;exact Dk gV s σ H _ _ v u Q I rx ry ⟨h1,by rw[h2];exact h⟩
  .exact h.elim
 .exact Dl gV s σ H _ _ v u Q I rx ry ⟨_,_,rfl,rfl,h⟩
 .exact Dm gV s σ H _ _ v u Q I rx ry ⟨_,_,rfl,rfl,h⟩
 .exact Dn gV s σ H _ _ v u Q I rx ry ⟨_,_,rfl,rfl,h⟩
 .exact Do gV s σ H _ _ v u Q I rx ry ⟨_,_,rfl,rfl,h⟩
 .exact qm gV s σ H _ _ v u Q I rx ry ⟨_,_,rfl,rfl,h⟩
 .exact qo gV s σ H _ _ v u Q I rx ry ⟨_,_,rfl,rfl,h⟩
 .exact qr gV s σ H _ _ v u Q I rx ry ⟨_,_,rfl,rfl,h⟩
 .exact kO gV s σ H _ _ v u Q I rx ry ⟨_,_,rfl,rfl,h⟩
 .exact qs gV s σ H _ _ v u Q I rx ry h
 .exact kP gV s σ H _ _ v u Q I rx ry h
 .exact AB gV s σ H _ _ v u Q I rx ry ⟨rfl,h⟩
 .exact vy gV s σ H _ _ v u Q I rx ry ⟨rfl,h⟩
 .exact h.elim
def bu(i:Nat):TE:=λσ H Q=>match σ[i]? with|some (some v)=>Q v H|_=>False
theorem cv(i:Nat){x:Str}{pos:GO}(hN:X.N[i]? =some x:=by rfl)(hv:Eh X.env.scope x:=by first|exact Or.inl rfl|exact Or.inr (Or.inl rfl)|exact Or.inr (Or.inr rfl))(hd:(x == ("__debug__":Str))=false:=by decide)
  (hcd:(x == ("__classdict__":Str))=false:=by decide):PE X (.Name x pos) (bu i):=(At hN hv hd hcd).imp λσ H Q h=>by
 unfold bu at h;split at h
 .rename_i v e;exact⟨v,e,h⟩
 .exact h.elim
def iR(op:Iv)(ta tb:TE):TE:=λσ H Q=>ta σ H λx H1=>tb σ H1 λy H2=>qZ op x y H2 Q
theorem ah{op:Iv}(ha:PE X a ta)(hb:PE X b tb):PE X (.BinOp a op b pos) (iR op ta tb):=Dg (AE op) ha hb
def e7(K:Frag)(op:Hg)(ta tb:TE):TE:=λσ H Q=>ta σ H λx H1=>tb σ H1 λy H2=>gC K op x y H2 Q
def di(Q:Bool->Hp->Prop):VK:=λx H=>match x with| .bl k=>Q k H|_=>False
theorem fI{Q:Bool->Hp->Prop}{x:V}{H:Hp}(h:di Q x H):∃k,x=.bl k/\Q k H:=by
 unfold di at h;split at h
 .exact⟨_,rfl,h⟩
 .exact h.elim
theorem Bb{op:Hg}(hu:X.A.units+20<GD)(ha:PE X a ta)(hb:PE X b tb)(hm:behindInMarks op b=false:=by first|exact lh _|with_unfolding_all rfl):PE X (.Compare a [op] [b] pos) (e7 X.K op ta tb):=vw (kR op hu) ha hb hm
def gn(t:TE):TT:=λσ H Q=>t σ H (di Q)
theorem A8{op:Hg}(hu:X.A.units+20<GD)(ha:PE X a ta)(hb:PE X b tb)(hm:behindInMarks op b=false:=by first|exact lh _|with_unfolding_all rfl):PT X (.Compare a [op] [b] pos) (gn (e7 X.K op ta tb)):=by
 intro gV s σ H Q I h;refine wpAny_isTrue_Compare1 (bJ (ha gV s σ H _ I h) λv s1 ⟨x,H1,I1,r1,q1⟩=>bJ (hb gV s1 σ H1 _ I1 q1) λu s2 ⟨y,H2,I2,r2,q2⟩=>
  bJ (kR op hu gV s2 σ H2 x y v u _ I2 r1 r2 q2) λc s3 ⟨z,H3,I3,r3,q3⟩=>?_) hm
 obtain⟨k,e,q3⟩:=fI q3;subst e;cases r3;exact FQ ⟨H3,I3,q3⟩
def lC(K:Frag)(op op':Hg)(ta tb tc:TE):TE:=λσ H Q=>ta σ H λx H1=>tb σ H1 λy H2=>gC K op x y H2 (di λk H3=>if k=true then tc σ H3 λw' H4=>gC K op' y w' H4 Q else Q (.bl false) H3)
theorem uE{op op':Hg}(hu:X.A.units+20<GD)(ha:PE X a ta)(hb:PE X b tb)(hc:PE X c tc)(hm:lastMarks [op,op'] [b,c]=false:=by with_unfolding_all rfl):PE X (.Compare a [op,op'] [b,c] pos) (lC X.K op op' ta tb tc):=by
 intro gV s σ H Q I h;refine Compare_chain (bJ (ha gV s σ H _ I h) λv s1 ⟨x,H1,I1,r1,q1⟩=>chain_link (bJ (hb gV s1 σ H1 _ I1 q1) λu s2 ⟨y,H2,I2,r2,q2⟩=>
  bJ (kR op hu gV s2 σ H2 x y v u _ I2 r1 r2 q2) λd s3 ⟨z,H3,I3,r3,q3⟩=>?_)) hm
 obtain⟨k,e,q3⟩:=fI q3;subst e;cases r3;refine FQ ?_;cases k with
 |false=>exact ite_ff ⟨.bl false,H3,I3,rfl,q3⟩
 |true=>exact ite_tt (chain_last (bJ (hc gV s3 σ H3 _ I3 q3) λw' s4 ⟨z',H4,I4,r4,q4⟩=>kR op' hu gV s4 σ H4 y z' u w' Q I4 r2 r4 q4))
theorem aZ{e:FA}{t:TE}(h:PE X e t)(he:∀whole,Iz e X.env whole=(do let v<-whole;IE e.pos;Hm [v] (truthy v)):=by intro _;rfl):PT X e (gn t):=by intro gV s σ H Q I hw;refine isTrue_plain (bJ (h gV s σ H _ I hw) λv s1 ⟨x,H1,I1,r1,q1⟩=>?_) (he _);obtain⟨d,rfl,q⟩:=fI q1;cases r1;exact FQ ⟨H1,I1,q⟩
variable{rest:List FA}
def uI(ta tb:TE):TE:=λσ H Q=>ta σ H (di λc H1=>if c=true then tb σ H1 Q else Q (.bl false) H1)
def DW(ta tb:TE):TE:=λσ H Q=>ta σ H (di λc H1=>if c=true then Q (.bl true) H1 else tb σ H1 Q)
def zo(ta:TE):TE:=λσ H Q=>ta σ H (di λc H1=>Q (.bl (!c)) H1)
theorem cy(ha:PE X a ta)(hb:PE X (.BoolOp .And (b::rest) pos) tb):PE X (.BoolOp .And (a::b::rest) pos) (uI ta tb):=by
 intro gV s σ H Q I h;refine BoolOp_and (bJ (ha gV s σ H _ I h) λv s1 ⟨x,H1,I1,r1,q1⟩=>?_);obtain⟨c,rfl,q1⟩:=fI q1;cases r1;refine FQ ?_;cases c with
 |true=>exact hb gV s1 σ H1 Q I1 q1
 |false=>exact⟨.bl false,H1,I1,rfl,q1⟩
theorem DQ(ha:PE X a ta)(hb:PE X (.BoolOp .Or (b::rest) pos) tb):PE X (.BoolOp .Or (a::b::rest) pos) (DW ta tb):=by
 intro gV s σ H Q I h;refine BoolOp_or (bJ (ha gV s σ H _ I h) λv s1 ⟨x,H1,I1,r1,q1⟩=>?_);obtain⟨c,rfl,q1⟩:=fI q1;cases r1;refine FQ ?_;cases c with
 |false=>exact hb gV s1 σ H1 Q I1 q1
 |true=>exact⟨.bl true,H1,I1,rfl,q1⟩
theorem uC(ha:PE X a ta):PE X (.UnaryOp .Not a pos) (zo ta):=by intro gV s σ H Q I h;refine UnaryOp_ (bJ (ha gV s σ H _ I h) λv s1 ⟨x,H1,I1,r1,q1⟩=>?_);obtain⟨c,rfl,q1⟩:=fI q1;cases r1;exact not_of (FQ ⟨.bl (!c),H1,I1,rfl,q1⟩)
def v3(ta:TE):TE:=λσ H Q=>ta σ H λx H1=>match x with| .int i=>Q (.int (-i)) H1|_=>False
theorem eI(ha:PE X a ta):PE X (.UnaryOp .USub a pos) (v3 ta):=by
 intro gV s σ H Q I h;refine UnaryOp_ (bJ (ha gV s σ H _ I h) λv s1 ⟨x,H1,I1,r1,q1⟩=>?_);cases x with
 |int i=>exact Aa gV s1 σ H1 _ v Q I1 r1 ⟨i,rfl,q1⟩
 |_=>exact q1.elim
end
theorem bq:Fv "len"=some (.builtin "len"):=by decide+kernel
theorem jC:Fv "all"=some (.builtin "all"):=by decide+kernel
theorem Bj:Fv "any"=some (.builtin "any"):=by decide+kernel
theorem aU:Fv "isinstance"=some (.builtin "isinstance"):=by decide+kernel
theorem qY:Fv "sorted"=some (.builtin "sorted"):=by decide+kernel
theorem lE:Fv "int"=some (.type "int"):=by decide+kernel
theorem pO:Fv "bool"=some (.type "bool"):=by decide+kernel
theorem lD:Fv "str"=some (.type "str"):=by decide+kernel
theorem cF:Fv "list"=some (.type "list"):=by decide+kernel
theorem mR:Fv "tuple"=some (.type "tuple"):=by decide+kernel
theorem oy:Fv "set"=some (.type "set"):=by decide+kernel
theorem iJ:Fv "reversed"=some (.type "reversed"):=by decide+kernel
theorem lF:Fv "enumerate"=some (.type "enumerate"):=by decide+kernel
theorem Bi:Fv "zip"=some (.type "zip"):=by decide+kernel
inductive BT|int|bool|str|list|tuple|dict
 deriving DecidableEq
def BT.s:BT->String
 | .int=>"int" | .bool=>"bool" | .str=>"str" | .list=>"list" | .tuple=>"tuple" | .dict=>"dict"
def cT:BT->BT->Bool
 | .bool,.int=>true
 | .int,.int=>true| .bool,.bool=>true| .str,.str=>true| .list,.list=>true| .tuple,.tuple=>true| .dict,.dict=>true
 |_,_=>false
theorem kit_bt(K:Frag)(a T:BT):K4 K (.type a.s) (.type T.s)=some (cT a T):=by cases a<;>cases T<;>kernel_rfl
theorem vK(K:Frag)(T:BT):K4 K (.type "NoneType") (.type T.s)=some false:=by cases T<;>kernel_rfl
def t3(T:BT)(x:V)(H:Hp)(Q:VK):Prop:=match x with
 | .non=>Q (.bl false) H
 | .bl _=>Q (.bl (cT .bool T)) H
 | .int _=>Q (.bl (cT .int T)) H
 | .str _=>Q (.bl (cT .str T)) H
 | .ref a=>match H a with
   |some (.lst _)=>Q (.bl (cT .list T)) H
   |some (.frz _ (.lst _))=>Q (.bl (cT .list T)) H
   |some (.tup _)=>Q (.bl (cT .tuple T)) H
   |some (.dK _)=>Q (.bl (cT .dict T)) H
   |_=>False
 |_=>False
section
variable{X:Cx}{a b c e o:FA}{ta tb tc te to:TE}{p p2 pos:GO}{es:List FA}{t:TA}
theorem Dw(T:BT){gV:Fe}{s:Fi}{σ:St}{H:Hp}{x:V}{u:Value}{Q:VK}(I:aC X gV σ H s)(rx:RelV x u)(h:t3 T x H Q):Fs (Fu X.prog X.w) X.A (call (.builtin "isinstance") [u,.type T.s]) (EP X gV σ Q) X.xe s:=by
 have fin:∀{k:Bool}{tv:Value},iy X.K H x tv->K4 X.K tv (.type T.s)=some k->Q (.bl k) H->Fs (Fu X.prog X.w) X.A (call (.builtin "isinstance") [u,.type T.s]) (EP X gV σ Q) X.xe s:=λty e q=>
  qE I rx ty e λtk=>⟨.bl _,H,I.tok tk,rfl,q⟩
 unfold t3 at h;cases x with
 |non=>exact fin .non (vK _ T) h
 |bl y=>exact fin (.bl y) (kit_bt _ .bool T) h
 |int y=>exact fin (.int y) (kit_bt _ .int T) h
 |str y=>exact fin (.str y) (kit_bt _ .str T) h
 |ref d=>
  dsimp only at h;split at h
  .rename_i e;exact fin (.lst e) (kit_bt _ .list T) h
  .rename_i e;exact fin (.frz e) (kit_bt _ .list T) h
  .rename_i e;exact fin (.tup e) (kit_bt _ .tuple T) h
  .rename_i e;exact fin (.dK e) (kit_bt _ .dict T) h
  .exact h.elim
 |_=>exact h.elim
def Bf(T:BT)(ta:TE):TE:=λσ H Q=>ta σ H λx H1=>t3 T x H1 Q
theorem DS(T:BT){n:Str}(ha:PE X a ta)(hg:Gl X "isinstance")(hm:X.mg "isinstance"=none)(hgT:Gl X n)(hmT:X.mg n=none)(hv:Fv n=some (.type T.s))(hn:n≠"__name__":=by decide)(hdb:(n == ("__debug__":Str))=false:=by decide)
  (he:Fj [a,.Name n p2] X.env=(false,FF a X.env)::Fj [.Name n p2] X.env:=by rfl) (he2:Fj [.Name n p2] X.env=(false,FF (.Name n p2) X.env)::Fj [] X.env:=by rfl) (hpl:(FC pos (Fj [.Name n p2] X.env)).any (·.1)=false:=by rfl):
  PE X (.Call (.Name "isinstance" p) [a,.Name n p2] [] pos) (Bf T ta):=by
 intro gV s σ H Q I h;refine FE (eE I hg hm aU ?_ (by decide) (by decide));have hA:PA X [a,.Name n p2] (aV ta (aV (tC (.ty T.s)) ce)):=pa_cons ha (pa_cons (pw hgT hmT hv rfl hn hdb) pa_nil he2) he;refine PyProof.Rows.callWith_builtin1 (bJ (hA pos gV s σ H (λvs H1=>∃x,vs=[x,.ty T.s]/\t3 T x H1 Q) I ?_) λus s1 ⟨vs,H1,I1,r1,x,e,q1⟩=>?_) he hpl
 .have mono:(λ(x:V) H1=>t3 T x H1 Q)=λx H1=>(aV (tC (.ty T.s)) ce) σ H1 λxs H2=>∃y,x::xs=[y,.ty T.s]/\t3 T y H2 Q:=by
   funext x H1;apply propext
   constructor
   .intro q;exact⟨x,rfl,q⟩
   .rintro⟨y,e,q⟩;have:x=y:=by injection e
    subst this;exact q
  show ta σ H _;rw[<-mono];exact h
 .subst e;obtain⟨u,w',rfl,ru,rt⟩:=yN r1;cases rt;exact Dw T I1 ru q1
theorem pP.imp{r r':R2}(h:pP X r)(i:∀x y H Q,r' x y H Q->r x y H Q):pP X r':=λva sl gV s σ H x y v u Q I rx ry q hs=>h va sl gV s σ H x y v u Q I rx ry (i x y H Q q) hs
def EG(K:Frag)(x y:V)(H:Hp)(Q:VK):Prop:=match x,y with
 | .str z,.int i=>z.length<=sizeLine/\∃c,iK z.cps.toList i=some c/\Q (.str ⟨#[c]⟩) H
 | .ref q,.int i=>∃xs v,(aM K H q xs\/dC K H q xs)/\iK xs i=some v/\Q v H
 |_,_=>False
theorem EF:pP X (EG X.K):=(AV (X:=X)).imp λx y H Q h=>by
 unfold EG at h;split at h
 .obtain⟨h1,c,h2,q⟩:=h;exact .inr (.inr ⟨_,_,c,rfl,rfl,h1,h2,q⟩)
 .obtain⟨xs,v,h1,h2,q⟩:=h
  rcases h1 with h1|h1
  .exact .inl ⟨_,xs,_,v,rfl,rfl,h1,h2,q⟩
  .exact .inr (.inl ⟨_,xs,_,v,rfl,rfl,h1,h2,q⟩)
 .exact h.elim
def pN(K:Frag)(ta tb:TE):TE:=λσ H Q=>ta σ H λx H1=>tb σ H1 λy H2=>EG K x y H2 Q
theorem DR(ha:PE X a ta)(hb:PE X b tb)(hs:lH b:=by exact λ_ _=>rfl):PE X (.Subscript a b pos) (pN X.K ta tb):=Dh EF ha hb hs
def jB(t:TE):TO:=λσ H Q=>t σ H λx H1=>match x with| .int i=>Q (some i) H1|_=>False
theorem aP(h:PE X e te):PO X (some e) (jB te):=by
 intro gV s σ H Q I hw;rw[evalPart_some];refine bJ (h gV s σ H _ I hw) λu s1 ⟨x,H1,I1,r1,q1⟩=>?_;cases x with
 |int i=>
  obtain⟨t,rfl⟩:=r1;exact⟨some i,H1,I1,.int i t,q1⟩
 |_=>exact q1.elim
theorem q9.imp{r r':V->Option Int->Option Int->Hp->VK->Prop}(h:q9 X r)(i:∀x lo hi H Q,r' x lo hi H Q->r x lo hi H Q):q9 X r':=λgV s σ H x v vl vu lo hi sl Q I rx hs pl pu q=>h gV s σ H x v vl vu lo hi sl Q I rx hs pl pu (i x lo hi H Q q)
def Ep(K:Frag)(x:V)(lo hi:Option Int)(H:Hp)(Q:VK):Prop:=match x with
 | .str z=>z.length<=sizeLine/\Q (.str (gQ z lo hi)) H
 | .ref d=>∃xs,aM K H d xs/\∀q,H q=none->Q (.ref q) (upd H q (.lst (dh xs lo hi)))
 |_=>False
theorem Eo:q9 X (Ep X.K):=((Aj (X:=X)).or vd).imp λx lo hi H Q h=>by
 unfold Ep at h;split at h
 .exact .inl ⟨_,rfl,h.1,h.2⟩
 .obtain⟨xs,h1,h2⟩:=h;exact .inr ⟨_,xs,rfl,h1,h2⟩
 .exact h.elim
def uG(K:Frag)(te:TE)(tl th:TO):TE:=λσ H Q=>te σ H λx H1=>tl σ H1 λl H2=>th σ H2 λu H3=>Ep K x l u H3 Q
theorem DP{lo hi:Option FA}{tl th:TO}(he:PE X e te)(hl:PO X lo tl)(hu:PO X hi th):PE X (.Subscript e (.Slice lo hi none p2) pos) (uG X.K te tl th):=tI Eo he hl hu
def cB(r:List V->Hp->VK->Prop)(t:TA):TE:=λσ H Q=>t σ H λvs H1=>r vs H1 Q
def tX(K:Frag)(xs:List V)(H:Hp)(Q:VK):Prop:=match xs with
 | [.str z]=>z.length<=sizeLine/\Q (.int z.length) H
 | [.ref d]=>∃ys,(aM K H d ys\/dC K H d ys)/\Q (.int ys.length) H
 |_=>False
theorem qU:bj X (.builtin "len") (tX X.K):=((lB (X:=X)).or lA).imp λxs H Q h=>by
 unfold tX at h;split at h
 .exact .inr ⟨_,rfl,h.1,h.2⟩
 .obtain⟨ys,h1,h2⟩:=h;exact .inl ⟨_,ys,rfl,h1,h2⟩
 .exact h.elim
def AW(xs:List V)(H:Hp)(Q:VK):Prop:=match xs with
 | [.str x]=>∃n,PySem.intText? x=some n/\x.length<=640/\Q (.int n) H
 | [.bl k]=>Q (.int (if k then 1 else 0)) H
 |_=>False
theorem ki:bj X (.type "int") AW:=((jW (X:=X)).or qV).imp λxs H Q h=>by
 unfold AW at h;split at h
 .obtain⟨n,h1,h2,q⟩:=h;exact .inl ⟨_,n,rfl,h1,h2,q⟩
 .exact .inr (.inr ⟨_,rfl,h⟩)
 .exact h.elim
def Bp(K:Frag)(xs:List V)(H:Hp)(Q:VK):Prop:=match xs with
 | [.ref d]=>∃ks:List Bool,aM K H d (ks.map V.bl)/\Q (.bl (ks.all id)) H
 |_=>False
theorem qX(hc:X.calm=true):bj X (.builtin "all") (Bp X.K):=(uF hc).imp λxs H Q h=>by
 unfold Bp at h;split at h
 .obtain⟨ks,h1,q⟩:=h;exact⟨_,ks,rfl,h1,q⟩
 .exact h.elim
theorem EO{id:String}{x:Str}{r:List V->Hp->VK->Prop}(hc:bj X (.builtin id) r)(hv:Fv x=some (.builtin id))(hm:X.mg x=none)(ha:PA X (e::es) t)(hg:Gl X x:=by rfl)(hn:x≠"__name__":=by decide)(hdb:(x == ("__debug__":Str))=false:=by decide)
  (he:Fj (e::es) X.env=(false,FF e X.env)::Fj es X.env:=by rfl) (hpl:(FC pos (Fj es X.env)).any (·.1)=false:=by rfl):PE X (.Call (.Name x p) (e::es) [] pos) (cB r t):=tK hc hg hm hv ha hn hdb he hpl
theorem DT{T:String}{x:Str}{r:List V->Hp->VK->Prop}(hc:bj X (.type T) r)(hv:Fv x=some (.type T))(hm:X.mg x=none)(ha:PA X (e::es) t)(hg:Gl X x:=by rfl)(hn:x≠"__name__":=by decide)(hdb:(x == ("__debug__":Str))=false:=by decide)
  (he:Fj (e::es) X.env=(false,FF e X.env)::Fj es X.env:=by rfl) (hpl:(FC pos (Fj es X.env)).any (·.1)=false:=by rfl):PE X (.Call (.Name x p) (e::es) [] pos) (cB r t):=qk hc hg hm hv ha hn hdb he hpl
def Eg(r:V->List V->Hp->VK->Prop)(to:TE)(t:TA):TE:=λσ H Q=>to σ H λx H1=>match x with| .str z=>t σ H1 λxs H2=>r (.str z) xs H2 Q|_=>False
theorem DO{name:Str}{apos cpos:GO}{id:String}{r:V->List V->Hp->VK->Prop}(slot:Slot "str" name id)(hty:IG (.builtin id)=pure (.type "method_descriptor"))(hm:rc X id r)(ho:PE X o to)(ha:PA X (e::es) t)
  (hbase:FP o name X.env (FF o X.env)=FF o X.env:=by rfl)
  (hfew:((FC cpos (Fj (e::es) X.env)).all (λx=> !x.1)&&(Hz cpos (GB [] X.env)).all (λx=>x.1.isSome)
   &&decide ((e::es).length+([]:List GK).length+(if([]:List GK).isEmpty then 0 else 1)<30))=true:=by rfl)
  (hline:(apos.endLine == cpos.line)=true:=by rfl) (hs:Fj (e::es) X.env=(false,FF e X.env)::Fj es X.env:=by rfl) (hplain:(FC cpos (Fj es X.env)).any (·.1)=false:=by rfl):
  PE X (.Call (.Attribute o name apos) (e::es) [] cpos) (Eg r to t):=by
 intro gV s σ H Q I h;refine FV hbase hfew hline rfl (bJ (ho gV s σ H _ I h) λv s1 ⟨x,H1,I1,r1,q1⟩=>?_);cases x with
 |str z=>
  have ty:yO X.K "str" (.str z) H1:=rfl;obtain⟨h1,h2⟩:=gJ I1 r1 ty;refine⟨"str",id,PySem.F.plainAttrs_str,slot,hty,h1,h2,?_⟩;have hA:=ha cpos gV s1 σ H1 _ I1 q1;rw[hs]at hA ⊢;refine FJ (by show(false||(FC cpos (Fj es X.env)).any (·.1))=false;rw[hplain]<;>rfl) (FT ?_)
  exact bJ hA λus s2 ⟨vs,H2,I2,r2,q2⟩=>hm gV s2 σ H2 _ vs v us Q I2 r1 r2 q2
 |_=>exact q1.elim
def Be(r:V->List V->Hp->VK->Prop)(to:TE):TE:=λσ H Q=>to σ H λx H1=>match x with| .str z=>r (.str z) [] H1 Q|_=>False
theorem lx{name:Str}{apos cpos:GO}{id:String}{r:V->List V->Hp->VK->Prop}(slot:Slot "str" name id)(hty:IG (.builtin id)=pure (.type "method_descriptor"))(hm:rc X id r)(ho:PE X o to)
  (hbase:FP o name X.env (FF o X.env)=FF o X.env:=by rfl) (hline:(apos.endLine == cpos.line)=true:=by rfl):PE X (.Call (.Attribute o name apos) [] [] cpos) (Be r to):=by
 intro gV s σ H Q I h;refine Hx hbase hline (bJ (ho gV s σ H _ I h) λv s1 ⟨x,H1,I1,r1,q1⟩=>?_);cases x with
 |str z=>
  have ty:yO X.K "str" (.str z) H1:=rfl;obtain⟨h1,h2⟩:=gJ I1 r1 ty;exact⟨"str",id,PySem.F.plainAttrs_str,slot,hty,h1,h2,FJ rfl (PySem.evalArgs_none (hm gV s1 σ H1 _ [] v [] Q I1 r1 .nil q1))⟩
 |_=>exact q1.elim
def iG(K:Frag)(x:V)(vs:List V)(H:Hp)(Q:VK):Prop:=match x,vs with
 | .str sep,[.ref d]=>∃ys:List Str,aM K H d (ys.map V.str)/\(ys.map (·.length)).sum+ys.length*sep.length<=16777216/\Q (.str (Fx sep ys)) H
 |_,_=>False
theorem tP:rc X "str.join" (iG X.K):=(vC (X:=X)).imp λx vs H Q h=>by
 unfold iG at h;split at h
 .obtain⟨ys,h1,h2,q⟩:=h;exact⟨_,_,ys,rfl,rfl,h1,h2,q⟩
 .exact h.elim
def zZ(x:V)(vs:List V)(H:Hp)(Q:VK):Prop:=match x,vs with
 | .str a,[]=>a.length<=sizeLine/\(∀c∈a.cps.toList,c<128)/\Q (.str ⟨a.cps.map up1⟩) H
 |_,_=>False
theorem li:rc X "str.upper" zZ:=(tO (X:=X)).imp λx vs H Q h=>by
 unfold zZ at h;split at h
 .exact⟨_,rfl,rfl,h.1,h.2.1,h.2.2⟩
 .exact h.elim
def Bh(to te:TE):TE:=λσ H Q=>to σ H λx H1=>match x with
 | .ref l=>(∃xs,H1 l=some (.lst xs))/\te σ H1 λy H2=>∃xs,H2 l=some (.lst xs)/\xs.length<sizeLine/\Q .non (upd H2 l (.lst (xs++[y])))
 |_=>False
theorem on{apos cpos:GO}(ho:PE X o to)(he:PE X e te)(hbase:FP o "append" X.env (FF o X.env)=FF o X.env:=by rfl)
  (hfew:((FC cpos (Fj [e] X.env)).all (λx=> !x.1)&&(Hz cpos (GB [] X.env)).all (λx=>x.1.isSome)
   &&decide ([e].length+([]:List GK).length+(if([]:List GK).isEmpty then 0 else 1)<30))=true:=by rfl)
  (hline:(apos.endLine == cpos.line)=true:=by rfl) (hs:Fj [e] X.env=(false,FF e X.env)::Fj [] X.env:=by rfl) (hplain:(FC cpos (Fj [] X.env)).any (·.1)=false:=by rfl):
  PE X (.Call (.Attribute o "append" apos) [e] [] cpos) (Bh to te):=by
 intro gV s σ H Q I h;refine FV hbase hfew hline rfl (bJ (ho gV s σ H _ I h) λv s1 ⟨x,H1,I1,r1,q1⟩=>?_);cases x with
 |ref l=>
  obtain⟨⟨xs0,e0⟩,q1⟩:=q1;have ty:yO X.K "list" (.ref l) H1:=.inl ⟨rfl,xs0,aM.of e0⟩;obtain⟨h1,h2⟩:=gJ I1 r1 ty;refine⟨"list","list.append",PySem.F.plainAttrs_list,PySem.F.slot_list_append,PySem.F.type_list_append,h1,h2,?_⟩;have hA:=(pa_cons he pa_nil hs:PA X [e] (aV te ce)) cpos gV s1 σ H1 (λvs H2=>∃y,vs=[y]/\∃xs,H2 l=some (.lst xs)/\xs.length<sizeLine/\Q .non (upd H2 l (.lst (xs++[y])))) I1 (by
   show te σ H1 λy H2=>∃y',[y]=[y']/\_;have:(λ(y:V)(H2:Hp)=>∃xs,H2 l=some (.lst xs)/\xs.length<sizeLine/\Q .non (upd H2 l (.lst (xs++[y]))))=λy H2=>∃y',[y]=[y']/\∃xs,H2 l=some (.lst xs)/\xs.length<sizeLine/\Q .non (upd H2 l (.lst (xs++[y']))):=by
    funext y H2;apply propext
    constructor
    .intro z;exact⟨y,rfl,z⟩
    .rintro⟨y',e,z⟩;have:y=y':=by injection e
     subst this;exact z
   rw[<-this];exact q1)
  rw[hs]at hA ⊢;refine FJ (by show(false||(FC cpos (Fj [] X.env)).any (·.1))=false;rw[hplain]<;>rfl) (FT ?_)
  exact bJ hA λus s2 ⟨vs,H2,I2,r2,y,e,xs,q3,q4,q5⟩=>qu gV s2 σ H2 _ vs v us Q I2 r1 r2 ⟨l,xs,y,rfl,e,q3,q4,q5⟩
 |_=>exact q1.elim
structure eK(P:Fn)(w:Fp)(K:Frag)(mg:Fc)(E3:Fw)(name:Str)(ps:List Str)(k:Nat)(sp:Sp):Prop where
 ex:∃f fd,bo P w K mg E3 dO k f fd ps sp/\mg name=some (.ref f)/\K9 K (.ref f)=true/\eW K fd ps []
def fH(sp:Sp)(t:TA):TE:=λσ H Q=>t σ H λvs H1=>sp vs H1 Q E0
theorem vZ{name:Str}{ps:List Str}{k j:Nat}{sp:Sp}(C:eK X.prog X.w X.K X.mg X.E3 name ps k sp)(hr:cn j X.A)(hkj:k<=j)(ha:PA X (e::es) t)(hg:Gl X name:=by rfl)(hdb:(name == ("__debug__":Str))=false:=by decide)
  (he:Fj (e::es) X.env=(false,FF e X.env)::Fj es X.env:=by rfl) (hpl:(FC pos (Fj es X.env)).any (·.1)=false:=by rfl):PE X (.Call (.Name name p) (e::es) [] pos) (fH sp t):=by
 obtain⟨f,fd,F,hm,hk,hb⟩:=C.ex;refine(vx F (hr.mono hkj) hg hm hk hb .nil tL ha hdb he hpl:PE X _ (sU sp [] E0 t)).imp λσ H Q h=>?_;unfold sU;simp only[Jj];exact h
end
end L2
namespace PySem
namespace F
theorem nolen_lriQ:typeLookup (.type "list_reverseiterator") "__len__"=pure none:=by rw[typeLookup_type,HP];kernel_rfl
theorem hint_lriQ:typeLookup (.type "list_reverseiterator") "__length_hint__"=pure (some (.builtin "list_reverseiterator.__length_hint__")):=by rw[typeLookup_type,HP];kernel_rfl
end F
end PySem
namespace L2
open PySem PySem.Spec PyProof.Rows
section
variable{prog:Fn}{w:Fp}{A:Fz}{E:Fd}{s:Fi}
theorem ja(hh:A.handled=none)(I l:Addr)(hne:l≠I)(items:Array Value):
  WalksS prog w A I [I,l] [I] (λa b=>a=b) items.size (λi v=>items[items.size - 1 - i]? =some v) (λi s=>i<=items.size/\s.heap.IsRevIter I l ((items.size:Int) - 1 - (i:Int))/\s.heap.IsList l items) where
 sub:=λb hb=>by simp at hb;simp[hb]
 grefl:=λ_=>rfl
 gtrans:=λ_ _ _ a b=>a.trans b
 frame:=λ_ _ _ _ x _ hk=>⟨x.1,x.2.1.at λo e=>hk I (by simp) o e,x.2.2.at λo e=>hk l (by simp) o e⟩
 item:=λi s Q E hi x hQ=>by
  have e:(items.size:Int) - 1 - (i:Int)=((items.size - 1 - i:Nat):Int):=by omega
  have hit:=x.2.1;rw[e]at hit;have hx:items[items.size - 1 - i]? =some (items[items.size - 1 - i]'(by omega)):=KS (by omega);refine wpAny_pyNext_rev_item hit x.2.2 hx λh' hit' hs'=>?_;have e2:((items.size - 1 - i:Nat):Int) - 1=(items.size:Int) - 1 - ((i+1:Nat):Int):=by omega
  rw[e2]at hit';exact hQ _ _ hx ⟨hi,hit',x.2.2.at λo eo=>(hs'.2 l hne).trans eo⟩ ⟨λb o hb eo=>hs'.extBut b o (λh=>hb (by simp[h])) eo,rfl,rfl,rfl,Kd _⟩
 done:=λs Q E x hQ=>by
   have e:(items.size:Int) - 1 - (items.size:Int)= -1:=by omega
   have hit:=x.2.1;rw[e]at hit;exact wpAny_pyNext_rev_end hh hit λh' he'=>hQ _ ⟨λb o hb eo=>he' b o (λh=>hb (by simp[h])) eo,rfl,rfl,rfl,Kd _⟩
 self:=λ_ _ _ _ x hQ=>wpAny_pyIter_revIter x.2.1 hQ
theorem mO{I:Addr}{fp wr:List Addr}{G:Array GL->Array GL->Prop}{n:Nat}{P:Nat->Value->Prop}{St:Nat->Fi->Prop}{Q:List Value->Fi->Prop}
  (W:WalksS prog w A.in1 I fp wr G n P St) (hT:∀i s,St i s->s.TypeIs (.ref I) "list_reverseiterator") (hst:St 0 s) (hfp:∀b∈fp,b<s.heap.objs.size) (hI:I∈fp)
  (hQ:∀s' acc,Moved wr G s s'->ItemsOf P acc n->Q acc.toList s') (hn:n<=sizeLine):Fs (Fu prog w) A (collect (.ref I)) Q E s:=by
 have hSf:s.heap.objs.size∉fp:=λhm=>Kj _ (hfp _ hm);have hSI:s.heap.objs.size≠I:=λe=>hSf (e▸hI);unfold collect;refine Ff (wpAny_runValue (Gi F.entry_proto_collect ?_));rw[Gp F.plain_proto_collect _];show Fs _ A.in1 (newList [] >>= λl=>again (.builtin "list.__iadd__" ⟨[l,.ref I],[]⟩)) _ _ s;refine Ff (Hl ?_);refine Fm ⟨Ht F.plain_list_iadd _,Gi F.entry_list_iadd ?_⟩;rw[Gp F.plain_list_iadd _];have hst₁:=W.frame 0 s (s.heap.push {cls:=.type "list",data:=.seq ([]:List Value).toArray}) s.toks hst (Kd _) λb _ o e=>Fh _ e;have hS₁:(s.heap.push {cls:=.type "list",data:=.seq ([]:List Value).toArray}).get? s.heap.objs.size=some {cls:=.type "list",data:=.seq ([]:List Value).toArray}:=Fo _ rfl;have h1:FL (.ref s.heap.objs.size) (.ref I)=false:=by simp[FL,hSI]
 show Fs _ A.in1 (FI (.ref s.heap.objs.size) (.ref I) (.ref s.heap.objs.size)) _ _ _;unfold FI;refine Ff (GY (hT 0 _ hst₁) ?_);rw[E7 (by rw[h1];decide)];refine Ff (W.self 0 _ _ _ hst₁ ?_);refine Ff (FO ?_);unfold G0;refine Ff (Gv (hT 0 _ hst₁) F.nolen_lriQ ?_);show Fs _ A.in1 (specialOf (FD I) (GJ "__length_hint__") >>= _) _ _ _;refine Ff (Gv (hT 0 _ hst₁) F.hint_lriQ ?_)
 (generalize hid:("list_reverseiterator.__length_hint__":String)=id0;(fail_if_success (clear hid id0));wp_delta;rw[show splitId id0=some ("list_reverseiterator","__length_hint__")from by subst hid;decide+kernel];subst hid)
 refine Ff (GP (b:=true) (hT 0 _ hst₁) (by rw[isSubtype_type];kernel_rfl) ?_);refine Fm ?_;rw[E7 (by decide)];refine Fm ⟨Ht F.plain_extend_loop _,codeAny_extend_loopS W hn _ hSf _ n 0 _ _ _ rfl (Kh _) hst₁ hS₁ (ItemsOf.nil P) λs' acc' c' hm hS' hacc=>?_⟩;show Fs _ A (load s.heap.objs.size >>= _) _ _ s';refine Ff (wpAny_load hS' ?_);exact Fm (hQ s' acc' (Moved.drop_new (o:={cls:=.type "list",data:=.seq ([]:List Value).toArray}) (tk:=s.toks) hm (Kd _)) hacc)
theorem jc:∀{l:List (Str×IF)}{ys:List Str},(∀(i:Nat)(v:Value),(G3 l)[i]? =some v->∃y t,ys[i]? =some y/\v=HE y t)->l.length=ys.length->l.map (·.1)=ys:=by
 intro l ys h hl;apply JS;intro i;rw[IU]
 by_cases hi:i<l.length
 .have e:(G3 l)[i]? =some (HE (l[i]).1 (l[i]).2):=by unfold G3;rw[IU,IP hi];rfl
  obtain⟨y,t,h1,h2⟩:=h i _ e;injection h2 with h3 h4;rw[IP hi,h1,<-h3];rfl
 .rw[Js (by omega),Js (by omega)];rfl
theorem t0{x:Str}{t:IF}{I l:Addr}{its:List Value}{ys:List Str}{Q:Fd}(hh:A.handled=none)(hne:l≠I)(hit:s.heap.IsRevIter I l ((its.length:Int) - 1))(hl:s.heap.IsList l its.toArray)(hi:StrsAre its ys)
  (hsz:its.length<=sizeLine) (hok:JoinOk x ys.reverse=true) (h:∀s' t' k,Moved [I] (λa b=>a=b) s s'->Q (.str (Fx x ys.reverse) t') {s' with toks:=k}):
  Fs (Fu prog w) A (call (.builtin "str.join") [.str x t,.ref I]) Q E s:=by
 have hlen:its.length=ys.length:=hi.length;have W:=ja (prog:=prog) (w:=w) (A:=A.in1.in1) (show A.in1.in1.handled=none from hh) I l hne its.toArray;have hst:0<=its.toArray.size/\s.heap.IsRevIter I l ((its.toArray.size:Int) - 1 - ((0:Nat):Int))/\s.heap.IsList l its.toArray:=⟨Kh _,by simpa using hit,hl⟩;have hfp:∀b∈[I,l],b<s.heap.objs.size:=λb hb=>by
  rcases IN.mp hb with e|hb
  .obtain⟨o,ho,_⟩:=hit;rw[e];exact Fk ho
  .obtain⟨o,ho,_⟩:=hl;rw[IS.mp hb];exact Fk ho
 refine Gy (Go F.slot_str_join.plain F.entry_str_join (F.slot_str_join.check _ _ _ _ _ _ _ _ (HI _ _ _) (F.args_str_join_2 _ _) ?_));rw[join_tree_other];refine Ff (GY hit.typeIs ?_);show Fs _ A.in1 ((pyIter (.ref I)).tryCatch _ >>= λit=>collect it >>= λitems=>joinTail x items) _ _ s;refine Ff (wpAny_tryCatch (W.of_in1.self 0 s _ _ hst ?_));refine Ff (mO W (λi s x=>x.2.1.typeIs) hst hfp (by simp) (λs' acc hm hacc=>?_) (by simpa using hsz));obtain⟨l',hl'⟩:=exists_strValues acc.toList λv hv=>by
  obtain⟨j,hj,rfl⟩:=Array.mem_iff_getElem.mp (KT.mp hv);have hP:=hacc.2 j _ (KS hj);have hP:its[its.length - 1 - j]? =some acc[j]:=by simpa using hP
  have hb:its.length - 1 - j<ys.length:=by have:=(Je.mp hP).1;omega
  obtain⟨t',e⟩:=hi.get _ _ (IP hb);rw[hP]at e;exact⟨_,t',Option.some.inj e⟩
 have hmap:l'.map (·.1)=ys.reverse:=by
  refine jc (λi v hv=>?_) ?_
  .rw[hl']at hv;have hv:acc[i]? =some v:=by simpa using hv
   have hP:=hacc.2 i v hv;have hP:its[its.length - 1 - i]? =some v:=by simpa using hP
   have hi2:i<its.length:=by have:=(Array.getElem?_eq_some_iff.mp hv).1;have:=hacc.1;simp at this;omega
   have hb:its.length - 1 - i<ys.length:=by omega
   obtain⟨t',e⟩:=hi.get _ _ (IP hb);rw[hP]at e;refine⟨_,t',?_,Option.some.inj e⟩;rw[JT (by omega)];have e3:ys.length - 1 - i=its.length - 1 - i:=by omega
   rw[e3,IP hb]
  .have h1:(G3 l').length=acc.toList.length:=by rw[hl']
   have h2:(G3 l').length=l'.length:=by unfold G3;simp
   have h3:=hacc.1;rw[Jt];simp at h1 h3;omega
 rw[<-hl'];have hok':=hok;rw[<-hmap]at hok';unfold JoinOk at hok';rw[KM]at hok';have g:Gives (joinTail x (G3 l')) (joinMade x l'):=by
  have g0:=gives_joinTail x l' hok';cases l' with
  |nil=>exact g0
  |cons p r=>cases r with
   |nil=>exact g0
   |cons q r'=>exact g0
 refine g prog w A (wants Q E) s' (post_join l' ⟨joinFit_length hok',λt' k=>?_⟩);rw[hmap];exact h s' t' k hm
end
section
variable{X:Cx}{o e:FA}{to te:TE}
def cJR(K:Frag)(to te:TE):TE:=λσ H Q=>to σ H λx H1=>match x with
 | .str sep=>te σ H1 λy H2=>match y with
   | .ref d=>∃ys:List Str,aM K H2 d (ys.map V.str)/\(ys.map (·.length)).sum+ys.length*sep.length<=16777216/\Q (.str (Fx sep ys.reverse)) H2
   |_=>False
 |_=>False
theorem lP:∀l:List Nat,l.reverse.sum=l.sum:=by
 intro l
 induction l with
 |nil=>rfl
 |cons a l ih=>rw[JQ,List.sum_append,ih];simp;omega
theorem om{p p2 apos cpos:GO}(hc:X.calm=true)(ho:PE X o to)(he:PE X e te)(hm:X.mg "reversed"=none)(hg:Gl X "reversed":=by rfl)
  (hbase:FP o "join" X.env (FF o X.env)=FF o X.env:=by rfl)
  (hfew:((FC cpos (Fj [.Call (.Name "reversed" p) [e] [] p2] X.env)).all (λx=> !x.1)&&(Hz cpos (GB [] X.env)).all (λx=>x.1.isSome)
   &&decide ([Expr.Call (.Name "reversed" p) [e] [] p2].length+([]:List GK).length+(if([]:List GK).isEmpty then 0 else 1)<30))=true:=by rfl)
  (hline:(apos.endLine == cpos.line)=true:=by rfl) (hs:Fj [.Call (.Name "reversed" p) [e] [] p2] X.env=(false,FF (.Call (.Name "reversed" p) [e] [] p2) X.env)::Fj [] X.env:=by rfl) (hplain:(FC cpos (Fj [] X.env)).any (·.1)=false:=by rfl)
  (hs2:Fj [e] X.env=(false,FF e X.env)::Fj [] X.env:=by rfl) (hpl2:(FC p2 (Fj [] X.env)).any (·.1)=false:=by rfl):
  PE X (.Call (.Attribute o "join" apos) [.Call (.Name "reversed" p) [e] [] p2] [] cpos) (cJR X.K to te):=by
 intro gV s σ H Q I h;refine FV hbase hfew hline rfl (bJ (ho gV s σ H _ I h) λv s1 ⟨x,H1,I1,r1,q1⟩=>?_);cases x with
 |str sep=>
  have ty:yO X.K "str" (.str sep) H1:=rfl;obtain⟨h1,h2⟩:=gJ I1 r1 ty;obtain⟨tk,rfl⟩:=r1;refine⟨"str","str.join",PySem.F.plainAttrs_str,PySem.F.slot_str_join,PySem.F.type_str_join,h1,h2,?_⟩;rw[hs];refine FJ (by show(false||(FC cpos (Fj [] X.env)).any (·.1))=false;rw[hplain]<;>rfl) (FT ?_)
  show Fs _ _ (spliced ((false,FF (.Call (.Name "reversed" p) [e] [] p2) X.env)::FC cpos (Fj [] X.env))) _ _ s1;refine Hh ?_;refine FE (eE I1 hg hm iJ ?_ (by decide) (by decide));have hA:PA X [e] (aV te ce):=pa_cons he pa_nil hs2;refine PyProof.Rows.callWith_type1 (bJ (hA p2 gV s1 σ H1 (λvs H2=>∃y,vs=[y]/\(match y with
   | .ref d=>∃ys:List Str,aM X.K H2 d (ys.map V.str)/\(ys.map (·.length)).sum+ys.length*sep.length<=16777216/\Q (.str (Fx sep ys.reverse)) H2
   |_=>False)) I1 ?_) λus s2 ⟨vs,H2,I2,r2,y,e2,q2⟩=>?_) hs2 hpl2
  .show te σ H1 _;have q1':=q1;have:(λ(y:V)(H2:Hp)=>match y with
    | .ref d=>∃ys:List Str,aM X.K H2 d (ys.map V.str)/\(ys.map (·.length)).sum+ys.length*sep.length<=16777216/\Q (.str (Fx sep ys.reverse)) H2
    |_=>False)=λy H2=>∃y',[y]=[y']/\(match y' with
    | .ref d=>∃ys:List Str,aM X.K H2 d (ys.map V.str)/\(ys.map (·.length)).sum+ys.length*sep.length<=16777216/\Q (.str (Fx sep ys.reverse)) H2
    |_=>False):=by
    funext y H2;apply propext
    constructor
    .intro z;exact⟨y,rfl,z⟩
    .rintro⟨y',e,z⟩;have:y=y':=by injection e
     subst this;exact z
   dsimp only at q1';rw[this]at q1';exact q1'
  .subst e2;obtain⟨u,rfl,ru⟩:=cU r2;cases y with
   |ref d=>
    obtain⟨ys,hd,hz,q⟩:=q2;cases ru;obtain⟨its,rv,pl,hl⟩:=I2.list hd;have hlen:=rv.length;rw[IL]at hlen hl;refine call_reversed_list pl.isList ?_;have I3:aC X gV σ H2 {s2 with heap:=s2.heap.push (Ii d ((its.toArray.size:Int) - 1))}:=I2.kept (t':=s2.toks) λb ob q=>Fh _ q;refine Hq ?_;have hne:d≠s2.heap.objs.size:=by obtain⟨ob,hob,_⟩:=pl.isList;exact Ke (Fk hob)
    have hfp:fT X gV H2 s2.heap.objs.size:=I2.fpOk (Kd _) I2.fresh;refine t0 (its:=its) (ys:=ys) (I.ok.hd hc) hne ⟨_,Fo _ rfl,rfl,by simp[Ii]⟩ (pl.isList.at λob q=>Fh _ q) (gK rv) (by omega) (joinOk_of ?_) λs' t' k hm=>?_
    .rw[List.map_reverse,lP,Jt];exact hz
    .refine⟨.str _,H2,?_,⟨t',rfl⟩,q⟩;have J:aC X gV σ H2 {s2 with heap:=s'.heap,toks:=k}:=by have z:=I3.turned (it:=s2.heap.objs.size) (h':=s'.heap) (t':=k) (λb ob hb e=>hm.heap b ob (by simpa using hb) e) hfp.1 hfp.2.1 hfp.2.2.2.1 hfp.2.2.2.2.1 hfp.2.2.2.2.2;exact z
     have e1:s'.gens=s2.gens:=hm.gens.symm;have e2:s'.drawn=s2.drawn:=hm.drawn;have e3:s'.os=s2.os:=hm.os;obtain⟨sh,sg,sd,st,so⟩:=s';cases e1;cases e2;cases e3;exact J
   |_=>exact q2.elim
 |_=>exact q1.elim
end
section
variable{X:Cx}
theorem tJ{x:Str}{v:V}{pos:GO}(hg:Gl X x)(h:∃u,X.mg x=some u/\RelV v u)(hd:(x == ("__debug__":Str))=false:=by decide):PE X (.Name x pos) (tC v):=by obtain⟨u,hm,r⟩:=h;exact vt hg hm r hd
end
theorem cC{A:Fz}{k:Nat}(hr:cn k A):A.units+20<GD:=by have:=hr.units;omega
theorem al.upd{H H':Hp}{d:Addr}{o:HO}(h:al H H')(hd:H' d=none):al H (upd H' d o):=λb ob e=>by have e':=h b ob e;rw[ar (au e' hd)];exact e'
section
variable{X:Cx}{a b c e o:FA}{ta tb tc te to:TE}{p p2 pos:GO}{es:List FA}{t:TA}
theorem gB(K:Frag){op:Hg}(hu:X.A.units+20<GD)(ha:PE X a ta)(hb:PE X b tb)(hm:behindInMarks op b=false:=by first|exact lh _|with_unfolding_all rfl)(hK:X.K=K:=by rfl):PE X (.Compare a [op] [b] pos) (e7 K op ta tb):=by subst hK;exact Bb hu ha hb hm
theorem bi(K:Frag){op:Hg}(hu:X.A.units+20<GD)(ha:PE X a ta)(hb:PE X b tb)(hm:behindInMarks op b=false:=by first|exact lh _|with_unfolding_all rfl)(hK:X.K=K:=by rfl):PT X (.Compare a [op] [b] pos) (gn (e7 K op ta tb)):=by subst hK;exact A8 hu ha hb hm
theorem nX(K:Frag){op op':Hg}(hu:X.A.units+20<GD)(ha:PE X a ta)(hb:PE X b tb)(hc:PE X c tc)(hm:lastMarks [op,op'] [b,c]=false:=by with_unfolding_all rfl)(hK:X.K=K:=by rfl):PE X (.Compare a [op,op'] [b,c] pos) (lC K op op' ta tb tc):=by subst hK;exact uE hu ha hb hc hm
theorem eN(K:Frag)(ha:PE X a ta)(hb:PE X b tb)(hs:lH b:=by exact λ_ _=>rfl)(hK:X.K=K:=by rfl):PE X (.Subscript a b pos) (pN K ta tb):=by subst hK;exact DR ha hb hs
theorem ie(K:Frag){lo hi:Option FA}{tl th:TO}(he:PE X e te)(hl:PO X lo tl)(hu:PO X hi th)(hK:X.K=K:=by rfl):PE X (.Subscript e (.Slice lo hi none p2) pos) (uG K te tl th):=by subst hK;exact DP he hl hu
theorem dI(K:Frag)(hK:X.K=K:=by rfl):bj X (.builtin "len") (tX K):=by subst hK;exact qU
theorem tZ(K:Frag)(hc:X.calm=true:=by rfl)(hK:X.K=K:=by rfl):bj X (.builtin "all") (Bp K):=by subst hK;exact qX hc
theorem pA(K:Frag)(hK:X.K=K:=by rfl):rc X "str.join" (iG K):=by subst hK;exact tP
theorem qy(K:Frag){tg l:FA}{tl:TE}(hl:PE X l tl)(hK:X.K=K:=by rfl):PI X tg l (mz K tl):=by subst hK;exact vo hl
theorem EC(K:Frag){n:Nat}{k:Nat}{t:zr}(h:BE X es t)(hc:X.calm=true:=by rfl)(hn:(GA es X.env).length=n:=by rfl)(hst:List.findIdx? (λx=>x.1) (GA es X.env)=none:=by rfl)(hK:X.K=K:=by rfl):PG X (.Tuple es k pos) (ue K n t):=by subst hK;exact Ar hc h hn hst
theorem kg{x:Str}{v:V}(h:∃u,X.mg x=some u/\RelV v u)(hg:Gl X x:=by rfl)(hd:(x == ("__debug__":Str))=false:=by decide):PE X (.Name x pos) (tC v):=tJ hg h hd
theorem qz(T:BT){n:Str}(hm:X.mg "isinstance"=none)(hmT:X.mg n=none)(hv:Fv n=some (.type T.s))(ha:PE X a ta)(hg:Gl X "isinstance":=by rfl)(hgT:Gl X n:=by rfl)(hn:n≠"__name__":=by decide)(hdb:(n == ("__debug__":Str))=false:=by decide)
  (he:Fj [a,.Name n p2] X.env=(false,FF a X.env)::Fj [.Name n p2] X.env:=by rfl) (he2:Fj [.Name n p2] X.env=(false,FF (.Name n p2) X.env)::Fj [] X.env:=by rfl) (hpl:(FC pos (Fj [.Name n p2] X.env)).any (·.1)=false:=by rfl):
  PE X (.Call (.Name "isinstance" p) [a,.Name n p2] [] pos) (Bf T ta):=DS T ha hg hm hgT hmT hv hn hdb he he2 hpl
theorem vJ{tg:FA}{ta:TA}(hm:X.mg "range"=none)(ha:PA X [a] ta)(hg:Gl X "range":=by rfl)(hs:Fj [a] X.env=[(false,FF a X.env)]:=by rfl):PI X tg (.Call (.Name "range" p) [a] [] pos) (j8 ta):=qj hg hm ha hs
theorem kjr(K:Frag){apos cpos:GO}(hm:X.mg "reversed"=none)(ho:PE X o to)(he:PE X e te)(hc:X.calm=true:=by rfl)(hg:Gl X "reversed":=by rfl)
  (hbase:FP o "join" X.env (FF o X.env)=FF o X.env:=by rfl)
  (hfew:((FC cpos (Fj [.Call (.Name "reversed" p) [e] [] p2] X.env)).all (λx=> !x.1)&&(Hz cpos (GB [] X.env)).all (λx=>x.1.isSome)
   &&decide ([Expr.Call (.Name "reversed" p) [e] [] p2].length+([]:List GK).length+(if([]:List GK).isEmpty then 0 else 1)<30))=true:=by rfl)
  (hline:(apos.endLine == cpos.line)=true:=by rfl) (hs:Fj [.Call (.Name "reversed" p) [e] [] p2] X.env=(false,FF (.Call (.Name "reversed" p) [e] [] p2) X.env)::Fj [] X.env:=by rfl) (hplain:(FC cpos (Fj [] X.env)).any (·.1)=false:=by rfl)
  (hs2:Fj [e] X.env=(false,FF e X.env)::Fj [] X.env:=by rfl) (hpl2:(FC p2 (Fj [] X.env)).any (·.1)=false:=by rfl) (hK:X.K=K:=by rfl):
  PE X (.Call (.Attribute o "join" apos) [.Call (.Name "reversed" p) [e] [] p2] [] cpos) (cJR K to te):=by
 subst hK;exact om hc ho he hm hg hbase hfew hline hs hplain hs2 hpl2
theorem bZ{N:List Str}{src:List (Option Nat)}{scope:Gj}(dsc:Gj)(XN:List Str)(h:oj dsc XN N src scope=true:=by decide+kernel)(he:X.env.scope=dsc:=by rfl)(hN:X.N=XN:=by rfl):bU X N src scope:=bU.of he hN h
theorem bb{i:Nat}{x:Str}(N:List Str)(hN:N.Nodup:=by decide+kernel)(hi:X.N[i]? =some x:=by rfl)(hx:BF X.env.scope x:=by first|exact Or.inl rfl|exact Or.inr rfl)(hf:X.fn x=true\/X.env.scope.names.lookup x=some .local:=by first|exact .inl rfl|exact .inr rfl)(hNX:X.N=N:=by rfl):PG X (.Name x pos) (gName i):=
 de (hNX▸hN) hi hx hf
theorem eF{N:List Str}{src:List (Option Nat)}{scope:Gj}{tg iter:FA}{ifs:List FA}{wi:TI}{g:TG}{tt:TT}(S:bU X N src scope)(hi:PI X tg iter wi)(hg:∀s H ex,PG (cxC X scope N s H ex) tg g)(ht:∀s H ex,mV (cxC X scope N s H ex) ifs tt)(he:∀s H ex,PE (cxC X scope N s H ex) e te)
  (hc:X.calm=true:=by rfl) (hs:∀x,GH iter X.env x=pure x:=by intro _;rfl):PE X (.ListComp e [⟨tg,iter,ifs,0⟩] scope pos) (tComp wi g tt te src):=vv hc S hi hg ht he hs
end
theorem qf{K:Frag}{i j:Int}{H:Hp}{Q:VK}:(gC K .LtE (.int i) (.int j) H Q)=(Q (.bl (decide (i<=j))) H):=rfl
theorem qe{K:Frag}{i j:Str}{H:Hp}{Q:VK}:(gC K .LtE (.str i) (.str j) H Q)=(Q (.bl (!decide (j.cps.toList<i.cps.toList))) H):=rfl
theorem kL{K:Frag}{i:Int}{d:Addr}{H:Hp}{Q:VK}:(gC K .In (.int i) (.ref d) H Q)=(yZ K false (.int i) (.ref d) H Q):=rfl
theorem iN{K:Frag}{i:Int}{d:Addr}{H:Hp}{Q:VK}:(gC K .NotIn (.int i) (.ref d) H Q)=(yZ K true (.int i) (.ref d) H Q):=rfl
theorem kK{K:Frag}{i:Str}{d:Addr}{H:Hp}{Q:VK}:(gC K .In (.str i) (.ref d) H Q)=(yZ K false (.str i) (.ref d) H Q):=rfl
theorem Ao{a b:Addr}{H:Hp}{Q:VK}:(qZ .Add (.ref a) (.ref b) H Q)=(Ap (.ref a) (.ref b) H Q):=rfl
theorem nF{K:Frag}{a:Str}{d:Addr}{H:Hp}{Q:VK}:(iG K (.str a) [.ref d] H Q)=(∃ys:List Str,aM K H d (ys.map V.str)/\(ys.map (·.length)).sum+ys.length*a.length<=16777216/\Q (.str (Fx a ys)) H):=rfl
theorem Da{a:Str}{H:Hp}{Q:VK}:(zZ (.str a) [] H Q)=(a.length<=sizeLine/\(∀c∈a.cps.toList,c<128)/\Q (.str ⟨a.cps.map up1⟩) H):=rfl
theorem r_b{k:Bool}{Q:Bool->Hp->Prop}{H:Hp}:di Q (.bl k) H=Q k H:=rfl
def dk:FA->Bool
 | .Starred _ _=>false
 |_=>true
theorem cV{e:FA}{es:List FA}{env:HS}(h:dk e=true):Fj (e::es) env=(false,FF e env)::Fj es env:=by
 cases e<;>first|rfl|cases h
theorem dM{pos:GO}{env:HS}:∀{es:List FA},es.all dk=true->(FC pos (Fj es env)).any (·.1)=false
 | [],_=>rfl
 |e::es,h=>by
  rw[IZ,KJ]at h;rw[cV h.1];show(false||(FC pos (Fj es env)).any (·.1))=false
  rw[dM h.2];rfl
theorem uN{pos:GO}{env:HS}:∀{es:List FA},es.all dk=true->(FC pos (Fj es env)).all (λx=> !x.1)=true
 | [],_=>rfl
 |e::es,h=>by rw[IZ,KJ]at h;rw[cV h.1];show(!false&&(FC pos (Fj es env)).all (λx=> !x.1))=true;rw[uN h.2];rfl
section
variable{X:Cx}{a b c e o:FA}{ta tb tc te to:TE}{p p2 pos:GO}{es:List FA}{t:TA}
theorem ay(ha:PE X e te)(hr:PA X es t)(h:dk e=true:=by rfl):PA X (e::es) (aV te t):=pa_cons ha hr (cV h)
theorem aK{name:Str}{ps:List Str}{k j:Nat}{sp:Sp}(C:eK X.prog X.w X.K X.mg X.E3 name ps k sp)(hr:cn j X.A)(ha:PA X (e::es) t)(hkj:k<=j:=by decide)(hp:(e::es).all dk=true:=by rfl)(hg:Gl X name:=by rfl)(hdb:(name == ("__debug__":Str))=false:=by decide):PE X (.Call (.Name name p) (e::es) [] pos) (fH sp t):=by have hp':=hp;rw[IZ,KJ]at hp';exact vZ C hr hkj ha hg hdb (cV hp'.1) (dM hp'.2)
theorem kB{id:String}{x:Str}{r:List V->Hp->VK->Prop}(hc:bj X (.builtin id) r)(hv:Fv x=some (.builtin id))(hm:X.mg x=none)(ha:PA X (e::es) t)(hp:(e::es).all dk=true:=by rfl)(hg:Gl X x:=by rfl)(hn:x≠"__name__":=by decide)(hdb:(x == ("__debug__":Str))=false:=by decide):PE X (.Call (.Name x p) (e::es) [] pos) (cB r t):=by have hp':=hp;rw[IZ,KJ]at hp';exact EO hc hv hm ha hg hn hdb (cV hp'.1) (dM hp'.2)
theorem qC{T:String}{x:Str}{r:List V->Hp->VK->Prop}(hc:bj X (.type T) r)(hv:Fv x=some (.type T))(hm:X.mg x=none)(ha:PA X (e::es) t)(hp:(e::es).all dk=true:=by rfl)(hg:Gl X x:=by rfl)(hn:x≠"__name__":=by decide)(hdb:(x == ("__debug__":Str))=false:=by decide):PE X (.Call (.Name x p) (e::es) [] pos) (cB r t):=by have hp':=hp;rw[IZ,KJ]at hp';exact DT hc hv hm ha hg hn hdb (cV hp'.1) (dM hp'.2)
theorem Ef{name:Str}{apos cpos:GO}{id:String}{r:V->List V->Hp->VK->Prop}(slot:Slot "str" name id)(hty:IG (.builtin id)=pure (.type "method_descriptor"))(hm:rc X id r)(ho:PE X o to)(ha:PA X (e::es) t)(hp:(e::es).all dk=true:=by rfl)(hl:(e::es).length<20:=by decide)
  (hbase:FP o name X.env (FF o X.env)=FF o X.env:=by rfl) (hline:(apos.endLine == cpos.line)=true:=by rfl):PE X (.Call (.Attribute o name apos) (e::es) [] cpos) (Eg r to t):=by
 have hp':=hp;rw[IZ,KJ]at hp';refine DO slot hty hm ho ha hbase ?_ hline (cV hp'.1) (dM hp'.2);rw[uN hp];show(true&&true&&decide ((e::es).length+0+0<30))=true;rw[E5 (by omega)];rfl
end
end L2
namespace L2
open PySem
theorem dm{t u:TS}{D:cD}{σ:St}{H:Hp}(P:St->Hp->Prop)(h:∀K:St->Hp->Prop,(∀σ' H',P σ' H'->K σ' H')->t {D with nx:=K} σ H)(h2:∀σ' H',P σ' H'->u D σ' H'):bg t u D σ H:=h (u D) h2
theorem bv{te:TE}{i:Nat}{u:TS}{D:cD}{σ:St}{H:Hp}(P:V->Hp->Prop)(h:∀Q:VK,(∀v H',P v H'->Q v H')->te σ H Q)(h2:∀v H',P v H'->u D (σ.set i (some v)) H'):bg (tAsg te (gName i)) u D σ H:=h _ h2
theorem cx{c:TT}{t u:TS}{D:cD}{σ:St}{H:Hp}(P:Bool->Hp->Prop)(hc:∀Q:Bool->Hp->Prop,(∀b H',P b H'->Q b H')->c σ H Q)(h1:∀H',P true H'->t {D with nx:=u D} σ H')(h2:∀H',P false H'->u D σ H'):bg (na c t oK) u D σ H:=by
 refine hc _ λb H' p=>?_;cases b with
 |true=>exact jU (h1 H' p)
 |false=>exact ll (h2 H' p)
def gy:List FA->Option (List V)
 | []=>some []
 | .Constant (.int i) _ _::r=>(gy r).map (V.int i:: ·)
 | .Constant (.str x) _ _::r=>(gy r).map (V.str x:: ·)
 | .Constant (.bool b) _ _::r=>(gy r).map (V.bl b:: ·)
 | .Constant .none _ _::r=>(gy r).map (V.non:: ·)
 |_=>none
def ER(vs:List V):TA:=λ_ H Q=>Q vs H
theorem gv{X:Cx}:∀{es:List FA}{vs:List V},gy es=some vs->PA X es (ER vs):=by
 intro es
 induction es with
 |nil=>intro vs h;cases h;exact pa_nil
 |cons e r ih=>
  intro vs h;unfold gy at h;split at h
  .rename_i e1;cases e1
  .rename_i e1;cases e1;obtain⟨ws,h1,h2⟩:=KY.mp h;subst h2;exact ay ag (ih h1)
  .rename_i e1;cases e1;obtain⟨ws,h1,h2⟩:=KY.mp h;subst h2;exact ay aX (ih h1)
  .rename_i e1;cases e1;obtain⟨ws,h1,h2⟩:=KY.mp h;subst h2;exact ay dA (ih h1)
  .rename_i e1;cases e1;obtain⟨ws,h1,h2⟩:=KY.mp h;subst h2;exact ay io (ih h1)
  .cases h
theorem mM{g:TG}{tt:TT}{te:TE}{src:List (Option Nat)}{σ:St}{Q:VK}{J:It}{H1:Hp}(n:Nat)(N:Nat->List V->St->Hp->Prop)(hn:n<=sizeLine)(hlen:∀i ys σ H,N i ys σ H->ys.length<=i)
  (hgo:∀i ys σ H,N i ys σ H->i<n->J.go i H) (hstop:∀ys σ H,N n ys σ H->J.stop n H) (h0:N 0 [] (dR src σ) H1)
  (hturn:∀i ys σ' H' x H2,i<n->N i ys σ' H'->J.yld i H' x H2->∀(Kt:V->St->Hp->Prop)(Kf:St->Hp->Prop),(∀v σ3 H5,N (i+1) (ys++[v]) σ3 H5->Kt v σ3 H5)->(∀σ3 H4,N (i+1) ys σ3 H4->Kf σ3 H4)->
   g x σ' H2 λσ3 H3=>tt σ3 H3 λb H4=>if b=true then te σ3 H4 λv H5=>Kt v σ3 H5 else Kf σ3 H4)
  (hQ:∀ys σ' H' d,N n ys σ' H'->H' d=none->Q (.ref d) (upd H' d (.lst ys))):gm g tt te src σ Q J H1:=by
 refine⟨λi m ys σ' H'=>m=n - i/\i<=n/\N i ys σ' H',⟨n,by simp,Kh _,h0⟩,?_⟩;rintro i m ys σ' H' ⟨rfl,hi,hN⟩
 by_cases hlt:i<n
 .refine .inr ⟨hgo i ys σ' H' hN hlt,?_,λx H2 y=>?_⟩
  .have:=hlen i ys σ' H' hN;omega
  .exact hturn i ys σ' H' x H2 hlt hN y _ _ (λv σ3 H5 h=>⟨n - (i+1),by omega,rfl,hlt,h⟩) (λσ3 H4 h=>⟨n - (i+1),by omega,rfl,hlt,h⟩)
 .have e:i=n:=by omega
  subst e;exact .inl ⟨hstop ys σ' H' hN,λd hd=>hQ ys σ' H' d hN hd⟩
theorem mE{ta:TA}{g:TG}{tb:TS}{D:cD}{σ:St}{H:Hp}(n:Int)(hta:∀Q:List V->Hp->Prop,Q [.int n] H->ta σ H Q)(h0: -(2 ^ 62)<=n)(h1:n<2 ^ 62)(Pv:Nat->St->Hp->Prop)(hp0:Pv 0 σ H)
  (hs:∀i σ H,i<n.toNat->Pv i σ H->g (.int (0+i)) σ H λσ2 H2=>tb {D with nx:=Pv (i+1),ct:=Pv (i+1),bk:=D.nx} σ2 H2) (hd:∀σ H,Pv n.toNat σ H->D.nx σ H):tFor (j8 ta) g tb D σ H:=
 hta _ ⟨n,rfl,h0,h1,j9 Pv hp0 hs hd⟩
theorem mF{K:Frag}{tl:TE}{g:TG}{tb:TS}{D:cD}{σ:St}{H:Hp}(P:V->Hp->Prop)(htl:∀Q:VK,(∀v H',P v H'->Q v H')->tl σ H Q)
  (h:∀v H',P v H'->∃d xs,v=.ref d/\aM K H' d xs/\∃Pv:Nat->St->Hp->Prop,Pv 0 σ H'/\(∀i σ H,i<=xs.length->Pv i σ H->aM K H d xs)/\
   (∀(i:Nat) x σ H,xs[i]? =some x->Pv i σ H->g x σ H λσ2 H2=>tb {D with nx:=Pv (i+1),ct:=Pv (i+1),bk:=D.nx} σ2 H2)/\(∀σ H,Pv xs.length σ H->D.nx σ H)):tFor (mz K tl) g tb D σ H:=
 htl _ λv H' p=>by obtain⟨d,xs,rfl,hq,Pv,a,b,c,e⟩:=h v H' p;exact⟨d,rfl,⟨xs,hq⟩,uh Pv a b c e⟩
end L2
namespace L2
open PySem PySem.Spec PyProof.Rows
def uniq(ns:List Int):List Int:=firstMet (λi=>ns.getD i 0) ns.length
theorem nE(ns:List Int):(List.range ns.length).map (λi=>ns.getD i 0)=ns:=by
 apply JS;intro i;rw[IU]
 by_cases h:i<ns.length
 .rw[Ju h,IP h];show some (ns.getD i 0)=_;rw[IY,IP h];rfl
 .rw[Js (by rw[Jk];omega),Js (by omega)];rfl
theorem gj(val:Nat->Int):∀i,(firstMet val i).length=i<->((List.range i).map val).Nodup
 |0=>by simp[firstMet_zero]
 |i+1=>by
  have ih:=gj val i;have hle:=firstMet_length_le val i;have ha:=firstMet_any val i (val i);rw[firstMet_succ,Jy,IV,JU];unfold step_dedup
  by_cases h:(firstMet val i).any (· == val i)=true
  .rw[E8 h]
   constructor
   .intro e;omega
   .intro e;rw[ha,Jv]at h;obtain⟨x,hx,e2⟩:=h;have:x=val i:=beq_iff_eq.mp e2;exact Fb this (e.2.2 x hx (val i) (by simp))
  .rw[E7 h,IT,JR]
   constructor
   .intro e;refine⟨ih.mp (by omega),by simp,λx hx y hy=>?_⟩;have hy':y=val i:=by simpa using hy
    subst hy';intro e3;apply h;rw[ha,Jv];exact⟨x,hx,beq_iff_eq.mpr e3⟩
   .intro e;rw[ih.mpr e.1]
theorem sO(ns:List Int):(uniq ns).length=ns.length<->ns.Nodup:=by unfold uniq;rw[gj,nE]
section
variable{X:Cx}
def Al(K:Frag)(xs:List V)(H:Hp)(Q:VK):Prop:=match xs with
 | [.ref d]=>∃ns:List Int,aM K H d (ns.map V.int)/\ns.length+1<scanBound/\∀q,H q=none->Q (.ref q) (upd H q (.set (λk=>(uniq ns).any (· == k)) (uniq ns).length))
 |_=>False
theorem qT(hh:X.A.handled=none):bj X (.type "set") (Al X.K):=by
 intro gV s σ H xs us Q I r h;unfold Al at h;split at h
 .rename_i d;obtain⟨ns,hq,hb,q⟩:=h;obtain⟨u,rfl,rx⟩:=cU r;cases rx;obtain⟨its,r',pl,hz⟩:=I.list hq;have hlen:=r'.length;rw[IL]at hlen;have hi:Ia its.toArray.toList ns:=jr r';have hs:its.toArray.size=ns.length:=by rw[IM,<-hlen]
  refine call_set_list hh pl.isList hi (by rw[hs];exact hb) λh' tk hS kp=>?_;rw[hs]at hS;have k2:∀b u,s.heap.get? b=some u->h'.get? b=some u:=λb u e=>kp b u (Fk e) e;exact⟨.ref s.heap.objs.size,_,I.laid (t':=tk) k2 (Kd _) (show bF X.prog X.w _ h' _ (.set _ _)from hS),rfl,q _ (I.hok.fresh (Kd _))⟩
 .exact h.elim
def zb(xs:List V)(H:Hp)(Q:VK):Prop:=match xs with
 | [.ref d]=>∃S n,H d=some (.set S n)/\Q (.int n) H
 |_=>False
theorem ow:bj X (.builtin "len") zb:=by
 intro gV s σ H xs us Q I r h;unfold zb at h;split at h
 .rename_i d;obtain⟨S,n,hd,q⟩:=h;obtain⟨u,rfl,rx⟩:=cU r;cases rx;obtain⟨o,es,ep,t,h1,h2,h3,_,_,h6,h7,h8⟩:=(show bF X.prog X.w H s.heap d (.set S n)from I.hok d _ hd);subst h8;have hb:es.size<4096:=h6;exact PySem.call_len_set h1 h2 h3 h7 (by omega) ⟨.int es.size,H,I.tok _,⟨_,rfl⟩,q⟩
 .exact h.elim
def sY(K:Frag)(xs:List V)(H:Hp)(Q:VK):Prop:=match xs with
 | [.ref d]=>∃ns:List Int,aM K H d (ns.map V.int)/\ns.length<64/\∀(ns':List Int) q,ns'.Perm ns->ns'.Pairwise (·<=·)->H q=none->Q (.ref q) (upd H q (.lst (ns'.map V.int)))
 |_=>False
theorem oo:bj X (.builtin "sorted") (sY X.K):=by
 intro gV s σ H xs us Q I r h;unfold sY at h;split at h
 .rename_i d;obtain⟨ns,hq,hb,q⟩:=h;obtain⟨u,rfl,rx⟩:=cU r;cases rx;obtain⟨its,r',pl,hz⟩:=I.list hq;have hlen:=r'.length;rw[IL]at hlen;refine sorted_ints pl.isList (jr r') (by omega) λout ns' a1 a2 a3=>?_;obtain⟨e,he⟩:=sortedAll_at s.heap its out;have hl:=a2.length_eq;have hz':(ns'.map V.int).length<=sizeLine:=by rw[IL,hl,Fq];omega
  exact⟨.ref (s.heap.objs.size+1),_,I.laid (t':=s.toks) (λ_ _=>sortedAll_old) (Kk _) (show bF X.prog X.w _ _ _ (.lst (ns'.map V.int))from⟨hz',out.toList,e,ig a1,by simpa[seqObj]using he⟩),rfl,q ns' _ a2 a3 (I.hok.fresh (Kk _))⟩
 .exact h.elim
def j6(K:Frag)(xs:List V)(H:Hp)(Q:VK):Prop:=match xs with
 | [.ref d]=>∃ys,(aM K H d ys\/dC K H d ys)/\∀l,H l=none->Q (.ref l) (upd H l (.lst ys))
 |_=>False
theorem ot:bj X (.type "list") (j6 X.K):=(ly (X:=X)).imp λxs H Q h=>by
 unfold j6 at h;split at h
 .obtain⟨ys,h1,q⟩:=h;exact⟨_,ys,rfl,h1,q⟩
 .exact h.elim
theorem EB(K:Frag){j:Nat}(hr:cn j X.A)(hK:X.K=K:=by rfl):bj X (.type "set") (Al K):=by subst hK;exact qT hr.hd
theorem Dt(K:Frag)(hK:X.K=K:=by rfl):bj X (.builtin "sorted") (sY K):=by subst hK;exact oo
theorem jn(K:Frag)(hK:X.K=K:=by rfl):bj X (.type "list") (j6 K):=by subst hK;exact ot
theorem vN{T:BT}{a:Addr}{xs:List V}{H:Hp}{Q:VK}(h:H a=some (.lst xs))(q:Q (.bl (cT .list T)) H):t3 T (.ref a) H Q:=by simp only[t3,h];exact q
theorem vM{T:BT}{a:Addr}{xs:List V}{H:Hp}{Q:VK}(h:H a=some (.tup xs))(q:Q (.bl (cT .tuple T)) H):t3 T (.ref a) H Q:=by simp only[t3,h];exact q
end
theorem kb(zs:List Int):(zs.map V.int).all bO=true:=Ji.mpr λx hx=>by obtain⟨z,_,rfl⟩:=IR.mp hx;rfl
def Fl(K:Frag)(H:Hp)(p:Addr)(f:Str)(v:V):Prop:= ∃C dx fs,H p=some (.ins C dx fs)/\mZ K C/\bS K C f/\fs.lookup f=some v
def EL(K:Frag)(x:V)(f:Str)(H:Hp)(Q:VK):Prop:=match x with
 | .ref a=>∃v,Fl K H a f v/\Q v H
 |_=>False
def Bg(K:Frag)(to:TE)(f:Str):TE:=λσ H Q=>to σ H λx H1=>EL K x f H1 Q
def uR(C:Addr)(m:Str)(H:Hp)(a:Addr):Prop:= ∃dx fs,H a=some (.ins C dx fs)/\fs.lookup m=none
structure Bv(P:Fn)(w:Fp)(K:Frag)(mg:Fc)(E3:Fw)(C:Addr)(m:Str)(ps:List Str)(k:Nat)(sp:Sp):Prop where
 ex:∃f fd,bo P w K mg E3 dO k f fd ps sp/\D6 K C m f/\eW K fd ps []
 cl:mZ K C
structure mW(P:Fn)(w:Fp)(K:Frag)(mg:Fc)(E3:Fw)(name:Str)(C:Addr)(ps:List Str)(k:Nat)(sp:Sp):Prop where
 ex:∃f fd,Mk K C f/\bo P w K mg E3 dO k f fd ps sp/\mg name=some (.ref C)/\eW K fd ps []
def Dr(C:Addr)(m:Str)(x:V)(H:Hp)(R:Addr->Prop):Prop:=match x with
 | .ref a=>uR C m H a/\R a
 |_=>False
def zp(C:Addr)(m:Str)(sp:Sp)(to:TE)(t:TA):TE:=λσ H Q=>to σ H λx H1=>Dr C m x H1 λa=>t σ H1 λvs H2=>sp (.ref a::vs) H2 Q E0
def uH(C:Addr)(sp:Sp)(t:TA):TE:=λσ H Q=>t σ H λvs H1=>∀x dx,H1 x=none->H1 dx=none->dx≠x->sp (.ref x::vs) (upd (upd H1 dx (.own x)) x (.ins C dx [])) (λv H2=>v=.non/\Q (.ref x) H2) E0
section
variable{X:Cx}{e o value:FA}{te to tv:TE}{p pos pos' apos:GO}{es:List FA}{t:TA}{f m:Str}
theorem fC(K:Frag)(ho:PE X o to)(hb:FP o f X.env (FF o X.env)=FF o X.env:=by rfl)(hK:X.K=K:=by rfl):PE X (.Attribute o f pos) (Bg K to f):=by
 subst hK;intro gV s σ H Q I h;refine v7 hb (bJ (ho gV s σ H _ I h) λu s1 ⟨x,H1,I1,rx,q1⟩=>?_);cases x with
 |ref a=>
  obtain⟨v,⟨C,dx,fs,ea,c,n,l⟩,q⟩:=q1;obtain rfl:u=FD a:=rx;exact n4 I1 ea c n l λu' s2 I2 ru=>⟨v,H1,I2,ru,q⟩
 |_=>exact q1.elim
theorem gF(K:Frag)(ho:PE X o to)(hv:PE X value tv)(hs:HZ value (some (.Attribute o f pos')) pos.line X.env=pure false:=by rfl)(hK:X.K=K:=by rfl):PS X (.Assign [.Attribute o f pos'] value pos) (qb K to tv f):=by subst hK;exact Aq ho hv hs
theorem Du{C:Addr}{ps:List Str}{k j:Nat}{sp:Sp}{pl:Sem Bool}(M:Bv X.prog X.w X.K X.mg X.E3 C m ps k sp)(hr:cn j X.A)(ho:PE X o to)(ha:PA X (e::es) t)(hkj:k<=j:=by decide)(hp:(e::es).all dk=true:=by rfl)
  (ht:FF (.Call (.Attribute o m apos) (e::es) [] pos) X.env=(do
   let ov<-FF o X.env
   IE apos.atName
   let (f,first)<-Hm [ov] (getMethod ov m pl)
   callWith pos f first (FC pos (Fj (e::es) X.env)) (Hz pos (GB [] X.env))):=by rfl):PE X (.Call (.Attribute o m apos) (e::es) [] pos) (zp C m sp to t):=by
 obtain⟨f,fd,F,hm,hb⟩:=M.ex;have hp':=hp;rw[IZ,KJ]at hp';intro gV s σ H Q I h;refine PySem.W.methodCall_KW (pl:=pl) (bJ (ho gV s σ H _ I h) λu s1 ⟨x,H1,I1,rx,q⟩=>?_) ht;cases x with
 |ref a=>
  obtain⟨⟨dx,fs,ea,l⟩,q⟩:=q;obtain rfl:u=FD a:=rx;refine nZ I1 ea M.cl hm l ?_;refine Li (first:=[.ref a]) (h₀:=X.E3) I.ok.mod.kin hm.kp (bJ (ha pos gV s1 σ H1 _ I1 q) λus s2 ⟨vs,H2,I2,r,q2⟩=>⟨I2.kIn,?_⟩) (cV hp'.1) (dM hp'.2);refine tu (us:=.ref a::us) (vs:=.ref a::vs) (dvs:=[]) (ds:=[]) F (hr.mono hkj) hb .nil tL I2 (.cons rfl r) ?_;rw[Jj];exact q2
 |_=>exact q.elim
theorem zd{name:Str}{C:Addr}{ps:List Str}{k j:Nat}{sp:Sp}(M:mW X.prog X.w X.K X.mg X.E3 name C ps k sp)(hr:cn j X.A)(ha:PA X (e::es) t)(hkj:k+1<=j:=by decide)(hp:(e::es).all dk=true:=by rfl)(hg:Gl X name:=by rfl)(hdb:(name == ("__debug__":Str))=false:=by decide):
  PE X (.Call (.Name name p) (e::es) [] pos) (uH C sp t):=by
 obtain⟨f,fd,MK,F,hm,hb⟩:=M.ex;have hp':=hp;rw[IZ,KJ]at hp';refine(vq MK F (hr.mono hkj) hg hm hb .nil tL ha hdb (cV hp'.1) (dM hp'.2):PE X _ (sT C sp [] E0 t)).imp λσ H Q h=>?_;unfold sT;simp only[Jj];exact h
end
def SameBut(k:Addr)(H H':Hp):Prop:= ∀b o,H b=some o->b≠k->H' b=some o
theorem SameBut.refl{k:Addr}(H:Hp):SameBut k H H:=λ_ _ h _=>h
theorem al.but{k:Addr}{H H':Hp}(h:al H H'):SameBut k H H':=λb o e _=>h b o e
theorem SameBut.trans{k:Addr}{H H1 H2:Hp}(a:SameBut k H H1)(b:SameBut k H1 H2):SameBut k H H2:=λc o e n=>b c o (a c o e n) n
theorem SameBut.self{k:Addr}{H H':Hp}{o:HO}(a:SameBut k H H'):SameBut k H (upd H' k o):=λc ob e n=>by rw[ar n];exact a c ob e n
theorem SameBut.new{k d:Addr}{H H':Hp}{o:HO}(a:SameBut k H H')(hd:H d=none):SameBut k H (upd H' d o):=λc ob e n=>by rw[ar (au e hd)];exact a c ob e n
theorem al.put{d:Addr}{H H':Hp}{o:HO}(a:al H H')(hd:H d=none):al H (L2.upd H' d o):=λc ob e=>by rw[ar (au e hd)];exact a c ob e
theorem fA{H:Hp}{a b:Addr}{o o':HO}(ha:H a=some o)(hb:H b=some o')(h:o≠o'):a≠b:=λe=>by subst e;rw[ha]at hb;exact h (Option.some.inj hb)
theorem vc{to tv:TE}{f:Str}{K:Frag}{u:TS}{D:cD}{σ:St}{H:Hp}(P:V->Hp->Prop)(h:∀Q:VK,(∀v H',P v H'->Q v H')->tv σ H Q)(p C dx:Addr)(hto:∀H'(Q:VK),Q (.ref p) H'->to σ H' Q)(hc:mZ K C)(hn:bS K C f)
  (h2:∀v H',P v H'->∃fs,H' p=some (.ins C dx fs)/\fs.length<1000/\u D σ (upd H' p (.ins C dx (putF f v fs)))):bg (qb K to tv f) u D σ H:=
 h _ λv H' q=>by obtain⟨fs,e,l,r⟩:=h2 v H' q;exact hto _ _ ⟨p,C,dx,fs,rfl,e,hc,hn,l,r⟩
theorem oO{to tv:TE}{f:Str}{K:Frag}{D:cD}{σ:St}{H:Hp}(P:V->Hp->Prop)(h:∀Q:VK,(∀v H',P v H'->Q v H')->tv σ H Q)(p C dx:Addr)(hto:∀H'(Q:VK),Q (.ref p) H'->to σ H' Q)(hc:mZ K C)(hn:bS K C f)
  (h2:∀v H',P v H'->∃fs,H' p=some (.ins C dx fs)/\fs.length<1000/\D.nx σ (upd H' p (.ins C dx (putF f v fs)))):qb K to tv f D σ H:=
 h _ λv H' q=>by obtain⟨fs,e,l,r⟩:=h2 v H' q;exact hto _ _ ⟨p,C,dx,fs,rfl,e,hc,hn,l,r⟩
def Ev(t:TE)(σ:St)(H:Hp)(v:V):Prop:= ∀Q:VK,Q v H->t σ H Q
def Tv(t:TT)(σ:St)(H:Hp)(b:Bool):Prop:= ∀Q:Bool->Hp->Prop,Q b H->t σ H Q
def Av(t:TA)(σ:St)(H:Hp)(vs:List V):Prop:= ∀Q:List V->Hp->Prop,Q vs H->t σ H Q
section
variable{K:Frag}{σ:St}{H:Hp}{ta tb tc te to:TE}{t u:TT}{x y:V}{i j k:Int}{a b:Bool}{z z':Str}
theorem ao:Ev (tC x) σ H x:=λQ q=>q
theorem aa{n:Nat}(h:σ[n]? =some (some x)):Ev (bu n) σ H x:=λQ q=>by unfold bu;rw[h];exact q
theorem bM(ha:Ev ta σ H (.int i))(hb:Ev tb σ H (.int j)):Ev (iR .Add ta tb) σ H (.int (i+j)):=λQ q=>ha _ (hb _ q)
theorem js(ha:Ev ta σ H (.int i))(hb:Ev tb σ H (.int j)):Ev (iR .Sub ta tb) σ H (.int (i - j)):=λQ q=>ha _ (hb _ q)
theorem dE(ha:Ev ta σ H (.int i))(hb:Ev tb σ H (.int j))(h:uS i j):Ev (iR .Mult ta tb) σ H (.int (i*j)):=λQ q=>ha _ (hb _ ⟨h,q⟩)
theorem bL(ha:Ev ta σ H (.int i))(hb:Ev tb σ H (.int j))(h:By i j):Ev (iR .FloorDiv ta tb) σ H (.int (i / j)):=λQ q=>ha _ (hb _ ⟨h,q⟩)
theorem bd(ha:Ev ta σ H (.int i))(hb:Ev tb σ H (.int j))(h:0<j):Ev (iR .Mod ta tb) σ H (.int (i % j)):=λQ q=>ha _ (hb _ ⟨h,q⟩)
theorem fO(ha:Ev ta σ H (.int i)):Ev (v3 ta) σ H (.int (-i)):=λQ q=>ha _ q
theorem hV(ha:Ev ta σ H (.str z))(hb:Ev tb σ H (.str z'))(h:z.length+z'.length<=sizeLine):Ev (iR .Add ta tb) σ H (.str (z++z')):=λQ q=>ha _ (hb _ ⟨h,q⟩)
theorem cj{p:Addr}{f:Str}(ho:Ev to σ H (.ref p))(h:Fl K H p f x):Ev (Bg K to f) σ H x:=λQ q=>ho _ ⟨x,h,q⟩
theorem bK{p:Addr}{xs:List V}(ho:Ev to σ H (.ref p))(hi:Ev ta σ H (.int i))(h:aM K H p xs\/dC K H p xs)(e:iK xs i=some x):Ev (pN K to ta) σ H x:=λQ q=>ho _ (hi _ ⟨xs,x,h,e,q⟩)
theorem lr{c:Nat}(ho:Ev to σ H (.str z))(hi:Ev ta σ H (.int i))(h:z.length<=sizeLine)(e:iK z.cps.toList i=some c):Ev (pN K to ta) σ H (.str ⟨#[c]⟩):=λQ q=>ho _ (hi _ ⟨h,c,e,q⟩)
theorem cK{p:Addr}{xs:List V}(ho:Ev to σ H (.ref p))(h:aM K H p xs\/dC K H p xs):Ev (cB (tX K) (aV to ce)) σ H (.int xs.length):=λQ q=>ho _ ⟨xs,h,q⟩
theorem eS(ho:Ev to σ H (.str z))(h:z.length<=sizeLine):Ev (cB (tX K) (aV to ce)) σ H (.int z.length):=λQ q=>ho _ ⟨h,q⟩
theorem uq{p:Addr}{xs:List V}{T:BT}(ho:Ev to σ H (.ref p))(h:H p=some (.lst xs)):Ev (Bf T to) σ H (.bl (cT .list T)):=λQ q=>ho _ (vN h q)
theorem A3{p:Addr}{xs:List V}{T:BT}(ho:Ev to σ H (.ref p))(h:H p=some (.tup xs)):Ev (Bf T to) σ H (.bl (cT .tuple T)):=λQ q=>ho _ (vM h q)
theorem ur{T:BT}(ho:Ev to σ H (.int i)):Ev (Bf T to) σ H (.bl (cT .int T)):=λQ q=>ho _ q
theorem A4{T:BT}(ho:Ev to σ H (.str z)):Ev (Bf T to) σ H (.bl (cT .str T)):=λQ q=>ho _ q
theorem ul(ha:Ev ta σ H (.bl a)):Ev (zo ta) σ H (.bl (!a)):=λQ q=>ha _ q
theorem bY(ha:Ev ta σ H (.bl a))(hb:a=true->Ev tb σ H (.bl b)):Ev (uI ta tb) σ H (.bl (a&&b)):=λQ q=>ha _ (by
 cases a with
 |true=>exact hb rfl Q q
 |false=>exact q)
theorem DK(ha:Ev ta σ H (.bl a))(hb:a=false->Ev tb σ H (.bl b)):Ev (DW ta tb) σ H (.bl (a||b)):=λQ q=>ha _ (by
 cases a with
 |true=>exact q
 |false=>exact hb rfl Q q)
theorem pG(ht:Tv t σ H b)(h1:b=true->Ev ta σ H x)(h2:b=false->Ev tb σ H y):Ev (En t ta tb) σ H (if b=true then x else y):=λQ q=>ht _ (by
 cases b with
 |true=>exact jU (h1 rfl _ q)
 |false=>exact ll (h2 rfl _ q))
theorem eG(ha:Ev ta σ H (.int i))(hb:Ev tb σ H (.int j)):Ev (e7 K .Eq ta tb) σ H (.bl (decide (i=j))):=λQ q=>ha _ (hb _ q)
theorem mH(ha:Ev ta σ H (.int i))(hb:Ev tb σ H (.int j)):Ev (e7 K .NotEq ta tb) σ H (.bl (!decide (i=j))):=λQ q=>ha _ (hb _ q)
theorem zi(ha:Ev ta σ H (.int i))(hb:Ev tb σ H (.int j)):Ev (e7 K .Lt ta tb) σ H (.bl (decide (i<j))):=λQ q=>ha _ (hb _ q)
theorem zk(ha:Ev ta σ H (.int i))(hb:Ev tb σ H (.int j)):Ev (e7 K .Gt ta tb) σ H (.bl (decide (j<i))):=λQ q=>ha _ (hb _ q)
theorem DL(ha:Ev ta σ H (.int i))(hb:Ev tb σ H (.int j)):Ev (e7 K .GtE ta tb) σ H (.bl (decide (j<=i))):=λQ q=>ha _ (hb _ q)
theorem ju(ha:Ev ta σ H (.str z))(hb:Ev tb σ H (.str z')):Ev (e7 K .Eq ta tb) σ H (.bl (decide (z=z'))):=λQ q=>ha _ (hb _ q)
theorem um(ha:Ev ta σ H (.str z))(hb:Ev tb σ H (.str z')):Ev (e7 K .NotEq ta tb) σ H (.bl (!decide (z=z'))):=λQ q=>ha _ (hb _ q)
theorem A2{p q:Addr}(ha:Ev ta σ H (.ref p))(hb:Ev tb σ H (.ref q))(h:pQ K H 20 (.ref p) (.ref q) a):Ev (e7 K .NotEq ta tb) σ H (.bl (!a)):=λQ k=>ha _ (hb _ ⟨a,h,k⟩)
theorem my(i:Int)(ns:List Int):BB (.int i) (ns.map V.int)=decide (i∈ns):=by
 unfold BB;rw[JV]
 by_cases h:i∈ns
 .rw[E5 h];exact Jv.mpr ⟨i,h,by simp[eqV]⟩
 .rw[E6 h];apply JN.mpr;intro y hy;have:y≠i:=λe=>h (e▸hy);simp[eqV,this]
theorem zj{p:Addr}{ns:List Int}(ha:Ev ta σ H (.int i))(hb:Ev tb σ H (.ref p))(h:aM K H p (ns.map V.int)\/dC K H p (ns.map V.int)):Ev (e7 K .In ta tb) σ H (.bl (decide (i∈ns))):=λQ q=>ha _ (hb _ (by
 rw[kL];refine⟨p,_,rfl,h,rfl,kb ns,?_⟩;rw[my];exact q))
theorem lq{p:Addr}{ns:List Int}(ha:Ev ta σ H (.int i))(hb:Ev tb σ H (.ref p))(h:aM K H p (ns.map V.int)\/dC K H p (ns.map V.int)):Ev (e7 K .NotIn ta tb) σ H (.bl (!decide (i∈ns))):=λQ q=>ha _ (hb _ (by
 rw[iN];refine⟨p,_,rfl,h,rfl,kb ns,?_⟩;rw[my];exact q))
theorem pH(ha:Ev ta σ H (.int i))(hb:Ev tb σ H (.int j))(hc:i<=j->Ev tc σ H (.int k)):Ev (lC K .LtE .LtE ta tb tc) σ H (.bl (decide (i<=j/\j<=k))):=λQ q=>ha _ (hb _ (by
 rw[qf]
 by_cases h:i<=j
 .rw[E5 h];refine hc h _ ?_;have e:decide (i<=j/\j<=k)=decide (j<=k):=by simp[h]
  rw[e]at q;exact q
 .rw[E6 h];have e:decide (i<=j/\j<=k)=false:=by simp[h]
  rw[e]at q;exact q))
theorem aJ{sp:Sp}{t:TA}{vs:List V}(ht:Av t σ H vs)(h:∀Q:VK,Q x H->sp vs H Q E0):Ev (fH sp t) σ H x:=λQ q=>ht _ (h Q q)
theorem av:Av ce σ H []:=λQ q=>q
theorem ac{t:TA}{vs:List V}(ha:Ev ta σ H x)(ht:Av t σ H vs):Av (aV ta t) σ H (x::vs):=λQ q=>ha _ (ht _ q)
theorem mS{vs:List V}:Av (ER vs) σ H vs:=λQ q=>q
theorem bn(h:Ev te σ H (.bl b)):Tv (gn te) σ H b:=λQ q=>h _ q
theorem bQ(h:Tv t σ H b):Tv (sS t) σ H (!b):=λQ q=>h _ q
theorem fV(ha:Tv t σ H a)(hb:a=true->Tv u σ H b):Tv (Ah t u) σ H (a&&b):=λQ q=>ha _ (by
 cases a with
 |true=>exact jU (hb rfl _ q)
 |false=>exact ll q)
theorem fU(ha:Tv t σ H a)(hb:a=false->Tv u σ H b):Tv (Ed t u) σ H (a||b):=λQ q=>ha _ (by
 cases a with
 |true=>exact jU q
 |false=>exact ll (hb rfl _ q))
end
section
variable{te:TE}{c:TT}{t u:TS}{D:cD}{σ:St}{H:Hp}{v:V}{b:Bool}
theorem bp{i:Nat}(h:Ev te σ H v)(h2:u D (σ.set i (some v)) H):bg (tAsg te (gName i)) u D σ H:=h _ h2
theorem oM{i:Nat}(h:Ev te σ H v)(h2:D.nx (σ.set i (some v)) H):tAsg te (gName i) D σ H:=h _ h2
theorem aO(h:Ev te σ H v)(h2:D.rt v H):cp te D σ H:=h _ h2
theorem bC(hc:Tv c σ H b)(h1:b=true->t {D with nx:=u D} σ H)(h2:b=false->u D σ H):bg (na c t oK) u D σ H:=hc _ (by
 cases b with
 |true=>exact jU (h1 rfl)
 |false=>exact ll (h2 rfl))
theorem fJ(hc:Tv c σ H b)(h1:b=true->t D σ H)(h2:b=false->D.nx σ H):na c t oK D σ H:=hc _ (by
 cases b with
 |true=>exact jU (h1 rfl)
 |false=>exact ll (h2 rfl))
end
section
variable{K:Frag}{σ rest:St}{H:Hp}{tl te:TE}{tt:TT}{src:List (Option Nat)}{Q:VK}
theorem bW:Tv iB σ H true:=λQ q=>q
theorem ia{J:It}{xs:List V}(hz:xs.length<=sizeLine)(hs:dR src σ=none::rest)(p:V->Bool)(f:V->V)(hgo:∀i,i<xs.length->J.go i H)(hstop:J.stop xs.length H)(hyld:∀i v H',i<xs.length->J.yld i H v H'->H'=H/\xs[i]? =some v)
  (ht:∀x∈xs,Tv tt (some x::rest) H (p x)) (he:∀x∈xs,p x=true->Ev te (some x::rest) H (f x)) (q:∀d',H d'=none->Q (.ref d') (upd H d' (.lst ((xs.filter p).map f)))):gm (gName 0) tt te src σ Q J H:=by
 refine⟨λi m ys σ' H'=>m=xs.length - i/\i<=xs.length/\ys=((xs.take i).filter p).map f/\(∃o,σ'=o::rest)/\H'=H,⟨xs.length,by simp,Kh _,by simp,⟨none,hs⟩,rfl⟩,?_⟩;rintro i m ys σ' H' ⟨rfl,hi,rfl,⟨o,rfl⟩,rfl⟩
 by_cases hlt:i<xs.length
 .refine .inr ⟨hgo i hlt,?_,λx H2 y=>?_⟩
  .rw[IL];have h1:=J4 p (xs.take i);rw[IX]at h1;omega
  .obtain⟨rfl,hx⟩:=hyld i x H2 hlt y;have tk:(xs.take (i+1)).filter p=(xs.take i).filter p++(if p x then [x]else []):=take_succ_filter p xs i x hx;have hm:x∈xs:=Jm hx;show tt (some x::rest) H2 _;refine ht x hm _ ?_;cases hp:p x with
   |true=>
    refine jU (he x hm hp _ ?_);refine⟨xs.length - (i+1),by omega,rfl,hlt,?_,⟨_,rfl⟩,rfl⟩;rw[tk,hp,E8 rfl,IV];rfl
   |false=>
    refine ll ?_;refine⟨xs.length - (i+1),by omega,rfl,hlt,?_,⟨_,rfl⟩,rfl⟩;rw[tk,hp,E7 (by simp),Jj]
 .have e:i=xs.length:=by omega
  subst e;refine .inl ⟨hstop,λd hd=>?_⟩;rw[List.take_length];exact q d hd
theorem du{d:Addr}{xs:List V}(hl:Ev tl σ H (.ref d))(hx:aM K H d xs)(hz:xs.length<=sizeLine)(hs:dR src σ=none::rest)(p:V->Bool)(f:V->V)
  (ht:∀x∈xs,Tv tt (some x::rest) H (p x)) (he:∀x∈xs,p x=true->Ev te (some x::rest) H (f x)) (q:∀d',H d'=none->Q (.ref d') (upd H d' (.lst ((xs.filter p).map f)))):tComp (mz K tl) (gName 0) tt te src σ H Q:=
 hl _ ⟨d,rfl,⟨xs,hx⟩,ia hz hs p f (λi hi=>⟨xs,xs[i],hx,IP hi⟩) ⟨xs,hx,Kd _⟩ (λi v H' _ y=>⟨y.1,y.2 xs hx⟩) ht he q⟩
theorem gk{ta:TA}{n:Int}(hl:Av ta σ H [.int n])(h0:0<=n)(hz:n.toNat<=sizeLine)(h1:n<2 ^ 62)(hs:dR src σ=none::rest)(p:V->Bool)(f:V->V)
  (ht:∀i:Nat,i<n.toNat->Tv tt (some (.int (0+(i:Int)))::rest) H (p (.int (0+(i:Int))))) (he:∀i:Nat,i<n.toNat->p (.int (0+(i:Int)))=true->Ev te (some (.int (0+(i:Int)))::rest) H (f (.int (0+(i:Int)))))
  (q:∀d',H d'=none->Q (.ref d') (upd H d' (.lst ((((List.range n.toNat).map λ(i:Nat)=>V.int (0+(i:Int))).filter p).map f)))):tComp (j8 ta) (gName 0) tt te src σ H Q:=by
 have hin:∀x∈(List.range n.toNat).map λ(i:Nat)=>V.int (0+(i:Int)),∃i:Nat,i<n.toNat/\x=.int (0+(i:Int)):=λx hx=>by obtain⟨i,hi,rfl⟩:=IR.mp hx;exact⟨i,Jb.mp hi,rfl⟩
 have hlen:((List.range n.toNat).map λ(i:Nat)=>V.int (0+(i:Int))).length=n.toNat:=by simp
 refine hl _ ⟨n,rfl,by omega,h1,ia (xs:=(List.range n.toNat).map λ(i:Nat)=>V.int (0+(i:Int))) (by rw[hlen];exact hz) hs p f (λi hi=>by rw[hlen]at hi;exact hi) (by rw[hlen];exact Kd _) (λi v H' hi y=>⟨y.1,?_⟩) (λx hx=>?_) (λx hx hp=>?_) q⟩
 .rw[hlen]at hi;rw[IU,Ju hi,y.2];rfl
 .obtain⟨i,hi,rfl⟩:=hin x hx;exact ht i hi
 .obtain⟨i,hi,rfl⟩:=hin x hx;exact he i hi hp
end
section
variable{K:Frag}{te to tv:TE}{t:TA}{c:TT}{u:TS}{D:cD}{σ:St}{H:Hp}{v x y:V}
theorem vT{C p:Addr}{m:Str}{sp:Sp}{vs:List V}(ho:Ev to σ H (.ref p))(hi:uR C m H p)(ht:Av t σ H vs)(h:∀Q:VK,Q x H->sp (.ref p::vs) H Q E0):Ev (zp C m sp to t) σ H x:=λQ q=>ho _ ⟨hi,ht _ (h Q q)⟩
theorem Ai{l:Addr}{xs:List V}(ho:Ev to σ H (.ref l))(he:Ev te σ H y)(hl:H l=some (.lst xs))(hz:xs.length<sizeLine)(h2:u D σ (upd H l (.lst (xs++[y])))):bg (lO (Bh to te)) u D σ H:=ho _ ⟨⟨xs,hl⟩,he _ ⟨xs,hl,hz,h2⟩⟩
theorem oP{l:Addr}{xs:List V}(ho:Ev to σ H (.ref l))(he:Ev te σ H y)(hl:H l=some (.lst xs))(hz:xs.length<sizeLine)(h2:D.nx σ (upd H l (.lst (xs++[y])))):lO (Bh to te) D σ H:=ho _ ⟨⟨xs,hl⟩,he _ ⟨xs,hl,hz,h2⟩⟩
theorem ni{f:Str}{p C dx:Addr}{fs:List (Str×V)}(h:Ev tv σ H v)(ho:Ev to σ H (.ref p))(hp:H p=some (.ins C dx fs))(hc:mZ K C)(hn:bS K C f)(hl:fs.length<1000)(h2:u D σ (upd H p (.ins C dx (putF f v fs)))):bg (qb K to tv f) u D σ H:=h _ (ho _ ⟨p,C,dx,fs,rfl,hp,hc,hn,hl,h2⟩)
theorem sW{i:Nat}(h2:∀q,H q=none->u D (σ.set i (some (.ref q))) (upd H q (.lst []))):bg (tAsg (jF ce) (gName i)) u D σ H:=⟨Kh _,λq hq=>h2 q hq⟩
end
section
variable{K:Frag}{te to ta tb ti:TE}{t:TA}{c:TT}{σ:St}{H:Hp}{Q:VK}{R:Bool->Hp->Prop}{v x y:V}{vs:List V}{sp:Sp}
theorem qK(h:Ev te σ H v)(q:Q v H):te σ H Q:=h Q q
theorem eV(h:Av t σ H vs)(q:sp vs H Q E0):fH sp t σ H Q:=h _ q
theorem ix(h:Av t σ H vs)(q:sp vs H (di λc H1=>R (!c) H1) E0):sS (gn (fH sp t)) σ H R:=h _ q
theorem ES{r:List V->Hp->VK->Prop}(h:Ev to σ H v)(q:r [v] H Q):cB r (aV to ce) σ H Q:=h _ q
theorem tT{i:Int}(h:Av t σ H vs)(hz:vs.length<=1000)(hi:∀H',Ev ti σ H' (.int i))(e:iK vs i=some v)(q:∀H',al H H'->Q v H'):pN K (jF t) ti σ H Q:=h _ ⟨Kg hz (by decide),λp hp=>hi _ _ ⟨vs,v,.inl (aM.of af),e,q _ ((al.refl H).upd hp)⟩⟩
end
section
variable{K:Frag}{te to ta tb:TE}{D:cD}{σ:St}{H:Hp}{Q:VK}{x y:V}
theorem vE{C d:Addr}{sp:Sp}{tc:TE}{ys:List V}(ha:Ev ta σ H x)(hb:Ev tb σ H y)(hc:Ev tc σ H (.ref d))(hd:aM K H d ys\/dC K H d ys)
  (q:∀l,H l=none->∀p dx,(upd H l (.lst ys)) p=none->(upd H l (.lst ys)) dx=none->dx≠p->sp [.ref p,x,y,.ref l] (upd (upd (upd H l (.lst ys)) dx (.own p)) p (.ins C dx [])) (λv H2=>v=.non/\Q (.ref p) H2) E0):
  uH C sp (aV ta (aV tb (aV (cB (j6 K) (aV tc ce)) ce))) σ H Q:=ha _ (hb _ (hc _ ⟨ys,hd,λl hl=>λp dx np nd ne=>q l hl p dx np nd ne⟩))
end
structure iS(K:Frag)(C:Addr):Prop where
 cl:mZ K C
 wide:bS K C "wide"
 high:bS K C "high"
 holes:bS K C "holes"
 firm:bS K C "firm"
def gp(wi hi:Int)(ph pf:Addr):List (Str×V):=putF "firm" (.ref pf) (putF "holes" (.ref ph) (putF "high" (.int hi) (putF "wide" (.int wi) [])))
theorem v4(wi hi:Int)(ph pf:Addr):(gp wi hi ph pf).lookup ("wide":Str)=some (.int wi):=by unfold gp;rw[az,E7 (by decide+kernel),az,E7 (by decide+kernel),az,E7 (by decide+kernel),az,E8 rfl]
theorem v5(wi hi:Int)(ph pf:Addr):(gp wi hi ph pf).lookup ("high":Str)=some (.int hi):=by unfold gp;rw[az,E7 (by decide+kernel),az,E7 (by decide+kernel),az,E8 rfl]
theorem uJ(wi hi:Int)(ph pf:Addr):(gp wi hi ph pf).lookup ("holes":Str)=some (.ref ph):=by unfold gp;rw[az,E7 (by decide+kernel),az,E8 rfl]
theorem v6(wi hi:Int)(ph pf:Addr):(gp wi hi ph pf).lookup ("firm":Str)=some (.ref pf):=by unfold gp;rw[az,E8 rfl]
theorem DZ(wi hi:Int)(ph pf:Addr){m:Str}(h1:¬m="wide")(h2:¬m="high")(h3:¬m="holes")(h4:¬m="firm"):(gp wi hi ph pf).lookup m=none:=by unfold gp;rw[az,E7 h4,az,E7 h3,az,E7 h2,az,E7 h1];rfl
def firmL(wi hi:Int)(hs:List Int):List Bool:=(List.range (wi*hi).toNat).map λ(s:Nat)=> !decide ((s:Int)∈hs)
structure cc(K:Frag)(C:Addr)(H:Hp)(p:Addr)(wi hi:Int)(hs:List Int):Prop where
 ex:∃dx ph pf,H p=some (.ins C dx (gp wi hi ph pf))/\H ph=some (.lst (hs.map V.int))/\H pf=some (.lst ((firmL wi hi hs).map V.bl))
 w1:1<=wi
 w8:wi<=8
 h1:1<=hi
 h8:hi<=8
 good:∀h∈hs,0<=h/\h<wi*hi
 srt:hs.Pairwise (·<=·)
 nd:hs.Nodup
section
variable{K:Frag}{C:Addr}{H H':Hp}{p:Addr}{wi hi:Int}{hs:List Int}
theorem cc.same(B:cc K C H p wi hi hs)(s:al H H'):cc K C H' p wi hi hs:=by obtain⟨⟨dx,ph,pf,a,b,c⟩,w1,w8,h1,h8,g,sr,nd⟩:=B;exact⟨⟨dx,ph,pf,s _ _ a,s _ _ b,s _ _ c⟩,w1,w8,h1,h8,g,sr,nd⟩
theorem cc.wide(B:cc K C H p wi hi hs)(D:iS K C):Fl K H p "wide" (.int wi):=by obtain⟨dx,ph,pf,a,_,_⟩:=B.ex;exact⟨C,dx,_,a,D.cl,D.wide,v4 _ _ _ _⟩
theorem cc.high(B:cc K C H p wi hi hs)(D:iS K C):Fl K H p "high" (.int hi):=by obtain⟨dx,ph,pf,a,_,_⟩:=B.ex;exact⟨C,dx,_,a,D.cl,D.high,v5 _ _ _ _⟩
theorem cc.firm(B:cc K C H p wi hi hs)(D:iS K C):∃pf,Fl K H p "firm" (.ref pf)/\H pf=some (.lst ((firmL wi hi hs).map V.bl)):=by obtain⟨dx,ph,pf,a,_,c⟩:=B.ex;exact⟨pf,⟨C,dx,_,a,D.cl,D.firm,v6 _ _ _ _⟩,c⟩
theorem cc.holes(B:cc K C H p wi hi hs)(D:iS K C):∃ph,Fl K H p "holes" (.ref ph)/\H ph=some (.lst (hs.map V.int)):=by obtain⟨dx,ph,pf,a,b,c⟩:=B.ex;exact⟨ph,⟨C,dx,_,a,D.cl,D.holes,uJ _ _ _ _⟩,b⟩
theorem cc.no(B:cc K C H p wi hi hs){m:Str}(h1:¬m="wide":=by decide+kernel)(h2:¬m="high":=by decide+kernel)(h3:¬m="holes":=by decide+kernel)(h4:¬m="firm":=by decide+kernel):uR C m H p:=by obtain⟨dx,ph,pf,a,b,c⟩:=B.ex;exact⟨dx,_,a,DZ _ _ _ _ h1 h2 h3 h4⟩
theorem cc.many(B:cc K C H p wi hi hs):1<=wi*hi/\wi*hi<=64:=by have a:=B.w1;have b:=B.w8;have c:=B.h1;have d:=B.h8;have e1:1*1<=wi*hi:=KB a c (by omega) (by omega);have e2:wi*hi<=8*8:=KB b d (by omega) (by omega);omega
theorem vQ{s:Int}(h0:0<=s)(h1:s<wi*hi):iK ((firmL wi hi hs).map V.bl) s=some (.bl (!decide (s∈hs))):=by
 have e:s=((s.toNat:Nat):Int):=by omega
 have hl:s.toNat<(wi*hi).toNat:=by omega
 have:((firmL wi hi hs).map V.bl)[s.toNat]? =some (.bl (!decide (((s.toNat:Nat):Int)∈hs))):=by unfold firmL;rw[IU,IU,Ju hl];rfl
 have q:=bD this;rw[<-e]at q;exact q
theorem uj:(firmL wi hi hs).length=(wi*hi).toNat:=by unfold firmL;simp
end
def sqK(wi s ax up:Int)(k:Nat):Int:=(s / wi+k*up)*wi+(s % wi+k*ax)
def okK(wi hi:Int)(hs:List Int)(s ax up:Int)(k:Nat):Prop:=0<=s % wi+k*ax/\s % wi+k*ax<wi/\0<=s / wi+k*up/\s / wi+k*up<hi/\¬sqK wi s ax up k∈hs
instance {wi hi:Int} {hs:List Int} {s ax up:Int} {k:Nat}:Decidable (okK wi hi hs s ax up k):=by unfold okK;infer_instance
def yU:Sp:=λvs H Q _=>∃t a b:Int,vs=[.int t,.int a,.int b]/\Q (.bl (decide (a<=t/\t<=b))) H
def lZ:Sp:=λvs H Q _=>∃(d:Addr)(m:Int)(hs:List Int),vs=[.ref d,.int m]/\H d=some (.lst (hs.map V.int))/\(∀h∈hs,0<=h/\h<m)/\hs.Nodup/\(hs.length:Int)<m/\m<=64/\∀H',al H H'->Q (.bl true) H'
def pc(K:Frag)(C:Addr):Sp:=λvs H Q _=>∃(p d dx:Addr)(wi hi:Int)(hs:List Int),vs=[.ref p,.int wi,.int hi,.ref d]/\H p=some (.ins C dx [])/\H d=some (.lst (hs.map V.int))/\1<=wi/\wi<=8/\1<=hi/\hi<=8/\(∀h∈hs,0<=h/\h<wi*hi)/\hs.Nodup/\(hs.length:Int)<wi*hi/\
 ∀(hs':List Int) H',hs'.Perm hs->cc K C H' p wi hi hs'->SameBut p H H'->Q .non H'
structure CA(P:Fn)(w:Fp)(K:Frag)(mg:Fc)(E3:Fw):Prop where
 is_among:eK P w K mg E3 "is_among" ["thing","least","most"] 2 yU
structure CB2(P:Fn)(w:Fp)(K:Frag)(mg:Fc)(E3:Fw):Prop extends CA P w K mg E3 where
 are_holes:eK P w K mg E3 "are_holes" ["thing","many"] 3 lZ
section
variable{X:Cx}{gV:Fe}{σ:St}{H:Hp}{s:Fi}{h':Fw}
theorem aC.turned_laid{t':Nat}{e it a:Addr}{o:HO}(I:aC X gV σ H s)(k:∀b ob,b≠e->b≠it->s.heap.get? b=some ob->h'.get? b=some ob)(he:fT X gV H e)(hi:fT X gV H it)(hp:s.heap.objs.size<=a)(new:bF X.prog X.w (upd H a o) h' a o):
  aC X gV σ (upd H a o) {s with heap:=h',toks:=t'}:=by
 obtain⟨e0,e1,e2,e3,e4,e5⟩:=he;obtain⟨i0,i1,i2,i3,i4,i5⟩:=hi;have hn:H a=none:=I.hok.fresh hp;have ne:∀b u,H b=some u->b≠e:=λb u q z=>by rw[z,e0]at q;cases q
 have nit:∀b u,H b=some u->b≠it:=λb u q z=>by rw[z,i0]at q;cases q
 have kk:∀b ob,b∉[e,it]->s.heap.get? b=some ob->h'.get? b=some ob:=λb ob hc q=>k b ob (λz=>hc (by simp[z])) (λz=>hc (by simp[z])) q;refine I.step (g':=s.gens) (d':=s.drawn) (ch:=[e,it]) (λb hb=>?_) (λb ob _ _ hc q _=>kk b ob hc q) (λb ob _ _ hc q _=>⟨ob.slots,kk b ob hc q⟩)
  (λb ob hc q n=>by rw[ar (Ke (Ki (Fk q) hp))];exact n) (λb ob hc q=>⟨ob,kk b ob hc q⟩) (λb xs q=>by rw[ar (au q hn)];exact q) (λb ob u q=>by rw[ar (au q hn)];exact q)
  (λb ps q=>⟨#[],by rw[ar (au q hn),q];simp⟩) (λm hm=>?_) (λb u q=>?_) I.bare
 .rcases IN.mp hb with rfl|hb
  .exact⟨e3,e1,e4,e5⟩
  .rw[IS.mp hb];exact⟨i3,i1,i4,i5⟩
 .obtain⟨ob,es,ep,ho,r⟩:=hm;exact⟨ob,es,ep,k _ ob (Ne.symm e1) (Ne.symm i1) ho,r⟩
 .by_cases hb:b=a
  .subst hb;rw[af]at q;cases q;exact new
  .rw[ar hb]at q;refine(I.hok b u q).stay (λc v hc z=>k c v ?_ ?_ z) (λc z=>by rw[ar (au z hn)];exact z) λc xs z=>by rw[ar (au z hn)];exact z
   .rcases hc with z|z
    .rw[z];exact ne b u q
    .exact ne c _ z
   .rcases hc with z|z
    .rw[z];exact nit b u q
    .exact nit c _ z
theorem aC.turned2{t':Nat}{e it:Addr}(I:aC X gV σ H s)(k:∀b ob,b≠e->b≠it->s.heap.get? b=some ob->h'.get? b=some ob)(he:fT X gV H e)(hi:fT X gV H it):aC X gV σ H {s with heap:=h',toks:=t'}:=by
 obtain⟨e0,e1,e2,e3,e4,e5⟩:=he;obtain⟨i0,i1,i2,i3,i4,i5⟩:=hi;have ne:∀b u,H b=some u->b≠e:=λb u q z=>by rw[z,e0]at q;cases q
 have nit:∀b u,H b=some u->b≠it:=λb u q z=>by rw[z,i0]at q;cases q
 have kk:∀b ob,b∉[e,it]->s.heap.get? b=some ob->h'.get? b=some ob:=λb ob hc q=>k b ob (λz=>hc (by simp[z])) (λz=>hc (by simp[z])) q;refine I.step (g':=s.gens) (d':=s.drawn) (ch:=[e,it]) (λb hb=>?_) (λb ob _ _ hc q _=>kk b ob hc q) (λb ob _ _ hc q _=>⟨ob.slots,kk b ob hc q⟩)
  (λ_ _ _ _ n=>n) (λb ob hc q=>⟨ob,kk b ob hc q⟩) (λ_ _ q=>q) (λ_ _ _ q=>q)
  (λb ps q=>⟨#[],by rw[q];simp⟩) (λm hm=>?_) (λb u q=>?_) I.bare
 .rcases IN.mp hb with rfl|hb
  .exact⟨e3,e1,e4,e5⟩
  .rw[IS.mp hb];exact⟨i3,i1,i4,i5⟩
 .obtain⟨ob,es,ep,ho,r⟩:=hm;exact⟨ob,es,ep,k _ ob (Ne.symm e1) (Ne.symm i1) ho,r⟩
 .refine(I.hok b u q).stay (λc v hc z=>k c v ?_ ?_ z) (λc z=>z) λc xs z=>z
  .rcases hc with z|z
   .rw[z];exact ne b u q
   .exact ne c _ z
  .rcases hc with z|z
   .rw[z];exact nit b u q
   .exact nit c _ z
end
def D9(K:Frag)(a:Addr):It:=
 ⟨λi H=>∃xs x,aM K H a xs/\xs[i]? =some x,λi H x H'=>∃t v,x=.ref t/\H t=none/\H'=upd H t (.tup [.int (i:Int),v])/\∀xs,aM K H a xs->xs[i]? =some v,λi H=>∃xs,aM K H a xs/\xs.length<=i⟩
theorem m6{P:Fn}{w:Fp}{K:Frag}{elts:List FA}{k0:Nat}{pos:GO}(a e it:Addr)(hne:e≠it):oA P w K (.Tuple elts k0 pos) (D9 K a) [e,it] e (λi h=>(∃old,IsEnum h e it (i:Int) old)/\h.IsListIter it a i) where
 mem:=by simp
 obj:=λi h st b hb=>by
  obtain⟨⟨old,he⟩,o,ho,c,d⟩:=st
  rcases IN.mp hb with rfl|hb
  .exact⟨_,he,λv z=>by cases z⟩
  .rw[IS.mp hb];exact⟨o,ho,λv z=>by rw[d]at z;cases z⟩
 keep:=λi h h' st k=>by obtain⟨⟨old,he⟩,hi⟩:=st;exact⟨⟨old,k e (by simp) _ he⟩,hi.at λo x=>k it (by simp) o x⟩
 item:=by
  intro X hP hw hK hc i gV s σ H E I hf st hg;subst hP hw hK;obtain⟨xs,x,hq,hx⟩:=hg;obtain⟨its,rv,p,hz⟩:=I.list hq;obtain⟨u,hu,ru⟩:=rv.get hx;obtain⟨⟨old,he⟩,hit⟩:=st;have fe:=hf e (by simp);have fi:=hf it (by simp);obtain⟨oL,hoL,hcL,nL,hdL⟩:=p.isList;have hai:a≠it:=λz=>by subst z;obtain⟨o',ho',hc',_⟩:=hit;rw[hoL]at ho';cases ho';rw[hcL]at hc';injection hc' with hz';exact Fb hz' (by decide)
  have hae:a≠e:=λz=>by subst z;have he':s.heap.get? a=_:=he;rw[hoL]at he';cases he';injection hcL with hz';exact Fb hz' (by decide)
  have D:=Draws.list (prog:=X.prog) (w:=X.w) (A:=X.A.in1) (by show X.A.handled=none;exact I.ok.hd hc) it a hai its.toArray;have hlt:i<its.toArray.size:=by have:=(Je.mp hu).1;simpa using this
  refine Hv D he ⟨hit,p.isList⟩ hlt hne (by simp[hne,hae.symm]) λx' h1 tk hP' ho hs' hT hsz hk=>?_;have ex:x'=u:=by have:its.toArray[i]? =some x':=hP';rw[J6,hu]at this;exact(Option.some.inj this).symm
  subst ex;refine⟨_,rfl,He ho λh2 he2 sb=>?_⟩;have hlt2:e<s.heap.objs.size:=Fk he;have kk:∀b ob,b≠e->b≠it->s.heap.get? b=some ob->h2.get? b=some ob:=λb ob b1 b2 q=>(sb.2 b b1).trans (hk b ob b1 b2 q);have hT2:h2.get? s.heap.objs.size=some {cls:=.type "tuple",data:=.seq #[.int i tk,x']}:=(sb.2 _ (Kl hlt2)).trans hT;have new:bF X.prog X.w (upd H s.heap.objs.size (.tup [.int (i:Int),x])) h2 s.heap.objs.size (.tup [.int (i:Int),x]):=
   ⟨by show 2<=sizeLine;decide,[.int i tk,x'],.cons ⟨tk,rfl⟩ (.cons ru .nil),⟨_,hT2,rfl,_,rfl⟩⟩
  have I2:=I.turned_laid (t':=tk+1) kk fe fi (Kd _) new;refine⟨.ref s.heap.objs.size,_,I2,rfl,⟨_,x,rfl,I.hok.fresh (Kd _),rfl,λys hy=>by rw[I.list_inj hy hq];exact hx⟩,⟨⟨_,by simpa using he2⟩,hs'.1.at λo z=>(sb.2 it (Ne.symm hne)).trans z⟩,λb hb=>?_⟩
  rcases IN.mp hb with rfl|hb
  .rw[ar (Ke hlt2)];exact fe.1
  .rw[IS.mp hb];obtain⟨o',ho',_⟩:=hit;rw[ar (Ke (Fk ho'))];exact fi.1
 done:=by
   intro X hP hw hK hc i gV s σ H E I hf st hg;subst hP hw hK;obtain⟨xs,hq,hx⟩:=hg;obtain⟨its,rv,p,hz⟩:=I.list hq;obtain⟨⟨old,he⟩,hit⟩:=st;have fe:=hf e (by simp);have fi:=hf it (by simp);have hl:=rv.length;obtain⟨oL,hoL,hcL,nL,hdL⟩:=p.isList;have hai:a≠it:=λz=>by subst z;obtain⟨o',ho',hc',_⟩:=hit;rw[hoL]at ho';cases ho';rw[hcL]at hc';injection hc' with hz';exact Fb hz' (by decide)
   have hT:s.TypeIs (.ref e) "enumerate":=⟨_,he,rfl⟩;unfold HK;refine Ff (GU (FZ (name:=GJ "__next__") hT HR
    (GQ HR hT F.entry_enumerate_next ?_ (F.args_enumerate_next_1 _))))
   show Fs _ _ (field (.ref e) 2 >>= _) _ _ _;refine Ff (FS he rfl (x:=.ref it) rfl ?_);refine Ff (wpAny_nextOf_list_end (by show X.A.handled=none;exact I.ok.hd hc) hit p.isList (by simp;omega) λh' x he' hx'=>?_);obtain⟨o,ho,hcx⟩:=hx';refine Ff (GP (T:="StopIteration") (b:=true) ⟨o,ho,hcx⟩ isSubtype_stop ?_);exact Fm ⟨rfl,I.turned2 (t':=s.toks) (λb ob _ b2 q=>he' b ob b2 q) fe fi⟩
 self:=λA i s Q E st h=>by obtain⟨⟨old,he⟩,_⟩:=st;exact GG he h
def uQ(x:Str):It:=
 ⟨λi _=>i<x.cps.size,λi H v H'=>∃t c,v=.ref t/\H t=none/\x.cps.toList[i]? =some c/\H'=upd H t (.tup [.int (i:Int),.str ⟨#[c]⟩]),λi _=>i=x.cps.size⟩
theorem fF{prog:Fn}{w:Fp}{A:Fz}(hh:A.handled=none)(it:Addr)(x:Str)(t:IF):Draws prog w A it [it] x.cps.size (λi v=>∃c u,x.cps[i]? =some c/\v=.str ⟨#[c]⟩ u) (λi h=>h.IsStrIter it (Gc x) x t i):=by
 unfold Gc;split
 .exact Draws.strAscii hh it x t
 .exact Draws.strWide hh it x t
theorem m5{P:Fn}{w:Fp}{K:Frag}{elts:List FA}{k0:Nat}{pos:GO}(e it:Addr)(x:Str)(t:IF)(hne:e≠it):oA P w K (.Tuple elts k0 pos) (uQ x) [e,it] e (λi h=>(∃old,IsEnum h e it (i:Int) old)/\h.IsStrIter it (Gc x) x t i) where
 mem:=by simp
 obj:=λi h st b hb=>by
  obtain⟨⟨old,he⟩,o,ho,c,d⟩:=st
  rcases IN.mp hb with rfl|hb
  .exact⟨_,he,λv z=>by cases z⟩
  .rw[IS.mp hb];exact⟨o,ho,λv z=>by rw[d]at z;cases z⟩
 keep:=λi h h' st k=>by obtain⟨⟨old,he⟩,o,ho,r⟩:=st;exact⟨⟨old,k e (by simp) _ he⟩,o,k it (by simp) o ho,r⟩
 item:=by
  intro X hP hw hK hc i gV s σ H E I hf st hg;subst hP hw hK;obtain⟨⟨old,he⟩,hit⟩:=st;have fe:=hf e (by simp);have fi:=hf it (by simp);have D:=fF (prog:=X.prog) (w:=X.w) (A:=X.A.in1) (by show X.A.handled=none;exact I.ok.hd hc) it x t;refine Hv D he hit hg hne (by simp[hne]) λx' h1 tk hP' ho hs' hT hsz hk=>?_;obtain⟨c,u,hcx,rfl⟩:=hP';refine⟨_,rfl,He ho λh2 he2 sb=>?_⟩;have hlt2:e<s.heap.objs.size:=Fk he;have kk:∀b ob,b≠e->b≠it->s.heap.get? b=some ob->h2.get? b=some ob:=λb ob b1 b2 q=>(sb.2 b b1).trans (hk b ob b1 b2 q);have hT2:h2.get? s.heap.objs.size=some {cls:=.type "tuple",data:=.seq #[.int i tk,.str ⟨#[c]⟩ u]}:=(sb.2 _ (Kl hlt2)).trans hT;have new:bF X.prog X.w (upd H s.heap.objs.size (.tup [.int (i:Int),.str ⟨#[c]⟩])) h2 s.heap.objs.size (.tup [.int (i:Int),.str ⟨#[c]⟩]):=
   ⟨by show 2<=sizeLine;decide,[.int i tk,.str ⟨#[c]⟩ u],.cons ⟨tk,rfl⟩ (.cons ⟨u,rfl⟩ .nil),⟨_,hT2,rfl,_,rfl⟩⟩
  have I2:=I.turned_laid (t':=tk+1) kk fe fi (Kd _) new;have hs2:h2.IsStrIter it (Gc x) x t (i+1):=by obtain⟨o',ho',r⟩:=hs';exact⟨o',(sb.2 it (Ne.symm hne)).trans ho',r⟩
  refine⟨.ref s.heap.objs.size,_,I2,rfl,⟨_,c,rfl,I.hok.fresh (Kd _),by rw[KR];exact hcx,rfl⟩,⟨⟨_,by simpa using he2⟩,hs2⟩,λb hb=>?_⟩
  rcases IN.mp hb with rfl|hb
  .rw[ar (Ke hlt2)];exact fe.1
  .rw[IS.mp hb];obtain⟨o',ho',_⟩:=hit;rw[ar (Ke (Fk ho'))];exact fi.1
 done:=by intro X hP hw hK hc i gV s σ H E I hf st hg;subst hP hw hK;obtain⟨⟨old,he⟩,hit⟩:=st;have hg:i=x.cps.size:=hg;subst hg;have fe:=hf e (by simp);have fi:=hf it (by simp);have D:=fF (prog:=X.prog) (w:=X.w) (A:=X.A.in1) (by show X.A.handled=none;exact I.ok.hd hc) it x t;exact wpAny_pyNext_enum_endD D he hit λh' hx=>⟨rfl,I.turned2 (t':=s.toks) (λb ob _ b2 q=>hx b ob b2 q) fe fi⟩
 self:=λA i s Q E st h=>by obtain⟨⟨old,he⟩,_⟩:=st;exact GG he h
section
variable{X:Cx}{p pos pos2:GO}{a:FA}{elts:List FA}{k0:Nat}{ta:TE}
def t6(K:Frag)(ta:TE):TI:=λσ H R=>ta σ H λx H1=>match x with
 | .ref d=>(∃xs,aM K H1 d xs)/\R (D9 K d) H1
 | .str z=>R (uQ z) H1
 |_=>False
theorem vp(hm:X.mg "enumerate"=none)(ha:PE X a ta)(hg:Gl X "enumerate":=by rfl)(hs:Fj [a] X.env=[(false,FF a X.env)]:=by rfl):PI X (.Tuple elts k0 pos2) (.Call (.Name "enumerate" p) [a] [] pos) (t6 X.K ta):=by
 intro gV s σ H R I h;have hA:PA X [a] (aV ta ce):=pa_cons ha pa_nil (by rw[hs];rfl);refine Call_ (eE I hg hm lF (PyProof.Rows.callWith_type1 (bJ (hA pos gV s σ H (λvs H1=>∃x,vs=[x]/\(match x with| .ref d=>(∃xs,aM X.K H1 d xs)/\R (D9 X.K d) H1| .str z=>R (uQ z) H1|_=>False)) I ?_) λus s1 ⟨vs,H1,I1,r1,x,e1,q1⟩=>?_) (by rw[hs];rfl) rfl) (by decide) (by decide))
 .show ta σ H _;have e:(λ(x:V)(H1:Hp)=>match x with| .ref d=>(∃xs,aM X.K H1 d xs)/\R (D9 X.K d) H1| .str z=>R (uQ z) H1|_=>False)=λx H1=>ce σ H1 λxs H2=>∃y,x::xs=[y]/\(match y with| .ref d=>(∃xs,aM X.K H2 d xs)/\R (D9 X.K d) H2| .str z=>R (uQ z) H2|_=>False):=by
   funext x H1;apply propext
   constructor
   .intro q;exact⟨x,rfl,q⟩
   .rintro⟨y,e,q⟩;have:x=y:=by injection e
    subst this;exact q
  rw[<-e];exact h
 .subst e1;obtain⟨u,rfl,ru⟩:=cU r1;cases x with
  |ref d=>
   obtain⟨⟨xs,hq⟩,q⟩:=q1;cases ru;obtain⟨its,rv,pl,hz⟩:=I1.list hq;refine call_enumerate_list pl.isList λh' he hit hsz hk=>?_;have I2:aC X gV σ H1 {s1 with heap:=h'}:=I1.kept (t':=s1.toks) hk;refine GG he ⟨s1.heap.objs.size+1,[s1.heap.objs.size+1,s1.heap.objs.size],_,_,H1,rfl,I2,m6 d _ _ (Kp _),⟨⟨_,he⟩,hit⟩,λb hb=>?_,q⟩
   rcases IN.mp hb with rfl|hb
   .exact I1.fpOk (Kk _) (I1.hok.fresh (Kk _))
   .rw[IS.mp hb];exact I1.fpOk (Kd _) (I1.hok.fresh (Kd _))
  |str z=>
   obtain⟨t,rfl⟩:=ru;refine call_enumerate_str λh' he hit hsz hk=>?_;have I2:aC X gV σ H1 {s1 with heap:=h'}:=I1.kept (t':=s1.toks) hk;refine GG he ⟨s1.heap.objs.size+1,[s1.heap.objs.size+1,s1.heap.objs.size],_,_,H1,rfl,I2,m5 _ _ z t (Kp _),⟨⟨_,he⟩,hit⟩,λb hb=>?_,q1⟩
   rcases IN.mp hb with rfl|hb
   .exact I1.fpOk (Kk _) (I1.hok.fresh (Kk _))
   .rw[IS.mp hb];exact I1.fpOk (Kd _) (I1.hok.fresh (Kd _))
  |_=>exact q1.elim
theorem Dv(K:Frag)(hm:X.mg "enumerate"=none)(ha:PE X a ta)(hg:Gl X "enumerate":=by rfl)(hs:Fj [a] X.env=[(false,FF a X.env)]:=by rfl)(hK:X.K=K:=by rfl):PI X (.Tuple elts k0 pos2) (.Call (.Name "enumerate" p) [a] [] pos) (t6 K ta):=by subst hK;exact vp hm ha hg hs
end
abbrev one(c:Nat):Str:=⟨#[c]⟩
def mY(c:Nat):Prop:=97<=c/\c<=122
theorem uO:("abcdefghijklmnopqrstuvwxyz":Str).cps.toList=[97,98,99,100,101,102,103,104,105,106,107,108,109,110,111,112,113,114,115,116,117,118,119,120,121,122]:=by decide+kernel
theorem dh_in(c:Nat):decide (c∈(".#":Str).cps.toList)=decide (c=46\/c=35):=by
 have e:(".#":Str).cps.toList=[46,35]:=by decide+kernel
 rw[e,KL];simp only[decide_eq_true_eq,IN,Jl,or_false]
theorem Bq{i:Int}(h0:0<=i)(h1:i<26):iK ("abcdefghijklmnopqrstuvwxyz":Str).cps.toList i=some (97+i.toNat):=by
 have e:i=((i.toNat:Nat):Int):=by omega
 have hx:∀k<26,("abcdefghijklmnopqrstuvwxyz":Str).cps.toList[k]? =some (97+k):=by rw[uO];decide
 have q:=bD (hx i.toNat (by omega));rw[<-e]at q;exact q
theorem DM(b:Bool):iK (".#":Str).cps.toList (if b=true then 1 else 0)=some (if b=true then 35 else 46):=by
 have e:(".#":Str).cps.toList=[46,35]:=by decide+kernel
 rw[e];cases b<;>decide
theorem vb:(".":Str)=one 46:=by decide+kernel
theorem sV:("#":Str)=one 35:=by decide+kernel
section
variable{K:Frag}{σ rest:St}{H:Hp}{te ta tb tl:TE}{tt:TT}{R:Bool->Hp->Prop}{Q:VK}{c:Nat}{z:Str}{src:List (Option Nat)}
theorem uk(ha:Ev ta σ H (.str (one c)))(hc:mY c):Ev (Be zZ ta) σ H (.str (one (c - 32))):=λQ q=>ha _ (by
 show zZ (.str (one c)) [] H Q;rw[Da];refine⟨by show 1<=sizeLine;decide,λd hd=>?_,?_⟩
 .have e:d=c:=by simpa[one]using hd
  have:=hc.2;omega
 have e:(⟨(one c).cps.map up1⟩:Str)=one (c - 32):=by
  show(⟨#[c].map up1⟩:Str)=_;have:up1 c=c - 32:=by unfold up1;exact E8 hc
  simp[one,this]
 rw[e];exact q)
theorem zh{lo hi:Option Int}{tl' th:TO}(ha:Ev ta σ H (.str z))(hl:∀Q:Option Int->Hp->Prop,Q lo H->tl' σ H Q)(hh:∀Q:Option Int->Hp->Prop,Q hi H->th σ H Q)(hz:z.length<=sizeLine):Ev (uG K ta tl' th) σ H (.str (gQ z lo hi)):=λQ q=>ha _ (hl _ (hh _ ⟨hz,q⟩))
theorem dc:∀Q:Option Int->Hp->Prop,Q none H->gY σ H Q:=λQ q=>q
theorem bR{i:Int}(h:Ev te σ H (.int i)):∀Q:Option Int->Hp->Prop,Q (some i) H->jB te σ H Q:=λQ q=>h _ q
end
theorem iu(cs:List Nat):Fx ("":Str) (cs.map one)=⟨cs.toArray⟩:=by
 have key:∀(r:List Nat)(acc:Array Nat),(r.map one).foldl (λacc p=>acc++("":Str).cps++p.cps) acc=acc++r.toArray:=by
  intro r
  induction r with
  |nil=>intro acc;simp
  |cons a r ih=>
   intro acc;rw[Jh,List.foldl_cons,ih];have e:("":Str).cps= #[]:=by decide+kernel
   rw[e];apply KW.mp;simp[one]
 unfold Fx Builtin.Str.glued;cases cs with
 |nil=>rfl
 |cons a r=>
  show(⟨((r.map one).foldl (λacc p=>acc++("":Str).cps++p.cps) (one a).cps)⟩:Str)=_;rw[key];apply iT;simp[one]
def emptyT(wi hi:Int)(hs:List Int):Str:=⟨((List.range (wi*hi).toNat).map λ(s:Nat)=>if(s:Int)∈hs then 35 else 46).toArray⟩
theorem gP{wi hi:Int}{hs:List Int}:(emptyT wi hi hs).length=(wi*hi).toNat:=by unfold emptyT Str.length;simp
def nj:Sp:=λvs H Q _=>∃(c:Nat)(sd:Int),vs=[.str (one c),.int sd]/\mY c/\Q (.str (one (if sd=0 then c - 32 else c))) H
def yT(K:Frag)(C:Addr):Sp:=λvs H Q _=>∃(p:Addr)(wi hi:Int)(hs:List Int)(s:Int),vs=[.ref p,.int s]/\cc K C H p wi hi hs/\Q (.bl (decide (0<=s/\s<wi*hi/\¬s∈hs))) H
def o7(K:Frag)(C:Addr):Sp:=λvs H Q _=>∃(p:Addr)(wi hi:Int)(hs:List Int),vs=[.ref p]/\cc K C H p wi hi hs/\∀H',al H H'->Q (.str (emptyT wi hi hs)) H'
section
variable{K:Frag}{σ:St}{H:Hp}{tb:TE}{t:TA}{op:Hg}{R:Bool->Hp->Prop}{vs:List V}{sp:Sp}
theorem A5:Ev (tC (.str ".")) σ H (.str (one 46)):=by rw[<-vb];exact ao
theorem vU:Ev (tC (.str "#")) σ H (.str (one 35)):=by rw[<-sV];exact ao
end
theorem yV{σ:St}{H:Hp}{Q:VK}{to te:TE}{z:Str}{r:V->List V->Hp->VK->Prop}(ho:Ev to σ H (.str z))(q:te σ H λx H2=>r (.str z) [x] H2 Q):Eg r to (aV te ce) σ H Q:=ho _ q
structure CP2(P:Fn)(w:Fp)(K:Frag)(mg:Fc)(E3:Fw)(cB:Addr):Prop where
 Board_has:Bv P w K mg E3 cB "has" ["self","square"] 3 (yT K cB)
section
variable{K:Frag}{σ rest:St}{H:Hp}{te to ta tb tl:TE}{t:TA}{tt u:TT}{src:List (Option Nat)}{Q:VK}{R:Bool->Hp->Prop}{D:cD}{g:TG}{tB:TS}{v x y:V}{vs:List V}{sp:Sp}
theorem pF{b:Bool}(h:Ev te σ H (.bl b)):Ev (cB AW (aV te ce)) σ H (.int (if b then 1 else 0)):=λQ q=>h _ q
theorem qQ{ta:TA}{n:Int}(hl:∀Q:List V->Hp->Prop,(∀H',al H H'->Q [.int n] H')->ta σ H Q)(h0:0<=n)(hz:n.toNat<=sizeLine)(h1:n<2 ^ 62)(hs:dR src σ=none::rest)(p:V->Bool)(f:V->V)
  (ht:∀(i:Nat) H',al H H'->i<n.toNat->Tv tt (some (.int (0+(i:Int)))::rest) H' (p (.int (0+(i:Int))))) (he:∀(i:Nat) H',al H H'->i<n.toNat->p (.int (0+(i:Int)))=true->Ev te (some (.int (0+(i:Int)))::rest) H' (f (.int (0+(i:Int)))))
  (q:∀H' d',al H H'->H' d'=none->Q (.ref d') (upd H' d' (.lst ((((List.range n.toNat).map λ(i:Nat)=>V.int (0+(i:Int))).filter p).map f)))):tComp (j8 ta) (gName 0) tt te src σ H Q:=by
 have hin:∀x∈(List.range n.toNat).map λ(i:Nat)=>V.int (0+(i:Int)),∃i:Nat,i<n.toNat/\x=.int (0+(i:Int)):=λx hx=>by obtain⟨i,hi,rfl⟩:=IR.mp hx;exact⟨i,Jb.mp hi,rfl⟩
 have hlen:((List.range n.toNat).map λ(i:Nat)=>V.int (0+(i:Int))).length=n.toNat:=by simp
 refine hl _ λH' s=>⟨n,rfl,by omega,h1,ia (xs:=(List.range n.toNat).map λ(i:Nat)=>V.int (0+(i:Int))) (by rw[hlen];exact hz) hs p f (λi hi=>by rw[hlen]at hi;exact hi) (by rw[hlen];exact Kd _) (λi v H2 hi y=>⟨y.1,?_⟩) (λx hx=>?_) (λx hx hp=>?_) (λd' hd'=>q H' d' s hd')⟩
 .rw[hlen]at hi;rw[IU,Ju hi,y.2];rfl
 .obtain⟨i,hi,rfl⟩:=hin x hx;exact ht i H' s hi
 .obtain⟨i,hi,rfl⟩:=hin x hx;exact he i H' s hi hp
theorem qJ{ta:TA}(n:Int)(hta:∀Q:List V->Hp->Prop,(∀H',al H H'->Q [.int n] H')->ta σ H Q)(h0: -(2 ^ 62)<=n)(h1:n<2 ^ 62)(Pv:Nat->St->Hp->Prop)(hp0:∀H',al H H'->Pv 0 σ H')
  (hs:∀i σ H,i<n.toNat->Pv i σ H->g (.int (0+i)) σ H λσ2 H2=>tB {D with nx:=Pv (i+1),ct:=Pv (i+1),bk:=D.nx} σ2 H2) (hd:∀σ H,Pv n.toNat σ H->D.nx σ H):tFor (j8 ta) g tB D σ H:=
 hta _ λH' s=>⟨n,rfl,h0,h1,j9 Pv (hp0 H' s) hs hd⟩
theorem yX{i:Int}{Q:List V->Hp->Prop}(h:Av t σ H vs)(hz:vs.length<=1000)(hi:∀H',Ev te σ H' (.int i))(e:iK vs i=some v)(q:∀H',al H H'->Q [v] H'):aV (pN K (jF t) te) ce σ H Q:=tT (K:=K) (Q:=λx H1=>Q [x] H1) h hz hi e q
theorem Ac{tc:TE}{z:V}(ha:Ev ta σ H x)(hb:Ev tb σ H y)(hc:Ev tc σ H z)(q:∀p,H p=none->Q (.ref p) (upd H p (.tup [x,y,z]))):u9 (aV ta (aV tb (aV tc ce))) σ H Q:=ha _ (hb _ (hc _ ⟨by show 3<=sizeLine;decide,q⟩))
theorem oI(h:Tv tt σ H false)(q:u σ H R):Ed tt u σ H R:=h _ (ll q)
theorem ui(P0:Addr->Hp->Prop)(htl:∀Q:VK,(∀d H',P0 d H'->Q (.ref d) H')->tl σ H Q)
  (h:∀d H',P0 d H'->∃xs,aM K H' d xs/\∃Pv:Nat->St->Hp->Prop,Pv 0 σ H'/\(∀i σ' H',Pv i σ' H'->aM K H' d xs)/\
   (∀(i:Nat) x σ' H' t,xs[i]? =some x->Pv i σ' H'->H' t=none->g (.ref t) σ' (upd H' t (.tup [.int (i:Int),x])) λσ2 H2=>tB {D with nx:=Pv (i+1),ct:=Pv (i+1),bk:=D.nx} σ2 H2)/\(∀σ' H',Pv xs.length σ' H'->D.nx σ' H')):tFor (t6 K tl) g tB D σ H:=by
 refine htl _ λd H1 p1=>?_;obtain⟨xs,hq,Pv,hp0,hl,hs,hd⟩:=h d H1 p1;refine⟨⟨xs,hq⟩,λi m σ' H'=>m=xs.length - i/\i<=xs.length/\Pv i σ' H',⟨_,rfl,Kh _,hp0⟩,?_⟩;rintro i m σ' H' ⟨rfl,hi,pv⟩;have hS:=hl i σ' H' pv
 by_cases hlt:i<xs.length
 .refine .inr ⟨⟨xs,xs[i],hS,IP hlt⟩,Pv (i+1),λσ2 H2 p2=>⟨xs.length - (i+1),by omega,rfl,hlt,p2⟩,?_⟩;rintro x H2 ⟨t,w,rfl,ht,rfl,hx⟩;exact hs i w σ' H' t (hx xs hS) pv ht
 .have e:i=xs.length:=by omega
  subst e;exact .inl ⟨⟨xs,hS,Kd _⟩,hd σ' H' pv⟩
theorem j2{d:Addr}{xs:List V}{lo hi:Option Int}{tl' th:TO}(ha:Ev ta σ H (.ref d))(hl:∀Q:Option Int->Hp->Prop,Q lo H->tl' σ H Q)(hh:∀Q:Option Int->Hp->Prop,Q hi H->th σ H Q)(hx:aM K H d xs)(q:∀p,H p=none->Q (.ref p) (upd H p (.lst (dh xs lo hi)))):uG K ta tl' th σ H Q:=ha _ (hl _ (hh _ ⟨xs,hx,q⟩))
theorem pr{ns:List Int}{i:Int}(h0:0<=i)(h1:i<ns.length):∃n:Int,iK (ns.map V.int) i=some (.int n)/\n∈ns:=by
 have hlt:i.toNat<ns.length:=by omega
 have e:(ns.map V.int)[i.toNat]? =some (.int ns[i.toNat]):=by rw[IU,IP hlt];rfl
 have q:=bD e;have ei:((i.toNat:Nat):Int)=i:=by omega
 rw[ei]at q;exact⟨_,q,Jx hlt⟩
theorem Df{xs:List V}{i:Int}(h0:0<=i)(h1:i<xs.length):∃v,iK xs i=some v/\v∈xs:=by
 have hlt:i.toNat<xs.length:=by omega
 have q:=bD (IP hlt);have ei:((i.toNat:Nat):Int)=i:=by omega
 rw[ei]at q;exact⟨_,q,Jx hlt⟩
theorem DG{i j:Nat}{d:Addr}{a b:V}{R:St->Hp->Prop}(h:H d=some (.tup [a,b]))(q:R ((σ.set i (some a)).set j (some b)) H):ue K 2 (iH (gName i) (iH (gName j) vP)) (.ref d) σ H R:=⟨d,_,rfl,dC.of h,rfl,_,_,rfl,_,_,rfl,rfl,q⟩
theorem DF{i j l:Nat}{d:Addr}{a b c:V}{R:St->Hp->Prop}(h:H d=some (.tup [a,b,c]))(q:R (((σ.set i (some a)).set j (some b)).set l (some c)) H):ue K 3 (iH (gName i) (iH (gName j) (iH (gName l) vP))) (.ref d) σ H R:=⟨d,_,rfl,dC.of h,rfl,_,_,rfl,_,_,rfl,_,_,rfl,rfl,q⟩
theorem Bl(h:Av t σ H vs)(q:sp vs H (λx H1=>g x σ H1 D.nx) E0):tAsg (fH sp t) g D σ H:=h _ q
theorem uy{xs:List V}{lo hi:Option Int}{v:V}(h:v∈dh xs lo hi):v∈xs:=JH (JI h)
end
theorem tG:∀(n:Nat)(l:List Int),l.length<n->∃s:Nat,s<n/\¬((s:Int)∈l)
 |0,l,h=>by omega
 |n+1,l,h=>by
  by_cases m:((n:Nat):Int)∈l
  .have hl:=List.length_erase_of_mem m;have hp:=J7 m;obtain⟨s,h1,h2⟩:=tG n (l.erase ((n:Nat):Int)) (by omega);refine⟨s,by omega,λz=>h2 ?_⟩;exact(List.mem_erase_of_ne (by omega)).mpr z
  .exact⟨n,by omega,m⟩
def dH(wi hi:Int)(hs:List Int):List Int:=((List.range (wi*hi).toNat).map λ(i:Nat)=>(i:Int)).filter λi=> !decide (i∈hs)
theorem ug{wi hi:Int}{hs:List Int}{s:Int}(h:s∈dH wi hi hs):0<=s/\s<wi*hi/\¬s∈hs:=by unfold dH at h;rw[Jz]at h;obtain⟨h1,h2⟩:=h;obtain⟨i,hi,rfl⟩:=IR.mp h1;have hi:=Jb.mp hi;refine⟨by omega,by omega,?_⟩;intro z;rw[E5 z]at h2;cases h2
theorem qI{wi hi:Int}{hs:List Int}(h:(hs.length:Int)<wi*hi):0<(dH wi hi hs).length:=by obtain⟨s,h1,h2⟩:=tG (wi*hi).toNat hs (by omega);refine J7 (a:=(s:Int)) ?_;unfold dH;rw[Jz];refine⟨IR.mpr ⟨s,Jb.mpr h1,rfl⟩,?_⟩;rw[E6 h2];rfl
def uf(hs:List Int):V->Bool
 | .int i=> !decide (i∈hs)
 |_=>false
theorem n6{wi hi:Int}{hs:List Int}:(((List.range (wi*hi).toNat).map λ(i:Nat)=>V.int (0+(i:Int))).filter (uf hs)).map (λv=>v)=(dH wi hi hs).map V.int:=by
 unfold dH;rw[List.map_id',List.filter_map,List.filter_map,IQ];have e:(uf hs∘λ(i:Nat)=>V.int (0+(i:Int)))=((λi=> !decide (i∈hs))∘λ(i:Nat)=>(i:Int)):=by funext i;show(!decide (0+(i:Int)∈hs))= !decide ((i:Int)∈hs);rw[KG]
 rw[e];refine Jp λi _=>?_;show V.int (0+(i:Int))=V.int (i:Int);rw[KG]
def cellAt(ns:List Int)(k:Int):Int:=ns.getD k.toNat 0
def mixed(c k:Int):Int:=(c+7919*k+3)*48271 % 2147483647
def gO(b s:Int)(n:Nat):List Nat:=(List.range n).map λ(k:Nat)=>97+((b+s*(k:Int)) % 26).toNat
theorem nV{b s:Int}{n:Nat}:∀c∈gO b s n,mY c:=by intro c hc;obtain⟨k,_,rfl⟩:=IR.mp hc;unfold mY;omega
theorem qA{b s:Int}{n:Nat}(hn:n<=6)(hs:s∈([1,3,5,7,9,11]:List Int)):(gO b s n).Nodup:=by
 unfold gO;rw[J9,Ka];refine List.Pairwise.imp_of_mem ?_ (J9.mp List.nodup_range);intro i j hi hj ne e;have hi:=Jb.mp hi;have hj:=Jb.mp hj;apply ne;simp only[IN,Jl,or_false]at hs
 rcases hs with rfl|rfl|rfl|rfl|rfl|rfl
 all_goals omega
def strV(c:Nat):V:=.str (one c)
def gZ(K:Frag):Sp:=λvs H Q _=>∃(a:Addr)(ns:List Int)(k:Int),vs=[.ref a,.int k]/\aM K H a (ns.map V.int)/\0<=k/\Q (.int (cellAt ns k)) H
def iV:Sp:=λvs H Q _=>∃c k:Int,vs=[.int c,.int k]/\Q (.int (mixed c k)) H
def lX(K:Frag):Sp:=λvs H Q _=>∃(a:Addr)(ns:List Int),vs=[.ref a]/\aM K H a (ns.map V.int)/\∀(t q:Addr)(wi hi:Int)(hs:List Int)(H':Hp),1<=wi->wi<=8->1<=hi->hi<=8->H' t=some (.tup [.int wi,.int hi,.ref q])->H' q=some (.lst (hs.map V.int))->(∀h∈hs,0<=h/\h<wi*hi)->hs.Nodup->(hs.length:Int)<wi*hi->hs.length<=2->H q=none->H t=none->al H H'->Q (.ref t) H'
def lW:Sp:=λvs H Q _=>∃c:Int,vs=[.int c]/\∀(q:Addr)(ks:List Nat)(H':Hp),H q=none->H' q=some (.lst (ks.map strV))->(∀k∈ks,mY k)->ks.Nodup->1<=ks.length->ks.length<=6->al H H'->Q (.ref q) H'
structure LG1(P:Fn)(w:Fp)(K:Frag)(mg:Fc)(E3:Fw):Prop where
 _law_cell_at:eK P w K mg E3 "_law_cell_at" ["_law_script","_law_k"] 1 (gZ K)
 _law_mixed:eK P w K mg E3 "_law_mixed" ["_law_cell","_law_k"] 1 iV
section
variable{κ:Type}[DecidableEq κ]
def uu(l:List κ)(x:κ):List κ:=if x∈l then l else l++[x]
def cJ(val:Nat->κ):Nat->List κ
 |0=>[]
 |i+1=>uu (cJ val i) (val i)
theorem iY(val:Nat->κ):∀i,(cJ val i).length<=i
 |0=>Kd 0
 |i+1=>by
  have ih:=iY val i;show(uu (cJ val i) (val i)).length<=i+1;unfold uu
  by_cases h:val i∈cJ val i
  .rw[E8 h];omega
  .rw[E7 h,IT];show _+1<=_;omega
theorem mq(val:Nat->κ)(x:κ):∀i,x∈cJ val i<->x∈(List.range i).map val
 |0=>by simp[cJ]
 |i+1=>by
  have ih:=mq val x i;show x∈uu (cJ val i) (val i)<->_;rw[Jy,IV,Jf,<-ih];unfold uu
  by_cases h:val i∈cJ val i
  .rw[E8 h]
   constructor
   .exact λz=>.inl z
   .rintro(z|z)
    .exact z
    .have:x=val i:=by simpa using z
     rw[this];exact h
  .rw[E7 h,Jf];simp
theorem jm(val:Nat->κ):∀i,(cJ val i).length=i<->((List.range i).map val).Nodup
 |0=>by simp[cJ]
 |i+1=>by
  have ih:=jm val i;have hle:=iY val i;have hm:=mq val (val i) i;show(uu (cJ val i) (val i)).length=i+1<->_;rw[Jy,IV,JU];unfold uu
  by_cases h:val i∈cJ val i
  .rw[E8 h]
   constructor
   .intro z;omega
   .intro z;exact Fb rfl (z.2.2 (val i) (hm.mp h) (val i) (by simp))
  .rw[E7 h,IT]
   constructor
   .intro z;have z:(cJ val i).length+1=i+1:=z;refine⟨ih.mp (by omega),by simp,λa ha b hb e=>h (hm.mpr ?_)⟩;have:b=val i:=by simpa using hb
    rw[<-this,<-e];exact ha
   .intro z;rw[ih.mpr z.1];rfl
end
section
variable{prog:Fn}{w:Fp}{A:Fz}{R:IC->Fi->Prop}{I:Addr}{fp wr:List Addr}{G:Array GL->Array GL->Prop}{n:Nat}{Pt:Nat->Value->Prop}{St:Nat->Fi->Prop}{κ:Type}[DecidableEq κ]{knd:KeyKind prog w κ}
theorem tj(W:WalksS prog w A.in1 I fp wr G n Pt St)(D:Addr)(hD:D∉fp)(val:Nat->κ)(hv:∀i v,Pt i v->knd.is (val i) v=true/\v.scannable=true)(hb:n+1<scanBound):
  ∀(k i:Nat)(s:Fi),n - i=k->i<=n->St i s->s.heap.SetOf knd D (λx=>decide (x∈cJ val i)) (cJ val i).length->
   (∀s2,Moved (D::wr) G s s2->s2.heap.SetOf knd D (λx=>decide (x∈cJ val n)) (cJ val n).length->R (.ok (.ret .none)) s2)->Gx (Fu prog w) A (.builtin "set.update.loop" ⟨[.ref D,.ref I],[]⟩) R s:=by
 have nW:D∉wr:=λz=>hD (W.sub _ z);have up:∀b∈wr,b∈D::wr:=λb z=>Jd _ z;have mv:∀{s s2:Fi}{S:κ->Bool}{m:Nat},Moved wr G s s2->s.heap.SetOf knd D S m->s2.heap.SetOf knd D S m:=λ{s s2 S m} hm ⟨o,es,ep,t,ho,r⟩=>⟨o,es,ep,t,hm.heap D _ nW ho,r⟩;intro k
 induction k with
 |zero=>
  intro i s e1 e2 st hS hR;have e3:i=n:=by omega
  subst e3;refine Gi HF ?_;rw[Gp GE _];show Fs _ A.in1 (HK (.ref I) >>= _) _ _ s;refine Ff (W.done s _ _ st λs2 hm=>?_);show Fs _ A.in1 (ret GS) _ _ s2;exact Fm (hR s2 (hm.mono up) (mv hm hS))
 |succ k ih=>
  intro i s e1 e2 st hS hR;have e3:i<n:=by omega
  refine Gi HF ?_;rw[Gp GE _];show Fs _ A.in1 (HK (.ref I) >>= _) _ _ s;refine Ff (W.item i s _ _ e3 st λv s2 hp st2 hm=>?_);obtain⟨kv,sv⟩:=hv i v hp;have hS2:=mv hm hS;show Fs _ A.in1 (Hm [v] (setAdd D v) >>= _) _ _ s2;refine Ff (FO ?_);unfold setAdd;refine FO (Ff (knd.pyHash (k:=val i) kv ?_));have room:(cJ val i).length+1<scanBound:=by have:=iY val i;omega
  refine wpAny_setAddHashed_of (knd:=knd) (s:={s2 with toks:=s2.toks+1}) kv sv hS2 room λh2 sb hS3=>?_;have hS4:h2.SetOf knd D (λx=>decide (x∈cJ val (i+1))) (cJ val (i+1)).length:=by
   refine SetOf_congr hS3 (λx=>?_) ?_
   .show(decide (x∈cJ val i)||decide (x=val i))=decide (x∈uu (cJ val i) (val i))
    unfold uu
    by_cases m:val i∈cJ val i
    .rw[E8 m]
     by_cases e:x=val i
     .subst e;rw[E5 m];simp
     .rw[E6 e,Bool.or_false]
    .rw[E7 m,KL];simp
   .show(if decide (val i∈cJ val i)=true then _ else _)=(uu (cJ val i) (val i)).length;unfold uu
    by_cases m:val i∈cJ val i
    .rw[E8 (E5 m),E8 m]
    .rw[E7 (by rw[E6 m];decide),E7 m,IT];rfl
  refine Fm ⟨Ht GE _,ih (i+1) _ (by omega) e3 (W.frame _ s2 _ _ st2 (Kk _) λb hb o e=>?_) hS4 λs3 hm3 hS5=>?_⟩
  .exact(sb.2 b (λz:b=D=>hD (z▸hb))).trans e
  .refine hR s3 (Moved.trans W.gtrans ((hm.mono up).then_heap (Kk _) λb o hb e=>?_) hm3) hS5;exact(sb.2 b (λz:b=D=>hb (by rw[z];exact Jc))).trans e
end
section
variable{prog:Fn}{w:Fp}{A:Fz}{E:Fd}{s:Fi}{κ:Type}[DecidableEq κ]{knd:KeyKind prog w κ}
abbrev fK(led:Bool):Obj:={cls:=.type "set",dict:=none,data:=.set #[] 0 (.fresh 0 0 led)}
theorem sZ{l:Addr}{its:Array Value}{Q:Fd}(val:Nat->κ)(hh:A.handled=none)(hl:s.heap.IsList l its)(hv:∀i v,its[i]? =some v->knd.is (val i) v=true/\v.scannable=true)(hb:its.size+1<scanBound)
  (k:∀(h2:Fw)(tk:Nat),h2.SetOf knd s.heap.objs.size (λx=>decide (x∈cJ val its.size)) (cJ val its.size).length->(∀b o,b<s.heap.objs.size->s.heap.get? b=some o->h2.get? b=some o)->Q (.ref s.heap.objs.size) {s with heap:=h2,toks:=tk}):
  Fs (Fu prog w) A (call (.type "set") [.ref l]) Q E s:=by
 obtain⟨c0,tl0,hmro⟩:=F.called_set.mro;have hmade:=F.called_set.made;have hsub:=F.called_set.sub;have n1:=F.called_set.notType;have n2:=F.called_set.canCreate;have n3:=F.typeCall_set_1 (.ref l);refine Gy (codeAny_of_tree ?_);show Fs _ _ (callAny (.type "set") _) _ _ _;refine Fm ⟨Code.quiet_builtin _ (by decide+kernel),Gi F.entry_type_call ?_⟩;rw[Around.under_plain (weight_type_call_type "set" [.ref l] []) rfl]
 repeat (any_goals (first|assumption|wp_step))
 refine FW (code_set_new_1 (.ref l) (E:=E) (Q₁:=λo s1=>∃led:Bool,o=.ref s.heap.objs.size/\s1={s with heap:=s.heap.push (fK led)}) λled=>⟨led,rfl,rfl⟩) λr s1 hr=>?_;cases r with
 |error e=>exact hr
 |ok fl=>
  cases fl with
  |ret ob=>
   obtain⟨led,rfl,rfl⟩:=hr;have g0:(s.heap.push (fK led)).get? s.heap.objs.size=some (fK led):=Fo _ rfl;have ty:Shared.TypeIs {s with heap:=s.heap.push (fK led)} (.ref s.heap.objs.size) "set":=⟨_,g0,rfl⟩;have m1:=F.called_set.init.lookup;have m2:=F.called_set.init.bind (.ref s.heap.objs.size)
   repeat (any_goals (first|assumption|wp_step))
   refine FW (Go (R:=wants (λr s2=>r=.none/\∃h2 tk,s2={s with heap:=h2,toks:=tk}/\h2.SetOf knd s.heap.objs.size (λx=>decide (x∈cJ val its.size)) (cJ val its.size).length/\
     (∀b o,b<s.heap.objs.size->s.heap.get? b=some o->h2.get? b=some o)) E) F.called_set.init.plain F.entry_set_init (check_set_init_1 ty ?_)) λr2 s2 hr2=>?_
   .obtain⟨⟨oc,od,oda,osl⟩,ho,hc,nl,hd⟩:=hl;simp only at hc hd;subst hc;subst hd;have hol:(s.heap.push (fK led)).get? l=some {cls:=.type "list",dict:=od,data:=.seq its nl,slots:=osl}:=Fh _ ho;have b1:=F.sub_list_set;have b2:=F.sub_list_frozenset;have b3:(Il "list" == Il "dict")=false:=by decide
    have hl1:(s.heap.push (fK led)).IsList l its:=⟨_,hol,rfl,nl,rfl⟩;unfold GN.«set.__init__» noKeywords Builtin.Frozenset.updateFrom;generalize hPI:pyIter=PI
    wp_walk
    subst hPI;refine GF hl1 (Ff (wpAny_runValue ?_));have hlt:l<s.heap.objs.size:=Fk ho;have h3:A.in1.in1.in1.handled=none:=by simp[hh]
    have sz:(s.heap.push (fK led)).objs.size=s.heap.objs.size+1:=FR ..;have ne1:l≠(s.heap.push (fK led)).objs.size:=by rw[sz];exact Ke (Kx hlt)
    have ne2:s.heap.objs.size∉[(s.heap.push (fK led)).objs.size,l]:=by
     rw[sz];intro z
     rcases IN.mp z with z|z
     .exact Kp _ z.symm
     .exact Kl hlt (IS.mp z)
    refine tj (knd:=knd) ((Walks.list h3 _ l ne1 its).toS) s.heap.objs.size ne2 val hv hb (its.size - 0) 0 _ (by omega) (Kh _) ⟨⟨_,Fo _ rfl,rfl,rfl⟩,(hl1.push _)⟩ ?_ (λs3 hm hS3=>?_)
    .refine SetOf_congr ((setObjOf_fresh (knd:=knd) led).setOf (Fh _ g0) (by unfold scanBound;omega)) (λx=>?_) rfl;show false=decide (x∈([]:List κ));simp
    .obtain⟨hh3,gg3,dd3,tk3,os3⟩:=s3;obtain rfl:gg3=s.gens:=hm.gens;obtain rfl:dd3=s.drawn:=hm.drawn;obtain rfl:os3=s.os:=hm.os;show Fs _ _ _ _ _ _;refine Fm ?_;show Fs _ _ (ret GS) _ _ _;refine Fm ⟨rfl,hh3,tk3,rfl,hS3,λb o hb2 e=>?_⟩;refine hm.heap b o ?_ (Fh _ (Fh _ e));rw[sz];intro z
     rcases IN.mp z with z|z
     .exact Ke hb2 z
     .exact Ke (Kx hb2) (IS.mp z)
   .cases r2 with
    |error e=>exact hr2
    |ok fl2=>
     cases fl2 with
     |ret r3=>
      obtain⟨rfl,h2,tk,rfl,hS2,kp⟩:=hr2
      repeat (any_goals (first|assumption|wp_step))
      exact k _ _ hS2 kp
     |_=>exact hr2.elim
  |_=>exact hr.elim
end
def iA(ss:List Str):List Str:=cJ (λi=>ss.getD i Gm) ss.length
theorem gq(ss:List Str):(iA ss).length=ss.length<->ss.Nodup:=by
 unfold iA;rw[jm];have e:(List.range ss.length).map (λi=>ss.getD i Gm)=ss:=by
  apply JS;intro i;rw[IU]
  by_cases h:i<ss.length
  .rw[Ju h,IP h];show some (ss.getD i Gm)=_;rw[IY,IP h];rfl
  .rw[Js (by rw[Jk];omega),Js (by omega)];rfl
 rw[e]
section
variable{X:Cx}
def pi(K:Frag)(xs:List V)(H:Hp)(Q:VK):Prop:=match xs with
 | [.ref d]=>∃ss:List Str,aM K H d (ss.map V.str)/\ss.length+1<scanBound/\∀q φ,H q=none->(∀h:Fw,φ h->∃(o:Obj)(es:Array (Int×Value))(ep:Nat)(t:Iu),h.get? q=some o/\o.ExactSet/\o.data=.set es ep t/\t.fits es.size=true/\es.size=(iA ss).length)->Q (.ref q) (upd H q (.ext φ))
 |_=>False
theorem oq(hh:X.A.handled=none):bj X (.type "set") (pi X.K):=by
 intro gV s σ H xs us Q I r h;unfold pi at h;split at h
 .rename_i d;obtain⟨ss,hq,hb,q⟩:=h;obtain⟨u,rfl,rx⟩:=cU r;cases rx;obtain⟨its,r',pl,hz⟩:=I.list hq;have hlen:=r'.length;rw[IL]at hlen;have hs:its.toArray.size=ss.length:=by rw[IM,<-hlen]
  refine sZ (knd:=PySem.strKind X.prog X.w) (λi=>ss.getD i Gm) hh pl.isList (λi v hv=>?_) (by rw[hs];exact hb) λh2 tk hS kp=>?_
  .rw[J6]at hv;have hi:i<its.length:=(Je.mp hv).1;have hx:(ss.map V.str)[i]? =some (.str (ss.getD i Gm)):=by rw[IU,IY,IP (by omega)];rfl
   obtain⟨u,hu,ru⟩:=r'.get hx;rw[hv]at hu;cases hu;obtain⟨t,rfl⟩:=ru;exact⟨by simp[PySem.strKind,Value.isStrOf],rfl⟩
  .rw[hs]at hS;have k2:∀b u,s.heap.get? b=some u->h2.get? b=some u:=λb u e=>kp b u (Fk e) e;obtain⟨o,es,ep,t,h1,h2',h3,_,_,h6,h7,h8⟩:=hS;refine⟨.ref s.heap.objs.size,upd H s.heap.objs.size (.ext λh=>h.get? s.heap.objs.size=some o),I.laid (t':=tk) k2 (Kd _) ?_,rfl,q _ _ (I.hok.fresh (Kd _)) λh e=>⟨o,es,ep,t,e,h2',h3,h7,h8⟩⟩;exact⟨h1,⟨o,h1⟩,λh1 h2 e k=>k o e⟩
 .exact h.elim
def tW(xs:List V)(H:Hp)(Q:VK):Prop:=match xs with
 | [.ref d]=>∃(φ:Fw->Prop)(n:Nat),H d=some (.ext φ)/\n<=1000/\(∀h:Fw,φ h->∃(o:Obj)(es:Array (Int×Value))(ep:Nat)(t:Iu),h.get? d=some o/\o.ExactSet/\o.data=.set es ep t/\t.fits es.size=true/\es.size=n)/\Q (.int n) H
 |_=>False
theorem jA:bj X (.builtin "len") tW:=by
 intro gV s σ H xs us Q I r h;unfold tW at h;split at h
 .rename_i d;obtain⟨φ,n,hd,hn,hφ,q⟩:=h;obtain⟨u,rfl,rx⟩:=cU r;cases rx;obtain⟨p,_,_⟩:=(show bF X.prog X.w H s.heap d (.ext φ)from I.hok d _ hd);obtain⟨o,es,ep,t,h1,h2,h3,h4,h5⟩:=hφ _ p;subst h5;exact PySem.call_len_set h1 h2 h3 h4 (by omega) ⟨.int es.size,H,I.tok _,⟨_,rfl⟩,q⟩
 .exact h.elim
theorem zc(K:Frag){j:Nat}(hr:cn j X.A)(hK:X.K=K:=by rfl):bj X (.type "set") (pi K):=by subst hK;exact oq hr.hd
end
theorem mr{K:Frag}{σ:St}{H:Hp}{Q:VK}{te:TE}{d:Addr}{ss:List Str}(h:Ev te σ H (.ref d))(hd:aM K H d (ss.map V.str))(hl:ss.length<=1000)(q:∀H',al H H'->Q (.int (iA ss).length) H'):cB tW (aV (cB (pi K) (aV te ce)) ce) σ H Q:=
 h _ ⟨ss,hd,by show ss.length+1<4096;omega,λp φ hp hφ=>⟨φ,_,af,Kg (iY _ _) hl,hφ,q _ ((al.refl H).upd hp)⟩⟩
section
variable{X:Cx}
theorem qc(ks:List Bool):(List.range ks.length).any (λi=>ks.getD i false)=ks.any id:=by
 rw[KL,Jv,Jv]
 constructor
 .rintro⟨i,hi,e⟩;have hi:=Jb.mp hi;rw[IY,IP hi]at e;exact⟨_,Jx hi,e⟩
 .rintro⟨b,hb,e⟩;obtain⟨i,hi,e2⟩:=J3.mp hb;refine⟨i,Jb.mpr hi,?_⟩;rw[IY,IP hi,e2];exact e
def Bn(K:Frag)(xs:List V)(H:Hp)(Q:VK):Prop:=match xs with
 | [.ref d]=>∃ks:List Bool,aM K H d (ks.map V.bl)/\Q (.bl (ks.any id)) H
 |_=>False
theorem qW(hc:X.calm=true):bj X (.builtin "any") (Bn X.K):=by
 intro gV s σ H xs us Q I r h;unfold Bn at h;split at h
 .rename_i p;obtain⟨ks,hp,q⟩:=h;obtain⟨u,rfl,ru⟩:=cU r;cases ru;obtain⟨its,rv,pl,hl⟩:=I.list hp;have hlen:=rv.length;rw[IL]at hlen;refine call_any_walk (GF pl.isList ?_);have hne:p≠s.heap.objs.size:=by obtain⟨o,ho,_⟩:=pl.isList;exact Ke (Fk ho)
  have W:=Walks.list (prog:=X.prog) (w:=X.w) (A:=X.A.in1) (show X.A.in1.handled=none from I.ok.hd hc) s.heap.objs.size p hne its.toArray;have hpush:∀o b ob,s.heap.get? b=some ob->(s.heap.push o).get? b=some ob:=λo b ob e=>Fh _ e;refine⟨_,_,_,_,_,_,λi=>ks.getD i false,rfl,W,⟨⟨_,Fo _ rfl,rfl,rfl⟩,pl.isList.at λo e=>hpush _ _ o e⟩,lM rv,λh' tk k=>?_⟩;have e:(List.range its.toArray.size).any (λi=>ks.getD i false)=ks.any id:=by rw[<-qc,IM,<-hlen]
  rw[e];refine⟨.bl _,H,I.kept (t':=tk) (h':=h') λb ob e=>k b ob ?_ (hpush _ b ob e),rfl,q⟩;intro hb;have:b=s.heap.objs.size:=by simpa using hb
  subst this;exact Fb (Fk e) (Kj _)
 .exact h.elim
theorem EE(K:Frag)(hc:X.calm=true:=by rfl)(hK:X.K=K:=by rfl):bj X (.builtin "any") (Bn K):=by subst hK;exact qW hc
end
def Thg(H:Hp):V->Prop
 | .non=>True
 | .bl _=>True
 | .int _=>True
 | .str z=>z.length<=1000
 | .ref a=>(∃xs,H a=some (.lst xs))\/(∃xs,H a=some (.tup xs))\/(∃kvs,H a=some (.dK kvs))
 |_=>False
def jp(T:BT)(H:Hp):V->Bool
 | .bl _=>cT .bool T
 | .int _=>cT .int T
 | .str _=>cT .str T
 | .ref a=>match H a with
   |some (.lst _)=>cT .list T
   |some (.tup _)=>cT .tuple T
   |some (.dK _)=>cT .dict T
   |_=>false
 |_=>false
def tupOf(H:Hp):V->Option (List V)
 | .ref a=>match H a with
   |some (.tup xs)=>some xs
   |_=>none
 |_=>none
def lstOf(H:Hp):V->Option (List V)
 | .ref a=>match H a with
   |some (.lst xs)=>some xs
   |_=>none
 |_=>none
def dN(H:Hp):Nat->V->Prop
 |0,v=>Thg H v
 |n+1,v=>Thg H v/\∀xs,(tupOf H v=some xs\/lstOf H v=some xs)->∀x∈xs,dN H n x
theorem dN.thg{H:Hp}{n:Nat}{v:V}(h:dN H n v):Thg H v:=by
 cases n with
 |zero=>exact h
 |succ n=>exact h.1
def sM:V->Bool
 | .int _=>true
 |_=>false
def amongB(v:V)(a b:Int):Bool:=match v with
 | .int i=>decide (a<=i/\i<=b)
 |_=>false
def wordB(v:V)(ws:List Str):Bool:=match v with
 | .str z=>decide (z∈ws)
 |_=>false
section
variable{K:Frag}{σ:St}{H H':Hp}{te ta tb:TE}{v:V}{T:BT}{ws:List Str}
theorem Thg.same(h:Thg H v)(s:al H H'):Thg H' v:=by
 cases v with
 |ref a=>
  rcases h with⟨xs,e⟩|⟨xs,e⟩|⟨xs,e⟩
  .exact .inl ⟨xs,s _ _ e⟩
  .exact .inr (.inl ⟨xs,s _ _ e⟩)
  .exact .inr (.inr ⟨xs,s _ _ e⟩)
 |_=>exact h
theorem dQ(h:Thg H v)(s:al H H'):tupOf H' v=tupOf H v:=by
 cases v with
 |ref a=>
  rcases h with⟨xs,e⟩|⟨xs,e⟩|⟨xs,e⟩<;>simp only[tupOf,e,s _ _ e]
 |_=>rfl
theorem fM(h:Thg H v)(s:al H H'):lstOf H' v=lstOf H v:=by
 cases v with
 |ref a=>
  rcases h with⟨xs,e⟩|⟨xs,e⟩|⟨xs,e⟩<;>simp only[lstOf,e,s _ _ e]
 |_=>rfl
theorem dN.same{n:Nat}:∀{v:V},dN H n v->al H H'->dN H' n v:=by
 induction n with
 |zero=>intro v h s;exact Thg.same h s
 |succ n ih=>
  intro v h s;refine⟨h.1.same s,λxs hx x hm=>ih (h.2 xs ?_ x hm) s⟩;rw[dQ h.1 s,fM h.1 s]at hx;exact hx
theorem dP{xs:List V}(h:tupOf H v=some xs):∃a,v=.ref a/\H a=some (.tup xs):=by
 cases v with
 |ref a=>
  simp only[tupOf]at h;split at h
  .rename_i e;cases h;exact⟨a,rfl,e⟩
  .cases h
 |_=>cases h
theorem er{xs:List V}(h:lstOf H v=some xs):∃a,v=.ref a/\H a=some (.lst xs):=by
 cases v with
 |ref a=>
  simp only[lstOf]at h;split at h
  .rename_i e;cases h;exact⟨a,rfl,e⟩
  .cases h
 |_=>cases h
theorem jt(h:Ev te σ H v)(t:Thg H v):Ev (Bf T te) σ H (.bl (jp T H v)):=λQ q=>h _ (by
 cases v with
 |ref a=>
  rcases t with⟨xs,e⟩|⟨xs,e⟩|⟨xs,e⟩<;>(simp only[t3,e];simp only[jp,e]at q;exact q)
 |non=>exact q
 |bl b=>exact q
 |int b=>exact q
 |str b=>exact q
 |_=>exact t.elim)
theorem sL(t:Thg H v):(jp .int H v&& !jp .bool H v)=sM v:=by
 cases v with
 |ref a=>rcases t with⟨xs,e⟩|⟨xs,e⟩|⟨xs,e⟩<;>(simp only[jp,e];rfl)
 |non=>rfl
 |bl b=>rfl
 |int b=>rfl
 |str b=>rfl
 |_=>exact t.elim
theorem nc(t:Thg H v):jp .str H v=(match v with| .str _=>true|_=>false):=by
 cases v with
 |ref a=>rcases t with⟨xs,e⟩|⟨xs,e⟩|⟨xs,e⟩<;>(simp only[jp,e];rfl)
 |non=>rfl
 |bl b=>rfl
 |int b=>rfl
 |str b=>rfl
 |_=>exact t.elim
theorem Ab(t:Thg H v):jp .tuple H v=(tupOf H v).isSome:=by
 cases v with
 |ref a=>rcases t with⟨xs,e⟩|⟨xs,e⟩|⟨xs,e⟩<;>(simp only[jp,tupOf,e];rfl)
 |non=>rfl
 |bl b=>rfl
 |int b=>rfl
 |str b=>rfl
 |_=>exact t.elim
theorem AI(t:Thg H v):jp .list H v=(lstOf H v).isSome:=by
 cases v with
 |ref a=>rcases t with⟨xs,e⟩|⟨xs,e⟩|⟨xs,e⟩<;>(simp only[jp,lstOf,e];rfl)
 |non=>rfl
 |bl b=>rfl
 |int b=>rfl
 |str b=>rfl
 |_=>exact t.elim
theorem mx(z:Str)(ws:List Str):BB (.str z) (ws.map V.str)=decide (z∈ws):=by
 unfold BB;rw[JV]
 by_cases h:z∈ws
 .rw[E5 h];exact Jv.mpr ⟨z,h,by simp[eqV]⟩
 .rw[E6 h];apply JN.mpr;intro y hy;have:y≠z:=λe=>h (e▸hy);simp[eqV,this]
theorem ka(ss:List Str):(ss.map V.str).all bO=true:=Ji.mpr λx hx=>by obtain⟨z,_,rfl⟩:=IR.mp hx;rfl
theorem oa{z:Str}{p:Addr}(ha:Ev ta σ H (.str z))(hb:Ev tb σ H (.ref p))(h:aM K H p (ws.map V.str)\/dC K H p (ws.map V.str)):Ev (e7 K .In ta tb) σ H (.bl (decide (z∈ws))):=λQ q=>ha _ (hb _ (by
 show gC K .In (.str z) (.ref p) H Q;rw[kK];refine⟨p,_,rfl,h,rfl,ka ws,?_⟩;rw[mx];exact q))
end
def sortsL:List Str:=["leap","slide","jump"]
def aimsL:List Str:=["go","hit","any"]
def kc:List Str:=["without","home"]
def kx:List Str:=["lost","even","won"]
def tupB(H:Hp)(v:V)(n:Int):Bool:=match tupOf H v with
 |some xs=>decide ((xs.length:Int)=n)
 |none=>false
def iq(H:Hp)(v:V)(a b:Int):Bool:=match lstOf H v with
 |some xs=>decide (a<=(xs.length:Int)/\(xs.length:Int)<=b)
 |none=>false
def limS(so:Str):Int:=if so="leap"then 3 else 1
def lQ(so:Str)(x y:V):Bool:=amongB x (-limS so) (limS so)&&amongB y (-limS so) (limS so)&& !(decide (x=.int 0)&&decide (y=.int 0))
def hJ(xs:List V)(ws:List Str):Bool:=match xs with
 | [k,.str so,.str ai,x,y]=>wordB k ws&&decide (so∈sortsL)&&decide (ai∈aimsL)&& !(decide (so="jump")&& !decide (ai="hit"))&&lQ so x y
 |_=>false
def dz(H:Hp)(v:V)(ws:List Str):Bool:=match tupOf H v with
 |some xs=>hJ xs ws
 |none=>false
def me(xs:List V)(A B:List Str):Bool:=match xs with
 | [a,b]=>wordB a A&&wordB b B
 |_=>false
def dB(H:Hp)(v:V)(A B:List Str):Bool:=match tupOf H v with
 |some xs=>me xs A B
 |none=>false
def pairsB(H:Hp)(v:V)(A B:List Str):Bool:=match lstOf H v with
 |some vs=>decide (vs.length<=6)&&vs.all (λx=>dB H x A B)
 |none=>false
def cw(H:Hp)(v:V):Str:=match tupOf H v with
 |some (.str a::_)=>a
 |_=>Gm
def fZ(H:Hp)(v:V):Str:=match tupOf H v with
 |some (_:: .str b::_)=>b
 |_=>Gm
def eX(H:Hp)(v:V)(ws:List Str):Bool:=pairsB H v ws ws&&match lstOf H v with
 |some vs=> !(vs.any λx=>decide (fZ H x∈vs.map (cw H)))&&decide ((vs.map (cw H)).Nodup)
 |none=>false
def jd:Sp:=λvs H Q _=>∃v,vs=[v]/\Thg H v/\Q (.bl (sM v)) H
def fY:Sp:=λvs H Q _=>∃v a b,vs=[v,.int a,.int b]/\Thg H v/\Q (.bl (amongB v a b)) H
def eJ(K:Frag)(H:Hp)(d:Addr)(ws:List Str):Prop:=aM K H d (ws.map V.str)\/dC K H d (ws.map V.str)
def gt(K:Frag):Sp:=λvs H Q _=>∃v d ws,vs=[v,.ref d]/\Thg H v/\eJ K H d ws/\Q (.bl (wordB v ws)) H
def fX:Sp:=λvs H Q _=>∃v n,vs=[v,.int n]/\Thg H v/\Q (.bl (tupB H v n)) H
def kz:Sp:=λvs H Q _=>∃v a b,vs=[v,.int a,.int b]/\Thg H v/\Q (.bl (iq H v a b)) H
def oS:Sp:=λvs H Q _=>∃so x y,vs=[.str so,x,y]/\Thg H x/\Thg H y/\Q (.bl (lQ so x y)) H
def oU(K:Frag):Sp:=λvs H Q _=>∃v d ws,vs=[v,.ref d]/\dN H 1 v/\eJ K H d ws/\Q (.bl (dz H v ws)) H
def oW(K:Frag):Sp:=λvs H Q _=>∃v d e A B,vs=[v,.ref d,.ref e]/\dN H 1 v/\eJ K H d A/\eJ K H e B/\Q (.bl (dB H v A B)) H
def lU(K:Frag):Sp:=λvs H Q _=>∃v d e A B,vs=[v,.ref d,.ref e]/\dN H 2 v/\eJ K H d A/\eJ K H e B/\∀H',al H H'->Q (.bl (pairsB H v A B)) H'
def lR(K:Frag):Sp:=λvs H Q _=>∃v d ws,vs=[v,.ref d]/\dN H 2 v/\eJ K H d ws/\∀H',al H H'->Q (.bl (eX H v ws)) H'
def oZ(K:Frag):Sp:=λvs H Q _=>∃v d ws,vs=[v,.ref d]/\dN H 2 v/\eJ K H d ws/\∀H',al H H'->Q (.bl (pairsB H v kc ws)) H'
theorem oz{σ:St}{H:Hp}{Q:VK}{ta tb:TE}{a:Bool}(ha:Ev ta σ H (.bl a))(h1:a=true->tb σ H Q)(h2:a=false->Q (.bl false) H):uI ta tb σ H Q:=ha _ (by
 cases a with
 |true=>exact h1 rfl
 |false=>exact h2 rfl)
theorem uB{K:Frag}{σ:St}{H:Hp}{Q:VK}{ta tb:TE}{op:Hg}(h:ta σ H λx H1=>tb σ H1 λy H2=>gC K op x y H2 Q):e7 K op ta tb σ H Q:=h
theorem ql{H:Hp}{v:V}{A B:List Str}(h:pairsB H v A B=true):∃xs,lstOf H v=some xs/\xs.length<=6/\∀x∈xs,∃c f1 f2,x=.ref c/\H c=some (.tup [.str f1,.str f2]):=by
 unfold pairsB at h;cases e1:lstOf H v with
 |none=>rw[e1]at h;cases h
 |some xs=>
  rw[e1]at h;have h:(decide (xs.length<=6)&&xs.all (λx=>dB H x A B))=true:=h;rw[KJ]at h;refine⟨xs,rfl,E9 h.1,λx hx=>?_⟩;have hp:=Ji.mp h.2 x hx;unfold dB at hp;cases e2:tupOf H x with
  |none=>rw[e2]at hp;cases hp
  |some ys=>
   rw[e2]at hp;obtain⟨c,rfl,hc⟩:=dP e2;have hp:me ys A B=true:=hp
   match ys,hp,hc with
   | [a,b],hp,hc=>
     have hp:(wordB a A&&wordB b B)=true:=hp;rw[KJ]at hp;cases a with
     |str f1=>
      cases b with
      |str f2=>exact⟨c,f1,f2,rfl,hc⟩
      |_=>cases hp.2
     |_=>cases hp.1
   | [],hp,_=>cases hp
   | [_],hp,_=>cases hp
   |_::_::_::_,hp,_=>cases hp
structure RG0(P:Fn)(w:Fp)(K:Frag)(mg:Fc)(E3:Fw):Prop where
 is_whole:eK P w K mg E3 "is_whole" ["thing"] 1 jd
structure RG1(P:Fn)(w:Fp)(K:Frag)(mg:Fc)(E3:Fw):Prop where
 is_among:eK P w K mg E3 "is_among" ["thing","least","most"] 2 fY
structure RG2(P:Fn)(w:Fp)(K:Frag)(mg:Fc)(E3:Fw):Prop where
 is_word:eK P w K mg E3 "is_word" ["thing","words"] 1 (gt K)
 is_tuple_of:eK P w K mg E3 "is_tuple_of" ["thing","many"] 1 fX
structure RG3(P:Fn)(w:Fp)(K:Frag)(mg:Fc)(E3:Fw):Prop extends RG2 P w K mg E3 where
 is_step:eK P w K mg E3 "is_step" ["sort","across","up"] 3 oS
structure RG4(P:Fn)(w:Fp)(K:Frag)(mg:Fc)(E3:Fw):Prop where
 is_list_of:eK P w K mg E3 "is_list_of" ["thing","least","most"] 1 kz
 is_pair:eK P w K mg E3 "is_pair" ["thing","firsts","seconds"] 2 (oW K)
structure RG5(P:Fn)(w:Fp)(K:Frag)(mg:Fc)(E3:Fw):Prop where
 are_pairs:eK P w K mg E3 "are_pairs" ["thing","firsts","seconds"] 3 (lU K)
def letB:V->Bool
 | .str z=>match z.cps.toList with
   | [c]=>decide (97<=c/\c<=122)
   |_=>false
 |_=>false
def fW:V->Str
 | .str z=>z
 |_=>Gm
def jo(H:Hp)(v:V):Bool:=match lstOf H v with
 |some xs=>decide (1<=xs.length/\xs.length<=6)&&xs.all letB&&decide ((xs.map fW).Nodup)
 |none=>false
def eg(H:Hp)(v:V)(ws:List Str):Bool:=match lstOf H v with
 |some xs=>decide (xs.length<=24)&&xs.all (λx=>dz H x ws)
 |none=>false
theorem C9:("a":Str).cps.toList=[97]:=by decide+kernel
theorem C8:("z":Str).cps.toList=[122]:=by decide+kernel
theorem AH{c d:Nat}:([c]<[d])<->c<d:=by
 constructor
 .intro h;cases h with
  |rel h=>exact h
  |cons h=>cases h
 .intro h;exact List.Lex.rel h
theorem vV{K:Frag}{σ:St}{H:Hp}{ta tb tc:TE}{x y z:Str}(ha:Ev ta σ H (.str x))(hb:Ev tb σ H (.str y))(hc:Ev tc σ H (.str z)):Ev (lC K .LtE .LtE ta tb tc) σ H (.bl (!decide (y.cps.toList<x.cps.toList)&& !decide (z.cps.toList<y.cps.toList))):=λQ q=>ha _ (hb _ (by
 show gC K .LtE (.str x) (.str y) H _;rw[qe,r_b];cases h: !decide (y.cps.toList<x.cps.toList)with
 |true=>
  rw[h]at q;exact hc _ q
 |false=>
  rw[h]at q;exact q))
def j1:Sp:=λvs H Q _=>∃v,vs=[v]/\Thg H v/\Q (.bl (letB v)) H
def lY:Sp:=λvs H Q _=>∃v,vs=[v]/\dN H 1 v/\∀H',al H H'->Q (.bl (jo H v)) H'
def lS(K:Frag):Sp:=λvs H Q _=>∃v d ws,vs=[v,.ref d]/\dN H 2 v/\eJ K H d ws/\∀H',al H H'->Q (.bl (eg H v ws)) H'
theorem tV{v:V}(h:letB v=true):∃c,v=.str (one c)/\mY c:=by
 cases v with
 |str z=>
  match e:z.cps.toList with
  | [c]=>
    simp only[letB,e]at h;exact⟨c,by rw[iT (x:=z) (y:=one c) (by rw[e])],E9 (p:=97<=c/\c<=122) h⟩
  | []=>simp only[letB,e]at h;cases h
  |_::_::_=>simp only[letB,e]at h;cases h
 |_=>cases h
structure zu(K:Frag)(C:Addr):Prop where
 cl:mZ K C
 board:bS K C "board"
 kinds:bS K C "kinds"
 rules:bS K C "rules"
 turns:bS K C "turns"
 ends:bS K C "ends"
 stuck:bS K C "stuck"
def gf1(b:Addr):List (Str×V):=putF "board" (.ref b) []
def gf2(b k:Addr):List (Str×V):=putF "kinds" (.ref k) (gf1 b)
def gf3(b k r:Addr):List (Str×V):=putF "rules" (.ref r) (gf2 b k)
def gf4(b k r t:Addr):List (Str×V):=putF "turns" (.ref t) (gf3 b k r)
def BD(b k r t e:Addr):List (Str×V):=putF "ends" (.ref e) (gf4 b k r t)
def mD(b k r t e:Addr)(st:Str):List (Str×V):=putF "stuck" (.str st) (BD b k r t e)
section
variable{b k r t e:Addr}{st:Str}
theorem uc:(mD b k r t e st).lookup ("board":Str)=some (.ref b):=by unfold mD BD gf4 gf3 gf2 gf1;rw[az,E7 (by decide+kernel),az,E7 (by decide+kernel),az,E7 (by decide+kernel),az,E7 (by decide+kernel),az,E7 (by decide+kernel),az,E8 rfl]
theorem ub:(mD b k r t e st).lookup ("kinds":Str)=some (.ref k):=by unfold mD BD gf4 gf3 gf2;rw[az,E7 (by decide+kernel),az,E7 (by decide+kernel),az,E7 (by decide+kernel),az,E7 (by decide+kernel),az,E8 rfl]
theorem A0:(gf1 b).length<=1/\(gf2 b k).length<=2/\(gf3 b k r).length<=3/\(gf4 b k r t).length<=4/\(BD b k r t e).length<=5:=by have a1:(gf1 b).length<=1:=bE "board" (.ref b) [];have a2:(gf2 b k).length<=(gf1 b).length+1:=bE "kinds" (.ref k) (gf1 b);have a3:(gf3 b k r).length<=(gf2 b k).length+1:=bE "rules" (.ref r) (gf2 b k);have a4:(gf4 b k r t).length<=(gf3 b k r).length+1:=bE "turns" (.ref t) (gf3 b k r);have a5:(BD b k r t e).length<=(gf4 b k r t).length+1:=bE "ends" (.ref e) (gf4 b k r t);omega
end
structure gT(C:Addr)(H:Hp)(p b:Addr)(ks rs ts es:List V)(st:Str):Prop where
 ex:∃dx kq rq tq eq,H p=some (.ins C dx (mD b kq rq tq eq st))/\H kq=some (.lst ks)/\H rq=some (.lst rs)/\H tq=some (.lst ts)/\H eq=some (.lst es)
section
variable{K:Frag}{C:Addr}{H H':Hp}{p b:Addr}{ks rs ts es:List V}{st:Str}
theorem gT.same(G:gT C H p b ks rs ts es st)(s:al H H'):gT C H' p b ks rs ts es st:=by obtain⟨dx,kq,rq,tq,eq,a,c,d,e,f⟩:=G.ex;exact⟨dx,kq,rq,tq,eq,s _ _ a,s _ _ c,s _ _ d,s _ _ e,s _ _ f⟩
theorem gT.board(G:gT C H p b ks rs ts es st)(D:zu K C):Fl K H p "board" (.ref b):=by obtain⟨dx,kq,rq,tq,eq,a,_⟩:=G.ex;exact⟨C,dx,_,a,D.cl,D.board,uc⟩
theorem gT.kinds(G:gT C H p b ks rs ts es st)(D:zu K C):∃q,Fl K H p "kinds" (.ref q)/\H q=some (.lst ks):=by obtain⟨dx,kq,rq,tq,eq,a,c,d,e,f⟩:=G.ex;exact⟨kq,⟨C,dx,_,a,D.cl,D.kinds,ub⟩,c⟩
end
section
variable{H H':Hp}{v:V}{A B ws:List Str}
theorem nG(t:Thg H v)(s:al H H'):dB H' v A B=dB H v A B:=by unfold dB;rw[dQ t s]
theorem nB(t:Thg H v)(s:al H H'):dz H' v ws=dz H v ws:=by unfold dz;rw[dQ t s]
theorem qH(t:Thg H v)(s:al H H'):cw H' v=cw H v:=by unfold cw;rw[dQ t s]
theorem pX(t:Thg H v)(s:al H H'):fZ H' v=fZ H v:=by unfold fZ;rw[dQ t s]
theorem mT{f g:V->Bool}{xs:List V}(h:∀x∈xs,f x=g x):xs.all f=xs.all g:=by
 induction xs with
 |nil=>rfl
 |cons a r ih=>rw[IZ,IZ,h a (by simp),ih λx hx=>h x (by simp[hx])]
theorem uM{f g:V->Bool}{xs:List V}(h:∀x∈xs,f x=g x):xs.any f=xs.any g:=by
 induction xs with
 |nil=>rfl
 |cons a r ih=>rw[JE,JE,h a (by simp),ih λx hx=>h x (by simp[hx])]
theorem iE(t:dN H 2 v)(s:al H H'):pairsB H' v A B=pairsB H v A B:=by
 unfold pairsB;rw[fM t.1 s];cases e:lstOf H v with
 |none=>rfl
 |some xs=>
  show(_&&xs.all _)=(_&&xs.all _);rw[mT (g:=λx=>dB H x A B) λx hx=>nG (t.2 xs (.inr e) x hx).thg s]
theorem l8(t:dN H 2 v)(s:al H H'):eg H' v ws=eg H v ws:=by
 unfold eg;rw[fM t.1 s];cases e:lstOf H v with
 |none=>rfl
 |some xs=>
  show(_&&xs.all _)=(_&&xs.all _);rw[mT (g:=λx=>dz H x ws) λx hx=>nB (t.2 xs (.inr e) x hx).thg s]
theorem lK(t:dN H 2 v)(s:al H H'):eX H' v ws=eX H v ws:=by
 unfold eX;rw[iE t s,fM t.1 s];cases e:lstOf H v with
 |none=>rfl
 |some xs=>
  have tx:∀x∈xs,Thg H x:=λx hx=>(t.2 xs (.inr e) x hx).thg;have em:xs.map (cw H')=xs.map (cw H):=Jp λx hx=>qH (tx x hx) s;show(_&&((!xs.any λx=>decide (fZ H' x∈xs.map (cw H')))&&decide ((xs.map (cw H')).Nodup)))=(_&&((!xs.any λx=>decide (fZ H x∈xs.map (cw H)))&&decide ((xs.map (cw H)).Nodup)));rw[em,uM (g:=λx=>decide (fZ H x∈xs.map (cw H))) λx hx=>by rw[pX (tx x hx) s]]
end
def oY(K:Frag)(C:Addr):Sp:=λvs H Q _=>∃(p b kd rd td ed dx:Addr)(ws:List Str)(rs ts es:List V)(st:Str),vs=[.ref p,.ref b,.ref kd,.ref rd,.ref td,.ref ed,.str st]/\H p=some (.ins C dx [])/\H kd=some (.lst (ws.map V.str))/\H rd=some (.lst rs)/\H td=some (.lst ts)/\H ed=some (.lst es)/\
 dN H 1 (.ref kd)/\dN H 2 (.ref rd)/\dN H 2 (.ref td)/\dN H 2 (.ref ed)/\jo H (.ref kd)=true/\eg H (.ref rd) ws=true/\eX H (.ref td) ws=true/\pairsB H (.ref ed) kc ws=true/\st∈kx/\st.length<=1000/\
 ∀H',gT C H' p b (ws.map V.str) rs ts es st->SameBut p H H'->Q .non H'
structure EZ(P:Fn)(w:Fp)(K:Frag)(mg:Fc)(E3:Fw):Prop where
 is_list_of:eK P w K mg E3 "is_list_of" ["thing","least","most"] 1 kz
 is_letter:eK P w K mg E3 "is_letter" ["thing"] 1 j1
 is_rule:eK P w K mg E3 "is_rule" ["thing","kinds"] 4 (oU K)
structure GG2(P:Fn)(w:Fp)(K:Frag)(mg:Fc)(E3:Fw):Prop where
 are_kinds:eK P w K mg E3 "are_kinds" ["thing"] 2 lY
 are_rules:eK P w K mg E3 "are_rules" ["thing","kinds"] 5 (lS K)
 is_turns:eK P w K mg E3 "is_turns" ["thing","kinds"] 4 (lR K)
 is_ends:eK P w K mg E3 "is_ends" ["thing","kinds"] 4 (oZ K)
 is_word:eK P w K mg E3 "is_word" ["thing","words"] 1 (gt K)
theorem iU{K:Frag}{σ:St}{H:Hp}{to te:TE}{u:TS}{D:cD}{f:Str}{p C dx d:Addr}{fs:List (Str×V)}{xs:List V}(he:Ev te σ H (.ref d))(hd:H d=some (.lst xs))(ho:∀H',Ev to σ H' (.ref p))(hp:H p=some (.ins C dx fs))(hc:mZ K C)(hn:bS K C f)(hl:fs.length<1000)
  (h2:∀q,H q=none->u D σ (upd (upd H q (.lst xs)) p (.ins C dx (putF f (.ref q) fs)))):bg (qb K to (cB (j6 K) (aV te ce)) f) u D σ H:=
 he _ ⟨xs,.inl (aM.of hd),λq hq=>ho _ _ ⟨p,C,dx,fs,rfl,by rw[ar (au hp hq)];exact hp,hc,hn,hl,h2 q hq⟩⟩
end L2
namespace L2
open PySem
theorem fS{N P:List Str}{sc:Gj}(a:sc.kind=.function:=by rfl)(b:sc.isCoroutine=false:=by rfl)(c:sc.isGenerator=false:=by rfl)(d:N.Nodup:=by decide+kernel)(e:N.take P.length=P:=by rfl)(f:∀x∈P,sc.names.lookup x=some .local\/sc.names.lookup x=some .cell:=by decide+kernel)(g:∀y∈sc.names,y.2≠.free:=by decide+kernel):aH N P sc:=⟨a,b,c,d,e,f,g⟩
end L2
namespace L2
open PySem PySem.Spec PyProof.Rows
section
variable{K:Frag}{te to ta tb ti:TE}{u:TS}{D:cD}{σ:St}{H:Hp}{Q:VK}{v:V}
theorem De{l:Addr}{i:Int}{P:V->Hp->Prop}(h:∀Q:VK,(∀v H',P v H'->Q v H')->te σ H Q)(h2:∀v H',P v H'->Ev to σ H' (.ref l)/\Ev ti σ H' (.int i)/\∃xs,H' l=some (.lst xs)/\0<=i/\i<xs.length/\D.nx σ (upd H' l (.lst (xs.set i.toNat v)))):tAsg te (gSub to ti yY) D σ H:=
 h _ λv H' p=>by obtain⟨ho,hi,xs,hl,h0,h1,q⟩:=h2 v H' p;refine ho _ (hi _ ⟨l,xs,i,i.toNat,rfl,rfl,hl,?_,q⟩);unfold ixN;rw[E8 h0,E8 h1]
end
structure D3(z TI TO i1 i2:Addr):Prop where
 a:TI≠z
 b:TO≠z
 c:i1≠z
 d:i2≠z
 e:TI≠TO
 f:TO≠i1
 g:TO≠i2
 h:i1≠i2
 i:TI≠i1
 j:TI≠i2
section
variable{prog:Fn}{w:Fp}{A:Fz}{E:Fd}{s:Fi}{z TI TO i1 i2:Addr}{n1 n2 i:Nat}{P1 P2:Nat->Value->Prop}{S1 S2:Nat->Fw->Prop}{a b:Value}
theorem uX{Q:Fd}(D1:Draws prog w A i1 [i1] n1 P1 S1)(D2:Draws prog w A i2 [i2] n2 P2 S2)(ap:D3 z TI TO i1 i2)(hz:Hn s.heap z TI TO .none)(hTI:Gn s.heap TI (.ref i1) (.ref i2))(hTO:Gn s.heap TO a b)(h1:S1 i s.heap)(h2:S2 i s.heap)(l1:i<n1)(l2:i<n2)
  (hQ:∀x y h' tk,P1 i x->P2 i y->Hn h' z TI TO (IH s.heap.objs.size)->Gn h' TO x y->S1 (i+1) h'->S2 (i+1) h'->Gn h' s.heap.objs.size x y->(∀c o,c≠z->c≠TO->c≠i1->c≠i2->s.heap.get? c=some o->h'.get? c=some o)->Q (.ref s.heap.objs.size) {s with heap:=h',toks:=tk}):
  Fs (Fu prog w) A (GN.«zip.__next__» ⟨[.ref z],[]⟩) (λfin s'=>∃v,fin=.done (.ret v)/\Q v s') E s:=by
 have f1:∀{k:Nat}{c:Addr}{g g':Fw},S1 k g->Gq c g g'->i1≠c->S1 k g':=λst sb ne=>D1.frame _ _ _ st λq hq o ho=>by rw[IS.mp hq]at ho ⊢;exact sb.extBut _ _ ne ho
 have f2:∀{k:Nat}{c:Addr}{g g':Fw},S2 k g->Gq c g g'->i2≠c->S2 k g':=λst sb ne=>D2.frame _ _ _ st λq hq o ho=>by rw[IS.mp hq]at ho ⊢;exact sb.extBut _ _ ne ho
 refine Ff (m:=field (.ref z) 2) (FS hz rfl (x:=.bool false) rfl (Ff (m:=field (.ref z) 3) (FS hz rfl (x:=.ref TI) rfl (Ff (FX hTI rfl ?_)))));refine Ff (m:=FK (.ref z)) ?_;unfold FK;refine Ff (FS hz rfl (x:=.none) rfl (Fm ?_));rw[E8 rfl];refine Ff (Ig ?_);refine Ff (FS hz rfl (x:=.ref TO) rfl (Ff (Ge hz (by simp) λg1 zz1 b1=>Ff ?_)));have z1:Hn g1 z TI TO .ellipsis:=zz1;simp only[List.zipIdx_cons,List.zipIdx_nil,Jw,List.forIn_nil];refine Ff (Ff (Ic (Ff (m:=Gr (.ref i1)) (D1.item i _ _ _ l1 (f1 h1 b1 ap.c) λx g2 k2 p1 t2 b2=>Fm ?_))));have o2:Gn g2 TO a b:=b2.extBut _ _ ap.f (b1.extBut _ _ ap.b hTO);refine Ff (FX o2 rfl (Ff (wpAny_updateSeq_pair o2 λg3 oo3 b3=>Ff (HV (Fm ?_)))));have o3:Gn g3 TO x b:=oo3;refine Ff (Ff (Ic (Ff (m:=Gr (.ref i2)) (D2.item i _ _ _ l2 (f2 (f2 (f2 h2 b1 ap.d) b2 ap.h.symm) b3 ap.g.symm) λy g4 k4 p2 t4 b4=>Fm ?_))));have o4:Gn g4 TO x b:=b4.extBut _ _ ap.g o3;refine Ff (FX o4 rfl (Ff (wpAny_updateSeq_pair o4 λg5 oo5 b5=>Ff (HV (Fm (Fm ?_))))));have o5:Gn g5 TO x y:=oo5;have n5:g5.objs.size=s.heap.objs.size:=by rw[b5.1,b4.1,b3.1,b2.1,b1.1]
 have z5:Hn g5 z TI TO .ellipsis:=b5.extBut _ _ ap.b.symm (b4.extBut _ _ ap.d.symm (b3.extBut _ _ ap.b.symm (b2.extBut _ _ ap.c.symm z1)));have u1:S1 (i+1) g5:=f1 (f1 (f1 t2 b3 ap.f.symm) b4 ap.h) b5 ap.f.symm;have u2:S2 (i+1) g5:=f2 t4 b5 ap.g.symm;have zl:z<g5.objs.size:=Fk z5;refine Ff (FX o5 rfl (Ff (wpAny_newTuple (Ff (m:=Gs (.ref z) (.ref g5.objs.size)) ?_))));unfold Gs;have z6:Hn (g5.push {cls:=.type "tuple",data:=.seq #[x,y]}) z TI TO .ellipsis:=Fh _ z5;refine Ff (Ge z6 (by simp) λg7 zz7 b7=>Ge (show Hn g7 z TI TO (IH g5.objs.size)from zz7) (by simp) λg8 zz8 b8=>Fm ⟨_,rfl,?_⟩);have z8:Hn g8 z TI TO (IH g5.objs.size):=zz8;have up:∀c o,c≠z->g5.get? c=some o->g8.get? c=some o:=λc o c1 e=>b8.extBut _ _ c1 (b7.extBut _ _ c1 (Fh _ e));have t8:Gn g8 g5.objs.size x y:=b8.extBut _ _ (Kl zl) (b7.extBut _ _ (Kl zl) (Fo _ rfl));show Q (.ref g5.objs.size) _;rw[n5]at z8 t8 ⊢;exact hQ x y g8 k4 p1 p2 z8 (up _ _ ap.b o5) (D1.frame _ _ _ u1 λq hq o ho=>by rw[IS.mp hq]at ho ⊢;exact up _ _ ap.c ho) (D2.frame _ _ _ u2 λq hq o ho=>by rw[IS.mp hq]at ho ⊢;exact up _ _ ap.d ho) t8 λc o c1 c2 c3 c4 e=>up c o c1 (b5.extBut _ _ c2 (b4.extBut _ _ c4 (b3.extBut _ _ c2 (b2.extBut _ _ c3 (b1.extBut _ _ c1 e)))))
theorem zU{Q:Fin->Fi->Prop}(D1:Draws prog w A i1 [i1] n1 P1 S1)(ap:D3 z TI TO i1 i2)(hz:Hn s.heap z TI TO .none)(hTI:Gn s.heap TI (.ref i1) (.ref i2))(h1:S1 n1 s.heap)
  (hE:∀h' e,(∀c o,c≠z->c≠i1->s.heap.get? c=some o->h'.get? c=some o)->(∃o,h'.get? e=some o/\o.cls=.type "StopIteration")->E (.ref e) {s with heap:=h'}):Fs (Fu prog w) A (GN.«zip.__next__» ⟨[.ref z],[]⟩) Q E s:=by
 have f1:∀{k:Nat}{c:Addr}{g g':Fw},S1 k g->Gq c g g'->i1≠c->S1 k g':=λst sb ne=>D1.frame _ _ _ st λq hq o ho=>by rw[IS.mp hq]at ho ⊢;exact sb.extBut _ _ ne ho
 refine Ff (m:=field (.ref z) 2) (FS hz rfl (x:=.bool false) rfl (Ff (m:=field (.ref z) 3) (FS hz rfl (x:=.ref TI) rfl (Ff (FX hTI rfl ?_)))));refine Ff (m:=FK (.ref z)) ?_;unfold FK;refine Ff (FS hz rfl (x:=.none) rfl (Fm ?_));rw[E8 rfl];refine Ff (Ig ?_);refine Ff (FS hz rfl (x:=.ref TO) rfl (Ff (Ge hz (by simp) λg1 zz1 b1=>Ff ?_)));have z1:Hn g1 z TI TO .ellipsis:=zz1;simp only[List.zipIdx_cons,List.zipIdx_nil,Jw,List.forIn_nil];refine Ff (Ff (Ic (Ff (m:=Gr (.ref i1)) (D1.done _ _ _ (f1 h1 b1 ap.c) λg2 e b2 he=>?_))));obtain⟨oe,hoe,hce⟩:=he;have z2:Hn g2 z TI TO .ellipsis:=b2 _ _ ap.c.symm z1;have ne:e≠z:=λq=>by rw[q]at hoe;have z2':g2.get? z=_:=z2;rw[z2']at hoe;cases hoe;simp at hce
 exact Ge z2 (by simp) λg3 _ b3=>hE g3 e (λc o c1 c3 q=>b3.extBut _ _ c1 (b2 _ _ c3 (b1.extBut _ _ c1 q))) ⟨oe,b3.extBut _ _ ne hoe,hce⟩
theorem uW{Q:Option Value->Fi->Prop}(D1:Draws prog w A.in1 i1 [i1] n1 P1 S1)(D2:Draws prog w A.in1 i2 [i2] n2 P2 S2)(ap:D3 z TI TO i1 i2)(hz:Hn s.heap z TI TO .none)(hTI:Gn s.heap TI (.ref i1) (.ref i2))(hTO:Gn s.heap TO a b)(h1:S1 i s.heap)(h2:S2 i s.heap)(l1:i<n1)(l2:i<n2)
  (hQ:∀x y h' tk,P1 i x->P2 i y->Hn h' z TI TO (IH s.heap.objs.size)->Gn h' TO x y->S1 (i+1) h'->S2 (i+1) h'->Gn h' s.heap.objs.size x y->(∀c o,c≠z->c≠TO->c≠i1->c≠i2->s.heap.get? c=some o->h'.get? c=some o)->Q (some (.ref s.heap.objs.size)) {s with heap:=h',toks:=tk}):
  Fs (Fu prog w) A (HK (.ref z)) Q E s:=by
 have hT:s.TypeIs (.ref z) "zip":=⟨_,hz,rfl⟩;unfold HK;exact Ff (GU (FZ (name:=GJ "__next__") hT GX (GQ GX hT F.entry_zip_next (uX D1 D2 ap hz hTI hTO h1 h2 l1 l2 λx y h' tk q1 q2 q3 q4 q5 q6 q7 q8=>Fm (hQ x y h' tk q1 q2 q3 q4 q5 q6 q7 q8)) (F.args_zip_next_1 _))))
theorem uV{Q:Option Value->Fi->Prop}(D1:Draws prog w A.in1 i1 [i1] n1 P1 S1)(ap:D3 z TI TO i1 i2)(hz:Hn s.heap z TI TO .none)(hTI:Gn s.heap TI (.ref i1) (.ref i2))(h1:S1 n1 s.heap)
  (hQ:∀h',(∀c o,c≠z->c≠i1->s.heap.get? c=some o->h'.get? c=some o)->Q none {s with heap:=h'}):Fs (Fu prog w) A (HK (.ref z)) Q E s:=by
 have hT:s.TypeIs (.ref z) "zip":=⟨_,hz,rfl⟩;unfold HK;refine Ff (GU (FZ (name:=GJ "__next__") hT GX (GQ GX hT F.entry_zip_next (zU D1 ap hz hTI h1 λh' e hk he=>?_) (F.args_zip_next_1 _))));obtain⟨o,ho,hc⟩:=he;exact Ff (GP (T:="StopIteration") (b:=true) ⟨o,ho,hc⟩ isSubtype_stop (Fm (hQ _ hk)))
end
def sI(x:Str)(t:IF):Obj:={cls:=.type (Gc x),data:=.fields #[.str x t,.int 0 0]}
def uY(h:Fw)(x:Str)(t:IF)(y:Str)(u:IF):Fw:=(h.push (sI x t)).push (sI y u)
def C5(h:Fw)(x:Str)(t:IF)(y:Str)(u:IF):Fw:=((uY h x t y u).push {cls:=.type "tuple",data:=.seq #[.ref h.objs.size,.ref (h.push (sI x t)).objs.size]}).push {cls:=.type "tuple",data:=.seq #[.none,.none]}
def zV(h:Fw)(x:Str)(t:IF)(y:Str)(u:IF):Fw:=(C5 h x t y u).push {cls:=.type "zip",data:=.fields #[.none,.bool false,.bool false,.ref (uY h x t y u).objs.size,.ref ((uY h x t y u).push {cls:=.type "tuple",data:=.seq #[.ref h.objs.size,.ref (h.push (sI x t)).objs.size]}).objs.size]}
theorem nQ(x:Str)(t:IF)(y:Str)(u:IF):Meets (GN.«zip.__new__» ⟨[.type "zip",.str x t,.str y u],[]⟩) (λ_ R s=>R (.ok (.ret (.ref (C5 s.heap x t y u).objs.size))) {s with heap:=zV s.heap x t y u}):=
 .of_wp λprog w A R s h=>by
  obtain⟨hp,g,d,tk,os⟩:=s;have hsub:=sub_zip
  wp_walk using wpAny_pyIter_strU
  exact⟨_,rfl,h⟩
section
variable{prog:Fn}{w:Fp}{A:Fz}{E:Fd}{s:Fi}
theorem qS{x y:Str}{t u:IF}{Q:Fd}
  (h:∀h',Hn h' (s.heap.objs.size+4) (s.heap.objs.size+2) (s.heap.objs.size+3) .none->Gn h' (s.heap.objs.size+2) (.ref s.heap.objs.size) (.ref (s.heap.objs.size+1))->Gn h' (s.heap.objs.size+3) .none .none->
   h'.IsStrIter s.heap.objs.size (Gc x) x t 0->h'.IsStrIter (s.heap.objs.size+1) (Gc y) y u 0->(∀c o,s.heap.get? c=some o->h'.get? c=some o)->Q (.ref (s.heap.objs.size+4)) {s with heap:=h'}):
  Fs (Fu prog w) A (call (.type "zip") [.str x t,.str y u]) Q E s:=by
 refine callType_new F.called_zip (by decide) (F.typeCall_zip_2 _ _) (F.newCall_zip_2 _ _) (λobj=>F.args_object_init_3 obj _ _) F.entry_zip_new (nQ x t y u) ?_;have y1:(s.heap.push (sI x t)).objs.size=s.heap.objs.size+1:=FR ..;have y2:(uY s.heap x t y u).objs.size=s.heap.objs.size+2:=by unfold uY;rw[FR,y1]
 have y3:((uY s.heap x t y u).push {cls:=.type "tuple",data:=.seq #[.ref s.heap.objs.size,.ref (s.heap.push (sI x t)).objs.size]}).objs.size=s.heap.objs.size+3:=by rw[FR,y2]
 have y4:(C5 s.heap x t y u).objs.size=s.heap.objs.size+4:=by unfold C5;rw[FR,y3]
 have g5:(zV s.heap x t y u).get? (C5 s.heap x t y u).objs.size=some _:=Fo _ rfl;have up:∀c o,(uY s.heap x t y u).get? c=some o->(zV s.heap x t y u).get? c=some o:=λc o e=>Fh _ (Fh _ (Fh _ e));have g3:(zV s.heap x t y u).get? (uY s.heap x t y u).objs.size=some _:=Fh _ (Fh _ (Fo _ rfl));have g4:(zV s.heap x t y u).get? ((uY s.heap x t y u).push {cls:=.type "tuple",data:=.seq #[.ref s.heap.objs.size,.ref (s.heap.push (sI x t)).objs.size]}).objs.size=some _:=Fh _ (Fo _ rfl);have g1:(zV s.heap x t y u).get? s.heap.objs.size=some (sI x t):=up _ _ (Fh _ (Fo _ rfl));have g2:(zV s.heap x t y u).get? (s.heap.push (sI x t)).objs.size=some (sI y u):=up _ _ (Fo _ rfl);show _/\_;rw[y2,y3,y4]at g5;rw[y1,y2]at g3;rw[y3]at g4;rw[y1]at g2;rw[y4];exact⟨⟨_,g5,rfl⟩,h _ g5 g3 g4 ⟨_,g1,rfl,rfl⟩ ⟨_,g2,rfl,rfl⟩ λc o e=>up _ _ (Fh _ (Fh _ e))⟩
end
section
variable{X:Cx}{gV:Fe}{σ:St}{H:Hp}{s:Fi}{h':Fw}
theorem aC.turnedN{t':Nat}{fp:List Addr}(I:aC X gV σ H s)(k:∀b ob,b∉fp->s.heap.get? b=some ob->h'.get? b=some ob)(hf:∀b∈fp,fT X gV H b):aC X gV σ H {s with heap:=h',toks:=t'}:=by
 have nf:∀b u,H b=some u->b∉fp:=λb u q z=>by rw[(hf b z).1]at q;cases q
 have nl:X.env.locals∉fp:=λz=>(hf _ z).2.1 rfl;refine I.step (g':=s.gens) (d':=s.drawn) (ch:=fp) (λb hb=>⟨(hf b hb).2.2.2.1,(hf b hb).2.1,(hf b hb).2.2.2.2.1,(hf b hb).2.2.2.2.2⟩) (λb ob _ _ hc q _=>k b ob hc q) (λb ob _ _ hc q _=>⟨ob.slots,k b ob hc q⟩)
  (λ_ _ _ _ n=>n) (λb ob hc q=>⟨ob,k b ob hc q⟩) (λ_ _ q=>q) (λ_ _ _ q=>q) (λb ps q=>⟨#[],by rw[q];simp⟩) (λm hm=>?_) (λb u q=>?_) I.bare
 .obtain⟨ob,es,ep,ho,r⟩:=hm;exact⟨ob,es,ep,k _ ob nl ho,r⟩
 .refine(I.hok b u q).stay (λc v hc z=>k c v ?_ z) (λc z=>z) λc xs z=>z
  rcases hc with z|z
  .rw[z];exact nf b u q
  .exact nf c _ z
theorem aC.turned_laidN{t':Nat}{fp:List Addr}{a:Addr}{o:HO}(I:aC X gV σ H s)(k:∀b ob,b∉fp->s.heap.get? b=some ob->h'.get? b=some ob)(hf:∀b∈fp,fT X gV H b)(hp:s.heap.objs.size<=a)(new:bF X.prog X.w (upd H a o) h' a o):
  aC X gV σ (upd H a o) {s with heap:=h',toks:=t'}:=by
 have hn:H a=none:=I.hok.fresh hp;have nf:∀b u,H b=some u->b∉fp:=λb u q z=>by rw[(hf b z).1]at q;cases q
 have nl:X.env.locals∉fp:=λz=>(hf _ z).2.1 rfl;refine I.step (g':=s.gens) (d':=s.drawn) (ch:=fp) (λb hb=>⟨(hf b hb).2.2.2.1,(hf b hb).2.1,(hf b hb).2.2.2.2.1,(hf b hb).2.2.2.2.2⟩) (λb ob _ _ hc q _=>k b ob hc q) (λb ob _ _ hc q _=>⟨ob.slots,k b ob hc q⟩)
  (λb ob hc q n=>by rw[ar (Ke (Ki (Fk q) hp))];exact n) (λb ob hc q=>⟨ob,k b ob hc q⟩) (λb xs q=>by rw[ar (au q hn)];exact q) (λb ob u q=>by rw[ar (au q hn)];exact q)
  (λb ps q=>⟨#[],by rw[ar (au q hn),q];simp⟩) (λm hm=>?_) (λb u q=>?_) I.bare
 .obtain⟨ob,es,ep,ho,r⟩:=hm;exact⟨ob,es,ep,k _ ob nl ho,r⟩
 .by_cases hb:b=a
  .subst hb;rw[af]at q;cases q;exact new
  .rw[ar hb]at q;refine(I.hok b u q).stay (λc v hc z=>k c v ?_ z) (λc z=>by rw[ar (au z hn)];exact z) λc xs z=>by rw[ar (au z hn)];exact z
   rcases hc with z|z
   .rw[z];exact nf b u q
   .exact nf c _ z
end
def Bw(x y:Str):It:=
 ⟨λi _=>i<x.cps.size,λi H v H'=>∃t c e,v=.ref t/\H t=none/\x.cps.toList[i]? =some c/\y.cps.toList[i]? =some e/\H'=upd H t (.tup [.str ⟨#[c]⟩,.str ⟨#[e]⟩]),λi _=>i=x.cps.size⟩
def ZSt(z TI TO i1 i2:Addr)(x:Str)(t:IF)(y:Str)(u:IF)(i:Nat)(h:Fw):Prop:=Hn h z TI TO .none/\Gn h TI (.ref i1) (.ref i2)/\(∃a b,Gn h TO a b)/\h.IsStrIter i1 (Gc x) x t i/\h.IsStrIter i2 (Gc y) y u i
theorem pV{P:Fn}{w:Fp}{K:Frag}{elts:List FA}{k0:Nat}{pos:GO}(z TI TO i1 i2:Addr)(x:Str)(t:IF)(y:Str)(u:IF)(ap:D3 z TI TO i1 i2)(hl:x.cps.size=y.cps.size):oA P w K (.Tuple elts k0 pos) (Bw x y) [z,TI,TO,i1,i2] z (ZSt z TI TO i1 i2 x t y u) where
 mem:=by simp
 obj:=λi h st b hb=>by
  obtain⟨hz,hTI,⟨a,a',hTO⟩,⟨o1,q1,c1,d1⟩,o2,q2,c2,d2⟩:=st;simp only[IN,Jl,or_false]at hb
  rcases hb with rfl|rfl|rfl|rfl|rfl
  .exact⟨_,hz,λv e=>by cases e⟩
  .exact⟨_,hTI,λv e=>by cases e⟩
  .exact⟨_,hTO,λv e=>by cases e⟩
  .exact⟨o1,q1,λv e=>by rw[d1]at e;cases e⟩
  .exact⟨o2,q2,λv e=>by rw[d2]at e;cases e⟩
 keep:=λi h h' st k=>by obtain⟨hz,hTI,⟨a,a',hTO⟩,⟨o1,q1,r1⟩,o2,q2,r2⟩:=st;exact⟨k z (by simp) _ hz,k TI (by simp) _ hTI,⟨a,a',k TO (by simp) _ hTO⟩,⟨o1,k i1 (by simp) _ q1,r1⟩,o2,k i2 (by simp) _ q2,r2⟩
 item:=by
  intro X hP hw hK hc i gV s σ H E I hf st hg;subst hP hw hK;obtain⟨hz,hTI,⟨a,a',hTO⟩,h1,h2⟩:=st;have hh:X.A.in1.handled=none:=by show X.A.handled=none;exact I.ok.hd hc
  have D1:=fF (prog:=X.prog) (w:=X.w) hh i1 x t;have D2:=fF (prog:=X.prog) (w:=X.w) hh i2 y u;have hg:i<x.cps.size:=hg;refine uW D1 D2 ap hz hTI hTO h1 h2 hg (by omega) λv1 v2 g1 tk p1 p2 z1 o1 s1 s2 t1 k1=>?_;obtain⟨c,u1,hc1,rfl⟩:=p1;obtain⟨e,u2,hc2,rfl⟩:=p2;refine⟨_,rfl,wpAny_letOwnedTupleGo_zip z1 λg2 z2 sb=>?_⟩;have lz:z<s.heap.objs.size:=Fk hz;have kk:∀b ob,b∉[z,TI,TO,i1,i2]->s.heap.get? b=some ob->g2.get? b=some ob:=λb ob hb q=>by simp only[IN,Jl,or_false,not_or]at hb;exact(sb.2 b hb.1).trans (k1 b ob hb.1 hb.2.2.1 hb.2.2.2.1 hb.2.2.2.2 q)
  have t2:g2.get? s.heap.objs.size=some {cls:=.type "tuple",data:=.seq #[.str ⟨#[c]⟩ u1,.str ⟨#[e]⟩ u2]}:=(sb.2 _ (Kl lz)).trans t1;have new:bF X.prog X.w (upd H s.heap.objs.size (.tup [.str ⟨#[c]⟩,.str ⟨#[e]⟩])) g2 s.heap.objs.size (.tup [.str ⟨#[c]⟩,.str ⟨#[e]⟩]):=
   ⟨by show 2<=sizeLine;decide,[.str ⟨#[c]⟩ u1,.str ⟨#[e]⟩ u2],.cons ⟨u1,rfl⟩ (.cons ⟨u2,rfl⟩ .nil),⟨_,t2,rfl,_,rfl⟩⟩
  have I2:=I.turned_laidN (t':=tk) kk hf (Kd _) new;obtain⟨q1,w1,r1⟩:=s1;obtain⟨q2,w2,r2⟩:=s2;have kTI:g1.get? TI=_:=k1 _ _ ap.a ap.e ap.i ap.j hTI;refine⟨.ref s.heap.objs.size,_,I2,rfl,⟨_,c,e,rfl,I.hok.fresh (Kd _),by rw[KR];exact hc1,by rw[KR];exact hc2,rfl⟩,⟨z2,(sb.2 _ ap.a).trans kTI,⟨_,_,(sb.2 _ ap.b).trans o1⟩,⟨q1,(sb.2 _ ap.c).trans w1,r1⟩,q2,(sb.2 _ ap.d).trans w2,r2⟩,λb hb=>?_⟩;have hlt:b<s.heap.objs.size:=by
   simp only[IN,Jl,or_false]at hb
   rcases hb with rfl|rfl|rfl|rfl|rfl
   .exact lz
   .exact Fk hTI
   .exact Fk hTO
   .obtain⟨o,ho,_⟩:=h1;exact Fk ho
   .obtain⟨o,ho,_⟩:=h2;exact Fk ho
  rw[ar (Ke hlt)];exact(hf b hb).1
 done:=by
   intro X hP hw hK hc i gV s σ H E I hf st hg;subst hP hw hK;obtain⟨hz,hTI,⟨a,a',hTO⟩,h1,h2⟩:=st;have hg:i=x.cps.size:=hg;subst hg;have D1:=fF (prog:=X.prog) (w:=X.w) (A:=X.A.in1) (by show X.A.handled=none;exact I.ok.hd hc) i1 x t;exact uV D1 ap hz hTI h1 λh' hx=>⟨rfl,I.turnedN (t':=s.toks) (λb ob hb q=>by
    simp only[IN,Jl,or_false,not_or]at hb;exact hx b ob hb.1 hb.2.2.2.1 q) hf⟩
 self:=λA i s Q E st h=>wpAny_pyIter_zip st.1 h
section
variable{X:Cx}{p pos pos2:GO}{a b:FA}{elts:List FA}{k0:Nat}{ta tb:TE}
def vi(R:It->Hp->Prop)(vs:List V)(H:Hp):Prop:=match vs with
 | [.str x,.str y]=>x.cps.size=y.cps.size/\R (Bw x y) H
 |_=>False
def Dx(t:TA):TI:=λσ H R=>t σ H λvs H1=>vi R vs H1
theorem Ez{t:TA}(hm:X.mg "zip"=none)(hA:PA X [a,b] t)(hg:Gl X "zip":=by rfl)(hs:Fj [a,b] X.env=(false,FF a X.env)::Fj [b] X.env:=by rfl)(hp:(FC pos (Fj [b] X.env)).any (·.1)=false:=by rfl):PI X (.Tuple elts k0 pos2) (.Call (.Name "zip" p) [a,b] [] pos) (Dx t):=by
 intro gV s σ H R I h;refine Call_ (eE I hg hm Bi (PyProof.Rows.callWith_type1 (bJ (hA pos gV s σ H (λvs H1=>vi R vs H1) I h) λus s1 ⟨vs,H1,I1,r1,q1⟩=>?_) hs hp) (by decide) (by decide))
 replace q1:vi R vs H1:=q1
 unfold vi at q1;split at q1
 .rename_i x y;obtain⟨u1,u2,rfl,⟨t1,rfl⟩,t2,rfl⟩:=yN r1;refine qS λh' q2 q3 q4 q5 q6 hk=>?_;have I2:aC X gV σ H1 {s1 with heap:=h'}:=I1.kept (t':=s1.toks) hk;refine wpAny_pyIter_zip q2 ⟨s1.heap.objs.size+4,[s1.heap.objs.size+4,s1.heap.objs.size+2,s1.heap.objs.size+3,s1.heap.objs.size,s1.heap.objs.size+1],_,_,H1,rfl,I2,pV _ _ _ _ _ x t1 y t2 ?_ q1.1,⟨q2,q3,⟨_,_,q4⟩,q5,q6⟩,λb hb=>?_,q1.2⟩
  .have f:∀i j:Nat,i≠j->s1.heap.objs.size+i≠s1.heap.objs.size+j:=λi j h=>by omega
   exact⟨f 2 4 (by decide),f 3 4 (by decide),f 0 4 (by decide),f 1 4 (by decide),f 2 3 (by decide),f 3 0 (by decide),f 3 1 (by decide),f 0 1 (by decide),f 2 0 (by decide),f 2 1 (by decide)⟩
  .have hb2:s1.heap.objs.size<=b:=by
    simp only[IN,Jl,or_false]at hb
    rcases hb with rfl|rfl|rfl|rfl|rfl
    .exact Km _ _
    .exact Km _ _
    .exact Km _ _
    .exact Kd _
    .exact Km _ _
   exact I1.fpOk hb2 (I1.hok.fresh hb2)
 .exact q1.elim
end
section
variable{K:Frag}{σ rest:St}{H:Hp}{t:TA}{te:TE}{src:List (Option Nat)}{Q:VK}{x y:Str}
theorem qO(hl:Av t σ H [.str x,.str y])(hlen:x.cps.size=y.cps.size)(hz:x.length<=1000)(hs:dR src σ=none::none::rest)(f:Nat->Nat->V)
  (he:∀(i c e:Nat)(H':Hp),x.cps.toList[i]? =some c->y.cps.toList[i]? =some e->al H H'->Ev te (some (.str (one c))::some (.str (one e))::rest) H' (f c e))
  (q:∀H' d,al H H'->H' d=none->Q (.ref d) (upd H' d (.lst (List.zipWith f x.cps.toList y.cps.toList)))):tComp (Dx t) (ue K 2 (iH (gName 0) (iH (gName 1) vP))) iB te src σ H Q:=by
 have hx:x.cps.toList.length=x.length:=KQ;have hy:y.cps.toList.length=x.length:=by rw[KQ];exact hlen.symm
 refine hl _ ⟨hlen,?_⟩;show gm _ iB te src σ Q (Bw x y) H;refine mM x.length (λi ys σ' H'=>al H H'/\(∃o0 o1,σ'=o0::o1::rest)/\ys=List.zipWith f (x.cps.toList.take i) (y.cps.toList.take i)) (Kg hz (by decide)) (λi ys σ H h=>?_) (λi ys σ H h hi=>hi) (λys σ H h=>rfl) ⟨al.refl H,⟨_,_,hs⟩,by simp⟩ ?_ ?_
 .rw[h.2.2,List.length_zipWith,IX,IX];omega
 .rintro i ys _ H1 v H2 hi ⟨s1,⟨o0,o1,rfl⟩,rfl⟩ ⟨tq,c,e,rfl,ht0,hc,hd,rfl⟩ Kt Kf kt kf;have s2:al H (upd H1 tq (.tup [.str ⟨#[c]⟩,.str ⟨#[e]⟩])):=s1.upd ht0;refine⟨tq,_,rfl,dC.of af,rfl,_,_,rfl,_,_,rfl,rfl,?_⟩;simp only[iB,if_true];refine he i c e _ hc hd s2 _ (kt _ _ _ ⟨s2,⟨_,_,rfl⟩,?_⟩);rw[JW,JW,hc,hd];rw[List.zipWith_append (by rw[IX,IX,hx,hy])];rfl
 .rintro ys σ' H' d ⟨s1,_,rfl⟩ hd;rw[JG (by omega),JG (by omega)];exact q H' d s1 hd
end
def eH(ks:List Nat)(c e:Nat):Bool:=if e=35 then decide (c=35)else decide (c=46\/c∈ks\/c∈ks.map (· - 32))
def rowB(wi hi:Int)(hs:List Int)(ks:List Nat)(v:V):Bool:=match v with
 | .str z=>decide (z.length=(emptyT wi hi hs).length)&&(List.zipWith (eH ks) z.cps.toList (emptyT wi hi hs).cps.toList).all id
 |_=>false
def im(wi hi:Int)(hs:List Int)(ks:List Nat)(H:Hp)(v:V):Bool:=match tupOf H v with
 |some [a,b]=>rowB wi hi hs ks a&&amongB b 0 1
 |_=>false
theorem jh{wi hi:Int}{hs:List Int}{ks:List Nat}{H:Hp}{v a b:V}(e:tupOf H v=some [a,b]):im wi hi hs ks H v=(rowB wi hi hs ks a&&amongB b 0 1):=by unfold im;rw[e]
theorem qh{wi hi:Int}{hs:List Int}{ks:List Nat}{H:Hp}{v:V}(h:tupB H v 2=false):im wi hi hs ks H v=false:=by
 unfold tupB at h;unfold im;split
 .rename_i e1;rw[e1]at h;cases h
 .rfl
def nu(K:Frag)(cB cG:Addr):Sp:=λvs H Q _=>∃(g b:Addr)(v:V)(wi hi:Int)(hs:List Int)(ks:List Nat)(rs ts es:List V)(st:Str),vs=[.ref g,v]/\gT cG H g b (ks.map strV) rs ts es st/\cc K cB H b wi hi hs/\(∀k∈ks,mY k)/\ks.length<=6/\Thg H v/\∀H',al H H'->Q (.bl (rowB wi hi hs ks v)) H'
def lT(K:Frag)(cB cG:Addr):Sp:=λvs H Q _=>∃(g b:Addr)(v:V)(wi hi:Int)(hs:List Int)(ks:List Nat)(rs ts es:List V)(st:Str),vs=[.ref g,v]/\gT cG H g b (ks.map strV) rs ts es st/\cc K cB H b wi hi hs/\(∀k∈ks,mY k)/\ks.length<=6/\dN H 1 v/\∀H',al H H'->Q (.bl (im wi hi hs ks H v)) H'
structure CR1(P:Fn)(w:Fp)(K:Frag)(mg:Fc)(E3:Fw)(cB:Addr):Prop where
 sign_of:eK P w K mg E3 "sign_of" ["kind","side"] 1 nj
 empty_row:eK P w K mg E3 "empty_row" ["board"] 4 (o7 K cB)
structure CR2(P:Fn)(w:Fp)(K:Frag)(mg:Fc)(E3:Fw)(cB cG:Addr):Prop where
 is_tuple_of:eK P w K mg E3 "is_tuple_of" ["thing","many"] 1 fX
 is_among:eK P w K mg E3 "is_among" ["thing","least","most"] 2 fY
 is_row:eK P w K mg E3 "is_row" ["game","thing"] 5 (nu K cB cG)
section
variable{K:Frag}{te ta tb:TE}{t ta':TA}{c:TT}{u e t1:TS}{D:cD}{σ:St}{H:Hp}{Q:VK}{R:List V->Hp->Prop}{v:V}
theorem oN(P:St->Hp->Prop)(hu:∀σ' H',P σ' H'->u D σ' H')(h:(∀σ' H',P σ' H'->u D σ' H')->bg (na c t1 e) u D σ H):bg (na c t1 e) u D σ H:=h hu
theorem za{d:Addr}{ys:List V}(h:Ev te σ H (.ref d))(hd:aM K H d ys\/dC K H d ys)(q:∀l,H l=none->Q (.ref l) (upd H l (.lst ys))):cB (j6 K) (aV te ce) σ H Q:=h _ ⟨ys,hd,q⟩
theorem uL{i:Nat}(h:te σ H (λv H'=>D.nx (σ.set i (some v)) H')):tAsg te (gName i) D σ H:=h
theorem bz(h:Ev te σ H v)(q:ta' σ H (λxs H2=>R (v::xs) H2)):aV te ta' σ H R:=h _ q
theorem bP(h:te σ H (λx H1=>ta' σ H1 (λxs H2=>R (x::xs) H2))):aV te ta' σ H R:=h
theorem bV(q:R [] H):ce σ H R:=q
theorem cA(q:t σ H (λvs H2=>vs.length<=sizeLine/\∀p,H2 p=none->Q (.ref p) (upd H2 p (.lst vs)))):jF t σ H Q:=q
theorem sP(q:t σ H (λvs H2=>vs.length<=sizeLine/\∀p,H2 p=none->Q (.ref p) (upd H2 p (.tup vs)))):u9 t σ H Q:=q
theorem fG(h:ta σ H λx H1=>tb σ H1 λy H2=>qZ .Add x y H2 Q):iR .Add ta tb σ H Q:=h
theorem eU{a b:Addr}{xs ys:List V}(ha:H a=some (.lst xs))(hb:H b=some (.lst ys))(hz:xs.length+ys.length<=1000)(q:∀p,H p=none->Q (.ref p) (upd H p (.lst (xs++ys)))):qZ .Add (.ref a) (.ref b) H Q:=by rw[Ao];exact⟨a,b,xs,ys,rfl,rfl,ha,hb,Kg hz (by decide),q⟩
end
theorem ip{a b:Nat}:(one a=one b)<->a=b:=by
 constructor
 .intro h;have h:(one a).cps.toList=(one b).cps.toList:=by rw[h]
  have h:[a]=[b]:=h;injection h
 .intro h;rw[h]
theorem mB:("#":Str)=one 35:=by decide+kernel
theorem pJ:(".":Str)=one 46:=by decide+kernel
theorem hZ{p q:Prop}[Decidable p][Decidable q](h:p<->q):decide p=decide q:=by
 by_cases hp:p
 .rw[E5 hp,E5 (h.mp hp)]
 .rw[E6 hp,E6 (λz=>hp (h.mpr z))]
def upV:V->V
 | .str z=>.str (one (z.cps.toList.getD 0 0 - 32))
 |v=>v
theorem oG:∀{xs:List V}{us:List Value},xs.length=us.length->(∀(i:Nat) x u,xs[i]? =some x->us[i]? =some u->RelV x u)->aL xs us
 | [],[],_,_=>.nil
 | [],_::_,h,_=>by simp at h
 |_::_,[],h,_=>by simp at h
 |x::xs,u::us,h,r=>.cons (r 0 x u rfl rfl) (oG (by simpa using h) λi a b h1 h2=>r (i+1) a b (by simpa using h1) (by simpa using h2))
section
variable{X:Cx}
def tU(xs:List V)(H:Hp)(Q:VK):Prop:=match xs with
 | [.str z]=>z.length<=1000/\∀l,H l=none->Q (.ref l) (upd H l (.lst (z.cps.toList.map strV)))
 |_=>False
theorem ou(hc:X.calm=true):bj X (.type "list") tU:=by
 intro gV s σ H xs us Q I r h;unfold tU at h;split at h
 .rename_i z;obtain⟨hz,q⟩:=h;obtain⟨u,rfl,t,rfl⟩:=cU r;have hz2:z.cps.size<=1000:=hz;refine call_list_str (I.ok.hd hc) z t (hn:=Kg hz2 (by decide)) λh' tk acc c' hk hS hacc=>?_;have rel:aL (z.cps.toList.map strV) acc.toList:=by refine oG (by rw[IL,KQ,KQ,hacc.1]) λi x u h1 h2=>?_;rw[KR]at h2;obtain⟨c,u',h3,rfl⟩:=hacc.2 i u h2;rw[IU,KR,h3]at h1;cases h1;exact⟨u',rfl⟩
  exact⟨.ref s.heap.objs.size,_,I.laid (t':=tk) hk (Kd _) (show bF X.prog X.w _ h' _ (.lst (z.cps.toList.map strV))from⟨by rw[IL,KQ];exact Kg hz2 (by decide),acc.toList,c',rel,by simpa using hS⟩),rfl,q _ (I.hok.fresh (Kd _))⟩
 .exact h.elim
end
section
variable{X:Cx}{a e:FA}{ta te tb:TE}{p p2 pos:GO}
def DV(K:Frag)(ta:TE):TT:=λσ H Q=>ta σ H λx H'=>∃k,uP K x H' k/\Q k H'
theorem EA(K:Frag)(ha:PE X a ta)(he:∀whole,Iz a X.env whole=(do let v<-whole;IE a.pos;Hm [v] (truthy v)):=by exact λ_=>rfl)(hK:X.K=K:=by rfl):PT X a (DV K ta):=by subst hK;exact tE ha he
end
section
variable{K:Frag}{σ:St}{H:Hp}{ta tb te to:TE}{Q:VK}{c:TT}{t e:TS}{D:cD}
theorem j3{ss:List Str}{i:Int}(h0:0<=i)(h1:i<ss.length):∃s,iK (ss.map V.str) i=some (.str s)/\s∈ss:=by obtain⟨v,e1,e2⟩:=Df (xs:=ss.map V.str) h0 (by rw[IL];exact h1);obtain⟨s,hs,rfl⟩:=IR.mp e2;exact⟨s,e1,hs⟩
end
def D7(lo st:Int)(n:Nat):It:=⟨λi _=>i<n,λi H x H'=>H'=H/\x=.int (lo+i*st),λi _=>n<=i⟩
theorem lL{P:Fn}{w:Fp}{K:Frag}{tg:FA}(it:Addr)(lo st:Int)(n:Nat):oA P w K tg (D7 lo st n) [it] it (λi h=>HY h it (lo+(i:Nat)*st) ((n:Int) - (i:Nat)) st) where
 mem:=by simp
 obj:=λi h st b hb=>by
  have e:b=it:=by simpa using hb
  subst e;exact⟨_,st,λv z=>by
   have z':Data.fields _=Data.cell v:=z;cases z'⟩
 keep:=λi h h' st k=>k it (by simp) _ st
 item:=by intro X hP hw hK hc i gV s σ H E I hf sti hg;subst hP hw hK;obtain⟨f0,f1,f2,f3,f4,f5⟩:=hf it (by simp);have W:=Walks.range (prog:=X.prog) (w:=X.w) (I.ok.hd hc) it lo st n;refine W.item i s _ _ hg sti λv h' tk hv st' kk=>?_;obtain⟨t,rfl⟩:=hv;have I1:aC X gV σ H {s with heap:=h',toks:=tk}:=I.turned (λb o hb e=>kk b o (by simpa using hb) e) f0 f1 f3 f4 f5;exact⟨_,rfl,ua (s:={s with heap:=h',toks:=tk}) (n:="range_iterator") st' rfl rfl (by decide) ⟨.int (lo+i*st),H,I1,⟨t,rfl⟩,⟨rfl,rfl⟩,st',λb hb=>(hf b hb).1⟩⟩
 done:=by intro X hP hw hK hc i gV s σ H E I hf sti hg;subst hP hw hK;obtain⟨f0,f1,f2,f3,f4,f5⟩:=hf it (by simp);exact HG (I.ok.hd hc) sti (by have:n<=i:=hg;omega) λh' eb=>⟨rfl,I.turned (t':=s.toks) (λb o hb e=>eb b o hb e) f0 f1 f3 f4 f5⟩
 self:=λ_ _ _ _ _ st h=>HH st h
theorem rs3:∀(m st:Fin 9),1<=st.val->Gb 0 ((m.val:Int)*st.val) st.val=m.val/\Builtin.Range.small 0 ((m.val:Int)*st.val) st.val=true:=by decide+kernel
section
variable{X:Cx}{tg:FA}
def zf(ta:TA):TI:=λσ H R=>ta σ H λvs H1=>∃m st:Nat,vs=[.int 0,.int ((m:Int)*st),.int st]/\m<=8/\1<=st/\st<=8/\R (D7 0 st m) H1
theorem qi{a b c:FA}{ta:TA}{p pos:GO}(hm:X.mg "range"=none)(ha:PA X [a,b,c] ta)(hg:Gl X "range":=by rfl)(hs:Fj [a,b,c] X.env=[(false,FF a X.env),(false,FF b X.env),(false,FF c X.env)]:=by rfl)(hs2:Fj [b,c] X.env=[(false,FF b X.env),(false,FF c X.env)]:=by rfl):
  PI X tg (.Call (.Name "range" p) [a,b,c] [] pos) (zf ta):=by
 intro gV s σ H R I h;refine Call_ (eE I hg hm boot_range (PyProof.Rows.callWith_type1 (bJ (ha pos gV s σ H _ I h) λus s1 ⟨vs,H1,I1,r1,q1⟩=>?_) (by rw[hs,hs2]) (by rw[hs2];rfl)));obtain⟨m,st,e,m8,t1,t8,q⟩:=q1;subst e;cases r1 with
 |cons r rr=>
  cases rr with
  |cons r' rr=>
   cases rr with
   |cons r2 rr=>
    cases rr;obtain⟨t,rfl⟩:=r;obtain⟨t',rfl⟩:=r';obtain⟨t2,rfl⟩:=r2;obtain⟨z1,z2⟩:=rs3 ⟨m,by omega⟩ ⟨st,by omega⟩ t1;have z1:Gb 0 ((m:Int)*st) st=m:=z1;have z2:Builtin.Range.small 0 ((m:Int)*st) st=true:=z2;have small:(m:Int)*st<=64:=by
     have:m*st<=8*8:=Kn m8 t8
     exact_mod_cast this
    have nn:0<=(m:Int)*st:=by
     have:0<=m*st:=Kh _
     exact_mod_cast this
    refine call_range_3 (by omega) ?_ (Or.inl (PyProof.noPylong_small (by omega)));refine wpAny_pyIter_range (IsRange.new ..) z2 ?_;have I2:aC X gV σ H1 {s1 with heap:=s1.heap.push {cls:=.type "range",data:=.fields #[.int 0 t,.int ((m:Int)*st) t',.int st t2]},toks:=s1.toks}:=I1.kept λb o e=>Fh _ e;refine⟨(s1.heap.push {cls:=.type "range",data:=.fields #[.int 0 t,.int ((m:Int)*st) t',.int st t2]}).objs.size,[(s1.heap.push {cls:=.type "range",data:=.fields #[.int 0 t,.int ((m:Int)*st) t',.int st t2]}).objs.size],_,_,H1,rfl,
     I2.kept (t':=s1.toks) λb o e=>Fh _ e,lL _ 0 st m,?_,λb hb=>?_,q⟩
    .show HY _ _ (0+((0:Nat):Int)*(st:Int)) ((m:Int) - ((0:Nat):Int)) st;have e1:(0:Int)+((0:Nat):Int)*(st:Int)=0:=by simp
     have e2:(m:Int) - ((0:Nat):Int)=Gb 0 ((m:Int)*st) st:=by rw[z1];simp
     rw[e1,e2];exact Fo _ rfl
    .have e:b=(s1.heap.push {cls:=.type "range",data:=.fields #[.int 0 t,.int ((m:Int)*st) t',.int st t2]}).objs.size:=by simpa using hb
     subst e;exact I2.fpOk (Kd _) (I2.hok.fresh (Kd _))
end
section
variable{prog:Fn}{w:Fp}{A:Fz}{E:Fd}{s:Fi}{R:IC->Fi->Prop}
variable{I:Addr}{fp wr:List Addr}{G:Array GL->Array GL->Prop}{n:Nat}{P:Nat->Value->Prop}{St:Nat->Fi->Prop}
theorem n8(W:WalksS prog w A.in1 I fp wr G n P St)(hT:∀i s,St i s->s.TypeIs (.ref I) "list_reverseiterator")(S:Addr)(res:Value)(c:Nat)(hst:St 0 s)(hSf:S∉fp)(hI:I∈fp)
  (hS:s.heap.get? S=some {cls:=.type "list",data:=.seq #[] c})
  (hR:∀s' acc' c',Moved (S::wr) G s s'->s'.heap.get? S=some {cls:=.type "list",dict:=none,data:=.seq acc' c',slots:= #[]}->ItemsOf P acc' n->R (.ok (.ret res)) s') (hn:n<=sizeLine):
  Fs (Fu prog w) A.in1 (FI (.ref S) (.ref I) res)
   (λfin s'=>match fin with| .done f=>R (.ok f) s'| .again c'=>c'.quiet=true/\Gx (Fu prog w) A c' R s') (λe s'=>R (.error e) s') s:=by
 have hSI:S≠I:=λe=>hSf (e▸hI);have h1:FL (.ref S) (.ref I)=false:=by simp[FL,hSI]
 unfold FI;refine Ff (GY (hT 0 _ hst) ?_);rw[E7 (by rw[h1];decide)];refine Ff (W.self 0 _ _ _ hst ?_);refine Ff (FO ?_);unfold G0;refine Ff (Gv (hT 0 _ hst) F.nolen_lriQ ?_);show Fs _ A.in1 (specialOf (FD I) (GJ "__length_hint__") >>= _) _ _ _;refine Ff (Gv (hT 0 _ hst) F.hint_lriQ ?_)
 (generalize hid:("list_reverseiterator.__length_hint__":String)=id0;(fail_if_success (clear hid id0));wp_delta;rw[show splitId id0=some ("list_reverseiterator","__length_hint__")from by subst hid;decide+kernel];subst hid)
 refine Ff (GP (b:=true) (hT 0 _ hst) (by rw[isSubtype_type];kernel_rfl) ?_);refine Fm ?_;rw[E7 (by decide)];exact Fm ⟨Ht F.plain_extend_loop _,codeAny_extend_loopS W hn _ hSf _ n 0 _ _ _ rfl (Kh _) hst hS (ItemsOf.nil P) λs' acc' c' hm hS' hacc=>hR s' acc' c' hm hS' hacc⟩
theorem jV{Q:Fd}(W:WalksS prog w A.in1.in1 I fp wr G n P St)(hT:∀i s,St i s->s.TypeIs (.ref I) "list_reverseiterator")(hst:St 0 s)(hfp:∀b∈fp,b<s.heap.objs.size)(hI:I∈fp)
  (hQ:∀s' acc' c',Moved (s.heap.objs.size::wr) G {s with heap:=s.heap.push {cls:=.type "list",data:=.seq #[]}} s'->
   s'.heap.get? s.heap.objs.size=some {cls:=.type "list",dict:=none,data:=.seq acc' c',slots:= #[]}->ItemsOf P acc' n->Q (.ref s.heap.objs.size) s') (hn:n<=sizeLine):
  Fs (Fu prog w) A (call (.type "list") [.ref I]) Q E s:=by
 have hSf:s.heap.objs.size∉fp:=λhm=>Kj _ (hfp _ hm);refine callType_codes (Q₁:=λobj s₁=>obj=.ref s.heap.objs.size/\s₁={s with heap:=s.heap.push {cls:=.type "list",data:=.seq #[]}}) F.called_list (F.typeCall_list_1 _) F.entry_list_init
  (code_list_new _ ⟨rfl,rfl⟩) λobj s₁ h₁=>?_
 obtain⟨rfl,rfl⟩:=h₁;have hS:(s.heap.push {cls:=.type "list",data:=.seq #[]}).get? s.heap.objs.size=some {cls:=.type "list",data:=.seq #[]}:=Fo _ rfl;have hst1:=W.frame 0 s (s.heap.push {cls:=.type "list",data:=.seq #[]}) s.toks hst (Kd _) λb _ o e=>Fh _ e;refine⟨⟨_,hS,rfl⟩,F.args_list_init_2 _ _,?_⟩;show Fs _ _ (do let old<-GM (.ref s.heap.objs.size);Builtin.List.listUpdate (.ref s.heap.objs.size) (λ_=> #[]);letGo old.toList.reverse;FI (.ref s.heap.objs.size) (.ref I) .none) _ _ _;refine Ff ?_;unfold GM;refine Ff (FX hS rfl (Fm ?_));show Fs _ _ (updateSeq s.heap.objs.size (λ_=> #[]) >>= λ_=>letGo (#[]:Array Value).toList.reverse >>= λ_=>FI (.ref s.heap.objs.size) (.ref I) .none) _ _ _;refine Ff (wpAny_updateSeq hS rfl ?_);have hS₂:=HQ (Gg (λ_=>(#[]:Array Value))) hS rfl;have oth:∀b o,b≠s.heap.objs.size->(s.heap.push {cls:=.type "list",data:=.seq #[]}).get? b=some o->((s.heap.push {cls:=.type "list",data:=.seq #[]}).update s.heap.objs.size (Gg (λ_=>(#[]:Array Value)))).get? b=some o:=
  λb o hb e=>(Gh _ _ (Ne.symm hb)).trans e
 refine Ff (HV ?_);refine n8 (c:=_) W hT s.heap.objs.size .none (hst:=W.frame 0 _ _ s.toks hst1 (Kd _) λb hb o e=>oth b o (λh=>hSf (h▸hb)) e) (hSf:=hSf) (hI:=hI) (hS:=hS₂) (hn:=hn) (hR:=λs' acc' c' hm hS' hacc=>?_);exact⟨rfl,hQ s' acc' c' (Moved.trans W.gtrans ((Moved.refl W.grefl).then_heap (Kd _) λb o hb e=>oth b o (λh=>hb (h▸Jc)) e) hm) hS' hacc⟩
end
section
variable{X:Cx}{e:FA}{te:TE}
def zq(K:Frag)(te:TE):TE:=λσ H Q=>te σ H λy H2=>match y with
 | .ref d=>∃ys:List V,aM K H2 d ys/\∀p,H2 p=none->Q (.ref p) (upd H2 p (.lst ys.reverse))
 |_=>False
theorem vY{p p1 p2 pos:GO}(hc:X.calm=true)(he:PE X e te)(hml:X.mg "list"=none)(hm:X.mg "reversed"=none)(hgl:Gl X "list":=by rfl)(hg:Gl X "reversed":=by rfl)
  (hs:Fj [.Call (.Name "reversed" p1) [e] [] p2] X.env=(false,FF (.Call (.Name "reversed" p1) [e] [] p2) X.env)::Fj [] X.env:=by rfl) (hplain:(FC pos (Fj [] X.env)).any (·.1)=false:=by rfl)
  (hs2:Fj [e] X.env=(false,FF e X.env)::Fj [] X.env:=by rfl) (hpl2:(FC p2 (Fj [] X.env)).any (·.1)=false:=by rfl):
  PE X (.Call (.Name "list" p) [.Call (.Name "reversed" p1) [e] [] p2] [] pos) (zq X.K te):=by
 intro gV s σ H Q I h;refine FE (eE I hgl hml cF ?_ (by decide) (by decide));refine PyProof.Rows.callWith_type1 ?_ hs hplain;rw[hs];show Fs _ _ (spliced ((false,FF (.Call (.Name "reversed" p1) [e] [] p2) X.env)::FC pos (Fj [] X.env))) _ _ s;refine Hh ?_;refine FE (eE I hg hm iJ ?_ (by decide) (by decide));have hA:PA X [e] (aV te ce):=pa_cons he pa_nil hs2;refine PyProof.Rows.callWith_type1 (bJ (hA p2 gV s σ H (λvs H2=>∃y,vs=[y]/\(match y with
  | .ref d=>∃ys:List V,aM X.K H2 d ys/\∀p,H2 p=none->Q (.ref p) (upd H2 p (.lst ys.reverse))
  |_=>False)) I ?_) λus s2 ⟨vs,H2,I2,r2,y,e2,q2⟩=>?_) hs2 hpl2
 .show te σ H _;have h':=h;have:(λ(y:V)(H2:Hp)=>match y with
   | .ref d=>∃ys:List V,aM X.K H2 d ys/\∀p,H2 p=none->Q (.ref p) (upd H2 p (.lst ys.reverse))
   |_=>False)=λy H2=>∃y',[y]=[y']/\(match y' with
   | .ref d=>∃ys:List V,aM X.K H2 d ys/\∀p,H2 p=none->Q (.ref p) (upd H2 p (.lst ys.reverse))
   |_=>False):=by
   funext y H2;apply propext
   constructor
   .intro z;exact⟨y,rfl,z⟩
   .rintro⟨y',e,z⟩;have:y=y':=by injection e
    subst this;exact z
  unfold zq at h';rw[this]at h';exact h'
 .subst e2;obtain⟨u,rfl,ru⟩:=cU r2;cases y with
  |ref d=>
   obtain⟨ys,hd,q⟩:=q2;cases ru;obtain⟨its,rv,pl,hl⟩:=I2.list hd;have hlen:=rv.length;refine call_reversed_list pl.isList ?_;refine Hq ?_;have hne:d≠s2.heap.objs.size:=by obtain⟨ob,hob,_⟩:=pl.isList;exact Ke (Fk hob)
   have hit:(s2.heap.push (Ii d ((its.toArray.size:Int) - 1))).IsRevIter s2.heap.objs.size d ((its.toArray.size:Int) - 1):=⟨_,Fo _ rfl,rfl,by simp[Ii]⟩;have hli:(s2.heap.push (Ii d ((its.toArray.size:Int) - 1))).IsList d its.toArray:=pl.isList.at λob q=>Fh _ q;have W:=ja (prog:=X.prog) (w:=X.w) (A:=X.A.in1.in1) (show X.A.in1.in1.handled=none from I.ok.hd hc) s2.heap.objs.size d hne its.toArray;refine jV (s:={s2 with heap:=s2.heap.push (Ii d ((its.toArray.size:Int) - 1))}) W (λi s x=>x.2.1.typeIs) ⟨Kh _,by simpa using hit,hli⟩ (λb hb=>?_) (by simp) (λs' acc c hm hS hacc=>?_) (by rw[IM];omega)
   .rcases IN.mp hb with e|hb
    .rw[e];show _<(s2.heap.push _).objs.size;rw[FR];omega
    .rw[IS.mp hb];obtain⟨o,ho,_⟩:=hli;exact Fk ho
   .have sz:(s2.heap.push (Ii d ((its.toArray.size:Int) - 1))).objs.size=s2.heap.objs.size+1:=FR ..;have hS':s'.heap.get? (s2.heap.objs.size+1)=some {cls:=.type "list",dict:=none,data:=.seq acc c,slots:= #[]}:=by rw[<-sz];exact hS
    have eacc:acc=its.reverse.toArray:=by
     apply Array.ext
     .have h1:=hacc.1;simp at h1 ⊢;omega
     .intro i h1 h2;have hP:=hacc.2 i _ (KS h1);have hP:its[its.length - 1 - i]? =some acc[i]:=by simpa using hP
      have h3:i<its.length:=by simpa using h2
      have:its.reverse[i]? =some acc[i]:=by rw[JT h3];exact hP
      have h4:its.reverse[i]? =some (its.reverse[i]'(by simpa using h3)):=IP _;rw[h4]at this;simpa using(Option.some.inj this).symm
    have kk:∀b u,s2.heap.get? b=some u->s'.heap.get? b=some u:=λb u q=>by
     have lb:=Fk q;refine hm.heap b u ?_ (Fh _ (Fh _ q));intro hb
     rcases IN.mp hb with e|hb
     .have e:b=(s2.heap.push (Ii d ((its.toArray.size:Int) - 1))).objs.size:=e;rw[sz]at e;exact Kj _ (Nat.lt_of_le_of_lt (Kk _) (e▸lb))
     .have e:b=s2.heap.objs.size:=IS.mp hb;exact Kj _ (e▸lb)
    have hn:H2 (s2.heap.objs.size+1)=none:=I2.hok.fresh (Kk _);have J:aC X gV σ (upd H2 (s2.heap.objs.size+1) (.lst ys.reverse)) {s2 with heap:=s'.heap,toks:=s'.toks}:=I2.laid kk (Kk _) ⟨by rw[Jt];exact hl,its.reverse,c,rv.reverse,by rw[hS',eacc]⟩;have e1:s'.gens=s2.gens:=hm.gens.symm;have e2:s'.drawn=s2.drawn:=hm.drawn;have e3:s'.os=s2.os:=hm.os;obtain⟨sh,sg,sd,st,so⟩:=s';cases e1;cases e2;cases e3;refine⟨.ref (s2.heap.objs.size+1),_,J,?_,q _ hn⟩;show FD _=FD _;rw[sz]
  |_=>exact q2.elim
end
theorem gS(a b:Value):argsOk "tuple.index" ⟨[a,b],[]⟩:=by unfold argsOk;rw[signature?_of (id:="tuple.index") (n:=['x','e','d','n','i']) (o:=['e','l','p','u','t']) (by kernel_rfl) PySem.F.owner_tuple];kernel_rfl
theorem kr{l:Addr}{y0 y1 x:Value}{n:Nat}{dd:Option Addr}{sl:Array (Option Value)}{b0:Bool}:
  Meets (GN.«tuple.index» ⟨[.ref l,x],[]⟩)
   (λA R s=>s.heap.get? l=some {cls:=.type "tuple",dict:=dd,data:=.seq #[y0,y1] n,slots:=sl}/\HL A.in1 s y0 x b0/\(b0=false->HL A.in1 s y1 x true)/\R (.ok (.ret (.int (if b0=true then 0 else 1) s.toks))) {s with toks:=s.toks+1}):=by
 intro prog w A R s h;obtain⟨hp,g,d,tk,os⟩:=s;obtain⟨hl,h0,h1,h⟩:=h;unfold GN.«tuple.index»;refine Ff (FM (Q:=λp s1=>p=(FD l,[x])/\s1=⟨hp,g,d,tk,os⟩) (E:=λe s'=>R (.error e) s') ?h0 ?h2 (λ_ _ z=>z))
 case h0=>wp_walk;exact⟨rfl,rfl⟩
 rintro _ _ ⟨rfl,rfl⟩;dsimp only;refine Ff (FM (Q:=λp s1=>p= #[y0,y1]/\s1=⟨hp,g,d,tk,os⟩) (E:=λe s'=>R (.error e) s') ?h1 ?h3 (λ_ _ z=>z))
 case h1=>wp_walk using AutoSeq1.wpAny_loadPart' hl;exact⟨rfl,rfl⟩
 rintro _ _ ⟨rfl,rfl⟩;refine Ff (Fm ?_);refine Ff (Fm ?_);rw[Std.Legacy.Range.forIn_eq_forIn_range'];have e:List.range' 0 (Std.Legacy.Range.size [0:min (#[y0,y1]:Array Value).size (#[y0,y1]:Array Value).size]) 1=[0,1]:=by have e2:(#[y0,y1]:Array Value).size=2:=rfl;rw[e2];decide
 dsimp only;rw[e,Jw];refine Ff (Ff (Ff (h0 prog w _ _ ?_)));cases b0 with
 |true=>
  rw[E8 rfl]
  wp_walk
  exact h
 |false=>
  rw[E7 KI];refine Fm ?_;dsimp only;rw[Jw];refine Ff (Ff (h1 rfl prog w _ _ ?_));rw[E8 rfl]
  wp_walk
  exact h
def Br(K:Frag)(p:Addr)(a b:Str):Prop:= ∃(v0 v1:Value)(n:Nat)(sl:Array (Option Value)),K.lookup p=some ⟨.type "tuple",none,.seq #[v0,v1] n,sl⟩/\RelV (.str a) v0/\RelV (.str b) v1
section
variable{X:Cx}{o e:FA}{to te:TE}
def EQ(K:Frag)(to te:TE):TE:=λσ H Q=>to σ H λx H1=>match x with
 | .ref p=>∃a b:Str,Br K p a b/\te σ H1 λy H2=>∃z,y=.str z/\(z=a\/z=b)/\Q (.int (if a=z then 0 else 1)) H2
 |_=>False
theorem A9{apos cpos:GO}(ho:PE X o to)(he:PE X e te)(hbase:FP o "index" X.env (FF o X.env)=FF o X.env:=by rfl)
  (hfew:((FC cpos (Fj [e] X.env)).all (λx=> !x.1)&&(Hz cpos (GB [] X.env)).all (λx=>x.1.isSome)
   &&decide ([e].length+([]:List GK).length+(if([]:List GK).isEmpty then 0 else 1)<30))=true:=by rfl)
  (hline:(apos.endLine == cpos.line)=true:=by rfl) (hs:Fj [e] X.env=(false,FF e X.env)::Fj [] X.env:=by rfl) (hplain:(FC cpos (Fj [] X.env)).any (·.1)=false:=by rfl):
  PE X (.Call (.Attribute o "index" apos) [e] [] cpos) (EQ X.K to te):=by
 intro gV s σ H Q I h;refine FV hbase hfew hline rfl (bJ (ho gV s σ H _ I h) λv s1 ⟨x,H1,I1,r1,q1⟩=>?_);cases x with
 |ref l=>
  obtain⟨a,b,⟨v0,v1,n,sl,hk,ra,rb⟩,q1⟩:=q1;cases r1;have ty:yO X.K "tuple" (.ref l) H1:=.inr (.inl ⟨rfl,_,hk,rfl,rfl⟩);obtain⟨h1,h2⟩:=gJ (x:=.ref l) (v:=.ref l) I1 rfl ty;refine⟨"tuple","tuple.index",PySem.F.plainAttrs_tuple,PySem.F.slot_tuple_index,PySem.F.type_tuple_index,h1,h2,?_⟩;have hA:=(pa_cons he pa_nil hs:PA X [e] (aV te ce)) cpos gV s1 σ H1 (λvs H2=>∃y,vs=[y]/\∃z,y=.str z/\(z=a\/z=b)/\Q (.int (if a=z then 0 else 1)) H2) I1 (by
   show te σ H1 λy H2=>∃y',[y]=[y']/\_;have:(λ(y:V)(H2:Hp)=>∃z,y=.str z/\(z=a\/z=b)/\Q (.int (if a=z then 0 else 1)) H2)=λy H2=>∃y',[y]=[y']/\∃z,y'=.str z/\(z=a\/z=b)/\Q (.int (if a=z then 0 else 1)) H2:=by
    funext y H2;apply propext
    constructor
    .intro z;exact⟨y,rfl,z⟩
    .rintro⟨y',e,z⟩;have:y=y':=by injection e
     subst this;exact z
   rw[<-this];exact q1)
  rw[hs]at hA ⊢;refine FJ (by show(false||(FC cpos (Fj [] X.env)).any (·.1))=false;rw[hplain]<;>rfl) (FT ?_)
  refine bJ hA λus s2 ⟨vs,H2,I2,r2,y,e,z,e2,hz,q5⟩=>?_;subst e;subst e2;obtain⟨u,rfl,ru⟩:=cU r2;have ho:=I2.kIn _ _ hk;refine GR PySem.F.slot_tuple_index ⟨_,ho,rfl⟩ PySem.F.entry_tuple_index (gS _ _) (kr (b0:=eqV (.str a) (.str z))) ⟨ho,lu ra ru rfl rfl,λhb=>?_,?_⟩
  .have:=lu (A:=X.A.in1) (s:=s2) rb ru rfl rfl;have e:eqV (.str b) (.str z)=true:=by
    have hb:¬a=z:=λw=>by have:eqV (.str a) (.str z)=true:=E5 (by rw[w]);rw[this]at hb;cases hb
    exact E5 (by rcases hz with w|w;exact Fb w.symm hb;rw[w])
   rwa[e]at this
  .refine⟨.int (if a=z then 0 else 1),H2,I2.tok _,⟨s2.toks,?_⟩,q5⟩
   by_cases w:a=z
   .have:eqV (.str a) (.str z)=true:=E5 (by rw[w]);rw[this,E8 rfl,E8 w]
   .have:eqV (.str a) (.str z)=false:=E6 w;rw[this,E7 KI,E7 w]
 |_=>exact q1.elim
end
theorem vR{K:Frag}{h:Fw}{C:Addr}{bmB:List Value}{newId:String}(X:K.In h)(q:Lj K C bmB newId=true):
  ∃bm N nm qn bs hdct sn sub ab col dd k0 k1 k2 k3 k5 mN,h.get? C=some (excClassObj nm qn C N bs bm hdct sn sub ab col dd k0 k1 k2 k3 k5 newId)/\h.Ns N mN/\mN "__init__"=none/\OwnTail h bmB bm:=by
 unfold Lj at q;split at q
 .rename_i dd cd sl ho;split at q
  .rename_i C' bm k0 k1 k2 k3 n k5 hm hs;simp only[KJ,beq_iff_eq,KM]at q;obtain⟨⟨⟨⟨⟨rfl,rfl⟩,hdel⟩,ht⟩,hok⟩,hni⟩:=q;obtain⟨nm,bs,mro,ns,qn,hd,sn,sub,ab,col,del⟩:=cd;dsimp only at hm hdel hok hni;subst hm hdel;have hsl:sl= #[k0,k1,k2,k3,some (.builtin n),k5]:=by obtain⟨l⟩:=sl;simp only at hs;rw[hs]
   subst hsl;exact⟨bm,ns,nm,qn,bs,hd,sn,sub,ab,col,dd,k0,k1,k2,k3,k5,_,X _ _ ho,.of_isNs (PySem.W.isNs_of_in X hok),PySem.W.nsMap_none_of_in X hok hni,PySem.W.tail_of_in X ht⟩
  .cases q
 .cases q
def Af(ta:TA)(G:Hp->Prop):TS:=λ_ σ H=>ta σ H λvs H1=>vs.length<=sizeLine/\G H1
theorem l9{X:Cx}{x:Str}{C:Addr}{e₀:FA}{rest:List FA}{np cpos pos:GO}{ta:TA}{G:Hp->Prop}{bmB:List Value}{B newId initId:String}(FB:ExcBaseFacts B newId initId bmB)(hc:X.calm=true)(hg:Gl X x)(hm:X.mg x=some (.ref C))
  (q:Lj X.K C bmB newId=true) (ha:PA X (e₀::rest) ta)
  (hx:∀gV σ H s h' e vs,aC X gV σ H s->Heap.MadeExcOf s.heap h' e (.ref C) vs->G H->X.xe (.ref e) {s with heap:=h'})
  (he:Fj (e₀::rest) X.env=(false,FF e₀ X.env)::Fj rest X.env:=by rfl) (hpl:(FC cpos (Fj rest X.env)).any (·.1)=false:=by rfl) (hdb:(x == ("__debug__":Str))=false:=by decide):
  PS X (.Raise (some (.Call (.Name x np) (e₀::rest) [] cpos)) none pos) (Af ta G):=by
 intro gV s σ H D I h;obtain⟨tl,N,nm,qn,bs,hdct,sn,sub,ab,col,dd,k0,k1,k2,k3,k5,mN,hC,hN,hni,T⟩:=vR I.ok.mod.kin q;refine wpAny_Raise_call_subT (C:=C) (nm:=nm) (q:=qn) (N:=N) (bs:=bs) (bm:=tl) (hdct:=hdct) (sn:=sn) (sub:=sub) (ab:=ab) (col:=col) (dd:=dd) (k0:=k0) (k1:=k1) (k2:=k2) (k3:=k3) (k5:=k5)
  FB (mN:=mN) (T.hasType FB.hasBase) (I.ok.hd hc) (by rw[he];show(false||(FC cpos (Fj rest X.env)).any (·.1))=false;rw[hpl];rfl) hni (fN I hg hm ⟨rfl,?_⟩ hdb)
 have h2:=ha cpos gV s σ H _ I h;rw[he]at h2 ⊢;refine FT (bJ h2 λus s2 ⟨vs,H1,I1,r,z,g⟩=>?_);exact⟨rfl,by rw[<-r.length];exact z,I1.bk _ _ hC,hN.keeps I1.bk,T.keeps I1.bk,λh' e hm=>hx gV σ H1 s2 h' e us I1 hm g⟩
theorem bF.obj{P:Fn}{w:Fp}{H:Hp}{h:Fw}{a:Addr}{o:HO}(x:bF P w H h a o):∃u,h.get? a=some u:=by
 cases o with
 |lst xs=>obtain⟨_,_,_,_,e⟩:=x;exact⟨_,e⟩
 |tup xs=>obtain⟨_,_,_,o,e,_⟩:=x;exact⟨o,e⟩
 |dK kvs=>obtain⟨_,_,_,_,o,_,_,e,_⟩:=x;exact⟨o,e⟩
 |dT kvs=>obtain⟨_,_,_,_,o,_,_,e,_⟩:=x;exact⟨o,e⟩
 |set S n=>obtain⟨o,_,_,_,e,_⟩:=x;exact⟨o,e⟩
 |ins C dx fs=>obtain⟨_,_,_,e,_⟩:=x;exact⟨_,e⟩
 |own y=>exact x
 |xd fs=>obtain⟨_,⟨o,_,_,e,_⟩,_⟩:=x;exact⟨o,e⟩
 |rng lo hi=>obtain⟨_,_,_,e⟩:=x;exact⟨_,e⟩
 |frz ob u=>obtain⟨e,_⟩:=x;exact⟨_,e⟩
 |tbl ps=>exact⟨_,(show h.get? a=some _ from x)⟩
 |met f y=>exact⟨_,(show h.get? a=some _ from x)⟩
 |ext φ=>obtain⟨_,e,_⟩:=x;exact e
def zw(P:Fn)(w:Fp):pS:=λE4 H s E e s'=>∃(a:Addr)(cls a0:Value)(B:Fw)(H':Hp),e=.ref a/\s'.os=s.os/\GV s'.gens/\s.heap.get? a=none/\H' a=none/\
 Heap.FlyingW B E4 a cls a0 s'.heap/\iz P w H' B/\Un (gX E4) [] H H' s.heap s'.heap/\(∀b o,s.heap.get? b=some o->H b=none->b∉gX E4->B.get? b=some o)/\
 (∀b o,s.heap.get? b=some o->b∉gX E4->∃o',B.get? b=some o')/\E cls none H'
theorem iF{P:Fn}{w:Fp}{K:Frag}{mg:Fc}{E3:Fw}{N:List Str}{qual:Str}{scope:Gj}{f:Addr}{cd:Value}{A:Fz}{E4:List HS}{s:Fi}{H:Hp}{E:XK}{C:Addr}:
  ∀gV σ H1 s1 h' e vs,aC (jw (zw P w) P w K mg E3 N qual scope f cd A E4 s H E) gV σ H1 s1->Heap.MadeExcOf s1.heap h' e (.ref C) vs->E (.ref C) none H1->
   (jw (zw P w) P w K mg E3 N qual scope f cd A E4 s H E).xe (.ref e) {s1 with heap:=h'}:=by
 intro gV σ H1 s1 h' e vs I hm hE;have fr:(A.deeper (F0 qual scope s.heap.objs.size f cd)).frames=some (F0 qual scope s.heap.objs.size f cd::E4):=I.ok.frames;have ST:s1.heap.FunFrames E3 (F0 qual scope s.heap.objs.size f cd::E4):=I.stack;have BU:Un (gX E4) [] H H1 s.heap s1.heap:=I.E3;have hin:∀env∈(F0 qual scope s.heap.objs.size f cd::E4),∀b,env.frame=some b->b∈gX (F0 qual scope s.heap.objs.size f cd::E4):=λenv he b hb=>Jr.mpr ⟨env,he,hb⟩;have sub:∀b,b∈gX E4->b∈gX (F0 qual scope s.heap.objs.size f cd::E4):=λb hb=>by obtain⟨env,he,hf⟩:=Jr.mp hb;exact Jr.mpr ⟨env,Jd _ he,hf⟩
 have notin:∀b o,s.heap.get? b=some o->b∉gX E4->b∉gX (F0 qual scope s.heap.objs.size f cd::E4):=λb o q nb hb=>by
  obtain⟨env,he,hf⟩:=Jr.mp hb
  rcases IN.mp he with rfl|he
  .have:s.heap.objs.size=b:=Option.some.inj hf;rw[<-this]at q;exact Fb (Fk q) (Kj _)
  .exact nb (Jr.mpr ⟨env,he,hf⟩)
 show Fs _ _ (leaving _ _) _ _ _;refine wpAny_leaves_madeW (base:=Lx s1.heap (gX (F0 qual scope s.heap.objs.size f cd::E4))) fr rfl (λb o q=>Ly _ q) (PySem.W.funFrames_hide ST hin) hm λh2 t x1 x2 x3 x4=>?_;have data:∀b o,s1.heap.get? b=some o->b∈gX E4->∃sl,h2.get? b=some {o with slots:=sl}:=λb o q hb=>by obtain⟨_,o',q',nd⟩:=ST.mem (sub b hb);rw[q]at q';cases q';exact x4 b o (hm.keeps b o q) nd
 refine⟨e,_,_,_,H1,rfl,I.os,I.bare,?_,?_,x1,?_,⟨λb o q n hb hx=>?_,λb o q n hb hx=>?_,BU.free,λb o q hx=>?_,BU.tups,BU.frzs,BU.tbls⟩,λb o q n hb=>?_,λb o q hb=>?_,hE⟩
 .cases q:s.heap.get? e with
  |none=>rfl
  |some o=>
   obtain⟨o',q'⟩:=BU.there e o q (by simp);rw[hm.new]at q';cases q'
 .cases q:H1 e with
  |none=>rfl
  |some o=>
   obtain⟨o',q'⟩:=(I.hok e o q).obj;rw[hm.new]at q';cases q'
 .intro b o q;refine(I.hok b o q).stay (λc v hc z=>Ld _ z λhb=>?_) (λ_ z=>z) λ_ _ z=>z;have fz:=I.stkFree c hb
  rcases hc with rfl|hc
  .rw[q]at fz;cases fz
  .rw[hc]at fz;cases fz
 .exact x1.1 b o (Ld _ (BU.keep b o q n hb hx) (notin b o q hb))
 .obtain⟨sl,q1⟩:=BU.slot b o q n hb hx;obtain⟨sl',q2⟩:=data b _ q1 hb;exact⟨sl',q2⟩
 .obtain⟨o',q1⟩:=BU.there b o q hx
  by_cases hb:b∈gX E4
  .obtain⟨sl,q2⟩:=data b _ q1 hb;exact⟨_,q2⟩
  .exact⟨o',x1.1 b o' (Ld _ q1 (notin b o q hb))⟩
 .exact Ld _ (BU.keep b o q n hb (by simp)) (notin b o q hb)
 .obtain⟨o',q1⟩:=BU.there b o q (by simp);exact⟨o',Ld _ q1 (notin b o q hb)⟩
theorem bT.okX{P:Fn}{w:Fp}{K:Frag}{mg:Fc}{E3:Fw}{x qual:Str}{st:FG}{f:Addr}{fd:Ft}{N ps:List Str}{k:Nat}{sp:Sp}(F:bT K x qual st f fd)(S:aH N ps (aj st))(len:∀vs H Q E,sp vs H Q E->vs.length=ps.length)
  (hbody:∀(cdv:Value)(A:Fz)(E4:List HS)(s:Fi)(H:Hp)(vs:List V)(Q:VK)(E:XK),cn k (A.deeper (F0 qual (aj st) s.heap.objs.size f cdv))->sp vs H Q E->
   ∃t,mU (jw (zw P w) P w K mg E3 N qual (aj st) f cdv A E4 s H E) (dg st) t/\t {nx:=λ_ H'=>Q .non H',rt:=Q} (fg N vs) H):bo P w K mg E3 (zw P w) (k+1) f fd ps sp:=by
 obtain⟨oc,od,kV,doc,pm,an,cdv,ct,osl,rfl,lk,hcd⟩:=F.ex;exact zg lk hcd S len λA E4 s H vs Q E hr hsp=>hbody cdv A E4 s H vs Q E hr hsp
section
variable{X:Cx}{gV:Fe}{σ:St}{H H':Hp}{s s':Fi}
abbrev Cx.hand(X:Cx)(e:Addr):Cx:={X with A:=X.A.mark (some (.ref e)),calm:=false}
theorem aC.hand(I:aC X gV σ H s)(e:Addr):aC (X.hand e) gV σ H s:=
 ⟨⟨I.ok.mod,I.ok.kind,I.ok.glob,I.ok.blt,I.ok.above,I.ok.inj,I.ok.has,I.ok.cab,λz=>(Bool.noConfusion z),I.ok.frames,I.ok.stk,I.ok.exf,I.ok.bs,I.ok.bsz,I.ok.noex,I.ok.exfs,I.ok.funs,I.ok.frf⟩,I.os,I.bare,I.E3,I.loc,I.cell,I.free,I.freeC,I.pin,I.hok,I.len⟩
theorem aC.unhand{e:Addr}(ok:X.Ok)(I:aC (X.hand e) gV σ H s):aC X gV σ H s:=⟨ok,I.os,I.bare,I.E3,I.loc,I.cell,I.free,I.freeC,I.pin,I.hok,I.len⟩
theorem aC.flown{a:Addr}{cls a0:Value}{B h5:Fw}(I:aC X gV σ H s)(os:s'.os=s.os)(bare:GV s'.gens)(ff:s'.heap.FunFrames B X.stack)(fl:B.StaysIn h5)(hok:iz X.prog X.w H' B)(un:Un (gX X.stack) [] H H' s.heap s'.heap)(u:s'.heap.UpToSlots h5)
  (c1:∀b o,s.heap.get? b=some o->H b=none->b∉gX X.stack->B.get? b=some o) (c2:∀b o,s.heap.get? b=some o->b∉gX X.stack->∃o',B.get? b=some o'):aC X gV σ H' {s' with heap:=h5}:=by
 refine I.call' (s':={s' with heap:=h5}) (ch:=[]) os ⟨λb o q n hb _=>fl b o (c1 b o q n hb),λb o q n hb hx=>?_,un.free,λb o q hx=>?_,un.tups,un.frzs,un.tbls⟩ (hok.kept fl) bare (λb z=>Fb z (by simp))
 .obtain⟨sl,q1⟩:=un.slot b o q n hb hx;obtain⟨_,o',q',nd⟩:=ff.mem hb;rw[q1]at q';cases q';obtain⟨sl',q2⟩:=u b _ q1 nd;exact⟨sl',q2⟩
 .by_cases hb:b∈gX X.stack
  .obtain⟨_,o',q',nd⟩:=ff.mem hb;obtain⟨sl',q2⟩:=u b _ q' nd;exact⟨_,q2⟩
  .obtain⟨o',q'⟩:=c2 b o q hb;exact⟨o',fl b o' q'⟩
def uU(cls:Value)(a:Addr):HO:=.ext λh=>∃o,h.get? a=some o/\o.cls=cls
theorem aC.track{a:Addr}{cls:Value}{s1:Fi}{H1:Hp}(I:aC X gV σ H s)(ho:∃o,s.heap.get? a=some o/\o.cls=cls)(hn:H a=none)(I1:aC X gV σ H1 s1)(new:s1.heap.get? a=none):aC X gV σ (upd H a (uU cls a)) s:=by
 have neq:∀b u,s1.heap.get? b=some u->b≠a:=λb u q z=>by rw[z,new]at q;cases q
 have neH:∀b u,H b=some u->b≠a:=λb u q z=>by rw[z,hn]at q;cases q
 refine⟨I.ok,I.os,I.bare,⟨I.E3.keep,I.E3.slot,λb o q n hx=>?_,I.E3.there,λb xs q=>?_,λb o u q=>?_,λb ps q=>?_⟩,I.loc,I.cell,?_,λx c q=>?_,λp hp=>?_,λb u q=>?_,I.len⟩
 .obtain⟨o',q'⟩:=I1.E3.there b o q hx;rw[ar (neq b o' q')];exact I.E3.free b o q n hx
 .rw[ar (neH b _ (I.E3.tups b xs q))];exact I.E3.tups b xs q
 .rw[ar (neH b _ (I.E3.frzs b o u q))];exact I.E3.frzs b o u q
 .obtain⟨m,z⟩:=I.E3.tbls b ps q;exact⟨m,by rw[ar (neH b _ z)];exact z⟩
 .obtain⟨m,⟨o,_,_,q,_⟩,_⟩:=I1.loc;rw[ar (neq _ o q)];exact I.free
 .obtain⟨v,o,z,_⟩:=I1.cell x c q;rw[ar (neq c o z)];exact I.freeC x c q
 .obtain⟨e,n,ne,nf,d⟩:=I.pin p hp;exact⟨e,by rw[ar (neq _ _ (I1.pin p hp).1)];exact n,ne,nf,d⟩
 .by_cases hb:b=a
  .subst hb;rw[af]at q;cases q;obtain⟨o,h1,h2⟩:=ho;exact⟨⟨o,h1,h2⟩,⟨o,h1⟩,λg1 g2 ⟨o',y1,y2⟩ k=>⟨o',k o' y1,y2⟩⟩
  .rw[ar hb]at q;exact(I.hok b u q).stay (λ_ _ _ z=>z) (λc z=>by rw[ar (neH c _ z)];exact z) λc xs z=>by rw[ar (neH c _ z)];exact z
theorem aC.forget{h':Fw}{m':Fc}{t':Nat}(I:aC X gV σ H s)(hn':h'.Ns X.env.locals m')(hs:Gq X.env.locals s.heap h'):aC X gV (List.replicate X.N.length none) H {s with heap:=h',toks:=t'}:=by
 obtain⟨m,hn,_⟩:=id I.loc;obtain⟨oL,_,_,hoL,_⟩:=id hn;have old:∀b o,X.s₀.heap.get? b=some o->h'.get? b=s.heap.get? b:=λb o e=>hs.2 b (Ke (Ki (Fk e) I.ok.above));refine⟨I.ok,I.os,I.bare,⟨λb o e n hb hx=>?_,λb o e n hb hx=>?_,I.E3.free,λb o e hx=>?_,I.E3.tups,I.E3.frzs,I.E3.tbls⟩,⟨_,hn',λj y v e1 e2 e3=>?_⟩,λy c e=>?_,I.free,I.freeC,λp hp=>?_,λb ob e=>?_,by simp⟩
 .exact(old b o e).trans (I.E3.keep b o e n hb hx)
 .obtain⟨sl,e1⟩:=I.E3.slot b o e n hb hx;exact⟨sl,(old b o e).trans e1⟩
 .obtain⟨o',e1⟩:=I.E3.there b o e hx;exact⟨o',(old b o e).trans e1⟩
 .rw[J2]at e2;split at e2<;>cases e2
 .obtain⟨w',z⟩:=I.cell y c e;exact⟨w',z.sameBut hs (I.cne y c e)⟩
 .obtain⟨e,n,ne,nf,d⟩:=I.pin p hp;exact⟨(hs.2 p.1 ne).trans e,n,ne,nf,d⟩
 .refine(I.hok b ob e).stay (λc w' hc q=>(hs.2 c ?_).trans q) (λ_ q=>q) λ_ _ q=>q;rintro rfl;have fz:=I.free
  rcases hc with z|hc
  .rw[z,e]at fz;cases fz
  .rw[hc]at fz;cases fz
end
def yR(K:Frag)(C0:Addr)(sp:Sp)(i:Nat)(ta:TA)(ts:TS)(q:cD->St->VK):TS:=λD σ H=>ta σ H λvs H1=>sp vs H1 (q D σ) λcls _ H2=>Lk K cls (.ref C0)=some true/\
 ∀a,H2 a=none->ts {nx:=λ_ _=>False,rt:=D.rt} (σ.set i (some (.ref a))) (upd H2 a (uU cls a))
structure wa(P:Fn)(w:Fp)(K:Frag)(mg:Fc)(E3:Fw)(name:Str)(ps:List Str)(k:Nat)(sp:Sp):Prop where
 ex:∃f fd,bo P w K mg E3 (zw P w) k f fd ps sp/\mg name=some (.ref f)/\K9 K (.ref f)=true/\eW K fd ps []
section
variable{X:Cx}{e:FA}{es:List FA}{ta:TA}{ts:TS}{p pos bpos np hpos tpos:GO}{sp:Sp}{k j i:Nat}{name xc n:Str}{ps:List Str}{C0:Addr}{b₀:FG}{suite:List FG}
theorem Ey{gV:Fe}{σ:St}{H1:Hp}{s1 s':Fi}{D:cD}{e:Value}{E:XK}(I1:aC X gV σ H1 s1)(hn:∀e s,X.xe e s->False)(hstk:X.stack=X.env::X.E4)(hfr:X.env.frame=some X.env.locals)(hgc:Gl X xc)(hmc:X.mg xc=some (.ref C0))(hN:X.N.Nodup)(hi:X.N[i]? =some n)(hx:X.env.scope.names.lookup n=some .local)
  (hs:∀a,mU (X.hand a) (b₀::suite) ts) (z:zw X.prog X.w X.stack H1 s1 E e s')
  (hE:∀cls d H2,E cls d H2->Lk X.K cls (.ref C0)=some true/\∀a,H2 a=none->ts {nx:=λ_ _=>False,rt:=D.rt} (σ.set i (some (.ref a))) (upd H2 a (uU cls a)))
  (hdb:(xc == ("__debug__":Str))=false):
  Fs (Fu X.prog X.w) X.A (noteFrame e X.env) (λ_ s₂=>Fs (Fu X.prog X.w) X.A (setFlight e none) (λ_ s₃=>Fs (Fu X.prog X.w) X.A (handleBy e X.env [.ExceptHandler (some (.Name xc np)) (some n) (b₀::suite) hpos]) (SP X gV D) X.xe s₃) X.xe s₂) X.xe s':=by
 obtain⟨a,cls,a0,B,H',rfl,os,bare,new,ha,fl,hok,un,c1,c2,hE'⟩:=z;obtain⟨hit,hts⟩:=hE _ _ _ hE';have ff:=fl.2.2.1;rw[hstk]at fl;refine wpAny_looks_onW (I1.ok.frames.trans (by rw[hstk])) hfr fl λh4 hl4 u4=>?_;refine wpAny_landsW hl4 λh5 fl5 u5=>?_;have I5:aC X gV σ H' {s' with heap:=h5}:=I1.flown (a:=a) (cls:=cls) (a0:=a0) os bare ff fl5.1 hok un (u4.trans u5) c1 c2;have J5:=I5.hand a;refine wpAny_handleBy_cons (codeAny_handlers_test (fN (X:=X.hand a) J5 hgc hmc ?_ hdb)) (by intro q;cases q);have LT:PySem.W.Looks (Fu X.prog X.w) h5 (IG (.ref a)) cls:=by obtain⟨ob,hob,hc⟩:=fl5.there;subst hc;exact(PySem.W.Looks.ld hob).andThen .now
 refine(PySem.W.exm_one (h:=h5) I5.kIn LT hit).here ?_;refine codeAny_handlers_suite_as ?_;refine lands_againW fl5 λh6 fl6 u6=>?_;have I6:aC X gV σ H' {s' with heap:=h6}:=I1.flown (a:=a) (cls:=cls) (a0:=a0) os bare ff fl6.1 hok un ((u4.trans u5).trans u6) c1 c2;have I7:=I6.track (cls:=cls) fl6.there ha I1 new;refine fc (X:=X.hand a) (v:=.ref a) (I7.hand a) hN hi (.inl hx) rfl (λs7 I8=>?_) (.inr hx);refine FM (hs a gV s7 _ _ _ I8 (hts a ha)) (λf s8 q=>?_) λ_ _ q=>(hn _ _ q).elim;cases f with
 |next=>obtain⟨_,_,_,q⟩:=q;exact q.elim
 |brk=>obtain⟨_,_,_,q⟩:=q;exact q.elim
 |cont=>obtain⟨_,_,_,q⟩:=q;exact q.elim
 |ret u=>
  obtain⟨v,σ',H8,J8,rv,q⟩:=q;have K8:=J8.unhand I1.ok;obtain⟨m,hm,_⟩:=K8.loc;refine wpAny_nameGoes hx hm (by rw[K8.ok.kind];rfl) λh9 m9 hm9 sb=>?_;exact⟨v,_,H8,K8.forget hm9 sb,rv,q⟩
theorem vg{f:Addr}{fd:Ft}{CX:pS}{E:XK}{gV:Fe}{σ:St}{H:Hp}{s:Fi}{Q:VK}{us:List Value}{vs:List V}{E':Fd}(F:bo X.prog X.w X.K X.mg X.E3 CX k f fd ps sp)(hr:cn k X.A)(hb:eW X.K fd ps [])
  (I:aC X gV σ H s) (r:aL vs us) (h:sp vs H Q E) (hx:∀e s',CX X.stack H s E e s'->E' e s'):Fs (Fu X.prog X.w) X.A (call (.ref f) us) (EP X gV σ Q) E' s:=by
 have hl:(us++[]).length=ps.length:=by rw[Jj,<-r.length];exact F.len _ _ _ _ h
 have hb':=hb s us I.kIn hl;rw[Jj]at hb';refine Gy (FW (F.run X.A X.stack s H ⟨us,[]⟩ us vs Q E hr I.env0 hb' r h) λr s' hq=>?_);cases r with
 |error e=>exact hx e s' hq
 |ok fl=>
  cases fl with
  |ret u=>exact I.after hq
  |next=>exact False.elim hq
  |brk=>exact False.elim hq
  |cont=>exact False.elim hq
theorem DU{gV:Fe}{σ:St}{H:Hp}{s:Fi}{Q:VK}{E:XK}{E':Fd}(C:wa X.prog X.w X.K X.mg X.E3 name ps k sp)(hr:cn j X.A)(hkj:k<=j)(hn:∀e s,X.xe e s->False)(ha:PA X (e::es) ta)(I:aC X gV σ H s)(h:ta σ H λvs H1=>sp vs H1 Q E)
  (hx:∀H1 s1 e s',aC X gV σ H1 s1->zw X.prog X.w X.stack H1 s1 E e s'->E' e s') (hg:Gl X name) (hdb:(name == ("__debug__":Str))=false) (hp:(e::es).all dk=true):
  Fs (Fu X.prog X.w) X.A (FF (.Call (.Name name p) (e::es) [] pos) X.env) (EP X gV σ Q) E' s:=by
 obtain⟨f,fd,F,hm,hk,hb⟩:=C.ex;have hp':=hp;rw[IZ,KJ]at hp';refine FE (fN I hg hm ?_ hdb);refine Li (h₀:=X.E3) I.ok.mod.kin hk (FM (ha pos gV s σ H _ I h) (λus s1 ⟨vs,H1,I1,r,q⟩=>⟨I1.kIn,?_⟩) λ_ _ z=>(hn _ _ z).elim) (cV hp'.1) (dM hp'.2);exact vg F (hr.mono hkj) hb I1 r q λe s' z=>hx _ _ e s' I1 z
theorem vm(C:wa X.prog X.w X.K X.mg X.E3 name ps k sp)(hr:cn j X.A)(hn:∀e s,X.xe e s->False)(ha:PA X (e::es) ta)(hmc:X.mg xc=some (.ref C0))(hN:X.N.Nodup)(hi:X.N[i]? =some n)(hs:∀a,mU (X.hand a) (b₀::suite) ts)
  (hkj:k<=j:=by decide) (hstk:X.stack=X.env::X.E4:=by rfl) (hfr:X.env.frame=some X.env.locals:=by rfl) (hx:X.env.scope.names.lookup n=some .local:=by rfl) (hgc:Gl X xc:=by rfl) (hg:Gl X name:=by rfl)
  (hdb:(name == ("__debug__":Str))=false:=by decide) (hdc:(xc == ("__debug__":Str))=false:=by decide) (hp:(e::es).all dk=true:=by rfl):
  PS X (.Try [.Return (some (.Call (.Name name p) (e::es) [] pos)) bpos] [.ExceptHandler (some (.Name xc np)) (some n) (b₀::suite) hpos] [] [] tpos) (yR X.K C0 sp i ta ts λD _=>D.rt):=by
 intro gV s σ H D I h;refine wpAny_Try_except (Hw (wpAny_Return_some (FM (DU C hr hkj hn ha I h (λH1 s1 e s' I1 z=>?_) hg hdb hp) (λv s1 ⟨x,H2,I2,r,z⟩=>⟨x,σ,H2,I2,r,z⟩) λ_ _ z=>z)));exact Ey I1 hn hstk hfr hgc hmc hN hi hx hs z (λ_ _ _ z=>z) hdc
end
end L2
namespace PySem.W
open PySem PySem.Spec PySem.Calls PyProof.Rows Builtin Builtin.ObjectAttr Builtin.Getset_descriptor
structure ExcC(K:Frag)(D:Addr):Prop where
 ga:findIn K (.ref D) "__getattribute__"=some (some (.builtin "BaseException.__getattribute__"))
 gh:findIn K (.ref D) "__getattr__"=some none
 ha:findIn K (.ref D) "__class__"=some (some (.builtin "object.__class__"))
 hn:specialIn K (.builtin "object.__class__") "__get__"=some (some (.builtin "getset_descriptor.__get__"))
 htk:takesIn K (.builtin "object.__class__")=some true
 hm:mroIn K D (.type "object")=some true
 hb:mroIn K D (.type "BaseException")=some true
 hc:(clsIn K D).isSome=true
section
variable{prog:Fn}{w:Fp}{A:Fz}{E:Fd}{s:Fi}{K:Frag}{x D:Addr}{o:Obj}
theorem Eb{M:Model}{h:Fw}(ho:h.get? x=some o)(hc:o.cls=.ref D):Looks M h (IG (.ref x)) (.ref D):=hc▸(Looks.ld ho).andThen .now
theorem C6{M:Model}{h:Fw}(F:ExcC K D)(X:K.In h):Looks M h (find (.ref x) (.ref D) "__class__") (.bind (.builtin "getset_descriptor.__get__") (.builtin "object.__class__")):=
 (Ir X F.ha).andThen ((show Looks M h (getOf (some (.builtin "object.__class__"))) (some (.builtin "getset_descriptor.__get__"))from looks_specialIn X F.hn).andThen
  ((show Looks M h (dataDescriptor? (some (.builtin "object.__class__")) (some (.builtin "getset_descriptor.__get__"))) (some (.builtin "getset_descriptor.__get__",.builtin "object.__class__"))from(looks_takesIn X F.htk).andThen .now).andThen (Looks.tag .now)))
theorem pU{R:IC->Fi->Prop}{tp:Value}(F:ExcC K D)(X:K.In s.heap)(ho:s.heap.get? x=some o)(hc:o.cls=.ref D)(h:R (.ok (.ret (.ref D))) s):
  Gx (Fu prog w) A (.call (.builtin "getset_descriptor.__get__") ⟨[.builtin "object.__class__",.ref x,tp],[]⟩) R s:=by
 obtain⟨hh,g,dr,t,os⟩:=s;have L0:=Eb (M:=Fu prog w) ho hc;have L1:=looks_mroIn (M:=Fu prog w) X F.hm;refine Go KF.slot_gs.plain KF.entry_gs (KF.slot_gs.check _ _ _ _ _ _ _ _ KF.type_class (KF.args_gs _ _ _) ?_);unfold GN.«getset_descriptor.__get__» descrGet;rw[dga_obj];refine Ff (Fm ?_);unfold descrGetter descrCheckInstance descrNameAndClass isInstance;simp only[KF.owner_class]
 repeat lk
 refine⟨Code.quiet_builtin _ (by decide+kernel),Gi KF.entry_class ?_⟩;unfold GN.«object.__class__» shownTypeOf
 repeat lk
 first|exact h|(rw[hc];exact h)|skip
theorem zX{M:Model}{nameV:Value}{Q:Unit->Fi->Prop}(F:ExcC K D)(X:K.In s.heap)(ho:s.heap.get? x=some o)(hc:o.cls=.ref D)(hq:Q () s):Fs M A (checkBuiltinCall "BaseException.__getattribute__" ⟨[.ref x,nameV],[]⟩) Q E s:=by
 obtain⟨hh,g,dr,t,os⟩:=s;have L0:=Eb (M:=M) ho hc;have L1:=looks_mroIn (M:=M) X F.hb;have LI:Looks M hh (isInstance (.ref x) (.type "BaseException")) true:=L0.andThen L1;have hk:builtinKind "BaseException.__getattribute__"=some .slot:=by decide+kernel
 have hsplit:splitId "BaseException.__getattribute__"=some ("BaseException","__getattribute__"):=by decide+kernel
 have ha:=PySem.F.args_bexc_ga (.ref x) nameV;simp only[checkBuiltinCall,hk,hsplit];refine Ff (LI.at ?_)
 repeat (any_goals (first|assumption|wp_step))
theorem zW{Q:Option Value->Fi->Prop}(F:ExcC K D)(X:K.In s.heap)(ho:s.heap.get? x=some o)(hc:o.cls=.ref D)(h:Q (some (.ref D)) {s with toks:=s.toks+1}):Fs (Fu prog w) A (getAttr? (.ref x) "__class__") Q E s:=by obtain⟨hh,g,d,t,os⟩:=s;have L0:=Eb (M:=Fu prog w) ho hc;have L1:=Ir (M:=Fu prog w) X F.ga;have L2:=Ir (M:=Fu prog w) X F.gh;have L3:=C6 (M:=Fu prog w) (x:=x) F X;unfold getAttr? getAttrBy? getAttrBy;refine Ff (wpAny_mkText (Ff (GU (FO (Ff (L0.at (Ff (L1.at ?_))))))));dsimp only;rw[E7 (λz:(onTheHeap (FD D)&&(Value.builtin "BaseException.__getattribute__" == Value.builtin "object.__getattribute__"))=true=>Fb (KN.mp z).2 (by decide+kernel))];unfold getAttrByItsOwn hookBefore;rw[E8 (show onTheHeap (FD D)=true from rfl)];refine Ff (L2.at ?_);refine Ff (GU (FO ?_));unfold callGetattribute;rw[E7 (by decide)];unfold boundAndCalled;refine Ff (wpAny_of_eq (PySem.F.attr_ValueError.ga.bind (.ref x)) ?_);refine Gy (Go PySem.F.attr_ValueError.ga.plain PySem.F.entry_bexc_ga (zX F X ho hc ?_));unfold GN.«object.__getattribute__»;refine Ff (Fm ?_);refine Ff (Fm ?_);refine Ff (L0.at ?_);refine Ff (L3.at ?_);show Fs _ _ (Hm [_] (call (.builtin "getset_descriptor.__get__") [.builtin "object.__class__",.ref x,.ref D]) >>= ret) _ _ _;refine Ff (FO (Gy (pU (s:=⟨hh,g,d,t+1,os⟩) F X ho hc ?_)));refine Fm ?_;exact handed_on rfl (Fm h)
theorem kitx_exc(F:ExcC K D):KitX K (.ref x) (.ref D) (λh=>∃o,h.get? x=some o/\o.cls=.ref D) where
 ty:=λ_ _ _ ⟨o,ho,hc⟩=>Eb ho hc
 it:=λ_ _ X _=>by
  obtain⟨cdD,hcD⟩:=KZ.mp F.hc;unfold clsIn at hcD;split at hcD
  .rename_i c' d' cd' sl' ho;intro A' Q' E' s' k q;unfold isType loadHead;exact Ff (wpAny_loadPart (k _ _ (X _ _ ho)) (Fm q))
  .cases hcD
 ne:=λh tp dd its n sl X htp=>by
  obtain⟨cdD,hcD⟩:=KZ.mp F.hc;refine Bool.eq_false_iff.mpr λq=>?_;have e:D=tp:=Value.ref.inj (beq_iff_eq.mp q);subst e;unfold clsIn at hcD;split at hcD
  .rename_i c' d' cd' sl' ho;have z:=(X _ _ ho).symm.trans htp;cases z
  .cases hcD
 ca:=λX ⟨o,ho,hc⟩ k=>zW F X ho hc k
end
end PySem.W
namespace L2
open PySem PySem.Spec PyProof.Rows
section
variable{X:Cx}{a b e o:FA}{ta tb te to:TE}{p pos:GO}{es:List FA}{t:TA}
def EH(K:Frag):List V->Hp->VK->Prop:=λvs H Q=>∃(a D:Addr)(y:V)(cv:Value)(b:Bool),vs=[.ref a,y]/\(∀u,RelV y u->u=cv)/\H a=some (uU (.ref D) a)/\PySem.W.ExcC K D/\K4 K (.ref D) cv=some b/\Q (.bl b) H
theorem cm(K:Frag)(hK:X.K=K:=by rfl):bj X (.builtin "isinstance") (EH K):=by subst hK;intro gV s σ H xs us Q I r h;obtain⟨a,D,y,cv,b,rfl,hy,ha,F,hb,q⟩:=h;obtain⟨u,v,rfl,ru,rv⟩:=r.two;cases ru;cases hy v rv;have hx:bF X.prog X.w H s.heap a (.ext λh=>∃o,h.get? a=some o/\o.cls=.ref D):=I.hok a _ ha;obtain⟨p,_,_⟩:=hx;exact K6 (PySem.W.kitx_exc F) I.kIn p hb (λz=>nomatch z) λtk=>⟨.bl b,H,I.tok tk,rfl,q⟩
theorem jx{x:V}:∀{xs:List V}{us:List Value},aL xs us->xs.all bO=true->us.countP (mI x)=xs.countP λy=>eqV y x
 |_,_,.nil,_=>rfl
 |y::xs,u::us,.cons r t,f=>by rw[IZ,KJ]at f;rw[List.countP_cons,List.countP_cons,oh r f.1,jx t f.2]
def DX(to te:TE):TE:=λσ H Q=>to σ H λx H1=>match x with
 | .ref l=>(∃xs,H1 l=some (.lst xs))/\te σ H1 λy H2=>∃xs,H2 l=some (.lst xs)/\bO y=true/\xs.all bO=true/\Q (.int (xs.countP λz=>eqV z y:Nat)) H2
 |_=>False
theorem tQ:D5 X "list.count" (λx vs H Q=>∃l xs y,x=.ref l/\vs=[y]/\H l=some (.lst xs)/\bO y=true/\xs.all bO=true/\Q (.int (xs.countP λz=>eqV z y:Nat)) H):=by intro gV s σ H x vs v us Q I rx rv h;obtain⟨l,xs,y,rfl,rfl,hH,fy,fx,q⟩:=h;cases rx;obtain⟨u,rfl,ru⟩:=rv.one;obtain⟨z,its,n,r,hl,e⟩:=I.lstM hH;refine GR F.slot_list_count ⟨_,e,rfl⟩ F.entry_list_count (F.args_list_count_2 _ _) (SeqAt.list_countAt l its.toArray n none #[] u (mI y)) ⟨e,λw hw=>fB ru fy r fx w (by simpa using hw),?_⟩;rw[show its.toArray.toList=its from rfl,jx r fx];exact⟨.int (xs.countP λz=>eqV z y:Nat),H,I.tok _,⟨_,rfl⟩,q⟩
theorem Ba{apos cpos:GO}(ho:PE X o to)(he:PE X e te)(hbase:FP o "count" X.env (FF o X.env)=FF o X.env:=by rfl)
  (hfew:((FC cpos (Fj [e] X.env)).all (λx=> !x.1)&&(Hz cpos (GB [] X.env)).all (λx=>x.1.isSome)
   &&decide ([e].length+([]:List GK).length+(if([]:List GK).isEmpty then 0 else 1)<30))=true:=by rfl)
  (hline:(apos.endLine == cpos.line)=true:=by rfl) (hs:Fj [e] X.env=(false,FF e X.env)::Fj [] X.env:=by rfl) (hplain:(FC cpos (Fj [] X.env)).any (·.1)=false:=by rfl):
  PE X (.Call (.Attribute o "count" apos) [e] [] cpos) (DX to te):=by
 intro gV s σ H Q I h;refine FV hbase hfew hline rfl (bJ (ho gV s σ H _ I h) λv s1 ⟨x,H1,I1,r1,q1⟩=>?_);cases x with
 |ref l=>
  obtain⟨⟨xs0,e0⟩,q1⟩:=q1;have ty:yO X.K "list" (.ref l) H1:=.inl ⟨rfl,xs0,aM.of e0⟩;obtain⟨h1,h2⟩:=gJ I1 r1 ty;refine⟨"list","list.count",PySem.F.plainAttrs_list,PySem.F.slot_list_count,PySem.F.type_list_count,h1,h2,?_⟩;have hA:=(pa_cons he pa_nil hs:PA X [e] (aV te ce)) cpos gV s1 σ H1 (λvs H2=>∃y,vs=[y]/\∃xs,H2 l=some (.lst xs)/\bO y=true/\xs.all bO=true/\Q (.int (xs.countP λz=>eqV z y:Nat)) H2) I1 (by
   show te σ H1 λy H2=>∃y',[y]=[y']/\_;have:(λ(y:V)(H2:Hp)=>∃xs,H2 l=some (.lst xs)/\bO y=true/\xs.all bO=true/\Q (.int (xs.countP λz=>eqV z y:Nat)) H2)=λy H2=>∃y',[y]=[y']/\∃xs,H2 l=some (.lst xs)/\bO y'=true/\xs.all bO=true/\Q (.int (xs.countP λz=>eqV z y':Nat)) H2:=by
    funext y H2;apply propext
    constructor
    .intro z;exact⟨y,rfl,z⟩
    .rintro⟨y',e,z⟩;have:y=y':=by injection e
     subst this;exact z
   rw[<-this];exact q1)
  rw[hs]at hA ⊢;refine FJ (by show(false||(FC cpos (Fj [] X.env)).any (·.1))=false;rw[hplain]<;>rfl) (FT ?_)
  exact bJ hA λus s2 ⟨vs,H2,I2,r2,y,e,xs,q3,q4,q5,q6⟩=>tQ gV s2 σ H2 _ vs v us Q I2 r1 r2 ⟨l,xs,y,rfl,e,q3,q4,q5,q6⟩
 |_=>exact q1.elim
structure iL(k:Nat)(A:Fz):Prop where
 dp:A.depth+3*k+5<Hf
 un:A.units+16*k+200<GD
theorem cn.n{k:Nat}{A:Fz}(r:cn k A)(v:Option Value):iL k (A.mark v):=⟨r.dp,r.un⟩
structure E2(P:Fn)(w:Fp)(K:Frag)(mg:Fc)(E3:Fw)(k:Nat)(f:Addr)(fd:Ft)(ps:List Str)(sp:Sp):Prop where
 len:∀vs H Q E,sp vs H Q E->vs.length=ps.length
 run:∀(A:Fz)(E4:List HS)(s:Fi)(H:Hp)(args:Args)(us:List Value)(vs:List V)(Q:VK),iL k A->lJ P w K mg E3 A E4 s H->Ib s fd args (ps.zip us)->aL vs us->sp vs H Q E0->
  Gx (Fu P w) A (.call (.ref f) args) (CR dO E4 P w H s Q E0) s
abbrev Cx.uncalm(X:Cx)(A:Fz):Cx:={X with A:=A,calm:=false}
theorem aC.uncalm{X:Cx}{gV:Fe}{σ:St}{H:Hp}{s:Fi}(I:aC X gV σ H s){A:Fz}(hA:A.frames=some X.stack):aC (X.uncalm A) gV σ H s:=
 ⟨⟨I.ok.mod,I.ok.kind,I.ok.glob,I.ok.blt,I.ok.above,I.ok.inj,I.ok.has,I.ok.cab,λz=>(Bool.noConfusion z),hA,I.ok.stk,I.ok.exf,I.ok.bs,I.ok.bsz,I.ok.noex,I.ok.exfs,I.ok.funs,I.ok.frf⟩,I.os,I.bare,I.E3,I.loc,I.cell,I.free,I.freeC,I.pin,I.hok,I.len⟩
abbrev EM(P:Fn)(w:Fp)(K:Frag)(mg:Fc)(E3:Fw)(N:List Str)(qual:Str)(scope:Gj)(f:Addr)(cd:Value)(A:Fz)(E4:List HS)(s:Fi)(H:Hp):Cx:=
 ((jw dO P w K mg E3 N qual scope f cd {A with handled:=none} E4 s H E0).uncalm (A.deeper (F0 qual scope s.heap.objs.size f cd))).nox
theorem bT.okN{P:Fn}{w:Fp}{K:Frag}{mg:Fc}{E3:Fw}{x qual:Str}{st:FG}{f:Addr}{fd:Ft}{N ps:List Str}{k:Nat}{sp:Sp}(F:bT K x qual st f fd)(S:aH N ps (aj st))(len:∀vs H Q E,sp vs H Q E->vs.length=ps.length)
  (hbody:∀(cdv:Value)(A:Fz)(E4:List HS)(s:Fi)(H:Hp)(vs:List V)(Q:VK),iL k (A.deeper (F0 qual (aj st) s.heap.objs.size f cdv))->sp vs H Q E0->
   ∃t,mU (EM P w K mg E3 N qual (aj st) f cdv A E4 s H) (dg st) t/\t {nx:=λ_ H'=>Q .non H',rt:=Q} (fg N vs) H):E2 P w K mg E3 (k+1) f fd ps sp:=by
 obtain⟨oc,od,kV,doc,pm,an,cdv,ct,osl,rfl,lk,hcd⟩:=F.ex;refine⟨len,λA E4 s H args us vs Q hr e0 hb r hsp=>?_⟩;have hl:=len _ _ _ _ hsp;have KX:K.In s.heap:=e0.mod.kin.keeps λb o e=>(e0.bs b o e).1;have lim:s.heap.NoLimit:=e0.mod.nolimit.keeps λb o e=>(e0.bs b o e).1;have hkind:∀y∈ps.zip us,(aj st).names.lookup y.1=some .local\/((aj st).names.lookup y.1=some .cell/\((IA (s.heap.objs.size+1) (aj st).names []).lookup y.1).isSome=true):=λ⟨n,v⟩ hy=>by
  rcases S.par n (JD hy).1 with q|q
  .exact .inl q
  .exact .inr ⟨q,Lv _ _ _ (.inl q)⟩
 have hdp:A.depth<Hf:=by have:=hr.dp;omega
 refine HN hdp (KX _ _ lk) rfl S.co S.gen rfl (LF KX hcd) (hb _ _ _ _ ?_);refine G4 S.kind hkind λenv he s1 x=>?_;subst he;refine⟨lim.keeps x.toInCall.keep,codeAny_func ?_⟩;have hr':iL k (A.deeper (F0 qual (aj st) s.heap.objs.size f cdv)):=⟨by have:=hr.dp;show A.depth+1+3*k+5<_;omega,by have:=hr.un;show A.units+3+16*k+200<_;omega⟩;obtain⟨t,ht,hq⟩:=hbody cdv A E4 s H vs Q hr' hsp;have e0':lJ P w K mg E3 {A with handled:=none} E4 s H:=⟨e0.frames,e0.mod,e0.bs,e0.bsz,e0.funs,e0.frf,e0.hok,e0.bare⟩;have I0:aC (jw dO P w K mg E3 N qual (aj st) f cdv {A with handled:=none} E4 s H E0) [] (fg N vs) H s1:=j7 S rfl e0' hl r x;have I:aC (EM P w K mg E3 N qual (aj st) f cdv A E4 s H) [] (fg N vs) H s1:=(I0.uncalm (Around.frames_deeper e0.frames)).wish _;refine FM (ht [] s1 (fg N vs) H _ I hq) (λfl s' hs=>?_) λe s' hs=>hs.elim;have fin:∀{σ':St}{H':Hp}{v:V}{u:Value},aC (EM P w K mg E3 N qual (aj st) f cdv A E4 s H) [] σ' H' s'->RelV v u->Q v H'->CE E4 P w H s Q u s':=
  λ{σ' H' v u} J rv q=>⟨v,H',J.os,J.bare,J.E3,J.hok,rv,q⟩
 cases fl with
 |ret u=>
  obtain⟨v,σ',H',J,rv,q⟩:=hs;exact fin J rv q
 |next=>
  obtain⟨σ',H',J,q⟩:=hs;exact fin (v:=V.non) (u:=GS) J rfl q
 |brk=>
  obtain⟨_,_,_,q⟩:=hs;exact False.elim q
 |cont=>
  obtain⟨_,_,_,q⟩:=hs;exact False.elim q
structure Bx(P:Fn)(w:Fp)(K:Frag)(mg:Fc)(E3:Fw)(name:Str)(ps:List Str)(k:Nat)(sp:Sp):Prop where
 ex:∃f fd,E2 P w K mg E3 k f fd ps sp/\mg name=some (.ref f)/\K9 K (.ref f)=true/\eW K fd ps []
theorem AR{name:Str}{ps:List Str}{k j:Nat}{sp:Sp}(C:Bx X.prog X.w X.K X.mg X.E3 name ps k sp)(hr:iL j X.A)(ha:PA X (e::es) t)(hkj:k<=j:=by decide)(hp:(e::es).all dk=true:=by rfl)(hg:Gl X name:=by rfl)(hdb:(name == ("__debug__":Str))=false:=by decide):PE X (.Call (.Name name p) (e::es) [] pos) (fH sp t):=by
 obtain⟨f,fd,F,hm,hk,hb⟩:=C.ex;have hp':=hp;rw[IZ,KJ]at hp';intro gV s σ H Q I h;refine FE (fN I hg hm ?_ hdb);refine Li (h₀:=X.E3) I.ok.mod.kin hk (bJ (ha pos gV s σ H _ I h) λus s1 ⟨vs,H1,I1,r,q⟩=>⟨I1.kIn,?_⟩) (cV hp'.1) (dM hp'.2);have hl:(us++[]).length=ps.length:=by rw[Jj,<-r.length];exact F.len _ _ _ _ q
 have hb':=hb s1 us I1.kIn hl;rw[Jj]at hb';have hrk:iL k X.A:=⟨by have:=hr.dp;omega,by have:=hr.un;omega⟩;refine Gy (FW (F.run X.A X.stack s1 H1 ⟨us,[]⟩ us vs Q hrk I1.env0 hb' r q) λr s' hq=>?_);cases r with
 |error e=>exact False.elim hq
 |ok fl=>
  cases fl with
  |ret u=>exact I1.after hq
  |next=>exact False.elim hq
  |brk=>exact False.elim hq
  |cont=>exact False.elim hq
end
end L2
namespace L2
open PySem
def Ris(xs:Array Nat):Prop:= ∀i j,i<j->j<xs.size->xs.getD i 0<xs.getD j 0
def it5(M:Nat):Nat->Nat->Nat
 |0,i=>i
 |n+1,i=>it5 M n ((i*5+1) % M)
def orb(M:Nat):Nat->Nat->List Nat
 |0,_=>[]
 |n+1,i=>i::orb M n ((i*5+1) % M)
def E1(M:Nat):Prop:=(∀e,e<M->e∈orb M M 0)/\it5 M M 0=0
def lp(mask:Nat)(h:Int):Nat->Nat×Nat
 |0=>(SetTable.bits h % (mask+1),SetTable.bits h)
 |n+1=>SetTable.leap mask (lp mask h n).1 (lp mask h n).2
def sl(mask:Nat)(h:Int)(n c:Nat):Nat:=(lp mask h n).1+c
def Lt2(n c n' c':Nat):Prop:=n<n'\/(n=n'/\c<c')
def Ok2(mask:Nat)(h:Int)(n c:Nat):Prop:=c<=SetTable.runEnd mask (lp mask h n).1 - (lp mask h n).1
def Bt(t:Iu)(h:Int)(j:Nat):Prop:= ∃n c,Ok2 t.mask h n c/\sl t.mask h n c=j/\∀a b,Ok2 t.mask h a b->Lt2 a b n c->¬t.slot (sl t.mask h a b)=.empty
structure TGb(es:Array (Int×Value))(t:Iu):Prop where
 ps:t.place.size=es.size
 ris:Ris t.place
 nd:t.dummies= #[]
 full:E1 (t.mask+1)
 odd:t.mask % 2=1
 fit:t.place.size<=t.mask
 pl:∀i,i<es.size->Bt t (es.getD i (0,.none)).1 (t.place.getD i 0)
abbrev nn(owner:Array (Option Nat))(j:Nat):Bool:=(owner.getD j (some 0)).isNone
section
variable{prog:Fn}{w:Fp}{A:Fz}{E:Fd}{s:Fi}
def El(prog:Fn)(w:Fp)(m:Addr->Prop)(h:Fw)(k:List Int)(e:Int×Value):Prop:= ∃a,m a/\e=(tupleKeyHash (intKind prog w) k,.ref a)/\IsTupleKey (intKind prog w) h k a
end
section
variable{prog:Fn}{w:Fp}{A:Fz}{E:Fd}{s:Fi}
def Rm(mask n:Nat):Prop:=(mask=7\/mask=31\/mask=127\/mask=511)/\n*5<mask*3
structure ST(prog:Fn)(w:Fp)(m:Addr->Prop)(h:Fw)(es:Array (Int×Value))(t:Iu):Prop where
 el:∀e∈es.toList,∃k,El prog w m h k e
 nd:es.toList.Pairwise λe e'=>∀k,El prog w m h k e->¬El prog w m h k e'
 tg:TGb es t
 led:t.led= !w.params.followText "set-order"
 rm:Rm t.mask es.size
end
end L2
namespace L2
open PySem PySem.W PyProof.Rows
structure EW(n:Nat)(lt:Nat->Nat->Bool):Prop where
 tr:∀a b c,a<n->b<n->c<n->lt a b=true->lt b c=true->lt a c=true
 as:∀a b,a<n->b<n->lt a b=true->lt b a=false
 tt:∀a b,a<n->b<n->a≠b->lt a b=false->lt b a=true
section
variable{n:Nat}{lt:Nat->Nat->Bool}{s:Fi}{cmp:Nat->Nat->(Bool->Fi->Prop)->Fi->Prop}(O:EW n lt)(hc:∀i j(C:Bool->Fi->Prop),i<n->j<n->C (lt i j) s->cmp i j C s)
include O hc
omit O hc in
theorem Eu{p q:Array Nat}{n:Nat}(h:p.toList.Perm (List.range n))(e:q.Perm p):q.toList.Perm (List.range n):=(Array.perm_iff_toList_perm.mp e).trans h
end
end L2
namespace L2
open PySem PySem.Spec PyProof.Rows
theorem lN{t u:TT}{σ:St}{H:Hp}{R:Bool->Hp->Prop}(h:t σ H λc H1=>if c=true then R true H1 else u σ H1 R):Ed t u σ H R:=h
structure zt where
 kd:Str
 so:Str
 ai:Str
 ax:Int
 up:Int
abbrev zt.vs(r:zt):List V:=[.str r.kd,.str r.so,.str r.ai,.int r.ax,.int r.up]
theorem al.tupY{K:Frag}{H H':Hp}{a:Addr}{xs:List V}(e:al H H')(h:dC K H a xs):dC K H' a xs:=by
 rcases h with(h|⟨o,h⟩)|h
 .exact .inl (.inl (e _ _ h))
 .exact .inl (.inr ⟨o,e _ _ h⟩)
 .exact .inr h
theorem tupY{t:TA}{σ:St}{H:Hp}{Q:VK}(q:t σ H (λvs H2=>vs.length<=sizeLine/\∀p,H2 p=none->Q (.ref p) (upd H2 p (.tup vs)))):u9 t σ H Q:=q
theorem Ew{σ:St}{H:Hp}{Q:List V->Hp->Prop}(q:Q [] H):ce σ H Q:=q
theorem j5{H H1 H':Hp}{x dx:Addr}{o1 o2:HO}(s:al H H1)(nx:H1 x=none)(nd:H1 dx=none)(sb:SameBut x (upd (upd H1 dx o1) x o2) H'):al H H':=λb o e=>by have e1:=s b o e;have nbx:=au e1 nx;have nbd:=au e1 nd;exact sb b o (by rw[ar nbx,ar nbd];exact e1) nbx
theorem lj{H:Hp}{a:Addr}(h:H a=some (.lst [])):lstOf H (.ref a)=some []:=by simp only[lstOf,h]
theorem qB{H:Hp}{q:Addr}{ks:List Nat}(h:H q=some (.lst (ks.map strV)))(hl:∀k∈ks,mY k)(nd:ks.Nodup)(k1:1<=ks.length)(k6:ks.length<=6):jo H (.ref q)=true:=by
 have e:lstOf H (.ref q)=some (ks.map strV):=by simp only[lstOf,h]
 unfold jo;rw[e];dsimp only;rw[IL,E5 ⟨k1,k6⟩,KO,KJ];refine⟨Ji.mpr λx hx=>?_,E5 ?_⟩
 .obtain⟨k,hk,rfl⟩:=IR.mp hx;exact E5 (p:=97<=k/\k<=122) (hl k hk)
 .rw[IQ];exact Ka.mpr (nd.imp λhab e=>hab (ip.mp e))
theorem eK.imp{P:Fn}{w:Fp}{K:Frag}{mg:Fc}{E3:Fw}{name:Str}{ps:List Str}{k:Nat}{sp sp':Sp}(C:eK P w K mg E3 name ps k sp)(h:∀vs H Q E,sp' vs H Q E->sp vs H Q E):eK P w K mg E3 name ps k sp':=by obtain⟨f,fd,F,a,b,c⟩:=C.ex;exact⟨f,fd,F.imp h,a,b,c⟩
theorem Bo{P:Fn}{w:Fp}{K:Frag}{mg:Fc}{E3:Fw}(C:eK P w K mg E3 "is_among" ["thing","least","most"] 2 fY):eK P w K mg E3 "is_among" ["thing","least","most"] 2 yU:=eK.imp C λvs H Q E h=>by obtain⟨t,a,b,rfl,q⟩:=h;exact⟨.int t,a,b,rfl,trivial,q⟩
def je:Sp:=λvs H Q _=>∃n:Int,vs=[.int n]/\Q (.bl true) H
section
variable{K:Frag}{σ:St}{H:Hp}{ta tb te:TE}
theorem gR{op:Hg}{R:Bool->Hp->Prop}(h:ta σ H λx H1=>tb σ H1 λy H2=>gC K op x y H2 (di R)):gn (e7 K op ta tb) σ H R:=h
end
theorem Bd{sp:Sp}{t:TA}{σ:St}{H:Hp}{R:Bool->Hp->Prop}{vs:List V}(h:Av t σ H vs)(q:sp vs H (di λc H1=>R (!c) H1) E0):sS (gn (fH sp t)) σ H R:=h _ q
theorem qR{K:Frag}{op:Hg}{sp:Sp}{t:TA}{tb:TE}{σ:St}{H:Hp}{R:Bool->Hp->Prop}{vs:List V}(h:Av t σ H vs)(q:sp vs H (λx H1=>tb σ H1 λy H2=>gC K op x y H2 (di R)) E0):gn (e7 K op (fH sp t) tb) σ H R:=h _ q
structure oB(wi hi:Int)(hs:List Int)(ks:List Nat)(z:Str):Prop where
 len:z.length=(wi*hi).toNat
 at_:∀(s c:Nat),z.cps.toList[s]? =some c->eH ks c (if(s:Int)∈hs then 35 else 46)=true
theorem gM{te:TE}{D:cD}{σ:St}{H:Hp}(h:te σ H D.rt):cp te D σ H:=h
def tk3(s:Int)(x:Int×Int):List Int:=[s,x.1,x.2]
theorem sQ{t:TT}{σ:St}{H:Hp}{R:Bool->Hp->Prop}(h:t σ H λc H1=>R (!c) H1):sS t σ H R:=h
theorem yQ{K:Frag}{ta:TE}{σ:St}{H:Hp}{R:Bool->Hp->Prop}(h:ta σ H λx H1=>∃k,uP K x H1 k/\R k H1):DV K ta σ H R:=h
theorem Bc{sp:Sp}{t:TA}{σ:St}{H:Hp}{R:Bool->Hp->Prop}{vs:List V}(h:Av t σ H vs)(q:sp vs H (di R) E0):gn (fH sp t) σ H R:=h _ q
theorem nU{K:Frag}{t:TA}{ti:TE}{σ:St}{H:Hp}{Q:VK}{vs:List V}{v:V}{i:Int}(h:Av t σ H vs)(hz:vs.length<=1000)(hi:∀H',al H H'->Ev ti σ H' (.int i))(e:iK vs i=some v)(q:∀H',al H H'->Q v H'):pN K (jF t) ti σ H Q:=h _ ⟨Kg hz (by decide),λp hp=>hi _ ((al.refl H).upd hp) _ ⟨vs,v,.inl (aM.of af),e,q _ ((al.refl H).upd hp)⟩⟩
theorem jX:Fv "ValueError"=some (.type "ValueError"):=by decide+kernel
def pd(D:Addr):Sp:=λvs H Q _=>∃a,vs=[.ref a]/\H a=some (uU (.ref D) a)/\∀H',al H H'->Q (.bl true) H'
structure AlC(mg:Fc)(K:Frag)(D:Addr)(b1 b2 b3 b4 b5 b6 b7 b8 b9:Bool):Prop where
 x:PySem.W.ExcC K D
 f1:∃c,mg "BadBoard"=some (.ref c)/\K4 K (.ref D) (.ref c)=some b1
 f2:∃c,mg "BadGame"=some (.ref c)/\K4 K (.ref D) (.ref c)=some b2
 f3:∃c,mg "BadLine"=some (.ref c)/\K4 K (.ref D) (.ref c)=some b3
 f4:∃c,mg "BadPlace"=some (.ref c)/\K4 K (.ref D) (.ref c)=some b4
 f5:∃c,mg "NoMove"=some (.ref c)/\K4 K (.ref D) (.ref c)=some b5
 f6:∃c,mg "TooWide"=some (.ref c)/\K4 K (.ref D) (.ref c)=some b6
 f7:∃c,mg "NoWord"=some (.ref c)/\K4 K (.ref D) (.ref c)=some b7
 f8:∃c,mg "Over"=some (.ref c)/\K4 K (.ref D) (.ref c)=some b8
 f9:∃c,mg "NothingBack"=some (.ref c)/\K4 K (.ref D) (.ref c)=some b9
 v:K4 K (.ref D) (.type "ValueError")=some true
 one:([V.bl b1,.bl b2,.bl b3,.bl b4,.bl b5,.bl b6,.bl b7,.bl b8,.bl b9].countP λz=>eqV z (.bl true))=1
theorem ol{K:Frag}{D:Addr}{v:Value}{b:Bool}(h:Lh K D v=some b):(PySem.W.clsIn K D).isSome=true:=by
 unfold Lh at h;cases e:PySem.W.clsIn K D with
 |none=>rw[e]at h;cases h
 |some _=>rfl
theorem pk{c:Addr}:∀u,RelV (.ref c) u->u=.ref c:=λ_ h=>h
theorem An{n:String}:∀u,RelV (.ty n) u->u=.type n:=λ_ h=>h
theorem n9{K:Frag}{σ:St}{H:Hp}{t:TA}{a D:Addr}{y:V}{cv:Value}{b:Bool}(h:Av t σ H [.ref a,y])(hy:∀u,RelV y u->u=cv)(ha:H a=some (uU (.ref D) a))(F:PySem.W.ExcC K D)(hb:K4 K (.ref D) cv=some b):Ev (cB (EH K) t) σ H (.bl b):=λQ q=>h _ ⟨a,D,y,cv,b,rfl,hy,ha,F,hb,q⟩
theorem iL.hu{k:Nat}{A:Fz}(r:iL k A):A.units+20<GD:=by have:=r.un;omega
theorem A7{K:Frag}{H:Hp}{n:Nat}{a b:Addr}{z:Str}{i:Int}(ha:H a=some (.tup [.str z,.int i]))(hb:H b=some (.tup [.str z,.int i])):pQ K H (n+1) (.ref a) (.ref b) true:=by
 have h:pQ K H (n+1) (.ref a) (.ref b) ((List.range (min 2 2)).all (λj=>if j=0 then eqV (.str z) (.str z)else eqV (.int i) (.int i))&&2 == 2):=.tup (dC.of ha) (dC.of hb) λj v v' h1 h2=>by
  match j,h1,h2 with
  |0,h1,h2=>cases h1;cases h2;exact .flat rfl rfl
  |1,h1,h2=>cases h1;cases h2;exact .flat rfl rfl
 have e1:eqV (.str z) (.str z)=true:=E5 rfl;have e2:eqV (.int i) (.int i)=true:=E5 rfl;have ee:((List.range (min 2 2)).all (λj=>if j=0 then eqV (.str z) (.str z)else eqV (.int i) (.int i))&&2 == 2)=true:=by show((if 0=0 then eqV (.str z) (.str z)else eqV (.int i) (.int i))&&((if 1=0 then eqV (.str z) (.str z)else eqV (.int i) (.int i))&&true)&&true)=true;rw[e1,e2];rfl
 rwa[ee]at h
theorem EN(F:List Int)(lo hi:Option Int):∃ss:List Int,dh (F.map V.int) lo hi=ss.map V.int/\ss.length<=F.length:=by
 refine⟨(F.drop (HT.sIx (F.map V.int).length 0 lo)).take (HT.sIx (F.map V.int).length (F.map V.int).length hi - HT.sIx (F.map V.int).length 0 lo),?_,?_⟩
 .unfold dh;rw[JX,JY]
 .rw[IX,Jn];omega
theorem ux{xs:List V}{lo hi:Option Int}{x:V}(h:x∈dh xs lo hi):x∈xs:=JH (JI h)
theorem t5{v:V}{l:List Int}(h:v∈l.map V.int):∃n,v=.int n:=by obtain⟨n,_,e⟩:=IR.mp h;exact⟨n,e.symm⟩
def jT(z:Str)(w i:Nat):Str:=⟨((z.cps.toList.drop (i*w)).take w).toArray⟩
def zY(sd:Int):Str:=if sd=0 then"first"else"second"
def shL(z:Str)(w h:Nat)(sd:Int):List Str:=((List.range h).map λk=>jT z w (h - 1 - k))++[zY sd]
theorem pe{z:Str}{w h:Nat}{sd:Int}:(shL z w h sd).length=h+1:=by unfold shL;simp
theorem bI(z:Str):z.length=z.cps.toList.length:=by show z.cps.size=_;rw[KQ]
theorem vG{z:Str}{w i:Nat}(h:(i+1)*w<=z.length):(jT z w i).length=w:=by
 rw[bI];unfold jT;rw[bI]at h;have e:(i+1)*w=i*w+w:=by rw[Kq,Kr]
 simp only[IX,Jn];omega
theorem AJ(z:Str)(w i:Nat):(jT z w i).length<=w:=by rw[bI];unfold jT;simp only[IX];omega
theorem uv{z:Str}{w i:Nat}(h:(i+1)*w<=z.length):gQ z (some ((i*w:Nat):Int)) (some ((i*w+w:Nat):Int))=jT z w i:=by
 have e:(i+1)*w=i*w+w:=by rw[Kq,Kr]
 unfold gQ jT;rw[HT.sIx_nat,HT.sIx_nat,Ky (by omega),Ky (by omega),Nat.add_sub_cancel_left]
theorem Am{z:Str}{w h:Nat}:(((List.range h).map λi=>V.str (jT z w i)).reverse)=((List.range h).map λk=>jT z w (h - 1 - k)).map V.str:=by
 apply JZ
 .simp
 .intro i h1 h2;simp
theorem gi(l:List Str):(Fx ("":Str) l).cps.toList=(l.map λs=>s.cps.toList).flatten:=by
 have key:∀(r:List Str)(acc:Array Nat),(r.foldl (λacc p=>acc++("":Str).cps++p.cps) acc).toList=acc.toList++(r.map λs=>s.cps.toList).flatten:=by
  intro r
  induction r with
  |nil=>intro acc;simp
  |cons a r ih=>
   intro acc;have e:("":Str).cps= #[]:=by decide+kernel
   rw[List.foldl_cons,ih,e];simp
 unfold Fx Builtin.Str.glued;cases l with
 |nil=>rfl
 |cons a r=>
  show(r.foldl (λacc p=>acc++("":Str).cps++p.cps) a.cps).toList=_;rw[key];simp
theorem block{α:Type}:∀(l:List (List α))(w i:Nat)(x:List α),(∀y∈l,y.length=w)->l[i]? =some x->(l.flatten.drop (i*w)).take w=x
 | [],_,_,_,_,h=>by simp at h
 |a::l,w,0,x,hl,h=>by simp at h;subst h;have:=hl a (by simp);rw[Nat.zero_mul,JF,JJ,List.take_append_of_le_length (by omega),JG (by omega)]
 |a::l,w,i+1,x,hl,h=>by
  have:=hl a (by simp);have e:(i+1)*w=a.length+i*w:=by rw[Kq,Kr];omega
  rw[JJ,e,<-List.drop_drop,List.drop_left];exact block l w i x (λy hy=>hl y (by simp[hy])) (by simpa using h)
theorem mG{α:Type}:∀(l:List (List α))(w:Nat),(∀y∈l,y.length=w)->l.flatten.length=l.length*w
 | [],_,_=>by simp
 |a::l,w,h=>by rw[JJ,IT,mG l w (λy hy=>h y (by simp[hy])),h a (by simp),Jg,Kq,Kr];omega
theorem vF{l:List Str}{w i:Nat}{x:Str}(hl:∀y∈l,y.length=w)(hx:l[i]? =some x):jT (Fx "" l) w i=x:=by
 have hb:∀y∈l.map (λs:Str=>s.cps.toList),y.length=w:=λy hy=>by obtain⟨s,hs,rfl⟩:=IR.mp hy;show s.cps.toList.length=w;rw[<-bI];exact hl s hs
 unfold jT;rw[gi,block (l.map λs=>s.cps.toList) w i x.cps.toList hb (by rw[IU,hx];rfl)]
theorem ms{l:List Str}{w:Nat}(hl:∀y∈l,y.length=w):(Fx "" l).length=l.length*w:=by
 have hb:∀y∈l.map (λs:Str=>s.cps.toList),y.length=w:=λy hy=>by obtain⟨s,hs,rfl⟩:=IR.mp hy;show s.cps.toList.length=w;rw[<-bI];exact hl s hs
 rw[bI,gi,mG (l.map λs=>s.cps.toList) w hb,IL]
structure lI(wi hi:Int)(hs:List Int)(ks:List Nat)(ys init:List Str)(wd:Str):Prop where
 eq:ys=init++[wd]
 len:init.length=hi.toNat
 wd:wd="first"\/wd="second"
 all:∀y∈init,y.length=wi.toNat
 row:oB wi hi hs ks (Fx "" init.reverse)
def jH(wd:Str):Int:=if("first":Str)=wd then 0 else 1
theorem lI.uniq{wi hi:Int}{hs:List Int}{ks:List Nat}{ys init init':List Str}{wd wd':Str}(a:lI wi hi hs ks ys init wd)(b:lI wi hi hs ks ys init' wd'):init=init'/\wd=wd':=by have e:=a.eq.symm.trans b.eq;have h1:=congrArg List.dropLast e;rw[Jq,Jq]at h1;subst h1;exact⟨rfl,by simpa using e⟩
theorem Ak{w h:Nat}{init:List Str}{wd:Str}(hl:init.length=h)(ha:∀y∈init,y.length=w)(hw:wd="first"\/wd="second"):shL (Fx "" init.reverse) w h (jH wd)=init++[wd]:=by
 unfold shL;congr 1
 .apply JZ
  .simp[hl]
  .intro i h1 h2;simp only[List.getElem_map,J0];refine vF (λy hy=>ha y (by simpa using hy)) ?_;rw[JT (by omega)];have e:init.length - 1 - (h - 1 - i)=i:=by omega
   rw[e];exact IP h2
 .congr 1;unfold zY jH
  rcases hw with rfl|rfl
  .rw[E8 rfl,E8 rfl]
  .rw[E7 (by decide+kernel:¬("first":Str)="second"),E7 (by decide)]
theorem ve{z:Str}{w h:Nat}{sd:Int}(hz:z.length=w*h):∀y∈(shL z w h sd).dropLast,y.length=w:=by intro y hy;unfold shL at hy;rw[Jq]at hy;obtain⟨k,hk,rfl⟩:=IR.mp hy;have hk:=Jb.mp hk;refine vG ?_;rw[hz,Ks];exact Ku _ (by omega)
theorem fE{K:Frag}{H:Hp}{n:Nat}{q d:Addr}{xs ys:List Str}(hq:aM K H q (xs.map V.str))(hd:aM K H d (ys.map V.str)):pQ K H (n+1) (.ref q) (.ref d) (decide (xs=ys)):=by
 by_cases hl:xs.length=ys.length
 .have z:=pQ.lst (n:=n) (es:=λi=>eqV (.str (xs.getD i "")) (.str (ys.getD i ""))) hq hd (by rw[IL,IL];exact hl) (λi x y hx hy=>by
   have i1:i<xs.length:=by have:=(Je.mp hx).1;rwa[IL]at this
   have i2:i<ys.length:=by omega
   rw[IU,IP i1]at hx;rw[IU,IP i2]at hy;cases hx;cases hy;rw[IY,IY,IP i1,IP i2];exact .flat rfl rfl)
  have e:((List.range (xs.map V.str).length).all λi=>eqV (.str (xs.getD i "")) (.str (ys.getD i "")))=decide (xs=ys):=by
   rw[IL]
   by_cases h:xs=ys
   .subst h;rw[E5 rfl,Ji];intro i _;exact E5 rfl
   .rw[E6 h,List.all_eq_false];apply Classical.byContradiction;intro hn;apply h;apply JZ hl;intro i i1 i2;apply Classical.byContradiction;intro ne;apply hn;refine⟨i,Jb.mpr i1,λw=>ne ?_⟩;have w:(xs.getD i "")=(ys.getD i ""):=E9 w;rw[IY,IY,IP i1,IP i2]at w;exact w
  rw[e]at z;exact z
 .rw[E6 (λe=>hl (by rw[e]))];exact pQ.len hq hd (by rw[IL,IL];exact hl)
theorem qP{ta:TA}{te:TE}{src:List (Option Nat)}{σ rest:St}{H:Hp}{Q:VK}{m st:Nat}(ha:Av ta σ H [.int 0,.int ((m:Int)*st),.int st])(m8:m<=8)(t1:1<=st)(t8:st<=8)(hs:dR src σ=none::rest)(f:Nat->V)
  (he:∀i,i<m->Ev te (some (.int (0+(i:Int)*st))::rest) H (f i)) (q:∀d,H d=none->Q (.ref d) (upd H d (.lst ((List.range m).map f)))):tComp (zf ta) (gName 0) iB te src σ H Q:=by
 refine ha _ ⟨m,st,rfl,m8,t1,t8,?_⟩;refine mM m (λi ys σ' H'=>H'=H/\(∃v,σ'=v::rest)/\ys=(List.range i).map f) (by rw[Fq];omega) (λi ys σ H h=>by rw[h.2.2];simp) (λi ys σ H' h hi=>hi) (λys σ H' h=>Kd _) ⟨rfl,⟨none,hs⟩,rfl⟩ ?_ ?_
 .rintro i ys _ _ x H2 hi ⟨rfl,⟨v0,rfl⟩,rfl⟩ ⟨rfl,rfl⟩ Kt Kf ht hf;simp only[gName,iB,List.set_cons_zero,if_true];exact he i hi _ (ht _ _ _ ⟨rfl,⟨_,rfl⟩,by rw[Jy,IV];rfl⟩)
 .rintro ys _ _ d ⟨rfl,_,rfl⟩ hd;exact q d hd
def ky(K:Frag)(cB cG:Addr):Sp:=λvs H Q _=>∃(g b p:Addr)(z:Str)(sd wi hi:Int)(hs:List Int)(ks rs ts es:List V)(st:Str),vs=[.ref g,.ref p]/\gT cG H g b ks rs ts es st/\cc K cB H b wi hi hs/\dC K H p [.str z,.int sd]/\z.length=wi.toNat*hi.toNat/\(sd=0\/sd=1)/\
 ∀(q:Addr)(H':Hp),H q=none->H' q=some (.lst ((shL z wi.toNat hi.toNat sd).map V.str))->al H H'->Q (.ref q) H'
def j0(K:Frag)(cB cG cN:Addr):Sp:=λvs H Q E=>∃(g b hl:Addr)(ys:List Str)(wi hi:Int)(hs:List Int)(ks:List Nat)(rs ts es:List V)(st:Str),vs=[.ref g,.ref hl]/\gT cG H g b (ks.map strV) rs ts es st/\cc K cB H b wi hi hs/\(∀k∈ks,mY k)/\ks.length<=6/\aM K H hl (ys.map V.str)/\ys.length<=30/\(∀y∈ys,y.length<=30)/\
 (∀(init:List Str)(wd:Str)(t:Addr)(H':Hp),lI wi hi hs ks ys init wd->H' t=some (.tup [.str (Fx "" init.reverse),.int (jH wd)])->al H H'->Q (.ref t) H')/\((¬∃init wd,lI wi hi hs ks ys init wd)->∀H',al H H'->E (.ref cN) none H')
def oQ(K:Frag)(cB cG:Addr):Sp:=λvs H Q _=>∃(g b hl:Addr)(ys:List Str)(wi hi:Int)(hs:List Int)(ks:List Nat)(rs ts es:List V)(st:Str),vs=[.ref g,.ref hl]/\gT cG H g b (ks.map strV) rs ts es st/\cc K cB H b wi hi hs/\(∀k∈ks,mY k)/\ks.length<=6/\aM K H hl (ys.map V.str)/\ys.length<=30/\(∀y∈ys,y.length<=30)/\
 (∀(init:List Str)(wd:Str)(t:Addr)(H':Hp),lI wi hi hs ks ys init wd->H' t=some (.tup [.str (Fx "" init.reverse),.int (jH wd)])->al H H'->Q (.ref t) H')/\((¬∃init wd,lI wi hi hs ks ys init wd)->∀H',al H H'->Q .non H')
def lV(K:Frag):Sp:=λvs H Q _=>∃(p:Addr)(z:Str)(sd wi hi:Int),vs=[.ref p,.int wi,.int hi]/\1<=wi/\wi<=8/\1<=hi/\hi<=8/\dC K H p [.str z,.int sd]/\z.length=wi.toNat*hi.toNat/\(sd=0\/sd=1)/\
 ∀(q:Addr)(H':Hp),H q=none->H' q=some (.lst ((shL z wi.toNat hi.toNat sd).map V.str))->al H H'->Q (.ref q) H'
def pa(K:Frag):Sp:=λvs H Q _=>∃(d kq:Addr)(c:Int)(ys:List Str)(ks:List Nat),vs=[.ref d,.int c,.ref kq]/\H d=some (.lst (ys.map V.str))/\H kq=some (.lst (ks.map strV))/\(∀k∈ks,mY k)/\ks.length<=6/\2<=ys.length/\ys.length<=9/\(∀y∈ys,y.length<=8)/\
 ∀(q:Addr)(zs:List Str)(H':Hp),H' q=some (.lst (zs.map V.str))->zs.length<=30->(∀y∈zs,y.length<=30)->al H H'->Q (.ref q) H'
def oV(K:Frag):Sp:=λvs H Q _=>∃(d hq kq:Addr)(wi hi:Int)(ys:List Str)(hs:List Int)(ks:List Nat),vs=[.ref d,.int wi,.int hi,.ref hq,.ref kq]/\H d=some (.lst (ys.map V.str))/\H hq=some (.lst (hs.map V.int))/\H kq=some (.lst (ks.map strV))/\(∀k∈ks,mY k)/\ks.length<=6/\1<=wi/\wi<=8/\1<=hi/\hi<=8/\ys.length<=30/\(∀y∈ys,y.length<=30)/\
 (∀(init:List Str)(wd:Str)(t:Addr)(H':Hp),lI wi hi hs ks ys init wd->H' t=some (.tup [.str (Fx "" init.reverse),.int (jH wd)])->al H H'->Q (.ref t) H')/\((¬∃init wd,lI wi hi hs ks ys init wd)->∀H',al H H'->Q .non H')
theorem vh{wi hi:Int}{hs:List Int}{ks:List Nat}{z:Str}(R:oB wi hi hs ks z):rowB wi hi hs ks (.str z)=true:=by
 unfold rowB;dsimp only;rw[E5 (by rw[gP];exact R.len),KO,Ji];intro x hx;obtain⟨i,hi'⟩:=List.getElem?_of_mem hx;rw[Kb]at hi';cases e1:z.cps.toList[i]? with
 |none=>rw[e1]at hi';cases hi'
 |some c=>
  cases e2:(emptyT wi hi hs).cps.toList[i]? with
  |none=>rw[e1,e2]at hi';cases hi'
  |some e=>
   rw[e1,e2]at hi';have hx':eH ks c e=x:=Option.some.inj hi';have ee:e=if(i:Int)∈hs then 35 else 46:=by
    unfold emptyT at e2;have e2:((List.range (wi*hi).toNat).map λ(s:Nat)=>if(s:Int)∈hs then 35 else 46)[i]? =some e:=e2;rw[IU]at e2;cases e3:(List.range (wi*hi).toNat)[i]? with
    |none=>rw[e3]at e2;cases e2
    |some j=>
     rw[e3]at e2;have e2:(if(j:Int)∈hs then 35 else 46)=e:=Option.some.inj e2;have:j=i:=by obtain⟨h1,h2⟩:=Je.mp e3;rw[J0]at h2;exact h2.symm
     rw[<-e2,this]
   rw[<-hx',ee];exact R.at_ i c e1
theorem qL{wi hi:Int}{hs:List Int}{i:Nat}(h:i<(wi*hi).toNat):(emptyT wi hi hs).cps.toList[i]? =some (if(i:Int)∈hs then 35 else 46):=by unfold emptyT;show((List.range (wi*hi).toNat).map λ(s:Nat)=>if(s:Int)∈hs then 35 else 46)[i]? =_;rw[IU,Ju h];rfl
theorem tw{wi hi:Int}{hs:List Int}{ks:List Nat}{z:Str}(h:rowB wi hi hs ks (.str z)=true):oB wi hi hs ks z:=by
 unfold rowB at h;dsimp only at h;obtain⟨h1,h2⟩:=KN.mp h;have h1:=E9 h1;rw[gP]at h1;refine⟨h1,λs c hc=>?_⟩;have hl:s<(wi*hi).toNat:=by have:=(Je.mp hc).1;rw[<-bI]at this;omega
 rw[Ji]at h2;refine h2 _ (Jm (i:=s) ?_);rw[Kb,hc,qL hl];rfl
theorem oH{K:Frag}{H:Hp}{p:Addr}{xs:List V}{k:Bool}(h:aM K H p xs)(hk:k= !xs.isEmpty):uP K (.ref p) H k:=.inl ⟨xs,h,hk⟩
theorem nP{K:Frag}{H:Hp}{d:Addr}{ws:List Str}{x:Str}{Q:VK}(W:eJ K H d ws)(q:Q (.bl (!decide (x∈ws))) H):gC K .NotIn (.str x) (.ref d) H Q:=by show yZ K true (.str x) (.ref d) H Q;refine⟨d,ws.map V.str,rfl,W,rfl,ka ws,?_⟩;rw[E8 rfl,mx];exact q
theorem C7{H:Hp}{t:Addr}{z:Str}{i:Int}(h:H t=some (.tup [.str z,.int i]))(hz:z.length<=1000):dN H 1 (.ref t):=by
 refine⟨.inr (.inl ⟨_,h⟩),λxs hx x hm=>?_⟩;have e1:tupOf H (.ref t)=some [.str z,.int i]:=by simp only[tupOf,h]
 have e2:lstOf H (.ref t)=none:=by simp only[lstOf,h]
 rw[e1,e2]at hx
 rcases hx with hx|hx
 .cases hx
  rcases IN.mp hm with rfl|hm
  .exact hz
  .rcases IN.mp hm with rfl|hm
   .exact trivial
   .cases hm
 .cases hx
theorem Di{u:TT}{σ:St}{H:Hp}{R:Bool->Hp->Prop}(h:R true H):di (λc H1=>if(!c)=true then R true H1 else u σ H1 R) (.bl false) H:=by show if(!false)=true then R true H else u σ H R;rw[E8 (by decide)];exact h
theorem Dj{u:TT}{σ:St}{H:Hp}{R:Bool->Hp->Prop}(h:u σ H R):di (λc H1=>if(!c)=true then R true H1 else u σ H1 R) (.bl true) H:=by show if(!true)=true then R true H else u σ H R;rw[E7 (by decide)];exact h
theorem Ad{K:Frag}{C0:Addr}{sp:Sp}{i:Nat}{ta:TA}{ts:TS}{q0:cD->St->VK}{D:cD}{σ:St}{H:Hp}{vs:List V}(h:Av ta σ H vs)(q:sp vs H (q0 D σ) λcls _ H2=>Lk K cls (.ref C0)=some true/\
  ∀a,H2 a=none->ts {nx:=λ_ _=>False,rt:=D.rt} (σ.set i (some (.ref a))) (upd H2 a (uU cls a))):yR K C0 sp i ta ts q0 D σ H:=h _ q
theorem sR{t1:TE}{t2:TT}{ta tb:TE}{σ:St}{H:Hp}{Q:VK}(h1:Ev t1 σ H (.bl true))(h2:t2 σ H λc H1=>if c=true then ta σ H1 Q else tb σ H1 Q):En (Ah (gn t1) t2) ta tb σ H Q:=by refine h1 _ ?_;show if true=true then t2 σ H (λc H1=>if c=true then ta σ H1 Q else tb σ H1 Q)else(if false=true then ta σ H Q else tb σ H Q);rw[E8 rfl];exact h2
theorem D0{ta tb:TE}{σ:St}{H:Hp}{Q:VK}(h:ta σ H Q):di (λc H1=>if c=true then ta σ H1 Q else tb σ H1 Q) (.bl true) H:=by show if true=true then ta σ H Q else tb σ H Q;rw[E8 rfl];exact h
theorem ck(x y:Str):(x++y).length=x.length+y.length:=by show(x.cps++y.cps).size=_;rw[KU];rfl
def zv(te:TE)(σ:St)(H:Hp)(n m:Nat):Prop:= ∀Q:VK,(∀q(zs:List Str) H',H' q=some (.lst (zs.map V.str))->zs.length<=n->(∀y∈zs,y.length<=m)->al H H'->Q (.ref q) H')->te σ H Q
def oE(te:TE)(σ:St)(H:Hp)(m:Nat):Prop:= ∀Q:VK,(∀(z:Str) H',z.length<=m->al H H'->Q (.str z) H')->te σ H Q
section
variable{K:Frag}{σ:St}{H:Hp}{n n' m m':Nat}{ta tb te:TE}
theorem ls{z:Str}(h:Ev te σ H (.str z))(hz:z.length<=m):oE te σ H m:=λQ q=>h _ (q _ _ hz (al.refl H))
theorem dL(h1:zv ta σ H n m)(h2:∀H1,al H H1->zv tb σ H1 n' m)(hn:n+n'<=1000):zv (iR .Add ta tb) σ H (n+n') m:=λQ q=>fG (h1 _ λa zs H1 ha zn zm s1=>h2 H1 s1 _ λb ws H2 hb wn wm s2=>by
 refine eU (s2 _ _ ha) hb (by rw[IL,IL];omega) λp hp=>q p (zs++ws) _ (by rw[af,IV]) (by rw[IT];omega) (λy hy=>?_) ((s1.trans s2).upd hp)
 rcases Jf.mp hy with h|h
 .exact zm y h
 .exact wm y h)
theorem A6(h:oE te σ H m)(hm:m<=m'):oE te σ H m':=λQ q=>h _ λz H1 zm s1=>q z H1 (by omega) s1
theorem gw(h1:oE ta σ H m)(h2:∀H1,al H H1->oE tb σ H1 m')(hn:m+m'<=1000):oE (iR .Add ta tb) σ H (m+m'):=λQ q=>fG (h1 _ λz H1 zm s1=>h2 H1 s1 _ λz' H2 zm' s2=>
 (show z.length+z'.length<=sizeLine/\Q (.str (z++z')) H2 from⟨by rw[Fq];omega,q _ _ (by rw[ck];omega) (s1.trans s2)⟩))
theorem dF{d:Addr}{ys:List Str}{lo hi:Option Int}{tl th:TO}(ha:Ev ta σ H (.ref d))(hl:∀Q:Option Int->Hp->Prop,Q lo H->tl σ H Q)(hh:∀Q:Option Int->Hp->Prop,Q hi H->th σ H Q)(hx:H d=some (.lst (ys.map V.str)))(hm:∀y∈ys,y.length<=m):zv (uG K ta tl th) σ H ys.length m:=λQ q=>by
 refine j2 ha hl hh (aM.of hx) λp hp=>q p ((ys.drop (HT.sIx (ys.map V.str).length 0 lo)).take (HT.sIx (ys.map V.str).length (ys.map V.str).length hi - HT.sIx (ys.map V.str).length 0 lo)) _ ?_ ?_ (λy hy=>hm y (JH (JI hy))) ((al.refl H).upd hp)
 .rw[af];unfold dh;rw[JX,JY]
 .rw[IX,Jn];omega
theorem jv{z:Str}{lo hi:Option Int}{tl th:TO}(ha:Ev ta σ H (.str z))(hl:∀Q:Option Int->Hp->Prop,Q lo H->tl σ H Q)(hh:∀Q:Option Int->Hp->Prop,Q hi H->th σ H Q)(hz:z.length<=m)(hm:m<=1000):oE (uG K ta tl th) σ H m:=ls (zh ha hl hh (by rw[Fq];omega)) (Kg (mK _ _ _) hz)
theorem pI(h:oE te σ H m):zv (jF (aV te ce)) σ H 1 m:=λQ q=>cA (bP (h _ λz H1 zm s1=>bV ⟨by show 1<=sizeLine;decide,λp hp=>q p [z] _ af (Kd _) (λy hy=>by rw[IS.mp hy];exact zm) (s1.upd hp)⟩))
theorem vW(h:oE ta σ H m)(h2:∀H1,al H H1->oE tb σ H1 m):zv (jF (aV ta (aV tb ce))) σ H 2 m:=λQ q=>cA (bP (h _ λz H1 zm s1=>bP (h2 H1 s1 _ λz' H2 zm' s2=>bV ⟨by show 2<=sizeLine;decide,λp hp=>q p [z,z'] _ af (Kd _) (λy hy=>by
 rcases IN.mp hy with rfl|hy
 .exact zm
 .rw[IS.mp hy];exact zm') ((s1.trans s2).upd hp)⟩)))
theorem vX:zv (jF ce) σ H 0 m:=λQ q=>cA (bV ⟨Kh _,λp hp=>q p [] _ af (Kd _) (λy hy=>by cases hy) ((al.refl H).upd hp)⟩)
theorem ut{ss:List Str}{ti:TE}{i:Int}(hz:ss.length<=1000)(hi:∀H',al H H'->Ev ti σ H' (.int i))(h0:0<=i)(h1:i<ss.length)(hm:∀y∈ss,y.length<=m):oE (pN K (jF (ER (ss.map V.str))) ti) σ H m:=λQ q=>by obtain⟨s,e,hs⟩:=j3 h0 h1;exact nU mS (by rw[IL];exact hz) hi e λH' s'=>q s H' (hm s hs) s'
theorem A1{z:Str}(ha:Ev ta σ H (.str z))(hz:z.length<=1000)(hc:∀c∈z.cps.toList,c<128):Ev (Be zZ ta) σ H (.str ⟨z.cps.map up1⟩):=λQ q=>ha _ (by
 show zZ (.str z) [] H Q;rw[Da];exact⟨by rw[Fq];omega,hc,q⟩)
theorem uo{d:Addr}{cs:List Nat}(ha:Ev ta σ H (.str ""))(hb:Ev tb σ H (.ref d))(h:H d=some (.lst (cs.map strV)))(hl:cs.length<=1000):Ev (Eg (iG K) ta (aV tb ce)) σ H (.str ⟨cs.toArray⟩):=λQ q=>ha _ (hb _ (by
 show iG K (.str "") [.ref d] H Q;rw[nF];refine⟨cs.map one,aM.of (by rw[IQ];exact h),?_,?_⟩
 .rw[IQ];have es:∀l:List Nat,(l.map ((λx:Str=>x.length)∘one)).sum=l.length:=λl=>by
   induction l with
   |nil=>rfl
   |cons a r ih=>rw[Jh,JK,ih,Jg];show 1+r.length=_;omega
  have ez:("":Str).length=0:=by decide+kernel
  rw[es,ez];show cs.length+(cs.map one).length*0<=16777216;omega
 .rw[iu];exact q))
end
theorem qD(l:List Str)(y:Str):Fx "" (l++[y]).reverse=y++Fx "" l.reverse:=by apply iT;rw[gi,List.reverse_append,IV,List.flatten_append];show _=(y.cps++(Fx "" l.reverse).cps).toList;rw[Array.toList_append,gi];simp
theorem vS{K:Frag}{σ:St}{H:Hp}{ta tb:TE}{z:Str}{p:Addr}{ws:List Str}(ha:Ev ta σ H (.str z))(hb:Ev tb σ H (.ref p))(h:eJ K H p ws):Ev (e7 K .NotIn ta tb) σ H (.bl (!decide (z∈ws))):=λQ q=>ha _ (hb _ (nP h q))
theorem uw{init:List Str}{wd:Str}:dh ((init++[wd]).map V.str) none (some (-1))=init.map V.str:=by
 unfold dh;have e1:HT.sIx ((init++[wd]).map V.str).length 0 none=0:=rfl;have e2:HT.sIx ((init++[wd]).map V.str).length ((init++[wd]).map V.str).length (some (-1))=init.length:=by unfold HT.sIx;show(if(-1:Int)<0 then(-1+(((init++[wd]).map V.str).length:Int)).toNat else min (-1:Int).toNat ((init++[wd]).map V.str).length)=init.length;rw[E8 (by decide),IL,IT];show(-1+((init.length+1:Nat):Int)).toNat=init.length;omega
 rw[e1,e2,IV,JF,Nat.sub_zero,List.take_left' (by simp)]
theorem v8{init:List Str}{wd:Str}:iK ((init++[wd]).map V.str) (-1)=some (.str wd):=by unfold iK ixN;rw[IL,IT];rw[E7 (by decide),E8 (by simp;omega)];simp;rw[show(-1+((init.length:Int)+1)).toNat=init.length from by omega,JO (by simp)];simp
theorem qv{c:Nat}{ks:List Nat}:one c∈(ks++ks.map (· - 32)++[46]).map one<->(c=46\/c∈ks\/c∈ks.map (· - 32)):=by
 constructor
 .intro h;obtain⟨c',h1,h2⟩:=IR.mp h;have e2:=ip.mp h2;subst e2
  rcases Jf.mp h1 with h1|h1
  .exact .inr (Jf.mp h1)
  .exact .inl (IS.mp h1)
 .intro h;refine IR.mpr ⟨c,?_,rfl⟩
  rcases h with h|h
  .exact Ja _ (IS.mpr h)
  .exact JB _ (Jf.mpr h)
theorem kh{ks:List Nat}{c:Nat}{hs:List Int}{s:Int}:((decide (s∈hs)&& !decide (one c="#"))||(!decide (s∈hs)&& !decide (one c∈(ks++ks.map (· - 32)++[46]).map one)))= !eH ks c (if s∈hs then 35 else 46):=by
 unfold eH
 by_cases m:s∈hs
 .rw[E5 m,E8 m,E8 rfl,mB,hZ (ip (a:=c) (b:=35))];simp
 .rw[E6 m,E7 m,E7 (by decide),hZ qv];simp
section
variable{X:Cx}{pos:GO}
def yS(i j l:Nat)(ta:TA):TS:=λD σ H=>ta σ H λvs H1=>∃v w z,vs=[v,w,z]/\D.nx (((σ.set l (some z)).set j (some w)).set i (some v)) H1
theorem vn{i j l:Nat}{x y z:Str}{a b c:FA}{ta:TA}{px py pz pt:GO}{kt k2 pt2}(hc:X.calm=true)(hN:X.N.Nodup)(hi:X.N[i]? =some x)(hj:X.N[j]? =some y)(hl:X.N[l]? =some z)
  (hx:X.env.scope.names.lookup x=some .local) (hy:X.env.scope.names.lookup y=some .local) (hz:X.env.scope.names.lookup z=some .local) (ha:PA X [a,b,c] ta)
  (hw:swappedStores [.Tuple [.Name x px,.Name y py,.Name z pz] kt pt] (.Tuple [a,b,c] k2 pt2) X.env=pure (some [x,y,z]))
  (hs:swapsWithSole [.Tuple [.Name x px,.Name y py,.Name z pz] kt pt] (.Tuple [a,b,c] k2 pt2) pos.line X.env=pure false:=by rfl):
  PS X (.Assign [.Tuple [.Name x px,.Name y py,.Name z pz] kt pt] (.Tuple [a,b,c] k2 pt2) pos) (yS i j l ta):=by
 intro gV s σ H D I h;rw[exec_Assign_arm];refine Ff (Hr ?_);rw[hs];refine Ff (Fm ?_);rw[E7 (by decide)];refine Ff (Tuple_ (bJ (ha _ gV s σ H _ I h) λus s1 ⟨vs,H1,I1,r1,q1⟩=>?_));obtain⟨v,w,t,e1,q1⟩:=q1;subst e1;obtain⟨u1,u2,u3,rfl,rv,rw',rt⟩:∃u1 u2 u3,us=[u1,u2,u3]/\RelV v u1/\RelV w u2/\RelV t u3:=by
  cases r1 with
  |cons p q=>
   cases q with
   |cons p' q'=>
    cases q' with
    |cons p3 q3=>
     cases q3;exact⟨_,_,_,rfl,p,p',p3⟩
 refine Hl ?_ (by show 3<=sizeLine;decide);have I2:aC X gV σ H1 {s1 with heap:=s1.heap.push {cls:=.type "tuple",data:=.seq [u1,u2,u3].toArray}}:=I1.kept (t':=s1.toks) λb o e=>Fh _ e;rw[hw];refine Ff (Fm ?_);show Fs (Fu X.prog X.w) X.A (do rule "assign.swapped-stores";let items<-unpackItems (.ref s1.heap.objs.size) 3 none;Ie [λv=>HX X.env z v,λv=>HX X.env y v,λv=>HX X.env x v] items.reverse;pure ID) _ _ _;refine Ff (Ig (Ff (unpackItems_tuple (items:= #[u1,u2,u3]) (I.ok.hd hc) (IsTup.new s1.heap _) λh' hx'=>?_)));have I3:=I2.kept (h':=h') (t':=s1.toks) λb o e=>hx' b o (Ke (Fk e)) e;show Fs _ _ (Ie [λv=>HX X.env z v,λv=>HX X.env y v,λv=>HX X.env x v] [u3,u2,u1] >>= λ_=>pure ID) _ _ _;refine Ff (Gz (HW (fc I3 hN hl (.inl hz) rt (λs2 I4=>?_) (.inr hz))));refine Gz (HW (fc I4 hN hj (.inl hy) rw' (λs3 I5=>?_) (.inr hy)));exact Gz (HW (fc I5 hN hi (.inl hx) rv (λs4 I6=>assignInOrder_nil (Fm ⟨_,H1,I6,q1⟩)) (.inr hx)))
end
section
variable{X:Cx}{o e:FA}{to te:TE}
def DY(to:TE):TE:=λσ H Q=>to σ H λx H1=>match x with
 | .ref l=>(∃xs,H1 l=some (.lst xs))/\tD (.ref l) [] H1 Q
 |_=>False
theorem uD{apos cpos:GO}(ho:PE X o to)(hbase:FP o "clear" X.env (FF o X.env)=FF o X.env:=by rfl)(hline:(apos.endLine == cpos.line)=true:=by rfl):
  PE X (.Call (.Attribute o "clear" apos) [] [] cpos) (DY to):=by
 intro gV s σ H Q I h;refine Hx hbase hline (bJ (ho gV s σ H _ I h) λv s1 ⟨x,H1,I1,r1,q1⟩=>?_);cases x with
 |ref l=>
  obtain⟨⟨xs0,e0⟩,q1⟩:=q1;have ty:yO X.K "list" (.ref l) H1:=.inl ⟨rfl,xs0,aM.of e0⟩;obtain⟨h1,h2⟩:=gJ I1 r1 ty;exact⟨"list","list.clear",PySem.F.plainAttrs_list,PySem.F.slot_list_clear,PySem.F.type_list_clear,h1,h2,FJ rfl (PySem.evalArgs_none (tR gV s1 σ H1 _ [] v [] Q I1 r1 .nil q1))⟩
 |_=>exact q1.elim
end
theorem uz(xs:List V)(lo hi:Option Int):(dh xs lo hi).length<=xs.length:=by unfold dh;rw[IX,Jn];omega
theorem uA{K:Frag}{ta te:TE}{tl th:TO}{src:List (Option Nat)}{σ rest:St}{H:Hp}{Q:VK}{d:Addr}{xs:List V}{lo hi:Option Int}(ha:Ev ta σ H (.ref d))(hl:∀Q:Option Int->Hp->Prop,Q lo H->tl σ H Q)(hh:∀Q:Option Int->Hp->Prop,Q hi H->th σ H Q)(hx:aM K H d xs)(hz:xs.length<=1000)(hs:dR src σ=none::rest)(f:V->V)
  (he:∀H',∀x∈xs,Ev te (some x::rest) H' (f x)) (q:∀d' H',H' d'=some (.lst ((dh xs lo hi).map f))->al H H'->Q (.ref d') H'):tComp (mz K (uG K ta tl th)) (gName 0) iB te src σ H Q:=
 j2 ha hl hh hx λp hp=>by have hq:aM K (upd H p (.lst (dh xs lo hi))) p (dh xs lo hi):=aM.of af;exact⟨p,rfl,⟨_,hq⟩,ia (xs:=dh xs lo hi) (by have:=uz xs lo hi;rw[Fq];omega) hs (λ_=>true) f (λi hi=>⟨_,_,hq,IP hi⟩) ⟨_,hq,Kd _⟩ (λi v H' _ y=>⟨y.1,y.2 _ hq⟩) (λx hx=>bW) (λx hx _=>he _ x (ux hx)) (λd' hd'=>q d' _ (by rw[af,IW.mpr (λ_ _=>rfl)]) (((al.refl H).upd hp).upd hd'))⟩
theorem tM{u:TT}{σ:St}{H:Hp}{R:Bool->Hp->Prop}(h:u σ H R):di (λc H1=>if c=true then R true H1 else u σ H1 R) (.bl (!true)) H:=by show if(!true)=true then R true H else u σ H R;rw[E7 (by decide)];exact h
theorem Au{i j l:Nat}{ta:TA}{D:cD}{σ:St}{H:Hp}(h:ta σ H λvs H1=>∃v w z,vs=[v,w,z]/\D.nx (((σ.set l (some z)).set j (some w)).set i (some v)) H1):yS i j l ta D σ H:=h
theorem Bm{te:TE}{i:Nat}{D:cD}{σ:St}{H:Hp}(h:te σ H λv H'=>D.nx (σ.set i (some v)) H'):tAsg te (gName i) D σ H:=h
theorem DN{to:TE}{u:TS}{D:cD}{σ:St}{H:Hp}{l:Addr}{xs:List V}(ho:Ev to σ H (.ref l))(hl:H l=some (.lst xs))(h:u D σ (upd H l (.lst []))):bg (lO (DY to)) u D σ H:=ho _ ⟨⟨xs,hl⟩,⟨l,xs,rfl,rfl,hl,h⟩⟩
theorem AK{te:TE}{σ:St}{H:Hp}{Q:VK}{z:Str}(h:Ev te σ H (.str z))(hz:z.length<=1000)(q:∀l,H l=none->Q (.ref l) (upd H l (.lst (z.cps.toList.map strV)))):cB tU (aV te ce) σ H Q:=h _ ⟨hz,q⟩
theorem vD{C:Addr}{sp:Sp}{t:TA}{σ:St}{H:Hp}{Q:VK}(h:t σ H λvs H1=>∀x dx,H1 x=none->H1 dx=none->dx≠x->sp (.ref x::vs) (upd (upd H1 dx (.own x)) x (.ins C dx [])) (λv H2=>v=.non/\Q (.ref x) H2) E0):uH C sp t σ H Q:=h
theorem ku{H:Hp}{a:Addr}(h:H a=some (.lst [])):dN H 2 (.ref a):=⟨.inl ⟨[],h⟩,λys hy=>by
 rcases hy with z|z
 .simp only[tupOf,h]at z;cases z
 .simp only[lstOf,h]at z;cases z;intro x hx;cases hx⟩
theorem u7{H:Hp}{a:Addr}{xs:List V}(h:H a=some (.lst xs))(hx:∀x∈xs,Thg H x):dN H 1 (.ref a):=⟨.inl ⟨xs,h⟩,λys hy=>by
 rcases hy with z|z
 .simp only[tupOf,h]at z;cases z
 .simp only[lstOf,h]at z;cases z;exact hx⟩
theorem lI.perm{wi hi:Int}{hs hs':List Int}{ks:List Nat}{ys init:List Str}{wd:Str}(pm:hs'.Perm hs)(o:lI wi hi hs ks ys init wd):lI wi hi hs' ks ys init wd:=
 ⟨o.eq,o.len,o.wd,o.all,⟨o.row.len,λs c h=>by
  have e:((s:Int)∈hs')=((s:Int)∈hs):=propext pm.mem_iff;have:=o.row.at_ s c h
  by_cases m:(s:Int)∈hs
  .rw[E8 m]at this;rw[E8 (pm.mem_iff.mpr m)];exact this
  .rw[E7 m]at this;rw[E7 (λz=>m (pm.mem_iff.mp z))];exact this⟩⟩
theorem qN{z:Str}{n:Nat}(h:n<=z.length):(gQ z (some (n:Int)) none).length=z.length - n:=by rw[bI];unfold gQ;rw[HT.sIx_nat,Ky h];show((z.cps.toList.drop n).take (z.length - n)).toArray.toList.length=_;simp only[IX,Jn];rw[<-bI];omega
theorem pZ{z:Str}{w h:Nat}{sd:Int}(h8:w<=8):∀y∈shL z w h sd,y.length<=8:=by
 intro y hy;unfold shL at hy
 rcases Jf.mp hy with hy|hy
 .obtain⟨k,_,rfl⟩:=IR.mp hy;exact Kg (AJ _ _ _) h8
 .rw[IS.mp hy];unfold zY;split<;>decide+kernel
end L2
seal L2.PE L2.PT L2.PA L2.PS L2.mU L2.PG L2.BE L2.PI L2.PO L2.mV L2.PW L2.bj L2.rc L2.gH L2.EU L2.pP L2.q9
namespace K11
open PySem L2
def bA(i:Nat):FG:=PySem.Challenge.pw_playboard_k11_shown_and_read.main.body.getD i (.Pass ⟨0,0,0,0⟩)
abbrev pj:FG:=bA 0
abbrev dZ:FG:=dJ (bA 5) 0
abbrev dU:FG:=bA 13
theorem l0:aH ["thing"] ["thing"] (aj dU):=fS
abbrev dv:FG:=bA 14
theorem kC:aH ["thing"] ["thing"] (aj dv):=fS
abbrev dY:FG:=bA 15
theorem l7:aH ["thing","least","most"] ["thing","least","most"] (aj dY):=fS
abbrev fm:FG:=bA 24
theorem ny:aH ["thing","words"] ["thing","words"] (aj fm):=fS
abbrev cz:FG:=bA 25
theorem jf:aH ["thing","many"] ["thing","many"] (aj cz):=fS
abbrev cW:FG:=bA 26
theorem jI:aH ["thing","least","most"] ["thing","least","most"] (aj cW):=fS
abbrev fo:FG:=bA 27
theorem jg:aH ["sort","across","up","longest"] ["sort","across","up"] (aj fo):=fS
abbrev ft:FG:=bA 28
theorem gL:aH ["thing","kinds","sort","aim"] ["thing","kinds"] (aj ft):=fS
abbrev fu:FG:=bA 29
theorem nz:aH ["thing","firsts","seconds"] ["thing","firsts","seconds"] (aj fu):=fS
abbrev cO:FG:=bA 30
theorem kG:aH ["thing","firsts","seconds"] ["thing","firsts","seconds"] (aj cO):=fS
abbrev cH:FG:=bA 31
theorem iD:aH ["thing","kinds","firsts"] ["thing","kinds"] (aj cH):=fS
abbrev fv:FG:=bA 32
theorem nA:aH ["thing","kinds"] ["thing","kinds"] (aj fv):=fS
abbrev cQ:FG:=bA 33
theorem kH:aH ["thing"] ["thing"] (aj cQ):=fS
abbrev cM:FG:=bA 34
theorem kF:aH ["thing","kinds"] ["thing","kinds"] (aj cM):=fS
abbrev fj:FG:=bA 38
theorem nw:aH ["kind","side"] ["kind","side"] (aj fj):=fS
abbrev cL:FG:=bA 39
theorem kD:aH ["board"] ["board"] (aj cL):=fS
abbrev dW:FG:=bA 40
theorem ii:aH ["game","thing","bare","signs"] ["game","thing"] (aj dW):=fS
abbrev dX:FG:=bA 41
theorem l5:aH ["game","thing"] ["game","thing"] (aj dX):=fS
abbrev gu:FG:=bA 44
theorem g6:aH ["game","place","wide","row","lines"] ["game","place"] (aj gu):=fS
abbrev dS:FG:=bA 45
theorem iC:aH ["game","lines","place"] ["game","lines"] (aj dS):=fS
abbrev cR:FG:=bA 48
theorem kI:aH ["thing","many"] ["thing","many"] (aj cR):=fS
abbrev bH:FG:=dJ (bA 49) 0
theorem hG:aH ["self","wide","high","holes"] ["self","wide","high","holes"] (aj bH):=fS
abbrev dy:FG:=dJ (bA 49) 1
theorem kJ:aH ["self","square"] ["self","square"] (aj dy):=fS
abbrev fQ:FG:=dJ (bA 49) 2
abbrev gE:FG:=dJ (bA 49) 3
abbrev fR:FG:=dJ (bA 49) 4
abbrev cb:FG:=dJ (bA 51) 0
theorem ij:aH ["self","board","kinds","rules","turns","ends","stuck"] ["self","board","kinds","rules","turns","ends","stuck"] (aj cb):=fS
abbrev fP:FG:=dJ (bA 51) 1
abbrev gD:FG:=dJ (bA 51) 2
abbrev ci:FG:=bA 53
theorem iM:aH ["_law_script","_law_k"] ["_law_script","_law_k"] (aj ci):=fS
abbrev cY:FG:=bA 54
theorem jK:aH ["_law_cell","_law_k"] ["_law_cell","_law_k"] (aj cY):=fS
abbrev cX:FG:=bA 55
theorem jJ:aH ["_law_thing"] ["_law_thing"] (aj cX):=fS
abbrev da:FG:=bA 56
theorem bh:aH ["_law_script","_law_cell","_law_wide","_law_high","_law_holes","_law_k","_law_hole"] ["_law_script"] (aj da):=fS
abbrev cu:FG:=bA 57
theorem eY:aH ["_law_cell","_law_letters","_law_step"] ["_law_cell"] (aj cu):=fS
abbrev bX:FG:=bA 58
theorem ba:aH ["_law_script","_law_game","_law_start","_law_size","_law_free","_law_signs","_law_cell","_law_cells","_law_spots","_law_k","_law_square","_law_more","_law_kind"] ["_law_script","_law_game","_law_start"] (aj bX):=fS
abbrev cZ:FG:=bA 59
theorem dn:aH ["_law_place","_law_wide","_law_high","_law_lines_here","_law_k","_law_begin"] ["_law_place","_law_wide","_law_high"] (aj cZ):=fS
abbrev bB:FG:=bA 60
theorem aQ:aH ["_law_lines_here","_law_cell","_law_kinds_here","_law_at","_law_one","_law_place","_law_signs","_law_sign"] ["_law_lines_here","_law_cell","_law_kinds_here"] (aj bB):=fS
abbrev cg:FG:=bA 61
theorem cE:aH ["_law_lines_here","_law_cell","_law_kinds_here","_law_kind","_law_at"] ["_law_lines_here","_law_cell","_law_kinds_here"] (aj cg):=fS
abbrev cS:FG:=bA 62
theorem cr:aH ["_law_lines_here","_law_wide","_law_high","_law_holes","_law_kinds_here","_law_row_here","_law_one","_law_pieces","_law_square"] ["_law_lines_here","_law_wide","_law_high","_law_holes","_law_kinds_here"] (aj cS):=fS
abbrev db:FG:=bA 63
theorem dt:aH ["_law_e","_law_told_here"] ["_law_e"] (aj db):=fS
abbrev dw:FG:=bA 64
theorem g9:aH ["_law_game","_law_lines_here","_law_e"] ["_law_game","_law_lines_here"] (aj dw):=fS
abbrev gb:FG:=bA 65
theorem cf:aH ["_law_script","_law_wide","_law_high","_law_holes","_law_kinds_here","_law_word","_law_is_word","_law_game","_law_place","_law_due","_law_found","_law_cells","_law_cell","_law_lines_here","_law_handed","_law_told_here"] ["_law_script"] (aj gb):=fS
structure Txt(mg:Fc)(aS aA aE aW aD:Addr):Prop where
 isinstance:mg "isinstance"=none
 int:mg "int"=none
 bool:mg "bool"=none
 str:mg "str"=none
 list:mg "list"=none
 tuple:mg "tuple"=none
 len:mg "len"=none
 range:mg "range"=none
 all:mg "all"=none
 any:mg "any"=none
 set:mg "set"=none
 sorted:mg "sorted"=none
 min:mg "min"=none
 enumerate:mg "enumerate"=none
 zip:mg "zip"=none
 reversed:mg "reversed"=none
 dict:mg "dict"=none
 ValueError:mg "ValueError"=none
 EMPTY:∃u,mg "EMPTY"=some u/\RelV (.str ".") u
 HOLE:∃u,mg "HOLE"=some u/\RelV (.str "#") u
 MOST_PAIRS:∃u,mg "MOST_PAIRS"=some u/\RelV (.int 6) u
 MOST_KINDS:∃u,mg "MOST_KINDS"=some u/\RelV (.int 6) u
 MOST_RULES:∃u,mg "MOST_RULES"=some u/\RelV (.int 24) u
 LONGEST:∃u,mg "LONGEST"=some u/\RelV (.int 8) u
 SORTS:∃u,mg "SORTS"=some u/\RelV (.ref aS) u
 AIMS:∃u,mg "AIMS"=some u/\RelV (.ref aA) u
 END_WORDS:∃u,mg "END_WORDS"=some u/\RelV (.ref aE) u
 SIDE_WORDS:∃u,mg "SIDE_WORDS"=some u/\RelV (.ref aD) u
 STUCK_WORDS:∃u,mg "STUCK_WORDS"=some u/\RelV (.ref aW) u
section
variable{P:Fn}{w:Fp}{K:Frag}{mg:Fc}{E3:Fw}{aS aA aE aW aD:Addr}
theorem mh{f:Addr}{fd:Ft}(F:bT K "is_whole" "is_whole" dU f fd)(T:Txt mg aS aA aE aW aD):bo P w K mg E3 dO 1 f fd ["thing"] jd:=by
 refine F.ok l0 (λvs H Q E h=>?_) (λcdv A E4 s H vs Q E hr h=>?_)
 .obtain⟨v,rfl,_⟩:=h;rfl
 .obtain⟨v,rfl,t,q⟩:=h;refine⟨_,(am (aB (cy (qz .int T.isinstance T.int lE (cv 0)) (df (uC (qz .bool T.isinstance T.bool pO (cv 0))))))),?_⟩;show cp _ _ [some v] H;refine aO (bY (jt (aa rfl) t) (λ_=>ul (jt (aa rfl) t))) ?_;rw[sL t];exact q
theorem ml{f:Addr}{fd:Ft}(F:bT K "is_among" "is_among" dY f fd)(T:Txt mg aS aA aE aW aD)(C:RG0 P w K mg E3):bo P w K mg E3 dO 2 f fd ["thing","least","most"] fY:=by
 refine F.ok l7 (λvs H Q E h=>?_) (λcdv A E4 s H vs Q E hr h=>?_)
 .obtain⟨v,a,b,rfl,_⟩:=h;rfl
 .obtain⟨v,a,b,rfl,t,q⟩:=h;have hu:=cC hr;refine⟨_,(am (aB (cy (aK C.is_whole hr (ay (cv 0) pa_nil)) (df (nX K hu (cv 1) (cv 0) (cv 2)))))),?_⟩;show cp _ _ [some v,oJ a,oJ b] H;have hc:=aJ (sp:=jd) (σ:=[some v,oJ a,oJ b]) (H:=H) (ac (aa (n:=0) rfl) av) (λQ q=>⟨v,rfl,t,q⟩);cases v with
  |int i=>exact aO (bY hc (λ_=>pH (aa rfl) (aa rfl) (λ_=>aa rfl))) q
  |_=>exact aO (bY (b:=false) hc (λh=>by cases h)) q
theorem nJ{f:Addr}{fd:Ft}(F:bT K "is_word" "is_word" fm f fd)(T:Txt mg aS aA aE aW aD):bo P w K mg E3 dO 1 f fd ["thing","words"] (gt K):=by
 refine F.ok ny (λvs H Q E h=>?_) (λcdv A E4 s H vs Q E hr h=>?_)
 .obtain⟨v,d,ws,rfl,_⟩:=h;rfl
 .obtain⟨v,d,ws,rfl,t,hw,q⟩:=h;have hu:=cC hr;refine⟨_,(am (aB (cy (qz .str T.isinstance T.str lD (cv 0)) (df (gB K hu (cv 0) (cv 1)))))),?_⟩;show cp _ _ [some v,oR d] H;have hs:=jt (T:=.str) (te:=bu 0) (σ:=[some v,oR d]) (aa rfl) t;rw[nc t]at hs;cases v with
  |str z=>exact aO (bY hs (λ_=>oa (aa rfl) (aa rfl) hw)) q
  |_=>exact aO (bY (b:=false) hs (λh=>by cases h)) q
theorem jj{f:Addr}{fd:Ft}(F:bT K "is_tuple_of" "is_tuple_of" cz f fd)(T:Txt mg aS aA aE aW aD):bo P w K mg E3 dO 1 f fd ["thing","many"] fX:=by
 refine F.ok jf (λvs H Q E h=>?_) (λcdv A E4 s H vs Q E hr h=>?_)
 .obtain⟨v,n,rfl,_⟩:=h;rfl
 .obtain⟨v,n,rfl,t,q⟩:=h;have hu:=cC hr;refine⟨_,(am (aB (cy (qz .tuple T.isinstance T.tuple mR (cv 0)) (df (gB K hu (kB (dI K) bq T.len (ay (cv 0) pa_nil)) (cv 1)))))),?_⟩;show cp _ _ [some v,oJ n] H;have hs:=jt (T:=.tuple) (te:=bu 0) (σ:=[some v,oJ n]) (aa rfl) t;rw[Ab t]at hs;unfold tupB at q;cases e:tupOf H v with
  |none=>
   rw[e]at hs q;exact aO (bY (b:=false) hs (λh=>by cases h)) q
  |some xs=>
   rw[e]at hs q;obtain⟨a,rfl,ha⟩:=dP e;exact aO (bY hs (λ_=>eG (cK (aa rfl) (.inr (dC.of ha))) (aa rfl))) q
theorem jL{f:Addr}{fd:Ft}(F:bT K "is_list_of" "is_list_of" cW f fd)(T:Txt mg aS aA aE aW aD):bo P w K mg E3 dO 1 f fd ["thing","least","most"] kz:=by
 refine F.ok jI (λvs H Q E h=>?_) (λcdv A E4 s H vs Q E hr h=>?_)
 .obtain⟨v,a,b,rfl,_⟩:=h;rfl
 .obtain⟨v,a,b,rfl,t,q⟩:=h;have hu:=cC hr;refine⟨_,(am (aB (cy (qz .list T.isinstance T.list cF (cv 0)) (df (nX K hu (cv 1) (kB (dI K) bq T.len (ay (cv 0) pa_nil)) (cv 2)))))),?_⟩;show cp _ _ [some v,oJ a,oJ b] H;have hs:=jt (T:=.list) (te:=bu 0) (σ:=[some v,oJ a,oJ b]) (aa rfl) t;rw[AI t]at hs;unfold iq at q;cases e:lstOf H v with
  |none=>
   rw[e]at hs q;exact aO (bY (b:=false) hs (λh=>by cases h)) q
  |some xs=>
   rw[e]at hs q;obtain⟨d,rfl,hd⟩:=er e;exact aO (bY hs (λ_=>pH (aa rfl) (cK (aa rfl) (.inl (aM.of hd))) (λ_=>aa rfl))) q
theorem nK{f:Addr}{fd:Ft}(F:bT K "is_step" "is_step" fo f fd)(T:Txt mg aS aA aE aW aD)(C:RG1 P w K mg E3):bo P w K mg E3 dO 3 f fd ["sort","across","up"] oS:=by
 refine F.ok jg (λvs H Q E h=>?_) (λcdv A E4 s H vs Q E hr h=>?_)
 .obtain⟨so,x,y,rfl,_⟩:=h;rfl
 .obtain⟨so,x,y,rfl,tx,ty,q⟩:=h;have hu:=cC hr;refine⟨_,(ae (aF (i:=3) jg.nd rfl (Or.inl rfl) (gf (bi K hu (cv 0) aX) ag ag))
   (ae (bf (PW.pt (dG (bw (aZ (aK C.is_among hr (ay (cv 1) (ay (eI (cv 3)) (ay (cv 3) pa_nil)))))) (cI (bw (aZ (aK C.is_among hr (ay (cv 2) (ay (eI (cv 3)) (ay (cv 3) pa_nil))))))))) (am (aB dA)) aI)
   (am (aB (DQ (gB K hu (cv 1) ag) (df (gB K hu (cv 2) ag))))))),?_⟩
  show bg _ _ _ [oT so,some x,some y,none] H;refine bp (v:=.int (limS so)) (λQ q=>?_) ?_
  .refine qK (pG (bn (ju (aa rfl) ao)) (λ_=>ao) (λ_=>ao)) ?_;unfold limS at q
   by_cases h:so="leap"
   .rw[E8 h]at q;rw[E5 h];exact q
   .rw[E7 h]at q;rw[E6 h];exact q
  unfold lQ at q;generalize limS so=l at q ⊢;refine bC (fU (bQ (bn (aJ (ac (aa rfl) (ac (fO (aa rfl)) (ac (aa rfl) av))) (λQ q=>⟨x, -l,l,rfl,tx,q⟩)))) (λ_=>bQ (bn (aJ (ac (aa rfl) (ac (fO (aa rfl)) (ac (aa rfl) av))) (λQ q=>⟨y, -l,l,rfl,ty,q⟩))))) (λh=>?_) (λh=>?_)
  .refine aO ao ?_;have e:(amongB x (-l) l&&amongB y (-l) l&& !(decide (x=.int 0)&&decide (y=.int 0)))=false:=by cases h1:amongB x (-l) l<;>cases h2:amongB y (-l) l<;>simp_all
   rw[e]at q;exact q
  .have h1:amongB x (-l) l=true:=by cases h1:amongB x (-l) l<;>simp_all
   have h2:amongB y (-l) l=true:=by cases h2:amongB y (-l) l<;>simp_all
   cases x with
   |int i=>
    cases y with
    |int j=>
     refine aO (DK (mH (aa rfl) ao) (λ_=>mH (aa rfl) ao)) ?_;rw[h1,h2]at q;have ei:∀k:Int,decide (V.int k=V.int 0)=decide (k=0):=λk=>by
      by_cases e:k=0
      .rw[E5 e,E5 (congrArg V.int e)]
      .rw[E6 e,E6 (λz=>e (by injection z))]
     rw[ei,ei]at q;have e:(true&&true&& !(decide (i=0)&&decide (j=0)))=(!decide (i=0)|| !decide (j=0)):=by cases decide (i=0)<;>cases decide (j=0)<;>rfl
     rw[e]at q;exact q
    |_=>cases h2
   |_=>cases h1
theorem nN{f:Addr}{fd:Ft}(F:bT K "is_pair" "is_pair" fu f fd)(T:Txt mg aS aA aE aW aD)(C:RG2 P w K mg E3):bo P w K mg E3 dO 2 f fd ["thing","firsts","seconds"] (oW K):=by
 refine F.ok nz (λvs H Q E h=>?_) (λcdv A E4 s H vs Q E hr h=>?_)
 .obtain⟨v,d,e,A,B,rfl,_⟩:=h;rfl
 .obtain⟨v,d,e,A,B,rfl,t,hA,hB,q⟩:=h;have hu:=cC hr;refine⟨_,(am (aB (cy (aK C.is_tuple_of hr (ay (cv 0) (ay ag pa_nil))) (cy (aK C.is_word hr (ay (eN K (cv 0) ag) (ay (cv 1) pa_nil))) (df (aK C.is_word hr (ay (eN K (cv 0) ag) (ay (cv 2) pa_nil)))))))),?_⟩;show cp _ _ [some v,oR d,oR e] H;have hc:=aJ (sp:=fX) (σ:=[some v,oR d,oR e]) (H:=H) (x:=.bl (tupB H v 2)) (ac (aa (n:=0) rfl) (ac (ao (x:=.int 2)) av)) (λQ q=>⟨v,2,rfl,t.thg,q⟩);unfold dB at q;unfold tupB at hc;cases e1:tupOf H v with
  |none=>
   rw[e1]at hc q;exact aO (bY (b:=false) hc (λh=>by cases h)) q
  |some xs=>
   rw[e1]at hc q;obtain⟨a,rfl,ha⟩:=dP e1;have tx:=t.2 xs (.inl e1)
   by_cases hl:(xs.length:Int)=2
   .match xs,hl,e1,ha,tx,q,hc with
    | [x,y],_,e1,ha,tx,q,hc=>
      exact aO (bY hc (λ_=>bY (aJ (ac (bK (aa rfl) ao (.inr (dC.of ha)) (bD (j:=0) rfl)) (ac (aa rfl) av)) (λQ q=>⟨x,d,A,rfl,tx x (by simp),hA,q⟩))
       (λ_=>aJ (ac (bK (aa rfl) ao (.inr (dC.of ha)) (bD (j:=1) rfl)) (ac (aa rfl) av)) (λQ q=>⟨y,e,B,rfl,tx y (by simp),hB,q⟩)))) q
   .have e2:me xs A B=false:=by
     unfold me;split
     .exact Fb rfl hl
     .rfl
    have hc2:Ev (fH fX (aV (bu 0) (aV (tC (.int 2)) ce))) [some (.ref a),some (.ref d),some (.ref e)] H (.bl (decide ((xs.length:Int)=2))):=hc;rw[E6 hl]at hc2;have q2:Q (.bl (me xs A B)) H:=q;rw[e2]at q2;exact aO (bY (b:=false) hc2 (λh=>by cases h)) q2
theorem nM{f:Addr}{fd:Ft}(F:bT K "is_rule" "is_rule" ft f fd)(T:Txt mg aS aA aE aW aD)(hS:∀H,eJ K H aS sortsL)(hA:∀H,eJ K H aA aimsL)(C:RG3 P w K mg E3):bo P w K mg E3 dO 4 f fd ["thing","kinds"] (oU K):=by
 refine F.ok gL (λvs H Q E h=>?_) (λcdv A E4 s H vs Q E hr h=>?_)
 .obtain⟨v,d,ws,rfl,_⟩:=h;rfl
 .obtain⟨v,d,ws,rfl,t,hw,q⟩:=h;have hu:=cC hr;refine⟨_,(ae (bf (PW.pt (dG (bw (aZ (aK C.is_tuple_of hr (ay (cv 0) (ay ag pa_nil))))) (cI (bw (aZ (aK C.is_word hr (ay (eN K (cv 0) ag) (ay (cv 1) pa_nil)))))))) (am (aB dA)) aI)
   (ae (aF (i:=2) gL.nd rfl (Or.inl rfl) (eN K (cv 0) ag))
   (ae (aF (i:=3) gL.nd rfl (Or.inl rfl) (eN K (cv 0) ag))
   (ae (bf (PW.pt (dG (bw (aZ (aK C.is_word hr (ay (cv 2) (ay (kg T.SORTS) pa_nil))))) (cI (bw (aZ (aK C.is_word hr (ay (cv 3) (ay (kg T.AIMS) pa_nil)))))))) (am (aB dA)) aI)
   (ae (bf (PW.pt (gc (bi K hu (cv 2) aX) (eQ (bi K hu (cv 3) aX)))) (am (aB dA)) aI)
   (am (aB (aK C.is_step hr (ay (cv 2) (ay (eN K (cv 0) ag) (ay (eN K (cv 0) ag) pa_nil))))))))))),?_⟩
  show bg _ _ _ [some v,oR d,none,none] H;have rb:tupB H v 5=false->dz H v ws=false:=λh=>by
   unfold tupB at h;unfold dz;cases e1:tupOf H v with
   |none=>rfl
   |some xs=>
    rw[e1]at h;have h:¬(xs.length:Int)=5:=Fa h;show hJ xs ws=false;unfold hJ;split
    .exact Fb rfl h
    .rfl
  cases hb0:tupB H v 5 with
  |false=>
   rw[rb hb0]at q;refine bC (fU (b:=false) (bQ (bn (aJ (sp:=fX) (x:=.bl (tupB H v 5)) (ac (aa rfl) (ac ao av)) (λQ q=>⟨v,5,rfl,t.thg,q⟩)))) (λh=>?_)) (λ_=>aO ao q) (λh=>?_)
   .rw[hb0]at h;cases h
   .rw[hb0]at h;cases h
  |true=>
   obtain⟨xs,e1,hl⟩:∃xs,tupOf H v=some xs/\(xs.length:Int)=5:=by
    unfold tupB at hb0;cases e1:tupOf H v with
    |none=>rw[e1]at hb0;cases hb0
    |some xs=>rw[e1]at hb0;exact⟨xs,rfl,E9 hb0⟩
   unfold dz at q;rw[e1]at q;have q:Q (.bl (hJ xs ws)) H:=q;obtain⟨a,rfl,ha⟩:=dP e1;have tx:=t.2 xs (.inl e1)
   match xs,hl,e1,ha,tx,q with
   | [k,so,ai,x,y],_,e1,ha,tx,q=>
     have hq:dC K H a [k,so,ai,x,y]:=dC.of ha;have hb:tupB H (.ref a) 5=true:=by unfold tupB;rw[e1];rfl
     refine bC (fU (bQ (bn (aJ (sp:=fX) (x:=.bl (tupB H (.ref a) 5)) (ac (aa rfl) (ac ao av)) (λQ q=>⟨.ref a,5,rfl,t.thg,q⟩)))) (λ_=>bQ (bn (aJ (sp:=gt K) (ac (bK (aa rfl) ao (.inr hq) (bD (j:=0) rfl)) (ac (aa rfl) av)) (λQ q=>⟨k,d,ws,rfl,tx k (by simp),hw,q⟩))))) (λh=>?_) (λh=>?_)
     .rw[hb]at h;have hk:wordB k ws=false:=by
       cases hk:wordB k ws
       .rfl
       .rw[hk]at h;cases h
      refine aO ao ?_;have e2:hJ [k,so,ai,x,y] ws=false:=by
       unfold hJ;split
       .rename_i z;cases z;rw[hk];simp
       .rfl
      rw[e2]at q;exact q
     .rw[hb]at h;have hk:wordB k ws=true:=by
       cases hk:wordB k ws
       .rw[hk]at h;cases h
       .rfl
      refine bp (v:=so) (bK (aa rfl) ao (.inr hq) (bD (j:=1) rfl)) ?_;refine bp (v:=ai) (bK (aa rfl) ao (.inr hq) (bD (j:=2) rfl)) ?_;refine bC (fU (bQ (bn (aJ (sp:=gt K) (ac (aa rfl) (ac ao av)) (λQ q=>⟨so,aS,sortsL,rfl,tx so (by simp),hS H,q⟩)))) (λ_=>bQ (bn (aJ (sp:=gt K) (ac (aa rfl) (ac ao av)) (λQ q=>⟨ai,aA,aimsL,rfl,tx ai (by simp),hA H,q⟩))))) (λh=>?_) (λh=>?_)
      .refine aO ao ?_;have e2:hJ [k,so,ai,x,y] ws=false:=by
        unfold hJ;split
        .rename_i k' so' ai' x' y' z;cases z;have h:(!decide (so'∈sortsL)|| !decide (ai'∈aimsL))=true:=h
         cases h1:decide (so'∈sortsL)<;>cases h2:decide (ai'∈aimsL)<;>simp_all
        .rfl
       rw[e2]at q;exact q
      .have h1:wordB so sortsL=true:=by cases h1:wordB so sortsL<;>simp_all
       have h2:wordB ai aimsL=true:=by cases h2:wordB ai aimsL<;>simp_all
       cases so with
       |str so=>
        cases ai with
        |str ai=>
         have h1:decide (so∈sortsL)=true:=h1;have h2:decide (ai∈aimsL)=true:=h2;have eR:hJ [k,.str so,.str ai,x,y] ws=(!(decide (so="jump")&& !decide (ai="hit"))&&lQ so x y):=by show(wordB k ws&&decide (so∈sortsL)&&decide (ai∈aimsL)&& !(decide (so="jump")&& !decide (ai="hit"))&&lQ so x y)=_;rw[hk,h1,h2];simp
         rw[eR]at q;refine bC (fV (bn (ju (aa rfl) ao)) (λ_=>bn (um (aa rfl) ao))) (λh=>?_) (λh=>?_)
         .refine aO ao ?_;rw[h]at q;exact q
         .rw[h]at q;exact eV (ac (aa rfl) (ac (bK (aa rfl) ao (.inr hq) (bD (j:=3) rfl)) (ac (bK (aa rfl) ao (.inr hq) (bD (j:=4) rfl)) av))) ⟨so,x,y,rfl,tx x (by simp),tx y (by simp),q⟩
        |_=>cases h2
       |_=>cases h1
theorem kW{f:Addr}{fd:Ft}(F:bT K "are_pairs" "are_pairs" cO f fd)(T:Txt mg aS aA aE aW aD)(C:RG4 P w K mg E3):bo P w K mg E3 dO 3 f fd ["thing","firsts","seconds"] (lU K):=by
 refine F.ok kG (λvs H Q E h=>?_) (λcdv A E4 s H vs Q E hr h=>?_)
 .obtain⟨v,d,e,A,B,rfl,_⟩:=h;rfl
 .obtain⟨v,d,e,A,B,rfl,t,hA,hB,q⟩:=h;have hu:=cC hr;refine⟨_,(am (aB (cy (aK C.is_list_of hr (ay (cv 0) (ay ag (ay (kg T.MOST_PAIRS) pa_nil)))) (df (kB (tZ K) jC T.all (ay (eF (bZ (N:=["part","firsts","seconds"]) (src:=[none,some 1,some 2]) (aj cO) ["thing","firsts","seconds"]) (qy K (cv 0)) (λ_ _ _=>(bb (i:=0) ["part","firsts","seconds"])) (λ_ _ _=>bx) (λ_ _ _=>(aK C.is_pair hr (ay (cv 0) (ay (cv 1) (ay (cv 2) pa_nil)))))) pa_nil)))))),?_⟩;show cp _ _ [some v,oR d,oR e] H;refine oz (a:=iq H v 0 6) (aJ (ac (aa rfl) (ac ao (ac ao av))) (λQ q=>⟨v,0,6,rfl,t.thg,q⟩)) (λh=>?_) (λh=>?_)
  .unfold iq at h;cases e1:lstOf H v with
   |none=>rw[e1]at h;cases h
   |some xs=>
    rw[e1]at h;have h:0<=(xs.length:Int)/\(xs.length:Int)<=6:=E9 h;obtain⟨a,rfl,ha⟩:=er e1;have tx:=t.2 xs (.inr e1);refine du (d:=a) (xs:=xs) (rest:=[oR d,oR e]) (aa rfl) (aM.of ha) (by rw[Fq];omega) rfl (λ_=>true) (λx=>.bl (dB H x A B)) (λx hx=>bW) (λx hx _=>?_) (λp hp=>?_)
    .exact aJ (ac (aa rfl) (ac (aa rfl) (ac (aa rfl) av))) (λQ q=>⟨x,d,e,A,B,rfl,tx x hx,hA,hB,q⟩)
    .refine⟨xs.map (λx=>dB H x A B),?_,?_⟩
     .have e2:(xs.filter λ_=>true).map (λx=>V.bl (dB H x A B))=(xs.map (λx=>dB H x A B)).map V.bl:=by rw[IW.mpr (λ_ _=>rfl),IQ];rfl
      rw[<-e2];exact aM.of af
     .have k:=q _ ((al.refl H).upd (o:=.lst ((xs.filter λ_=>true).map (λx=>V.bl (dB H x A B)))) hp);unfold pairsB at k;rw[e1]at k;have e3:(decide (xs.length<=6)&&xs.all (λx=>dB H x A B))=(xs.map (λx=>dB H x A B)).all id:=by rw[E5 (by omega:xs.length<=6),J1];rfl
      have k:Q (.bl (decide (xs.length<=6)&&xs.all (λx=>dB H x A B))) _:=k;rw[e3]at k;exact k
  .have k:=q H (al.refl H);have e2:pairsB H v A B=false:=by
    unfold pairsB;unfold iq at h;cases e1:lstOf H v with
    |none=>rfl
    |some xs=>
     rw[e1]at h;have h:¬(0<=(xs.length:Int)/\(xs.length:Int)<=6):=Fa h;show(decide (xs.length<=6)&&_)=false;rw[E6 (by omega:¬xs.length<=6)];rfl
   rw[e2]at k;exact k
theorem nO{f:Addr}{fd:Ft}(F:bT K "is_ends" "is_ends" fv f fd)(T:Txt mg aS aA aE aW aD)(hE:∀H,eJ K H aE kc)(C:RG5 P w K mg E3):bo P w K mg E3 dO 4 f fd ["thing","kinds"] (oZ K):=by
 refine F.ok nA (λvs H Q E h=>?_) (λcdv A E4 s H vs Q E hr h=>?_)
 .obtain⟨v,d,ws,rfl,_⟩:=h;rfl
 .obtain⟨v,d,ws,rfl,t,hw,q⟩:=h;refine⟨_,(am (aB (aK C.are_pairs hr (ay (cv 0) (ay (kg T.END_WORDS) (ay (cv 1) pa_nil)))))),?_⟩;show cp _ _ [some v,oR d] H;exact eV (ac (aa rfl) (ac ao (ac (aa rfl) av))) ⟨v,aE,d,kc,ws,rfl,t,hE H,hw,q⟩
theorem mi{f:Addr}{fd:Ft}(F:bT K "is_turns" "is_turns" cH f fd)(T:Txt mg aS aA aE aW aD)(C:RG5 P w K mg E3):bo P w K mg E3 dO 4 f fd ["thing","kinds"] (lR K):=by
 refine F.ok iD (λvs H Q E h=>?_) (λcdv A E4 s H vs Q E hr h=>?_)
 .obtain⟨v,d,ws,rfl,_⟩:=h;rfl
 .obtain⟨v,d,ws,rfl,t,hw,q⟩:=h;have hu:=cC hr;refine⟨_,(ae (bf (bw (aZ (aK C.are_pairs hr (ay (cv 0) (ay (cv 1) (ay (cv 1) pa_nil)))))) (am (aB dA)) aI)
   (ae (aF (i:=2) iD.nd rfl (Or.inr rfl) (eF (bZ (N:=["pair"]) (src:=[none]) (aj cH) ["thing","kinds","firsts"]) (qy K (cv 0)) (λ_ _ _=>(bb (i:=0) ["pair"])) (λ_ _ _=>bx) (λ_ _ _=>(eN K (cv 0) ag))))
   (ae (bf (aZ (kB (EE K) Bj T.any (ay (eF (bZ (N:=["pair","firsts"]) (src:=[none,some 2]) (aj cH) ["thing","kinds","firsts"]) (qy K (cv 0)) (λ_ _ _=>(bb (i:=0) ["pair","firsts"])) (λ_ _ _=>bx) (λ_ _ _=>(gB K hu (eN K (cv 0) ag) (cv 1)))) pa_nil))) (am (aB dA)) aI)
   (am (aB (gB K hu (kB jA bq T.len (ay (qC (zc K hr) oy T.set (ay (cv 2) pa_nil)) pa_nil)) (kB (dI K) bq T.len (ay (cv 2) pa_nil)))))))),?_⟩
  show bg _ _ _ [some v,oR d,none] H;refine cx (λb H'=>b=(!pairsB H v ws ws)/\al H H') (λQ q=>ix (ac (aa rfl) (ac (aa rfl) (ac (aa rfl) av))) ⟨v,d,d,ws,ws,rfl,t,hw,hw,λH' s=>q _ _ ⟨rfl,s⟩⟩) (λH1 h=>?_) (λH1 h=>?_)
  .obtain⟨hb,s1⟩:=h;have k:=q H1 s1;have e0:pairsB H v ws ws=false:=by
    cases z:pairsB H v ws ws
    .rfl
    .rw[z]at hb;cases hb
   unfold eX at k;rw[e0]at k;exact aO ao k
  .obtain⟨hb,s1⟩:=h;have e0:pairsB H v ws ws=true:=by
    cases z:pairsB H v ws ws
    .rw[z]at hb;cases hb
    .rfl
   unfold eX at q;rw[e0]at q;obtain⟨xs,e1,l6,hp⟩:=ql e0;rw[e1]at q;have q:∀H',al H H'->Q (.bl (!(xs.any λx=>decide (fZ H x∈xs.map (cw H)))&&decide ((xs.map (cw H)).Nodup))) H':=q;obtain⟨a,rfl,ha⟩:=er e1;have ha1:=s1 _ _ ha;refine bv (λu H'=>∃fq,u=.ref fq/\H' fq=some (.lst ((xs.map (cw H)).map V.str))/\al H1 H') (λQ q=>?_) ?_
   .refine du (d:=a) (xs:=xs) (rest:=[]) (aa rfl) (aM.of ha1) (by rw[Fq];omega) rfl (λ_=>true) (λx=>.str (cw H x)) (λx hx=>bW) (λx hx _=>?_) (λp hp'=>?_)
    .obtain⟨c,f1,f2,rfl,hc⟩:=hp x hx;have e:cw H (.ref c)=f1:=by simp only[cw,tupOf,hc]
     rw[e];exact bK (aa rfl) ao (.inr (dC.of (s1 _ _ hc))) (bD (j:=0) rfl)
    .have e:(xs.filter λ_=>true).map (λx=>V.str (cw H x))=(xs.map (cw H)).map V.str:=by rw[IW.mpr (λ_ _=>rfl),IQ];rfl
     rw[e];exact q _ _ ⟨p,rfl,af,(al.refl H1).upd hp'⟩
   rintro _ H2 ⟨fq,rfl,hf,s2⟩;have ha2:=s2 _ _ ha1;refine cx (λb H'=>b=(xs.any λx=>decide (fZ H x∈xs.map (cw H)))/\al H2 H') (λQ q=>?_) (λH3 h=>?_) (λH3 h=>?_)
   .refine du (d:=a) (xs:=xs) (rest:=[oR fq]) (aa rfl) (aM.of ha2) (by rw[Fq];omega) rfl (λ_=>true) (λx=>.bl (decide (fZ H x∈xs.map (cw H)))) (λx hx=>bW) (λx hx _=>?_) (λp hp'=>?_)
    .obtain⟨c,f1,f2,rfl,hc⟩:=hp x hx;have e:fZ H (.ref c)=f2:=by simp only[fZ,tupOf,hc]
     rw[e];exact oa (bK (aa rfl) ao (.inr (dC.of (s2 _ _ (s1 _ _ hc)))) (bD (j:=1) rfl)) (aa rfl) (.inl (aM.of hf))
    .refine⟨xs.map (λx=>decide (fZ H x∈xs.map (cw H))),?_,?_⟩
     .have e2:(xs.filter λ_=>true).map (λx=>V.bl (decide (fZ H x∈xs.map (cw H))))=(xs.map (λx=>decide (fZ H x∈xs.map (cw H)))).map V.bl:=by rw[IW.mpr (λ_ _=>rfl),IQ];rfl
      rw[<-e2];exact aM.of af
     .have e3:(xs.map (λx=>decide (fZ H x∈xs.map (cw H)))).any id=xs.any λx=>decide (fZ H x∈xs.map (cw H)):=by rw[JV];rfl
      rw[e3];exact q _ _ ⟨rfl,(al.refl H2).upd hp'⟩
   .have k:=q H3 ((s1.trans s2).trans h.2);rw[<-h.1]at k;exact aO ao k
   .have s03:=(s1.trans s2).trans h.2;show cp _ _ [oR a,oR d,oR fq] H3;have hf3:=h.2 _ _ hf;refine uB (mr (ss:=xs.map (cw H)) (aa rfl) (aM.of hf3) (by rw[IL];omega) (λH4 s4=>?_));refine qK (cK (aa rfl) (.inl (aM.of (s4 _ _ hf3)))) ?_;have k:=q H4 (s03.trans s4);rw[<-h.1]at k;have e4:decide ((((iA (xs.map (cw H))).length:Nat):Int)=((((xs.map (cw H)).map V.str).length:Nat):Int))=decide ((xs.map (cw H)).Nodup):=by
     rw[IL (f:=V.str)]
     by_cases hn:(xs.map (cw H)).Nodup
     .rw[E5 hn,E5 (by rw[(gq _).mpr hn])]
     .rw[E6 hn,E6 (λz=>hn ((gq _).mp (by omega)))]
    show Q (.bl (decide ((((iA (xs.map (cw H))).length:Nat):Int)=((((xs.map (cw H)).map V.str).length:Nat):Int)))) H4;rw[e4];exact k
theorem kS{f:Addr}{fd:Ft}(F:bT K "is_letter" "is_letter" dv f fd)(T:Txt mg aS aA aE aW aD):bo P w K mg E3 dO 1 f fd ["thing"] j1:=by
 refine F.ok kC (λvs H Q E h=>?_) (λcdv A E4 s H vs Q E hr h=>?_)
 .obtain⟨v,rfl,_⟩:=h;rfl
 .obtain⟨v,rfl,t,q⟩:=h;have hu:=cC hr;refine⟨_,(am (aB (cy (qz .str T.isinstance T.str lD (cv 0)) (cy (gB K hu (kB (dI K) bq T.len (ay (cv 0) pa_nil)) ag) (df (nX K hu aX (cv 0) aX)))))),?_⟩;show cp _ _ [some v] H;have hs:=jt (T:=.str) (te:=bu 0) (σ:=[some v]) (aa rfl) t;rw[nc t]at hs;cases v with
  |str z=>
   refine aO (bY hs (λ_=>bY (eG (eS (aa rfl) (Kg (show z.length<=1000 from t) (by decide))) ao) (λ_=>vV ao (aa rfl) ao))) ?_;rw[C9,C8];have e:(true&&(decide ((z.length:Int)=1)&&(!decide (z.cps.toList<[97])&& !decide ([122]<z.cps.toList))))=letB (.str z):=by
    rw[gr]
    match e:z.cps.toList with
    | [c]=>
      simp only[letB,e,AH];rw[KL];simp
    | []=>simp only[letB,e];rfl
    |_::_::r=>
     simp only[letB,e];rw[E6 (by simp only[Jg];omega)];rfl
   have q2:=q;rw[<-e]at q2;exact q2
  |_=>exact aO (bY (b:=false) hs (λh=>by cases h)) q
theorem kX{f:Addr}{fd:Ft}(F:bT K "are_kinds" "are_kinds" cQ f fd)(T:Txt mg aS aA aE aW aD)(C:EZ P w K mg E3):bo P w K mg E3 dO 2 f fd ["thing"] lY:=by
 refine F.ok kH (λvs H Q E h=>?_) (λcdv A E4 s H vs Q E hr h=>?_)
 .obtain⟨v,rfl,_⟩:=h;rfl
 .obtain⟨v,rfl,t,q⟩:=h;have hu:=cC hr;refine⟨_,(ae (bf (PW.pt (dG (bw (aZ (aK C.is_list_of hr (ay (cv 0) (ay ag (ay (kg T.MOST_KINDS) pa_nil)))))) (cI (bw (aZ (kB (tZ K) jC T.all (ay (eF (bZ (N:=["part"]) (src:=[none]) (aj cQ) ["thing"]) (qy K (cv 0)) (λ_ _ _=>(bb (i:=0) ["part"])) (λ_ _ _=>bx) (λ_ _ _=>(aK C.is_letter hr (ay (cv 0) pa_nil)))) pa_nil))))))) (am (aB dA)) aI)
   (am (aB (gB K hu (kB jA bq T.len (ay (qC (zc K hr) oy T.set (ay (cv 0) pa_nil)) pa_nil)) (kB (dI K) bq T.len (ay (cv 0) pa_nil)))))),?_⟩
  show bg _ _ _ [some v] H;have eL:Ev (fH kz (aV (bu 0) (aV (tC (.int 1)) (aV (tC (.int 6)) ce)))) [some v] H (.bl (iq H v 1 6)):=aJ (ac (aa rfl) (ac ao (ac ao av))) (λQ q=>⟨v,1,6,rfl,t.thg,q⟩);unfold jo at q;cases e1:lstOf H v with
  |none=>
   have hb:iq H v 1 6=false:=by unfold iq;rw[e1]
   rw[hb]at eL;rw[e1]at q;refine bC (b:=true) (λQ q=>bQ (bn eL) _ (jU q)) (λ_=>aO ao (q H (al.refl H))) (λh=>by cases h)
  |some xs=>
   rw[e1]at q;have q:∀H',al H H'->Q (.bl (decide (1<=xs.length/\xs.length<=6)&&xs.all letB&&decide ((xs.map fW).Nodup))) H':=q;obtain⟨a,rfl,ha⟩:=er e1;have tx:=t.2 xs (.inr e1);have hb:iq H (.ref a) 1 6=decide (1<=xs.length/\xs.length<=6):=by unfold iq;rw[e1];show decide ((1:Int)<=xs.length/\(xs.length:Int)<=6)=_;rw[decide_eq_decide];omega
   rw[hb]at eL
   by_cases hl:1<=xs.length/\xs.length<=6
   .rw[E5 hl]at eL q;refine cx (λb H'=>b=(!xs.all letB)/\al H H') (λQ q=>?_) (λH1 h=>?_) (λH1 h=>?_)
    .refine oI (bQ (bn eL)) ?_;refine du (d:=a) (xs:=xs) (rest:=[]) (aa rfl) (aM.of ha) (by rw[Fq];omega) rfl (λ_=>true) (λx=>.bl (letB x)) (λx hx=>bW) (λx hx _=>?_) (λp hp=>?_)
     .exact aJ (ac (aa rfl) av) (λQ q=>⟨x,rfl,tx x hx,q⟩)
     .refine⟨xs.map letB,?_,?_⟩
      .have e2:(xs.filter λ_=>true).map (λx=>V.bl (letB x))=(xs.map letB).map V.bl:=by rw[IW.mpr (λ_ _=>rfl),IQ];rfl
       rw[<-e2];exact aM.of af
      .have e3:(xs.map letB).all id=xs.all letB:=by rw[J1];rfl
       rw[e3];exact q _ _ ⟨rfl,(al.refl H).upd hp⟩
    .have k:=q H1 h.2;have e0:xs.all letB=false:=by
      cases z:xs.all letB
      .rfl
      .rw[z]at h;cases h.1
     rw[e0]at k;exact aO ao k
    .obtain⟨hq,s1⟩:=h;have e0:xs.all letB=true:=by
      cases z:xs.all letB
      .rw[z]at hq;cases hq
      .rfl
     have e5:xs=(xs.map fW).map V.str:=by
      rw[IQ];have:∀x∈xs,x=(V.str∘fW) x:=λx hx=>by obtain⟨c,rfl,_⟩:=tV (Ji.mp e0 x hx);rfl
      exact(List.map_id xs).symm.trans (Jp this)
     have ha1:=s1 _ _ ha;rw[e5]at ha1;show cp _ _ [oR a] H1;refine uB (mr (ss:=xs.map fW) (aa rfl) (aM.of ha1) (by rw[IL];omega) (λH4 s4=>?_));refine qK (cK (aa rfl) (.inl (aM.of (s4 _ _ ha1)))) ?_;have k:=q H4 (s1.trans s4);rw[e0]at k;have e4:decide ((((iA (xs.map fW)).length:Nat):Int)=((((xs.map fW).map V.str).length:Nat):Int))=decide ((xs.map fW).Nodup):=by
      rw[IL (f:=V.str)]
      by_cases hn:(xs.map fW).Nodup
      .rw[E5 hn,E5 (by rw[(gq _).mpr hn])]
      .rw[E6 hn,E6 (λz=>hn ((gq _).mp (by omega)))]
     show Q (.bl (decide ((((iA (xs.map fW)).length:Nat):Int)=((((xs.map fW).map V.str).length:Nat):Int)))) H4;rw[e4];exact k
   .rw[E6 hl]at eL q;exact bC (b:=true) (λQ q=>bQ (bn eL) _ (jU q)) (λ_=>aO ao (q H (al.refl H))) (λh=>by cases h)
theorem kU{f:Addr}{fd:Ft}(F:bT K "are_rules" "are_rules" cM f fd)(T:Txt mg aS aA aE aW aD)(C:EZ P w K mg E3):bo P w K mg E3 dO 5 f fd ["thing","kinds"] (lS K):=by
 refine F.ok kF (λvs H Q E h=>?_) (λcdv A E4 s H vs Q E hr h=>?_)
 .obtain⟨v,d,ws,rfl,_⟩:=h;rfl
 .obtain⟨v,d,ws,rfl,t,hw,q⟩:=h;have hu:=cC hr;refine⟨_,(am (aB (cy (aK C.is_list_of hr (ay (cv 0) (ay ag (ay (kg T.MOST_RULES) pa_nil)))) (df (kB (tZ K) jC T.all (ay (eF (bZ (N:=["part","kinds"]) (src:=[none,some 1]) (aj cM) ["thing","kinds"]) (qy K (cv 0)) (λ_ _ _=>(bb (i:=0) ["part","kinds"])) (λ_ _ _=>bx) (λ_ _ _=>(aK C.is_rule hr (ay (cv 0) (ay (cv 1) pa_nil))))) pa_nil)))))),?_⟩;show cp _ _ [some v,oR d] H;refine oz (a:=iq H v 0 24) (aJ (ac (aa rfl) (ac ao (ac ao av))) (λQ q=>⟨v,0,24,rfl,t.thg,q⟩)) (λh=>?_) (λh=>?_)
  .unfold iq at h;cases e1:lstOf H v with
   |none=>rw[e1]at h;cases h
   |some xs=>
    rw[e1]at h;have h:0<=(xs.length:Int)/\(xs.length:Int)<=24:=E9 h;obtain⟨a,rfl,ha⟩:=er e1;have tx:=t.2 xs (.inr e1);refine du (d:=a) (xs:=xs) (rest:=[oR d]) (aa rfl) (aM.of ha) (by rw[Fq];omega) rfl (λ_=>true) (λx=>.bl (dz H x ws)) (λx hx=>bW) (λx hx _=>?_) (λp hp=>?_)
    .exact aJ (ac (aa rfl) (ac (aa rfl) av)) (λQ q=>⟨x,d,ws,rfl,tx x hx,hw,q⟩)
    .refine⟨xs.map (λx=>dz H x ws),?_,?_⟩
     .have e2:(xs.filter λ_=>true).map (λx=>V.bl (dz H x ws))=(xs.map (λx=>dz H x ws)).map V.bl:=by rw[IW.mpr (λ_ _=>rfl),IQ];rfl
      rw[<-e2];exact aM.of af
     .have k:=q _ ((al.refl H).upd (o:=.lst ((xs.filter λ_=>true).map (λx=>V.bl (dz H x ws)))) hp);unfold eg at k;rw[e1]at k;have e3:(decide (xs.length<=24)&&xs.all (λx=>dz H x ws))=(xs.map (λx=>dz H x ws)).all id:=by rw[E5 (by omega:xs.length<=24),J1];rfl
      have k:Q (.bl (decide (xs.length<=24)&&xs.all (λx=>dz H x ws))) _:=k;rw[e3]at k;exact k
  .have k:=q H (al.refl H);have e2:eg H v ws=false:=by
    unfold eg;unfold iq at h;cases e1:lstOf H v with
    |none=>rfl
    |some xs=>
     rw[e1]at h;have h:¬(0<=(xs.length:Int)/\(xs.length:Int)<=24):=Fa h;show(decide (xs.length<=24)&&_)=false;rw[E6 (by omega:¬xs.length<=24)];rfl
   rw[e2]at k;exact k
theorem lf{f cG:Addr}{fd:Ft}(F:bT K "__init__" "Game.__init__" cb f fd)(T:Txt mg aS aA aE aW aD)(hW:∀H,eJ K H aW kx)(B:zu K cG)(C:GG2 P w K mg E3):bo P w K mg E3 dO 6 f fd ["self","board","kinds","rules","turns","ends","stuck"] (oY K cG):=by
 refine F.ok ij (λvs H Q E h=>?_) (λcdv A E4 s H vs Q E hr h=>?_)
 .obtain⟨p,b,kd,rd,td,ed,dx,ws,rs,ts,es,st,rfl,_⟩:=h;rfl
 .obtain⟨p,b,kd,rd,td,ed,dx,ws,rs,ts,es,st,rfl,hp,hk,hr',ht,he,tk,tr,tt,te,bk,br,bt,be,hst,lst',q⟩:=h;have hu:=cC hr;have wk:∀H',al H H'->eJ K H' kd ws:=λH' s=>.inl (aM.of (s _ _ hk));refine⟨_,(ae (bf (bw (aZ (aK C.are_kinds hr (ay (cv 2) pa_nil)))) (am ej) aI)
   (ae (bf (bw (aZ (aK C.are_rules hr (ay (cv 3) (ay (cv 2) pa_nil))))) (am ej) aI)
   (ae (bf (bw (aZ (aK C.is_turns hr (ay (cv 4) (ay (cv 2) pa_nil))))) (am ej) aI)
   (ae (bf (bw (aZ (aK C.is_ends hr (ay (cv 5) (ay (cv 2) pa_nil))))) (am ej) aI)
   (ae (bf (bw (aZ (aK C.is_word hr (ay (cv 6) (ay (kg T.STUCK_WORDS) pa_nil))))) (am ej) aI)
   (ae (gF K (cv 0) (cv 1))
   (ae (gF K (cv 0) (qC (jn K) cF T.list (ay (cv 2) pa_nil)))
   (ae (gF K (cv 0) (qC (jn K) cF T.list (ay (cv 3) pa_nil)))
   (ae (gF K (cv 0) (qC (jn K) cF T.list (ay (cv 4) pa_nil)))
   (ae (gF K (cv 0) (qC (jn K) cF T.list (ay (cv 5) pa_nil)))
   (am (gF K (cv 0) (cv 6))))))))))))),?_⟩
  show bg _ _ _ [oR p,oR b,oR kd,oR rd,oR td,oR ed,oT st] H;refine cx (λb H'=>b=false/\al H H') (λQ q=>ix (ac (aa rfl) av) ⟨.ref kd,rfl,tk,λH' s=>?_⟩) (λH' h=>by cases h.1) (λH1 h=>?_)
  .rw[bk];exact q _ _ ⟨rfl,s⟩
  obtain⟨_,s1⟩:=h;have eqR:eg H1 (.ref rd) ws=eg H (.ref rd) ws:=l8 tr s1;refine cx (λb H'=>b=false/\al H1 H') (λQ q=>ix (ac (aa rfl) (ac (aa rfl) av)) ⟨.ref rd,kd,ws,rfl,tr.same s1,wk _ s1,λH' s=>?_⟩) (λH' h=>by cases h.1) (λH2 h=>?_)
  .rw[eqR,br];exact q _ _ ⟨rfl,s⟩
  obtain⟨_,s2⟩:=h;have s02:=s1.trans s2;have eqT:eX H2 (.ref td) ws=eX H (.ref td) ws:=lK tt s02;refine cx (λb H'=>b=false/\al H2 H') (λQ q=>ix (ac (aa rfl) (ac (aa rfl) av)) ⟨.ref td,kd,ws,rfl,tt.same s02,wk _ s02,λH' s=>?_⟩) (λH' h=>by cases h.1) (λH3 h=>?_)
  .rw[eqT,bt];exact q _ _ ⟨rfl,s⟩
  obtain⟨_,s3⟩:=h;have s03:=s02.trans s3;have eqE:pairsB H3 (.ref ed) kc ws=pairsB H (.ref ed) kc ws:=iE te s03;refine cx (λb H'=>b=false/\al H3 H') (λQ q=>ix (ac (aa rfl) (ac (aa rfl) av)) ⟨.ref ed,kd,ws,rfl,te.same s03,wk _ s03,λH' s=>?_⟩) (λH' h=>by cases h.1) (λH4 h=>?_)
  .rw[eqE,be];exact q _ _ ⟨rfl,s⟩
  obtain⟨_,s4⟩:=h;have s04:=s03.trans s4;refine bC (bQ (bn (aJ (ac (aa rfl) (ac ao av)) (λQ q=>⟨.str st,aW,kx,rfl,lst',hW H4,q⟩)))) (λh=>?_) (λ_=>?_)
  .have e:wordB (.str st) kx=true:=E5 hst;rw[e]at h;cases h
  have gl:=λb k r t e=>A0 (b:=b) (k:=k) (r:=r) (t:=t) (e:=e);have nk:p≠kd:=fA hp hk (by intro z;cases z);have nr:p≠rd:=fA hp hr' (by intro z;cases z);have nt:p≠td:=fA hp ht (by intro z;cases z);have ne':p≠ed:=fA hp he (by intro z;cases z);have h4:∀(G:Hp),SameBut p H G->G kd=some (.lst (ws.map V.str))/\G rd=some (.lst rs)/\G td=some (.lst ts)/\G ed=some (.lst es):=λG sb=>⟨sb _ _ hk nk.symm,sb _ _ hr' nr.symm,sb _ _ ht nt.symm,sb _ _ he ne'.symm⟩;refine ni (aa rfl) (aa rfl) (s04 _ _ hp) B.cl B.board (by decide) ?_;generalize hG5:upd H4 p (HO.ins cG dx (putF "board" (V.ref b) []))=G5;have p5:G5 p=some (.ins cG dx (gf1 b)):=hG5▸af;have b5:SameBut p H G5:=hG5▸s04.but.self;have nfree:∀(G:Hp)(q:Addr),SameBut p H G->G p≠none->G q=none->H q=none:=λG q sb hpp hq=>by
   cases e:H q with
   |none=>rfl
   |some o=>
    by_cases z:q=p
    .rw[z]at hq;exact Fb hq hpp
    .have:=sb q o e z;rw[hq]at this;cases this
  refine iU (aa rfl) (h4 _ b5).1 (λH'=>aa rfl) p5 B.cl B.kinds (by have:=(gl b 0 0 0 0).1;omega) (λkq hkq=>?_);have nkq:p≠kq:=au p5 hkq;generalize hG6:upd (upd G5 kq (HO.lst (ws.map V.str))) p (HO.ins cG dx (putF "kinds" (V.ref kq) (gf1 b)))=G6;have p6:G6 p=some (.ins cG dx (gf2 b kq)):=hG6▸af;have k6:G6 kq=some (.lst (ws.map V.str)):=by rw[<-hG6,ar nkq.symm,af]
  have b6:SameBut p H G6:=hG6▸(b5.new (nfree _ _ b5 (by rw[p5];simp) hkq)).self;refine iU (aa rfl) (h4 _ b6).2.1 (λH'=>aa rfl) p6 B.cl B.rules (by have:=(gl b kq 0 0 0).2.1;omega) (λrq hrq=>?_);have nrq:p≠rq:=au p6 hrq;generalize hG7:upd (upd G6 rq (HO.lst rs)) p (HO.ins cG dx (putF "rules" (V.ref rq) (gf2 b kq)))=G7;have p7:G7 p=some (.ins cG dx (gf3 b kq rq)):=hG7▸af;have r7:G7 rq=some (.lst rs):=by rw[<-hG7,ar nrq.symm,af]
  have k7:G7 kq=some (.lst (ws.map V.str)):=by rw[<-hG7,ar nkq.symm,ar (au k6 hrq)];exact k6
  have b7:SameBut p H G7:=hG7▸(b6.new (nfree _ _ b6 (by rw[p6];simp) hrq)).self;refine iU (aa rfl) (h4 _ b7).2.2.1 (λH'=>aa rfl) p7 B.cl B.turns (by have:=(gl b kq rq 0 0).2.2.1;omega) (λtq htq=>?_);have ntq:p≠tq:=au p7 htq;generalize hG8:upd (upd G7 tq (HO.lst ts)) p (HO.ins cG dx (putF "turns" (V.ref tq) (gf3 b kq rq)))=G8;have p8:G8 p=some (.ins cG dx (gf4 b kq rq tq)):=hG8▸af;have t8:G8 tq=some (.lst ts):=by rw[<-hG8,ar ntq.symm,af]
  have r8:G8 rq=some (.lst rs):=by rw[<-hG8,ar nrq.symm,ar (au r7 htq)];exact r7
  have k8:G8 kq=some (.lst (ws.map V.str)):=by rw[<-hG8,ar nkq.symm,ar (au k7 htq)];exact k7
  have b8:SameBut p H G8:=hG8▸(b7.new (nfree _ _ b7 (by rw[p7];simp) htq)).self;refine iU (aa rfl) (h4 _ b8).2.2.2 (λH'=>aa rfl) p8 B.cl B.ends (by have:=(gl b kq rq tq 0).2.2.2.1;omega) (λeq heq=>?_);have neq:p≠eq:=au p8 heq;generalize hG9:upd (upd G8 eq (HO.lst es)) p (HO.ins cG dx (putF "ends" (V.ref eq) (gf4 b kq rq tq)))=G9;have p9:G9 p=some (.ins cG dx (BD b kq rq tq eq)):=hG9▸af;have e9:G9 eq=some (.lst es):=by rw[<-hG9,ar neq.symm,af]
  have t9:G9 tq=some (.lst ts):=by rw[<-hG9,ar ntq.symm,ar (au t8 heq)];exact t8
  have r9:G9 rq=some (.lst rs):=by rw[<-hG9,ar nrq.symm,ar (au r8 heq)];exact r8
  have k9:G9 kq=some (.lst (ws.map V.str)):=by rw[<-hG9,ar nkq.symm,ar (au k8 heq)];exact k8
  have b9:SameBut p H G9:=hG9▸(b8.new (nfree _ _ b8 (by rw[p8];simp) heq)).self;refine oO (λv H'=>v=.str st/\H'=G9) (λQ q=>qK (v:=.str st) (aa rfl) (q _ _ ⟨rfl,rfl⟩)) p cG dx (λH' Q q=>aa rfl Q q) B.cl B.stuck ?_;rintro _ _ ⟨rfl,rfl⟩;refine⟨_,p9,by have:=(gl b kq rq tq eq).2.2.2.2;omega,?_⟩;refine q _ ⟨dx,kq,rq,tq,eq,af,?_,?_,?_,?_⟩ b9.self
  .rw[ar nkq.symm];exact k9
  .rw[ar nrq.symm];exact r9
  .rw[ar ntq.symm];exact t9
  .rw[ar neq.symm];exact e9
end
section
variable{P:Fn}{w:Fp}{K:Frag}{mg:Fc}{E3:Fw}{aS aA aE aW aD:Addr}
theorem nI{f:Addr}{fd:Ft}(F:bT K "sign_of" "sign_of" fj f fd)(T:Txt mg aS aA aE aW aD):bo P w K mg E3 dO 1 f fd ["kind","side"] nj:=by
 refine F.ok nw (λvs H Q E h=>?_) (λcdv A E4 s H vs Q E hr h=>?_)
 .obtain⟨c,sd,rfl,_⟩:=h;rfl
 .obtain⟨c,sd,rfl,hc,q⟩:=h;have hu:=cC hr;refine⟨_,(am (aB (gf (bi K hu (cv 1) ag) (lx PySem.F.slot_str_upper PySem.F.type_str_upper li (cv 0)) (cv 0)))),?_⟩;show cp _ _ [oT (one c),oJ sd] H;refine aO (pG (bn (eG (aa rfl) ao)) (λ_=>uk (aa rfl) hc) (λ_=>aa rfl)) ?_
  by_cases h:sd=0
  .rw[E5 h];rw[E8 h]at q;exact q
  .rw[E6 h];rw[E7 h]at q;exact q
theorem lg{f cB:Addr}{fd:Ft}(F:bT K "has" "Board.has" dy f fd)(T:Txt mg aS aA aE aW aD)(B:iS K cB)(C:CA P w K mg E3):bo P w K mg E3 dO 3 f fd ["self","square"] (yT K cB):=by
 refine F.ok kJ (λvs H Q E h=>?_) (λcdv A E4 s H vs Q E hr h=>?_)
 .obtain⟨p,wi,hi,hs,sq,rfl,_⟩:=h;rfl
 .obtain⟨p,wi,hi,hs,sq,rfl,O,k⟩:=h;have hu:=cC hr;obtain⟨pf,ff,hf⟩:=O.firm B;have mm:=O.many;have hl:(((firmL wi hi hs).map V.bl).length:Int)=wi*hi:=by rw[IL,uj];omega
  refine⟨_,(am (aB (cy (aK C.is_among hr (ay (cv 1) (ay ag (ay (ah (kB (dI K) bq T.len (ay (fC K (cv 0)) pa_nil)) ag) pa_nil)))) (df (eN K (fC K (cv 0)) (cv 1)))))),?_⟩;show cp _ _ [oR p,oJ sq] H;refine aO (bY (b:= !decide (sq∈hs)) (aJ (ac (aa rfl) (ac ao (ac (js (cK (cj (aa rfl) ff) (.inl (aM.of hf))) ao) av))) (λQ q=>⟨sq,0,_,rfl,q⟩)) (λh=>?_)) ?_
  .have h:=E9 h;rw[hl]at h;exact bK (cj (aa rfl) ff) (aa rfl) (.inl (aM.of hf)) (vQ h.1 (by omega))
  .rw[hl];have e:(decide (0<=sq/\sq<=wi*hi - 1)&& !decide (sq∈hs))=decide (0<=sq/\sq<wi*hi/\¬sq∈hs):=by
    rw[KL];simp only[KJ,decide_eq_true_eq,KM,decide_eq_false_iff_not]
    constructor
    .rintro⟨⟨a,b⟩,c⟩;exact⟨a,by omega,c⟩
    .rintro⟨a,b,c⟩;exact⟨⟨a,by omega⟩,c⟩
   show Q (.bl (decide (0<=sq/\sq<=wi*hi - 1)&& !decide (sq∈hs))) H;rw[e];exact k
theorem kT{f cB:Addr}{fd:Ft}(F:bT K "empty_row" "empty_row" cL f fd)(T:Txt mg aS aA aE aW aD)(B:iS K cB)(C:CP2 P w K mg E3 cB):bo P w K mg E3 dO 4 f fd ["board"] (o7 K cB):=by
 refine F.ok kD (λvs H Q E h=>?_) (λcdv A E4 s H vs Q E hr h=>?_)
 .obtain⟨p,wi,hi,hs,rfl,_⟩:=h;rfl
 .obtain⟨p,wi,hi,hs,rfl,O,k⟩:=h;have hu:=cC hr;have mm:=O.many;have fw:=O.wide B;have fh:=O.high B;have w8:=O.w8;have w1:=O.w1;refine⟨_,(am (aB (Ef PySem.F.slot_str_join PySem.F.type_str_join (pA K) aX (ay (eF (bZ (N:=["square","board"]) (src:=[none,some 0]) (aj cL) ["board"]) (vJ T.range (ay (ah (fC K (cv 0)) (fC K (cv 0))) pa_nil)) (λ_ _ _=>(bb (i:=0) ["square","board"])) (λ_ _ _=>bx) (λ_ _ _=>(gf (aZ (Du C.Board_has hr (cv 1) (ay (cv 0) pa_nil))) (kg T.EMPTY) (kg T.HOLE)))) pa_nil)))),?_⟩;show cp _ _ [oR p] H;refine yV ao ?_;refine gk (n:=wi*hi) (rest:=[oR p]) (ac (dE (cj (aa rfl) fw) (cj (aa rfl) fh) (.inl ⟨by omega,by omega⟩)) av) (by omega) (by rw[Fq];omega) (by omega) rfl (λ_=>true)
   (λx=>match x with| .int i=>if i∈hs then .str (one 35)else .str (one 46)|_=>.non) (λi hi=>bW) (λi hi' _=>?_) (λd hd=>?_)
  .have e:(if decide (0<=0+(i:Int)/\0+(i:Int)<wi*hi/\¬(0+(i:Int))∈hs)=true then V.str (one 46)else V.str (one 35))=(if 0+(i:Int)∈hs then V.str (one 35)else V.str (one 46)):=by
    by_cases m:0+(i:Int)∈hs
    .rw[E8 m,E7 (by rw[decide_eq_true_eq];exact λz=>z.2.2 m)]
    .rw[E7 m,E8 (by rw[decide_eq_true_eq];exact⟨by omega,by omega,m⟩)]
   show Ev _ _ _ (if 0+(i:Int)∈hs then V.str (one 35)else V.str (one 46));rw[<-e];exact pG (bn (vT (p:=p) (aa rfl) O.no (ac (aa rfl) av) (λQ q=>⟨p,wi,hi,hs,_,rfl,O,q⟩))) (λ_=>A5) (λ_=>vU)
  .have e:(((List.range (wi*hi).toNat).map λ(i:Nat)=>V.int (0+(i:Int))).filter λ_=>true).map (λx=>match x with| .int i=>if i∈hs then V.str (one 35)else V.str (one 46)|_=>.non)=(((List.range (wi*hi).toNat).map λ(s:Nat)=>if(s:Int)∈hs then 35 else 46).map one).map V.str:=by rw[IW.mpr (λ_ _=>rfl),IQ,IQ,IQ];refine Jp λi _=>?_;show(if 0+(i:Int)∈hs then V.str (one 35)else V.str (one 46))=V.str (one (if(i:Int)∈hs then 35 else 46));rw[KG];split<;>rfl
   rw[e];show iG K (.str "") [.ref d] _ Q;rw[nF];refine⟨_,aM.of af,?_,?_⟩
   .rw[IQ];have es:∀l:List Nat,(l.map ((λx:Str=>x.length)∘one)).sum=l.length:=λl=>by
     induction l with
     |nil=>rfl
     |cons a r ih=>rw[Jh,JK,ih,Jg];show 1+r.length=_;omega
    have ez:("":Str).length=0:=by decide+kernel
    rw[es,ez,IL,Jk];omega
   .rw[iu];exact k _ ((al.refl H).upd hd)
theorem kZ{f:Addr}{fd:Ft}(F:bT K "are_holes" "are_holes" cR f fd)(T:Txt mg aS aA aE aW aD)(C:CA P w K mg E3):bo P w K mg E3 dO 3 f fd ["thing","many"] lZ:=by
 refine F.ok kI (λvs H Q E h=>?_) (λcdv A E4 s H vs Q E hr h=>?_)
 .obtain⟨d,m,hs,rfl,_⟩:=h;rfl
 .obtain⟨d,m,hs,rfl,hd,good,nd,hl,m64,k⟩:=h;have hu:=cC hr;have hS:aM K H d (hs.map V.int):=aM.of hd;refine⟨_,(ae (bf (PW.pt (dG (bw (aZ (qz .list T.isinstance T.list cF (cv 0)))) (cI (bi K hu (kB (dI K) bq T.len (ay (cv 0) pa_nil)) (cv 1))))) (am (aB dA)) aI)
   (ae (bf (bw (aZ (kB (tZ K) jC T.all (ay (eF (bZ (N:=["hole","many"]) (src:=[none,some 1]) (aj cR) ["thing","many"]) (qy K (cv 0)) (λ_ _ _=>(bb (i:=0) ["hole","many"])) (λ_ _ _=>bx) (λ_ _ _=>(aK C.is_among hr (ay (cv 0) (ay ag (ay (ah (cv 1) ag) pa_nil)))))) pa_nil)))) (am (aB dA)) aI)
   (am (aB (gB K hu (kB ow bq T.len (ay (qC (EB K hr) oy T.set (ay (cv 0) pa_nil)) pa_nil)) (kB (dI K) bq T.len (ay (cv 0) pa_nil))))))),?_⟩
  show bg _ _ _ [oR d,oJ m] H;refine bC (fU (bQ (bn (uq (aa rfl) hd))) (λ_=>(bn (DL (cK (aa rfl) (.inl hS)) (aa rfl))))) (λh=>?_) (λ_=>?_)
  .have h:decide (m<=((hs.map V.int).length:Int))=true:=h;have h:=E9 h;rw[IL]at h;omega
  refine cx (λb H'=>b=false/\al H H') (λQ q=>?_) (λH' h=>by cases h.1) (λH1 h=>?_)
  .refine du (d:=d) (xs:=hs.map V.int) (rest:=[oJ m]) (aa rfl) hS (by rw[IL,Fq];omega) rfl (λ_=>true) (λ_=>.bl true) (λx hx=>bW) (λx hx _=>?_) (λd' hd'=>?_)
   .obtain⟨z,hz,rfl⟩:=IR.mp hx;have g:=good z hz;refine aJ (ac (aa rfl) (ac ao (ac (js (aa rfl) ao) av))) (λQ q=>⟨z,0,m - 1,rfl,?_⟩);rw[E5 (by omega:0<=z/\z<=m - 1)];exact q
   .refine⟨List.replicate hs.length true,?_,?_⟩
    .have e:((hs.map V.int).filter λ_=>true).map (λ_=>V.bl true)=(List.replicate hs.length true).map V.bl:=by rw[IW.mpr (λ_ _=>rfl),IQ,List.map_replicate];show hs.map (λ_=>V.bl true)=_;rw[List.map_const']
     rw[<-e];exact aM.of af
    .have e:(List.replicate hs.length true).all id=true:=by simp
     rw[e];exact q _ _ ⟨rfl,(al.refl H).upd hd'⟩
  obtain⟨_,s1⟩:=h;have hS1:=s1.seq hS;simp only[cp,e7,cB,aV,ce];refine qK (aa rfl) ?_;refine⟨hs,hS1,by have:scanBound=4096:=rfl;omega,λq hq=>?_⟩;refine⟨_,_,af,?_⟩;have s2:al H1 (upd H1 q (.set (λk=>(uniq hs).any (· == k)) (uniq hs).length)):=(al.refl H1).upd hq;refine qK (v:=.ref d) (aa rfl) ⟨_,.inl (s2.seq hS1),?_⟩;rw[IL,(sO hs).mpr nd];show Q (.bl (decide ((hs.length:Int)=hs.length))) _;rw[E5 rfl];exact k _ (s1.trans ((al.refl H1).upd hq))
theorem jS{f cB:Addr}{fd:Ft}(F:bT K "__init__" "Board.__init__" bH f fd)(T:Txt mg aS aA aE aW aD)(B:iS K cB)(C:CB2 P w K mg E3):bo P w K mg E3 dO 4 f fd ["self","wide","high","holes"] (pc K cB):=by
 refine F.ok hG (λvs H Q E h=>?_) (λcdv A E4 s H vs Q E hr h=>?_)
 .obtain⟨p,d,dx,wi,hi,hs,rfl,_⟩:=h;rfl
 .obtain⟨p,d,dx,wi,hi,hs,rfl,hp,hd,w1,w8,h1,h8,good,nd,hl,k⟩:=h;have hu:=cC hr;have m1:wi*hi<=8*8:=KB w8 h8 (by omega) (by omega);have m0:0<=wi*hi:=Int.mul_nonneg (by omega) (by omega);have npd:p≠d:=fA hp hd (by intro z;cases z);refine⟨_,(ae (bf (PW.pt (dG (bw (aZ (aK C.is_among hr (ay (cv 1) (ay ag (ay (kg T.LONGEST) pa_nil)))))) (cI (bw (aZ (aK C.is_among hr (ay (cv 2) (ay ag (ay (kg T.LONGEST) pa_nil))))))))) (am ej) aI)
   (ae (bf (bw (aZ (aK C.are_holes hr (ay (cv 3) (ay (ah (cv 1) (cv 2)) pa_nil))))) (am ej) aI)
   (ae (gF K (cv 0) (cv 1))
   (ae (gF K (cv 0) (cv 2))
   (ae (gF K (cv 0) (kB (Dt K) qY T.sorted (ay (cv 3) pa_nil)))
   (am (gF K (cv 0) (eF (bZ (N:=["square","self"]) (src:=[none,some 0]) (aj bH) ["self","wide","high","holes"]) (vJ T.range (ay (ah (cv 1) (cv 2)) pa_nil)) (λ_ _ _=>(bb (i:=0) ["square","self"])) (λ_ _ _=>bx) (λ_ _ _=>(gB K hu (cv 0) (fC K (cv 1)))))))))))),?_⟩
  show bg _ _ _ [oR p,oJ wi,oJ hi,oR d] H;refine bC (fU (bQ (bn (aJ (ac (aa rfl) (ac ao (ac ao av))) (λQ q=>⟨wi,1,8,rfl,q⟩)))) (λ_=>(bQ (bn (aJ (ac (aa rfl) (ac ao (ac ao av))) (λQ q=>⟨hi,1,8,rfl,q⟩)))))) (λh=>?_) (λ_=>?_)
  .rw[E5 (⟨w1,w8⟩:1<=wi/\wi<=8),E5 (⟨h1,h8⟩:1<=hi/\hi<=8)]at h;cases h
  refine cx (λb H'=>b=false/\al H H') (λQ q=>?_) (λH' h=>by cases h.1) (λH1 h=>?_)
  .exact ix (ac (aa rfl) (ac (dE (aa rfl) (aa rfl) (.inl ⟨by omega,by omega⟩)) av)) ⟨d,wi*hi,hs,rfl,hd,good,nd,hl,by omega,λH' s=>q _ _ ⟨rfl,s⟩⟩
  obtain⟨_,s1⟩:=h;refine ni (aa rfl) (aa rfl) (s1 _ _ hp) B.cl B.wide (by decide) ?_;have a1:=bE "wide" (V.int wi) [];have a2:=bE "high" (V.int hi) (putF "wide" (V.int wi) []);simp only[List.length_nil]at a1;refine ni (aa rfl) (aa rfl) af B.cl B.high (by omega) ?_;generalize hH3:upd (upd H1 p (HO.ins cB dx (putF "wide" (V.int wi) []))) p (HO.ins cB dx (putF "high" (V.int hi) (putF "wide" (V.int wi) [])))=H3;have p3:H3 p=some (.ins cB dx (putF "high" (V.int hi) (putF "wide" (V.int wi) []))):=hH3▸af;have s3:SameBut p H H3:=hH3▸(s1.but.self.self);have d3:H3 d=some (.lst (hs.map V.int)):=s3 _ _ hd npd.symm;refine vc (λv H'=>∃(hs':List Int)(q:Addr),v=.ref q/\hs'.Perm hs/\hs'.Pairwise (·<=·)/\H3 q=none/\H'=upd H3 q (.lst (hs'.map V.int))) (λQ q=>?_) p cB dx (λH' Q q=>aa rfl Q q) B.cl B.holes ?_
  .exact ES (aa rfl) ⟨hs,aM.of d3,by omega,λhs' q' h1 h2 h3=>q _ _ ⟨hs',q',rfl,h1,h2,h3,rfl⟩⟩
  rintro _ _ ⟨hs',q,rfl,pm,sr,hq,rfl⟩;have npq:p≠q:=au p3 hq;have a3:=bE "holes" (V.ref q) (putF "high" (V.int hi) (putF "wide" (V.int wi) []));refine⟨_,(by rw[ar npq];exact p3),(by omega),?_⟩;generalize hH4:upd (upd H3 q (HO.lst (hs'.map V.int))) p (HO.ins cB dx (putF "holes" (V.ref q) (putF "high" (V.int hi) (putF "wide" (V.int wi) []))))=H4;have p4:H4 p=some (.ins cB dx (putF "holes" (V.ref q) (putF "high" (V.int hi) (putF "wide" (V.int wi) [])))):=hH4▸af;have q4:H4 q=some (.lst (hs'.map V.int)):=by rw[<-hH4,ar npq.symm,af]
  have hqH:H q=none:=by
   cases e:H q with
   |none=>rfl
   |some o=>
    have:=s3 q o e npq.symm;rw[hq]at this;cases this
  have s4:SameBut p H H4:=hH4▸((s3.new hqH).self);have f4:Fl K H4 p "holes" (.ref q):=⟨cB,dx,_,p4,B.cl,B.holes,by rw[az,E8 rfl]⟩;refine oO (λv H'=>∃(pf:Addr),v=.ref pf/\H4 pf=none/\H'=upd H4 pf (.lst ((firmL wi hi hs').map V.bl))) (λQ k'=>?_) p cB dx (λH' Q q=>aa rfl Q q) B.cl B.firm ?_
  .refine gk (n:=wi*hi) (rest:=[oR p]) (ac (dE (aa rfl) (aa rfl) (.inl ⟨by omega,by omega⟩)) av) m0 (by rw[Fq];omega) (by omega) rfl (λ_=>true) (λx=>match x with| .int i=>.bl (!decide (i∈hs'))|_=>.non) (λi hi=>bW) (λi hi _=>?_) (λd' hd'=>?_)
   .exact(lq (aa rfl) (cj (aa rfl) (f4)) (.inl (aM.of q4)))
   .refine k' _ _ ⟨d',rfl,hd',?_⟩;have e:(((List.range (wi*hi).toNat).map λ(i:Nat)=>V.int (0+(i:Int))).filter λ_=>true).map (λx=>match x with| .int i=>V.bl (!decide (i∈hs'))|_=>.non)=(firmL wi hi hs').map V.bl:=by rw[IW.mpr (λ_ _=>rfl),IQ];unfold firmL;rw[IQ];refine Jp λi _=>?_;show V.bl (!decide (0+(i:Int)∈hs'))=V.bl (!decide ((i:Int)∈hs'));rw[KG]
    rw[e]
  rintro _ _ ⟨pf,rfl,hpf,rfl⟩;have npf:p≠pf:=au p4 hpf;have nqf:q≠pf:=au q4 hpf;have hfH:H pf=none:=by
   cases e:H pf with
   |none=>rfl
   |some o=>
    have:=s4 pf o e npf.symm;rw[hpf]at this;cases this
  refine⟨_,(by rw[ar npf];exact p4),(by omega),?_⟩;refine k hs' _ pm ⟨⟨dx,q,pf,af,by rw[ar npq.symm,ar nqf];exact q4,by rw[ar npf.symm,af]⟩,w1,w8,h1,h8,λh hh=>good h (pm.mem_iff.mp hh),sr,pm.nodup_iff.mpr nd⟩ ((s4.new hfH).self)
theorem qt{f cB cG:Addr}{fd:Ft}(F:bT K "is_row" "is_row" dW f fd)(T:Txt mg aS aA aE aW aD)(B:iS K cB)(D:zu K cG)(C:CR1 P w K mg E3 cB):bo P w K mg E3 dO 5 f fd ["game","thing"] (nu K cB cG):=by
 refine F.ok ii (λvs H Q E h=>?_) (λcdv A E4 s H vs Q E hr h=>?_)
 .obtain⟨g,b,v,wi,hi,hs,ks,rs,ts,es,st,rfl,_⟩:=h;rfl
 .obtain⟨g,b,v,wi,hi,hs,ks,rs,ts,es,st,rfl,G,O,hl,h6,t,q⟩:=h;have hu:=cC hr;refine⟨_,(ae (aF (i:=2) ii.nd rfl (Or.inl rfl) (aK C.empty_row hr (ay (fC K (cv 0)) pa_nil)))
   (ae (bf (PW.pt (dG (bw (aZ (qz .str T.isinstance T.str lD (cv 1)))) (cI (bi K hu (kB (dI K) bq T.len (ay (cv 1) pa_nil)) (kB (dI K) bq T.len (ay (cv 2) pa_nil)))))) (am (aB dA)) aI)
   (ae (aF (i:=3) ii.nd rfl (Or.inr rfl) (ah (ah (aY (ay (kg T.EMPTY) pa_nil)) (fC K (cv 0))) (eF (bZ (N:=["kind"]) (src:=[none]) (aj dW) ["game","thing","bare","signs"]) (qy K (fC K (cv 0))) (λ_ _ _=>(bb (i:=0) ["kind"])) (λ_ _ _=>bx) (λ_ _ _=>(aK C.sign_of hr (ay (cv 0) (ay ag pa_nil)))))))
   (am (aB (kB (tZ K) jC T.all (ay (eF (bZ (N:=["sign","under","signs"]) (src:=[none,none,some 3]) (aj dW) ["game","thing","bare","signs"]) (Ez T.zip (ay (cv 1) (ay (cv 2) pa_nil))) (λ_ _ _=>(EC K (n:=2) (en (bb (i:=0) ["sign","under","signs"]) (en (bb (i:=1) ["sign","under","signs"]) kM)))) (λ_ _ _=>bx) (λ_ _ _=>(gf (bi K hu (cv 1) (kg T.HOLE)) (gB K hu (cv 0) (kg T.HOLE)) (gB K hu (cv 0) (cv 2))))) pa_nil))))))),?_⟩
  show bg _ _ _ [oR g,some v,none,none] H;have mm:=O.many;refine bv (λu H'=>u=.str (emptyT wi hi hs)/\al H H') (λQ q=>eV (ac (cj (aa rfl) (G.board D)) av) ⟨b,wi,hi,hs,rfl,O,λH' s=>q _ _ ⟨rfl,s⟩⟩) ?_;rintro _ H1 ⟨rfl,s1⟩;have t1:=t.same s1;have hel:(emptyT wi hi hs).length<=64:=by rw[gP];omega
  have hs0:=jt (T:=.str) (te:=bu 1) (σ:=[oR g,some v,oT (emptyT wi hi hs),none]) (aa rfl) t1;rw[nc t1]at hs0;cases v with
  |str z=>
   have hz:z.length<=1000:=t;refine bC (fU (bQ (bn hs0)) (λ_=>bn (mH (eS (aa rfl) (Kg hz (by decide))) (eS (aa rfl) (Kg hel (by decide)))))) (λh=>?_) (λh=>?_)
   .have hne:¬z.length=(emptyT wi hi hs).length:=λe=>by rw[e]at h;simp at h
    have k:=q H1 s1;have e:rowB wi hi hs ks (.str z)=false:=by unfold rowB;dsimp only;rw[E6 hne];rfl
    rw[e]at k;exact aO ao k
   .have heq:z.length=(emptyT wi hi hs).length:=by
     have h:(!decide ((z.length:Int)=(emptyT wi hi hs).length))=false:=h;have:((z.length:Int)=(emptyT wi hi hs).length):=E9 (by cases hd:decide ((z.length:Int)=(emptyT wi hi hs).length)with|true=>rfl|false=>rw[hd]at h;cases h)
     omega
    obtain⟨kq,fk,hkq⟩:=(G.same s1).kinds D;refine bv (λu H'=>∃sq,u=.ref sq/\H' sq=some (.lst (([46]++ks++ks.map (· - 32)).map strV))/\al H1 H') (λQ q=>?_) ?_
    .refine fG (fG (cA (bz ao (bV ⟨by show 1<=sizeLine;decide,λp hp=>?_⟩))));have s2:=(al.refl H1).upd (o:=.lst [.str "."]) hp;obtain⟨kq2,fk2,hkq2⟩:=((G.same s1).same s2).kinds D;refine qK (cj (aa rfl) fk2) (eU af hkq2 (by rw[IL];show 1+ks.length<=1000;omega) (λp2 hp2=>?_));have s3:=s2.upd (o:=.lst ([.str "."]++ks.map strV)) hp2;obtain⟨kq3,fk3,hkq3⟩:=((G.same s1).same s3).kinds D;refine du (d:=kq3) (xs:=ks.map strV) (rest:=[]) (cj (aa rfl) fk3) (aM.of hkq3) (by rw[IL,Fq];omega) rfl (λ_=>true) upV (λx hx=>bW) (λx hx _=>?_) (λp3 hp3=>?_)
     .obtain⟨k,hk,rfl⟩:=IR.mp hx;exact aJ (sp:=nj) (ac (aa rfl) (ac ao av)) (λQ q=>⟨k,0,rfl,hl k hk,by rw[E8 rfl];exact q⟩)
     .refine eU (by rw[ar (au af hp3),af]) af ?_ (λp4 hp4=>q _ _ ⟨p4,rfl,?_,(s3.upd hp3).upd hp4⟩)
      .rw[IT,IL,IW.mpr (λ_ _=>rfl),IL,IL];show 1+ks.length+ks.length<=1000;omega
      .rw[af,IW.mpr (λ_ _=>rfl),IQ,IV,IV,IQ,pJ];rfl
    rintro _ H2 ⟨sq,rfl,hsq,s2⟩;show cp _ _ [oR g,oT z,oT (emptyT wi hi hs),oR sq] H2;have hws:∀H',al H2 H'->aM K H' sq ((([46]++ks++ks.map (· - 32)).map one).map V.str):=λH' s=>by rw[IQ];exact aM.of (s _ _ hsq)
    refine qO (rest:=[oR sq]) (ac (aa rfl) (ac (aa rfl) av)) heq hz rfl (λc e=>.bl (eH ks c e)) (λi c e H' hc he s'=>?_) (λH' dq s' hd=>?_)
    .refine λQ q=>qK (pG (bn (ju (aa rfl) ao)) (λ_=>ju (aa rfl) ao) (λ_=>oa (aa rfl) (aa rfl) (.inl (hws H' s')))) ?_;unfold eH at q;rw[mB,hZ (ip (a:=e) (b:=35)),hZ (ip (a:=c) (b:=35))]
     by_cases h35:e=35
     .rw[E8 h35]at q;rw[E5 h35];exact q
     .rw[E7 h35]at q;rw[E6 h35];rw[hZ (p:=one c∈List.map one ([46]++ks++ks.map (· - 32))) (q:=c=46\/c∈ks\/c∈ks.map (· - 32))]
      .exact q
      .constructor
       .intro h;obtain⟨c',h1,h2⟩:=IR.mp h;have e2:=ip.mp h2;subst e2;simpa[or_assoc]using h1
       .intro h;exact IR.mpr ⟨c,by simpa[or_assoc]using h,rfl⟩
    .refine⟨List.zipWith (eH ks) z.cps.toList (emptyT wi hi hs).cps.toList,?_,?_⟩
     .rw[List.map_zipWith];exact aM.of af
     .have k:=q _ (((s1.trans s2).trans s').upd (o:=.lst (List.zipWith (λc e=>V.bl (eH ks c e)) z.cps.toList (emptyT wi hi hs).cps.toList)) hd);unfold rowB at k;dsimp only at k;rw[E5 heq,KO]at k;exact k
  |_=>
   refine bC (fU (b:=false) (bQ (bn hs0)) (λh=>by cases h)) (λ_=>aO ao (q H1 s1)) (λh=>by cases h)
theorem mj{f cB cG:Addr}{fd:Ft}(F:bT K "is_place" "is_place" dX f fd)(T:Txt mg aS aA aE aW aD)(C:CR2 P w K mg E3 cB cG):bo P w K mg E3 dO 6 f fd ["game","thing"] (lT K cB cG):=by
 refine F.ok l5 (λvs H Q E h=>?_) (λcdv A E4 s H vs Q E hr h=>?_)
 .obtain⟨g,b,v,wi,hi,hs,ks,rs,ts,es,st,rfl,_⟩:=h;rfl
 .obtain⟨g,b,v,wi,hi,hs,ks,rs,ts,es,st,rfl,G,O,hl,h6,t,q⟩:=h;have hu:=cC hr;refine⟨_,(am (aB (cy (aK C.is_tuple_of hr (ay (cv 1) (ay ag pa_nil))) (cy (aK C.is_row hr (ay (cv 0) (ay (eN K (cv 1) ag) pa_nil))) (df (aK C.is_among hr (ay (eN K (cv 1) ag) (ay ag (ay ag pa_nil))))))))),?_⟩;show cp _ _ [oR g,some v] H;refine oz (a:=tupB H v 2) (aJ (sp:=fX) (ac (aa rfl) (ac ao av)) (λQ q=>⟨v,2,rfl,t.thg,q⟩)) (λh=>?_) (λh=>?_)
  .unfold tupB at h;cases e1:tupOf H v with
   |none=>rw[e1]at h;cases h
   |some xs=>
    rw[e1]at h;obtain⟨a,rfl,ha⟩:=dP e1;have h:(xs.length:Int)=2:=E9 h;have tx:=t.2 xs (.inl e1)
    match xs,h,e1,ha,tx,q with
    | [x,y],_,e1,ha,tx,q=>
      refine eV (sp:=nu K cB cG) (ac (aa rfl) (ac (bK (aa rfl) ao (.inr (dC.of ha)) (bD (j:=0) rfl)) av)) ⟨g,b,x,wi,hi,hs,ks,rs,ts,es,st,rfl,G,O,hl,h6,tx x (by simp),λH' s'=>?_⟩;have k:=q H' s';rw[jh e1]at k;cases hr2:rowB wi hi hs ks x with
      |false=>
       rw[hr2]at k;exact k
      |true=>
       rw[hr2,KO]at k;simp only[di,if_true];exact eV (sp:=fY) (ac (bK (aa rfl) ao (.inr (dC.of (s' _ _ ha))) (bD (j:=1) rfl)) (ac ao (ac ao av))) ⟨y,0,1,rfl,(tx y (by simp)).thg.same s',k⟩
  .have k:=q H (al.refl H);rw[qh h]at k;exact k
end
section
variable{P:Fn}{w:Fp}{K:Frag}{mg:Fc}{E3:Fw}{aS aA aE aW aD:Addr}
theorem tN{f cB cG:Addr}{fd:Ft}(F:bT K "shown" "shown" gu f fd)(T:Txt mg aS aA aE aW aD)(B:iS K cB)(D:zu K cG)(W:∀H,eJ K H aD ["first","second"]):bo P w K mg E3 dO 1 f fd ["game","place"] (ky K cB cG):=by
 refine F.ok g6 (λvs H Q E h=>?_) (λcdv A E4 s H vs Q E hr h=>?_)
 .obtain⟨g,b,p,z,sd,wi,hi,hs,ks,rs,ts,es,st,rfl,_⟩:=h;rfl
 .obtain⟨g,b,p,z,sd,wi,hi,hs,ks,rs,ts,es,st,rfl,G,O,hp,zl,sd2,k⟩:=h;have hu:=cC hr;have w1:=O.w1;have w8:=O.w8;have h1:=O.h1;have h8:=O.h8;have ew:((wi.toNat:Nat):Int)=wi:=KA (by omega);have m64:wi.toNat*hi.toNat<=8*8:=Kn (by omega) (by omega);refine⟨_,(ae (aF (i:=2) g6.nd rfl (Or.inr rfl) (fC K (fC K (cv 0))))
   (ae (aF (i:=3) g6.nd rfl (Or.inr rfl) (eN K (cv 1) ag))
   (ae (iW (i:=4) rfl (bZ (N:=["start","row","wide"]) (src:=[none,some 3,some 2]) (aj gu) ["game","place","wide","row","lines"]) (qi T.range (ay ag (ay (kB (dI K) bq T.len (ay (cv 3) pa_nil)) (ay (cv 2) pa_nil)))) (λ_ _ _=>(bb (i:=0) ["start","row","wide"])) (λ_ _ _=>bx) (λ_ _ _=>(ie K (cv 1) (aP (cv 0)) (aP (ah (cv 0) (cv 2))))) g6.nd rfl (Or.inl rfl) rfl (Or.inl rfl))
   (am (aB (ah (vY rfl (cv 4) T.list T.reversed) (aY (ay (eN K (kg T.SIDE_WORDS) (eN K (cv 1) ag)) pa_nil)))))))),?_⟩
  show bg _ _ _ [oR g,oR p,none,none,none] H;refine bp (cj (cj (aa rfl) (G.board D)) (O.wide B)) ?_;refine bp (bK (x:=.str z) (aa rfl) ao (.inr hp) rfl) ?_;show bg _ _ _ [oR g,oR p,oJ wi,oT z,none] H;refine bv (λv H'=>∃q,v=.ref q/\H q=none/\H' q=some (.lst ((List.range hi.toNat).map λi=>V.str (jT z wi.toNat i)))/\al H H') (λQ q=>?_) ?_
  .refine qP (m:=hi.toNat) (st:=wi.toNat) (rest:=[oT z,oJ wi]) (ac ao (ac (λQ q=>(eS (aa rfl) (by rw[Fq];omega)) _ ?_) (ac (λQ q=>(show Ev (bu 2) _ _ (.int wi)from aa rfl) _ (by rw[ew]at q;exact q)) av))) (by omega) (by omega) (by omega) rfl (λi=>V.str (jT z wi.toNat i)) (λi hi'=>?_) (λd hd=>q _ _ ⟨d,rfl,hd,af,(al.refl H).upd hd⟩)
   .rw[zl,Ks];rw[KH];exact q
   .have e1:(0+(i:Int)*(wi.toNat:Int))=((i*wi.toNat:Nat):Int):=by rw[KH];omega
    have e2:(0+(i:Int)*(wi.toNat:Int))+wi=((i*wi.toNat+wi.toNat:Nat):Int):=by rw[Int.natCast_add,KH];omega
    have le:(i+1)*wi.toNat<=z.length:=by rw[zl,Ks];exact Ku _ (by omega)
    intro Q q;refine(show Ev (uG K (bu 1) (jB (bu 0)) (jB (iR .Add (bu 0) (bu 2)))) _ _ (.str (jT z wi.toNat i))from λQ q=>(show Ev (bu 1) _ _ (.str z)from aa rfl) _ (bR (aa rfl) _ (bR (bM (aa rfl) (aa rfl)) _ ⟨by rw[Fq];omega,?_⟩))) _ q;rw[e2,e1,uv le];exact q
  rintro _ H1 ⟨q,rfl,nq,eq,s1⟩;show cp _ _ [oR g,oR p,oJ wi,oT z,oR q] H1;refine gM (fG ((show Ev (bu 4) _ _ (.ref q)from aa rfl) _ ⟨_,aM.of eq,λr hr'=>?_⟩));have sa:=(al.refl H1).upd (o:=.lst ((List.range hi.toNat).map λi=>V.str (jT z wi.toNat i)).reverse) hr';have ea:(upd H1 r (.lst ((List.range hi.toNat).map λi=>V.str (jT z wi.toNat i)).reverse)) r=some (.lst ((List.range hi.toNat).map λi=>V.str (jT z wi.toNat i)).reverse):=af;generalize upd H1 r (.lst ((List.range hi.toNat).map λi=>V.str (jT z wi.toNat i)).reverse)=H2 at sa ea ⊢;have s2:=s1.trans sa;have wE:Ev (pN K (tC (.ref aD)) (pN K (bu 1) (tC (.int 1)))) [some (.ref g),some (.ref p),some (.int wi),some (.str z),some (.ref q)] H2 (.str (zY sd)):=by
   refine bK ao (bK (x:=.int sd) (aa rfl) ao (.inr (s2.tupY hp)) rfl) (W H2) ?_
   rcases sd2 with rfl|rfl
   .rfl
   .rfl
  refine cA (bz wE (bV ⟨by show 1<=sizeLine;decide,λt ht=>?_⟩));have sb:=(al.refl H2).upd (o:=.lst [.str (zY sd)]) ht;refine⟨r,t,_,_,rfl,rfl,sb _ _ ea,af,by rw[Jt,IL,Jk,Fq];show _+1<=_;omega,λu hu'=>k _ _ ((s2.trans sb).free hu') ?_ ((s2.trans sb).upd hu')⟩;rw[af,Am];unfold shL;rw[IV];rfl
end
section
variable{P:Fn}{w:Fp}{K:Frag}{mg:Fc}{E3:Fw}{aS aA aE aW aD:Addr}
structure CPo(P:Fn)(w:Fp)(K:Frag)(mg:Fc)(E3:Fw)(cB cG:Addr):Prop where
 is_place:eK P w K mg E3 "is_place" ["game","thing"] 6 (lT K cB cG)
 shown:eK P w K mg E3 "shown" ["game","place"] 1 (ky K cB cG)
theorem mf{f cB cG cN:Addr}{fd:Ft}(F:bT K "place_of" "place_of" dS f fd)(T:Txt mg aS aA aE aW aD)(W:∀H,eJ K H aD ["first","second"])(W2:Br K aD "first" "second")(m_BadPlace:mg "BadPlace"=some (.ref cN))(q_BadPlace:Lj K cN [.type "ValueError",.type "Exception",.type "BaseException",.type "object"] "ValueError.__new__"=true)(C:CPo P w K mg E3 cB cG):bo P w K mg E3 (zw P w) 7 f fd ["game","lines"] (j0 K cB cG cN):=by
 refine F.okX iC (λvs H Q E h=>?_) (λcdv A E4 s H vs Q E hr h=>?_)
 .obtain⟨g,b,hl,ys,wi,hi,hs,ks,rs,ts,es,st,rfl,_⟩:=h;rfl
 .obtain⟨g,b,hl,ys,wi,hi,hs,ks,rs,ts,es,st,rfl,G,O,lt,k6,hy,y30,yl,kQ,kE⟩:=h;have hu:=cC hr;have w1:=O.w1;have w8:=O.w8;have h1:=O.h1;have h8:=O.h8;have mm:=O.many;refine⟨_,(ae (bf (PW.pt (dG (bw (EA K (cv 1))) (cI (bi K hu (eN K (cv 1) (eI ag)) (kg T.SIDE_WORDS))))) (am (l9 PySem.F.excBase_ValueError rfl rfl m_BadPlace q_BadPlace (ay aX pa_nil) iF)) aI)
   (ae (aF (i:=2) iC.nd rfl (Or.inl rfl) (ji (ay (kjr K T.reversed aX (ie K (cv 1) bc (aP (eI ag)))) (ay (A9 (kg T.SIDE_WORDS) (eN K (cv 1) (eI ag))) pa_nil))))
   (ae (bf (PW.pt (dG (bw (aZ (aK C.is_place hr (ay (cv 0) (ay (cv 2) pa_nil))))) (cI (bi K hu (aK C.shown hr (ay (cv 0) (ay (cv 2) pa_nil))) (cv 1))))) (am (l9 PySem.F.excBase_ValueError rfl rfl m_BadPlace q_BadPlace (ay aX pa_nil) iF)) aI)
   (am (aB (cv 2)))))),?_⟩
  show bg _ _ _ [oR g,oR hl,none] H
  by_cases hn:ys=[]
  .refine cx (λb H'=>b=true/\H=H') (λR z=>lN (sQ (yQ ((show Ev (bu 1) _ _ (.ref hl)from aa rfl) _ ⟨false,oH hy (by rw[hn];rfl),jU (z _ _ ⟨rfl,rfl⟩)⟩)))) (λH1 w=>?_) (λH' w=>nomatch w.1);obtain⟨_,rfl⟩:=w;exact⟨by show 1<=sizeLine;decide,kE (λ⟨init,wd,o⟩=>by have:=o.eq;rw[hn]at this;simp at this) _ (al.refl _)⟩
  .obtain⟨init,wd,rfl⟩:∃init wd,ys=init++[wd]:=⟨ys.dropLast,ys.getLast hn,(Kc hn).symm⟩;have il:init.length<=30:=by rw[IT]at y30;omega
   have lastE:∀{σ:St}{H':Hp}{te:TE},al H H'->Ev te σ H' (.ref hl)->Ev (pN K te (v3 (tC (.int 1)))) σ H' (.str wd):=λs e=>bK e (fO ao) (.inl (s.seq hy)) (by
    unfold iK ixN;rw[IL,IT];rw[E7 (by decide),E8 (by simp;omega)];simp;rw[show(-1+((init.length:Int)+1)).toNat=init.length from by omega,JO (by simp)];simp)
   refine cx (λb H'=>b=decide (¬(wd="first"\/wd="second"))/\H=H') (λR z=>lN (sQ (yQ ((show Ev (bu 1) _ _ (.ref hl)from aa rfl) _ ⟨true,oH hy (by simp),ll (A:=R true H) (gR ((lastE (al.refl H) (aa rfl)) _ ((show Ev (tC (.ref aD)) _ _ (.ref aD)from ao) _ ?_)))⟩)))) (λH1 w=>?_) (λH1 w=>?_)
   .refine nP (W H) (z _ _ ⟨?_,rfl⟩)
    by_cases hw:wd="first"\/wd="second"
    .rw[E5 (by simpa using hw),E6 (λw=>w hw)];rfl
    .rw[E6 (by simpa using hw),E5 hw];rfl
   .obtain⟨hb,rfl⟩:=w;have hw:=E9 hb.symm;exact⟨by show 1<=sizeLine;decide,kE (λ⟨init',wd',o⟩=>hw (by have e:=o.eq;have:=o.wd;simp at e;rw[e.2];exact this)) _ (al.refl _)⟩
   .obtain⟨hb,rfl⟩:=w;have hw:wd="first"\/wd="second":=by have:=Fa hb.symm;exact Classical.byContradiction this
    have cutE:dh ((init++[wd]).map V.str) none (some (-1))=init.map V.str:=by
     unfold dh;have e1:HT.sIx ((init++[wd]).map V.str).length 0 none=0:=rfl;have e2:HT.sIx ((init++[wd]).map V.str).length ((init++[wd]).map V.str).length (some (-1))=init.length:=by unfold HT.sIx;show(if(-1:Int)<0 then(-1+(((init++[wd]).map V.str).length:Int)).toNat else min (-1:Int).toNat ((init++[wd]).map V.str).length)=init.length;rw[E8 (by decide),IL,IT];show(-1+((init.length+1:Nat):Int)).toNat=init.length;omega
     rw[e1,e2,IV,JF,Nat.sub_zero,List.take_left' (by simp)]
    have sum30:∀l:List Str,(∀y∈l,y.length<=30)->(l.map (·.length)).sum<=l.length*30:=λl=>by
     induction l with
     |nil=>intro _;simp
     |cons a r ih=>
      intro h;have:=ih (λy hy=>h y (by simp[hy]));have:=h a (by simp);rw[Jh,JK,Jg];omega
    refine bv (λv H'=>∃t,v=.ref t/\H' t=some (.tup [.str (Fx "" init.reverse),.int (jH wd)])/\al H H') (λQ q=>?_) ?_
    .refine tupY (bP ((show Ev (tC (.str "")) _ _ (.str "")from ao) _ (j2 (aa rfl) dc (bR (fO ao)) hy λp hp=>?_)));have sa:=(al.refl H).upd (o:=.lst (dh ((init++[wd]).map V.str) none (some (-1)))) hp;refine⟨init,aM.of (by rw[af,cutE]),?_,?_⟩
     .have:=sum30 init (λy hy'=>yl y (by simp[hy']));have e0:("":Str).length=0:=by decide+kernel
      rw[e0];omega
     .refine bP ((show Ev (tC (.ref aD)) _ _ (.ref aD)from ao) _ ⟨"first","second",W2,(lastE sa (aa rfl)) _ ⟨wd,rfl,hw,Ew ⟨by show 2<=sizeLine;decide,λt ht=>q _ _ ⟨t,rfl,?_,sa.upd ht⟩⟩⟩⟩);rw[af];rfl
    rintro _ H1 ⟨t,rfl,et,s1⟩;show bg _ _ _ [oR g,oR hl,oR t] H1;have jl:(Fx "" init.reverse).length<=900:=by
     rw[bI,gi];have key:∀l:List Str,(∀y∈l,y.length<=30)->((l.map λs:Str=>s.cps.toList).flatten).length<=l.length*30:=λl=>by
      induction l with
      |nil=>intro _;simp
      |cons a r ih=>
       intro h;have h1:=ih (λy hy=>h y (by simp[hy]));have h2:=h a (by simp);rw[bI]at h2;rw[Jh,JJ,IT,Jg];omega
     have:=key init.reverse (λy hy'=>yl y (by simp at hy';simp[hy']));rw[Jt]at this;omega
    have sd01:jH wd=0\/jH wd=1:=by unfold jH;split<;>simp
    have pb:im wi hi hs ks H1 (.ref t)=rowB wi hi hs ks (.str (Fx "" init.reverse)):=by rw[jh (a:=.str (Fx "" init.reverse)) (b:=.int (jH wd)) (by simp only[tupOf,et])];rw[show amongB (.int (jH wd)) 0 1=decide (0<=jH wd/\jH wd<=1)from rfl,E5 (by omega),Bool.and_true]
    have rowIff:rowB wi hi hs ks (.str (Fx "" init.reverse))=true->oB wi hi hs ks (Fx "" init.reverse):=tw;have ew:((wi.toNat:Nat):Int)=wi:=KA (by omega);have eh:((hi.toNat:Nat):Int)=hi:=KA (by omega);have ewh:(wi*hi).toNat=wi.toNat*hi.toNat:=by
     have:wi*hi=((wi.toNat*hi.toNat:Nat):Int):=by rw[KH,ew,eh]
     rw[this];rfl
    refine cx (λb H'=>(b=true->¬∃i' w',lI wi hi hs ks (init++[wd]) i' w')/\(b=false->lI wi hi hs ks (init++[wd]) init wd)/\al H1 H') (λR z=>lN (Bd (ac (aa rfl) (ac (aa rfl) av)) ⟨g,b,.ref t,wi,hi,hs,ks,rs,ts,es,st,rfl,G.same s1,O.same s1,lt,k6,C7 et (by omega),λH2 s2=>?_⟩)) (λH2 w=>?_) (λH2 w=>?_)
    .rw[pb];cases hr':rowB wi hi hs ks (.str (Fx "" init.reverse))with
     |false=>
      refine Di (z _ _ ⟨λ_=>?_,(λw=>nomatch w),s2⟩);rintro⟨i',w',o⟩;have e:=o.eq;have e1:init=i':=by simpa using congrArg List.dropLast e
      subst e1;rw[vh o.row]at hr';cases hr'
     |true=>
      have RK:=rowIff hr';refine Dj (gR (eV (ac (aa rfl) (ac (aa rfl) av)) ⟨g,b,t,Fx "" init.reverse,jH wd,wi,hi,hs,ks.map strV,rs,ts,es,st,rfl,G.same (s1.trans s2),O.same (s1.trans s2),dC.of (s2 _ _ et),by rw[RK.len,ewh],sd01,λq H3 nq eq s3=>(show Ev (bu 1) _ _ (.ref hl)from aa rfl) _ ?_⟩));have s13:=s2.trans s3;refine⟨_,fE (n:=19) (aM.of eq) ((s1.trans s13).seq hy),?_⟩
      by_cases he:shL (Fx "" init.reverse) wi.toNat hi.toNat (jH wd)=init++[wd]
      .rw[E5 he];refine z _ _ ⟨(λw=>nomatch w),λ_=>⟨rfl,?_,hw,?_,RK⟩,s13⟩
       .have:=congrArg List.length he;rw[pe,IT]at this;simpa using this.symm
       .have:=ve (z:=Fx "" init.reverse) (w:=wi.toNat) (h:=hi.toNat) (sd:=jH wd) (by rw[RK.len,ewh]);rw[he,Jq]at this;exact this
      .rw[E6 he];refine z _ _ ⟨λ_=>?_,(λw=>nomatch w),s13⟩;rintro⟨i',w',o⟩;have e:=o.eq;have e1:init=i':=by simpa using congrArg List.dropLast e
       subst e1;exact he (Ak o.len o.all hw)
    .exact⟨by show 1<=sizeLine;decide,kE (w.1 rfl) _ (s1.trans w.2.2)⟩
    .exact aO (aa rfl) (kQ init wd t _ (w.2.1 rfl) (w.2.2 _ _ et) (s1.trans w.2.2))
end
section
variable{P:Fn}{w:Fp}{K:Frag}{mg:Fc}{E3:Fw}{aS aA aE aW aD:Addr}
theorem jR{f D:Addr}{fd:Ft}{b1 b2 b3 b4 b5 b6 b7 b8 b9:Bool}(F:bT K "_law_alone" "_law_alone" db f fd)(T:Txt mg aS aA aE aW aD)(L:AlC mg K D b1 b2 b3 b4 b5 b6 b7 b8 b9):E2 P w K mg E3 1 f fd ["_law_e"] (pd D):=by
 refine F.okN dt (λvs H Q E h=>?_) (λcdv A E4 s H vs Q hr h=>?_)
 .obtain⟨a,rfl,_⟩:=h;rfl
 .obtain⟨a,rfl,ha,k⟩:=h;have hu:=hr.hu;obtain⟨c1,m_BadBoard,i1⟩:=L.f1;obtain⟨c2,m_BadGame,i2⟩:=L.f2;obtain⟨c3,m_BadLine,i3⟩:=L.f3;obtain⟨c4,m_BadPlace,i4⟩:=L.f4;obtain⟨c5,m_NoMove,i5⟩:=L.f5;obtain⟨c6,m_TooWide,i6⟩:=L.f6;obtain⟨c7,m_NoWord,i7⟩:=L.f7;obtain⟨c8,m_Over,i8⟩:=L.f8;obtain⟨c9,m_NothingBack,i9⟩:=L.f9;refine⟨_,(ae (aF (i:=1) dt.nd rfl (Or.inl rfl) (aY (ay (kB (cm K) aU T.isinstance (ay (cv 0) (ay (kg (v:=.ref _) ⟨_,m_BadBoard,rfl⟩) pa_nil))) (ay (kB (cm K) aU T.isinstance (ay (cv 0) (ay (kg (v:=.ref _) ⟨_,m_BadGame,rfl⟩) pa_nil))) (ay (kB (cm K) aU T.isinstance (ay (cv 0) (ay (kg (v:=.ref _) ⟨_,m_BadLine,rfl⟩) pa_nil))) (ay (kB (cm K) aU T.isinstance (ay (cv 0) (ay (kg (v:=.ref _) ⟨_,m_BadPlace,rfl⟩) pa_nil))) pa_nil))))))
   (ae (aF (i:=1) dt.nd rfl (Or.inl rfl) (ah (cv 1) (aY (ay (kB (cm K) aU T.isinstance (ay (cv 0) (ay (kg (v:=.ref _) ⟨_,m_NoMove,rfl⟩) pa_nil))) (ay (kB (cm K) aU T.isinstance (ay (cv 0) (ay (kg (v:=.ref _) ⟨_,m_TooWide,rfl⟩) pa_nil))) (ay (kB (cm K) aU T.isinstance (ay (cv 0) (ay (kg (v:=.ref _) ⟨_,m_NoWord,rfl⟩) pa_nil))) (ay (kB (cm K) aU T.isinstance (ay (cv 0) (ay (kg (v:=.ref _) ⟨_,m_Over,rfl⟩) pa_nil))) pa_nil)))))))
   (ae (aF (i:=1) dt.nd rfl (Or.inl rfl) (ah (cv 1) (aY (ay (kB (cm K) aU T.isinstance (ay (cv 0) (ay (kg (v:=.ref _) ⟨_,m_NothingBack,rfl⟩) pa_nil))) pa_nil))))
   (am (aB (cy (gB K hu (Ba (cv 1) dA) ag) (df (kB (cm K) aU T.isinstance (ay (cv 0) (ay (pw (v:=.ty "ValueError") rfl T.ValueError jX rfl) pa_nil)))))))))),?_⟩
  show bg _ _ _ [oR a,none] H;have is:∀{σ:St}{H':Hp}{te:TE}{c:Addr}{b:Bool},al H H'->Ev te σ H' (.ref a)->K4 K (.ref D) (.ref c)=some b->Ev (cB (EH K) (aV te (aV (tC (.ref c)) ce))) σ H' (.bl b):=λs e i=>n9 (ac e (ac ao av)) pk (s _ _ ha) L.x i;have s0:=al.refl H;refine bv (λv H'=>∃q,v=.ref q/\H' q=some (.lst [.bl b1,.bl b2,.bl b3,.bl b4])/\al H H') (λQ z=>cA (bz (is s0 (aa rfl) i1) (bz (is s0 (aa rfl) i2) (bz (is s0 (aa rfl) i3) (bz (is s0 (aa rfl) i4) (bV ⟨by show 4<=sizeLine;decide,λp hp=>z _ _ ⟨p,rfl,af,s0.upd hp⟩⟩)))))) ?_;rintro _ H1 ⟨q1,rfl,e1,s1⟩;show bg _ _ _ [oR a,oR q1] H1;refine bv (λv H'=>∃q,v=.ref q/\H' q=some (.lst [.bl b1,.bl b2,.bl b3,.bl b4,.bl b5,.bl b6,.bl b7,.bl b8])/\al H H') (λQ z=>fG ((show Ev (bu 1) _ _ (.ref q1)from aa rfl) _ (cA (bz (is s1 (aa rfl) i5) (bz (is s1 (aa rfl) i6) (bz (is s1 (aa rfl) i7) (bz (is s1 (aa rfl) i8) (bV ⟨by show 4<=sizeLine;decide,λp hp=>?_⟩)))))))) ?_
  .have sa:=(al.refl H1).upd (o:=.lst [.bl b5,.bl b6,.bl b7,.bl b8]) hp;exact⟨q1,p,_,_,rfl,rfl,sa _ _ e1,af,by show 8<=sizeLine;decide,λr hr'=>z _ _ ⟨r,rfl,af,(s1.trans sa).upd hr'⟩⟩
  rintro _ H2 ⟨q2,rfl,e2,s2⟩;show bg _ _ _ [oR a,oR q2] H2;refine bv (λv H'=>∃q,v=.ref q/\H' q=some (.lst [.bl b1,.bl b2,.bl b3,.bl b4,.bl b5,.bl b6,.bl b7,.bl b8,.bl b9])/\al H H') (λQ z=>fG ((show Ev (bu 1) _ _ (.ref q2)from aa rfl) _ (cA (bz (is s2 (aa rfl) i9) (bV ⟨by show 1<=sizeLine;decide,λp hp=>?_⟩))))) ?_
  .have sa:=(al.refl H2).upd (o:=.lst [.bl b9]) hp;exact⟨q2,p,_,_,rfl,rfl,sa _ _ e2,af,by show 9<=sizeLine;decide,λr hr'=>z _ _ ⟨r,rfl,af,(s2.trans sa).upd hr'⟩⟩
  rintro _ H3 ⟨q3,rfl,e3,s3⟩;show cp _ _ [oR a,oR q3] H3;have cnt:Ev (DX (bu 1) (tC (.bl true))) [some (.ref a),some (.ref q3)] H3 (.int 1):=λQ z=>(show Ev (bu 1) _ _ (.ref q3)from aa rfl) _ ⟨⟨_,e3⟩,⟨_,e3,rfl,rfl,by rw[L.one];exact z⟩⟩;refine aO (v:=.bl true) (bY (a:=true) (b:=true) (eG (i:=1) (j:=1) cnt ao) (λ_=>n9 (ac (aa rfl) (ac ao av)) An (s3 _ _ ha) L.x L.v)) (k _ s3)
structure CTl(P:Fn)(w:Fp)(K:Frag)(mg:Fc)(E3:Fw)(cB cG cN:Addr):Prop where
 place_of:wa P w K mg E3 "place_of" ["game","lines"] 7 (j0 K cB cG cN)
 _law_alone:Bx P w K mg E3 "_law_alone" ["_law_e"] 1 (pd cN)
theorem la{f cB cG cN cP:Addr}{fd:Ft}(F:bT K "_law_told" "_law_told" dw f fd)(T:Txt mg aS aA aE aW aD)(m_PlayError:mg "PlayError"=some (.ref cP))(m_BadPlace:mg "BadPlace"=some (.ref cN))(x1:Lk K (.ref cN) (.ref cP)=some true)(x2:K4 K (.ref cN) (.ref cN)=some true)(x3:PySem.W.ExcC K cN)(C:CTl P w K mg E3 cB cG cN):bo P w K mg E3 dO 8 f fd ["_law_game","_law_lines_here"] (oQ K cB cG):=by
 refine F.ok g9 (λvs H Q E h=>?_) (λcdv A E4 s H vs Q E hr h=>?_)
 .obtain⟨g,b,hl,ys,wi,hi,hs,ks,rs,ts,es,st,rfl,_⟩:=h;rfl
 .obtain⟨g,b,hl,ys,wi,hi,hs,ks,rs,ts,es,st,rfl,G,O,lt,k6,hy,y30,yl,kQ,kE⟩:=h;have hu:=cC hr;refine⟨_,(am (vm (i:=2) C.place_of hr (λ_ _ z=>z) (ay (cv 0) (ay (cv 1) pa_nil)) m_PlayError g9.nd rfl (λ_=>(am (aB (gf (PW.pt (gc (aZ (kB (cm K) aU T.isinstance (ay (cv 2) (ay (kg (v:=.ref _) ⟨_,m_BadPlace,rfl⟩) pa_nil)))) (eQ (aZ (AR C._law_alone (hr.n _) (ay (cv 2) pa_nil)))))) io aX)))))),?_⟩;refine Ad (σ:=[oR g,oR hl,none]) (ac (aa rfl) (ac (aa rfl) av)) ⟨g,b,hl,ys,wi,hi,hs,ks,rs,ts,es,st,rfl,G,O,lt,k6,hy,y30,yl,kQ,λhno H' s=>⟨x1,λa ha=>?_⟩⟩;have ea:(upd H' a (uU (.ref cN) a)) a=some (uU (.ref cN) a):=af;have sa:=s.upd (o:=uU (.ref cN) a) ha;show cp _ _ [oR g,oR hl,oR a] _;exact gM (sR (n9 (ac (aa rfl) (ac ao av)) pk ea x3 x2) (Bc (ac (aa rfl) av) ⟨a,rfl,ea,λH2 s2=>D0 (ao _ (kE hno _ (sa.trans s2)))⟩))
end
section
variable{P:Fn}{w:Fp}{K:Frag}{mg:Fc}{E3:Fw}{aS aA aE aW aD:Addr}
theorem jO{f:Addr}{fd:Ft}(F:bT K "_law_lines" "_law_lines" cZ f fd)(T:Txt mg aS aA aE aW aD):bo P w K mg E3 dO 1 f fd ["_law_place","_law_wide","_law_high"] (lV K):=by
 refine F.ok dn (λvs H Q E h=>?_) (λcdv A E4 s H vs Q E hr h=>?_)
 .obtain⟨p,z,sd,wi,hi,rfl,_⟩:=h;rfl
 .obtain⟨p,z,sd,wi,hi,rfl,w1,w8,h1,h8,hp,zl,sd2,k⟩:=h;have hu:=cC hr;have ew:((wi.toNat:Nat):Int)=wi:=KA (by omega);have m64:wi.toNat*hi.toNat<=8*8:=Kn (by omega) (by omega);refine⟨_,(ae (aF (i:=3) dn.nd rfl (Or.inl rfl) (aY pa_nil))
   (ae (ik Gk rfl (vJ T.range (ay (cv 2) pa_nil)) (de (i:=4) dn.nd rfl (Or.inl rfl)) (ae (aF (i:=5) dn.nd rfl (Or.inl rfl) (ah (ah (ah (cv 2) ag) (cv 4)) (cv 1)))
   (am (iX (on (cv 3) (ie K (eN K (cv 0) ag) (aP (cv 5)) (aP (ah (cv 5) (cv 1)))))))))
   (am (aB (ah (cv 3) (aY (ay (eN K (aY (ay aX (ay aX pa_nil))) (eN K (cv 0) ag)) pa_nil))))))),?_⟩
  show bg _ _ _ [oR p,oJ wi,oJ hi,none,none,none] H;refine sW λq1 hq1=>?_;have sm:al H (upd H q1 (.lst [])):=(al.refl H).upd hq1;refine dm (λσ' H'=>(∃o4 o5,σ'=[oR p,oJ wi,oJ hi,oR q1,o4,o5])/\H' q1=some (.lst (((List.range hi.toNat).map λk=>jT z wi.toNat (hi.toNat - 1 - k)).map V.str))/\al H H') (λK' hK=>?_) ?_
  .refine mE hi (λQ q=>(ac (aa rfl) av) _ q) (by omega) (by omega)
    (λi σ' H'=>(∃o4 o5,σ'=[oR p,oJ wi,oJ hi,oR q1,o4,o5])/\H' q1=some (.lst (((List.range i).map λk=>jT z wi.toNat (hi.toNat - 1 - k)).map V.str))/\al H H')
    ⟨⟨_,_,rfl⟩,af,sm⟩ ?_ (λσ' H' h=>hK _ _ h)
   rintro i _ H3 hi' ⟨⟨o4,o5,rfl⟩,h3,s3⟩;show bg _ _ _ [oR p,oJ wi,oJ hi,oR q1,oJ (0+(i:Int)),o5] H3;have eb:(hi - 1 - (0+(i:Int)))*wi=(((hi.toNat - 1 - i)*wi.toNat:Nat):Int):=by rw[KH,ew];congr 1;omega
   have be:(hi - 1 - (0+(i:Int)))*wi+wi=(((hi.toNat - 1 - i)*wi.toNat+wi.toNat:Nat):Int):=by rw[eb,Int.natCast_add,ew]
   have le:(hi.toNat - 1 - i+1)*wi.toNat<=z.length:=by rw[zl,Ks];exact Ku _ (by omega)
   refine bp (dE (js (js (aa rfl) ao) (aa rfl)) (aa rfl) (.inl ⟨by omega,by omega⟩)) ?_;show lO _ _ [oR p,oJ wi,oJ hi,oR q1,oJ (0+(i:Int)),oJ ((hi - 1 - (0+(i:Int)))*wi)] H3;refine oP (y:=.str (jT z wi.toNat (hi.toNat - 1 - i))) (aa rfl) (λQ q=>(bK (x:=.str z) (aa rfl) ao (.inr (s3.tupY hp)) rfl) _ (bR (aa rfl) _ (bR (bM (aa rfl) (aa rfl)) _ ⟨by rw[Fq];omega,?_⟩))) h3 (by rw[IL,IL,Jk,Fq];omega) ⟨⟨_,_,rfl⟩,?_,s3.put hq1⟩
   .rw[be,eb,uv le];exact q
   .rw[af,Jy,IV,IV];rfl
  rintro _ H3 ⟨⟨o4,o5,rfl⟩,h3,s3⟩;show cp _ _ [oR p,oJ wi,oJ hi,oR q1,o4,o5] H3;refine gM (fG ((show Ev (bu 3) _ _ (.ref q1)from aa rfl) _ (cA (bP (nU (i:=sd) (v:=.str (zY sd)) mS (by decide) (λH' s'=>bK (x:=.int sd) (aa rfl) ao (.inr ((s3.trans s').tupY hp)) rfl) ?_ (λH4 s4=>bV ⟨by show 1<=sizeLine;decide,λt ht=>?_⟩))))))
  .rcases sd2 with rfl|rfl
   .rfl
   .rfl
  have sb:=(al.refl H4).upd (o:=.lst [.str (zY sd)]) ht;have s2:=(s3.trans s4).trans sb;refine⟨q1,t,_,_,rfl,rfl,(s4.trans sb) _ _ h3,af,by rw[IL,IL,Jk,Fq];show _+1<=_;omega,λu hu'=>k _ _ (s2.free hu') ?_ (s2.upd hu')⟩;rw[af];unfold shL;rw[IV];rfl
end
section
variable{P:Fn}{w:Fp}{K:Frag}{mg:Fc}{E3:Fw}{aS aA aE aW aD:Addr}
theorem gg{f:Addr}{fd:Ft}(F:bT K "_law_line_changed" "_law_line_changed" bB f fd)(T:Txt mg aS aA aE aW aD):bo P w K mg E3 dO 1 f fd ["_law_lines_here","_law_cell","_law_kinds_here"] (pa K):=by
 refine F.ok aQ (λvs H Q E h=>?_) (λcdv A E4 s H vs Q E hr h=>?_)
 .obtain⟨d,kq,c,ys,ks,rfl,_⟩:=h;rfl
 .obtain⟨d,kq,c,ys,ks,rfl,hd,hk,lt,k6,y2,y9,yl,k⟩:=h;have hu:=cC hr;have yl0:0<((ys.map V.str).length:Int):=by rw[IL];omega
  refine⟨_,(ae (aF (i:=3) aQ.nd rfl (Or.inl rfl) (ah (ah (cv 1) ag) (kB (dI K) bq T.len (ay (cv 0) pa_nil))))
   (ae (aF (i:=4) aQ.nd rfl (Or.inl rfl) (eN K (cv 0) (cv 3)))
   (ae (aF (i:=5) aQ.nd rfl (Or.inl rfl) (ah (ah (cv 1) ag) (ah (kB (dI K) bq T.len (ay (cv 4) pa_nil)) ag)))
   (ae (aF (i:=6) aQ.nd rfl (Or.inl rfl) (ah (ah (ah aX (Ef PySem.F.slot_str_join PySem.F.type_str_join (pA K) aX (ay (cv 2) pa_nil))) (lx PySem.F.slot_str_upper PySem.F.type_str_upper li (Ef PySem.F.slot_str_join PySem.F.type_str_join (pA K) aX (ay (cv 2) pa_nil)))) aX))
   (ae (aF (i:=7) aQ.nd rfl (Or.inl rfl) (eN K (cv 6) (ah (ah (cv 1) ag) (kB (dI K) bq T.len (ay (cv 6) pa_nil)))))
   (ae (aF (i:=4) aQ.nd rfl (Or.inl rfl) (aY (ay (ah (ah (ie K (cv 4) bc (aP (cv 5))) (cv 7)) (ie K (cv 4) (aP (cv 5)) bc)) (ay (ah (ie K (cv 4) bc (aP (cv 5))) (ie K (cv 4) (aP (ah (cv 5) ag)) bc)) (ay (ah (ah (ie K (cv 4) bc (aP (cv 5))) (cv 7)) (ie K (cv 4) (aP (ah (cv 5) ag)) bc)) pa_nil)))))
   (ae (aF (i:=4) aQ.nd rfl (Or.inl rfl) (eN K (cv 4) (ah (ah (cv 1) ag) ag)))
   (am (aB (ah (ah (ie K (cv 0) bc (aP (cv 3))) (aY (ay (cv 4) pa_nil))) (ie K (cv 0) (aP (ah (cv 3) ag)) bc))))))))))),?_⟩
  show bg _ _ _ [oR d,oJ c,oR kq,none,none,none,none,none] H;refine bp (bd (bL (aa rfl) ao ⟨by decide,by decide⟩) (cK (aa rfl) (.inl (aM.of hd))) yl0) ?_;have a0:0<=c / 8 % ((ys.map V.str).length:Int):=KC _ (by omega);have a1:c / 8 % ((ys.map V.str).length:Int)<ys.length:=by
   have:=KD (c / 8) yl0
   rwa[IL]at this ⊢
  generalize c / 8 % ((ys.map V.str).length:Int)=i at a0 a1 ⊢;obtain⟨y,ey,hy⟩:=j3 (ss:=ys) a0 a1;have y8:=yl y hy;refine bp (bK (x:=.str y) (aa rfl) (aa rfl) (.inl (aM.of hd)) ey) ?_;show bg _ _ _ [oR d,oJ c,oR kq,oJ i,oT y,none,none,none] H;refine bp (bd (bL (aa rfl) ao ⟨by decide,by decide⟩) (bM (eS (aa rfl) (by rw[Fq];omega)) ao) (by omega)) ?_;generalize c / 64 % ((y.length:Int)+1)=pl;show bg _ _ _ [oR d,oJ c,oR kq,oJ i,oT y,oJ pl,none,none] H;have l1:(".#":Str).length=2:=by decide+kernel
  have l2:(⟨ks.toArray⟩:Str).length=ks.length:=by show ks.toArray.size=_;simp
  have l3:(⟨(⟨ks.toArray⟩:Str).cps.map PyProof.Rows.up1⟩:Str).length=ks.length:=by show(ks.toArray.map PyProof.Rows.up1).size=_;simp
  have l4:("Qz 1first":Str).length=9:=by decide+kernel
  have jE:=uo (K:=K) (σ:=[oR d,oJ c,oR kq,oJ i,oT y,oJ pl,none,none]) (H:=H) (ta:=tC (.str "")) (tb:=bu 2) ao (aa rfl) hk (by omega);refine bv (λv H'=>∃sg:Str,v=.str sg/\1<=sg.length/\sg.length<=100/\H=H') (λQ q=>(hV (hV (hV ao jE (by rw[Fq,l1,l2];omega)) (A1 jE (by omega) (λx hx=>by have:=lt x (by simpa using hx);unfold mY at this;omega)) (by rw[Fq,ck,l1,l2,l3];omega)) ao (by rw[Fq,ck,ck,l1,l2,l3,l4];omega)) _ (q _ _ ⟨_,rfl,?_,?_,rfl⟩)) ?_
  .rw[ck,ck,ck,l1,l2,l3,l4];omega
  .rw[ck,ck,ck,l1,l2,l3,l4];omega
  rintro _ _ ⟨sg,rfl,g1,g2,rfl⟩;show bg _ _ _ [oR d,oJ c,oR kq,oJ i,oT y,oJ pl,oT sg,none] H;have b0:0<=c / 1024 % (sg.length:Int):=KC _ (by omega);have b1:c / 1024 % (sg.length:Int)<sg.length:=KD _ (by omega);have hlt:(c / 1024 % (sg.length:Int)).toNat<sg.cps.toList.length:=by rw[<-bI];omega
  have eq:=bD (IP hlt);rw[KA b0]at eq;refine bp (lr (aa rfl) (bd (bL (aa rfl) ao ⟨by decide,by decide⟩) (eS (aa rfl) (by rw[Fq];omega)) (by omega)) (by rw[Fq];omega) eq) ?_;generalize sg.cps.toList[(c / 1024 % (sg.length:Int)).toNat]=ch;show bg _ _ _ [oR d,oJ c,oR kq,oJ i,oT y,oJ pl,oT sg,oT (⟨#[ch]⟩)] H;have p1:∀H',oE (uG K (bu 4) gY (jB (bu 5))) [some (.ref d),some (.int c),some (.ref kq),some (.int i),some (.str y),some (.int pl),some (.str sg),some (.str ⟨#[ch]⟩)] H' 8:=λH'=>jv (aa rfl) dc (bR (aa rfl)) y8 (by decide);have p2:∀H',oE (bu 7) [some (.ref d),some (.int c),some (.ref kq),some (.int i),some (.str y),some (.int pl),some (.str sg),some (.str ⟨#[ch]⟩)] H' 1:=λH'=>ls (aa rfl) (Kd 1);have p3:∀H',oE (uG K (bu 4) (jB (bu 5)) gY) [some (.ref d),some (.int c),some (.ref kq),some (.int i),some (.str y),some (.int pl),some (.str sg),some (.str ⟨#[ch]⟩)] H' 8:=λH'=>jv (aa rfl) (bR (aa rfl)) dc y8 (by decide);have p4:∀H',oE (uG K (bu 4) (jB (iR .Add (bu 5) (tC (.int 1)))) gY) [some (.ref d),some (.int c),some (.ref kq),some (.int i),some (.str y),some (.int pl),some (.str sg),some (.str ⟨#[ch]⟩)] H' 8:=λH'=>jv (aa rfl) (bR (bM (aa rfl) ao)) dc y8 (by decide);refine bv (λv H'=>∃(q:Addr)(zs:List Str),v=.ref q/\H' q=some (.lst (zs.map V.str))/\zs.length=3/\(∀z∈zs,z.length<=30)/\al H H') (λQ q=>cA (bP ((gw (gw (p1 H) (λH1 _=>p2 H1) (by decide)) (λH1 _=>p3 H1) (by decide)) _ λz1 H1 r1 s1=>bP ((gw (p1 H1) (λH1 _=>p4 H1) (by decide)) _ λz2 H2 r2 s2=>bP ((gw (gw (p1 H2) (λH1 _=>p2 H1) (by decide)) (λH1 _=>p4 H1) (by decide)) _ λz3 H3 r3 s3=>bV ⟨by show 3<=sizeLine;decide,λp hp=>q _ _ ⟨p,[z1,z2,z3],rfl,af,rfl,λz hz=>?_,((s1.trans s2).trans s3).upd hp⟩⟩))))) ?_
  .rcases IN.mp hz with rfl|hz
   .omega
   .rcases IN.mp hz with rfl|hz
    .omega
    .rw[IS.mp hz];omega
  rintro _ H1 ⟨q1,zs,rfl,hq,z3,z30,s1⟩;show bg _ _ _ [oR d,oJ c,oR kq,oJ i,oR q1,oJ pl,oT sg,oT (⟨#[ch]⟩)] H1;obtain⟨y',ey',hy'⟩:=j3 (ss:=zs) (i:=c / 512 % 3) (by omega) (by rw[z3];show _<(3:Int);omega);refine bp (bK (x:=.str y') (aa rfl) (bd (bL (aa rfl) ao ⟨by decide,by decide⟩) ao (by decide)) (.inl (aM.of hq)) ey') ?_;show cp _ _ [oR d,oJ c,oR kq,oJ i,oT y',oJ pl,oT sg,oT (⟨#[ch]⟩)] H1;have y30:∀y∈ys,y.length<=30:=λy hy=>Kg (yl y hy) (by decide);exact gM ((dL (dL (dF (aa rfl) dc (bR (aa rfl)) (s1 _ _ hd) y30) (λH2 _=>pI (ls (aa rfl) (z30 _ hy'))) (by omega)) (λH2 s2=>dF (aa rfl) (bR (bM (aa rfl) ao)) dc (s2 _ _ (s1 _ _ hd)) y30) (by omega)) _ λq zs H2 hq zn zm s2=>k q zs H2 hq (by omega) zm (s1.trans s2))
structure CCh(P:Fn)(w:Fp)(K:Frag)(mg:Fc)(E3:Fw):Prop where
 _law_line_changed:eK P w K mg E3 "_law_line_changed" ["_law_lines_here","_law_cell","_law_kinds_here"] 1 (pa K)
theorem iO{f:Addr}{fd:Ft}(F:bT K "_law_changed" "_law_changed" cg f fd)(T:Txt mg aS aA aE aW aD)(C:CCh P w K mg E3):bo P w K mg E3 dO 2 f fd ["_law_lines_here","_law_cell","_law_kinds_here"] (pa K):=by
 refine F.ok cE (λvs H Q E h=>?_) (λcdv A E4 s H vs Q E hr h=>?_)
 .obtain⟨d,kq,c,ys,ks,rfl,_⟩:=h;rfl
 .obtain⟨d,kq,c,ys,ks,rfl,hd,hk,lt,k6,y2,y9,yl,k⟩:=h;have hu:=cC hr;have yl0:0<((ys.map V.str).length:Int):=by rw[IL];omega
  refine⟨_,(ae (aF (i:=3) cE.nd rfl (Or.inl rfl) (ah (cv 1) ag))
   (ae (aF (i:=4) cE.nd rfl (Or.inl rfl) (ah (ah (cv 1) ag) (kB (dI K) bq T.len (ay (cv 0) pa_nil))))
   (ae (bf (bi K hu (cv 3) ag) (am (aB (ah (ie K (cv 0) bc (aP (cv 4))) (ie K (cv 0) (aP (ah (cv 4) ag)) bc)))) aI)
   (ae (bf (bi K hu (cv 3) ag) (am (aB (ah (ah (ie K (cv 0) bc (aP (cv 4))) (ie K (cv 0) (aP (cv 4)) (aP (ah (cv 4) ag)))) (ie K (cv 0) (aP (cv 4)) bc)))) aI)
   (ae (bf (bi K hu (cv 3) ag) (am (aB (ah (ie K (cv 0) (aP (cv 4)) bc) (ie K (cv 0) bc (aP (cv 4)))))) aI)
   (ae (bf (bi K hu (cv 3) ag) (am (aB (ah (ie K (cv 0) bc (aP (eI ag))) (aY (ay (eN K (aY (gv rfl)) (ah (ah (cv 1) ag) ag)) pa_nil))))) aI)
   (ae (bf (PW.pt (gc (bi K hu (cv 3) ag) (eQ (bi K hu (ah (ah (cv 1) ag) ag) ag)))) (am (aB (aY pa_nil))) aI)
   (ae (bf (PW.pt (gc (bi K hu (cv 3) ag) (eQ (bi K hu (kB (dI K) bq T.len (ay (cv 0) pa_nil)) ag)))) (ae (aF (i:=4) cE.nd rfl (Or.inl rfl) (ah (ah (cv 1) ag) (ah (kB (dI K) bq T.len (ay (cv 0) pa_nil)) ag)))
   (am (aB (ah (ah (ie K (cv 0) bc (aP (cv 4))) (aY (ay (ie K (eN K (cv 0) (cv 4)) bc (aP (eI ag))) (ay (ah (ie K (eN K (cv 0) (cv 4)) (aP (eI ag)) bc) (eN K (cv 0) (ah (cv 4) ag))) pa_nil)))) (ie K (cv 0) (aP (ah (cv 4) ag)) bc))))) aI)
   (ae (bf (bi K hu (cv 3) ag) (am (aB (cv 0))) aI)
   (am (aB (aK C._law_line_changed hr (ay (cv 0) (ay (cv 1) (ay (cv 2) pa_nil))))))))))))))),?_⟩
  show bg _ _ _ [oR d,oJ c,oR kq,none,none] H;refine bp (bd (aa rfl) ao (by decide)) ?_;generalize c % 8=kd;refine bp (bd (bL (aa rfl) ao ⟨by decide,by decide⟩) (cK (aa rfl) (.inl (aM.of hd))) yl0) ?_;generalize c / 8 % ((ys.map V.str).length:Int)=i;show bg _ _ _ [oR d,oJ c,oR kq,oJ kd,oJ i] H;have fin:∀{te:TE}{σ:St}{D:cD}{n m:Nat},D.rt=Q->zv te σ H n m->n<=30->m<=30->cp te D σ H:=λe h hn hm=>gM (h _ λq zs H' hq zn zm s=>by rw[e];exact k q zs H' hq (by omega) (λy hy=>Kg (zm y hy) hm) s);refine bC (bn (eG (aa rfl) ao)) (λ_=>fin rfl (dL (dF (aa rfl) dc (bR (aa rfl)) hd yl) (λH1 s1=>dF (aa rfl) (bR (bM (aa rfl) ao)) dc (s1 _ _ hd) yl) (by omega)) (by omega) (by omega)) (λ_=>?_);refine bC (bn (eG (aa rfl) ao)) (λ_=>fin rfl (dL (dL (dF (aa rfl) dc (bR (aa rfl)) hd yl) (λH1 s1=>dF (aa rfl) (bR (aa rfl)) (bR (bM (aa rfl) ao)) (s1 _ _ hd) yl) (by omega)) (λH1 s1=>dF (aa rfl) (bR (aa rfl)) dc (s1 _ _ hd) yl) (by omega)) (by omega) (by omega)) (λ_=>?_);refine bC (bn (eG (aa rfl) ao)) (λ_=>fin rfl (dL (dF (aa rfl) (bR (aa rfl)) dc hd yl) (λH1 s1=>dF (aa rfl) dc (bR (aa rfl)) (s1 _ _ hd) yl) (by omega)) (by omega) (by omega)) (λ_=>?_);refine bC (bn (eG (aa rfl) ao)) (λ_=>fin rfl (dL (dF (aa rfl) dc (bR (fO ao)) hd yl) (λH1 s1=>pI (ut (ss:=["first","second","First","","third","0","second ","firs"]) (by decide) (λH' _=>bd (bL (aa rfl) ao ⟨by decide,by decide⟩) ao (by decide)) (KC _ (by decide)) (KD _ (by decide)) (by decide+kernel))) (by omega)) (by omega) (by omega)) (λ_=>?_);refine bC (fV (bn (eG (aa rfl) ao)) (λ_=>(bn (eG (bd (bL (aa rfl) ao ⟨by decide,by decide⟩) ao (by decide)) ao)))) (λ_=>fin rfl (vX (m:=0)) (by omega) (by omega)) (λ_=>?_);refine bC (fV (bn (eG (aa rfl) ao)) (λ_=>(bn (zk (cK (aa rfl) (.inl (aM.of hd))) ao)))) (λh=>?_) (λ_=>?_)
  .rw[KJ]at h;have h2:=E9 h.2;have h3:=h2;rw[IL]at h2;have z0:0<((ys.map V.str).length:Int) - 2:=by omega
   refine bp (bd (bL (aa rfl) ao ⟨by decide,by decide⟩) (js (cK (aa rfl) (.inl (aM.of hd))) ao) z0) ?_;have a0:0<=c / 8 % (((ys.map V.str).length:Int) - 2):=KC _ (by omega);have a1:c / 8 % (((ys.map V.str).length:Int) - 2)<(ys.length:Int) - 2:=by
    have:=KD (c / 8) z0
    rwa[IL]at this ⊢
   generalize c / 8 % (((ys.map V.str).length:Int) - 2)=j at a0 a1 ⊢;show cp _ _ [oR d,oJ c,oR kq,oJ kd,oJ j] H;obtain⟨y,ey,hy⟩:=j3 (ss:=ys) a0 (by omega);obtain⟨y',ey',hy'⟩:=j3 (ss:=ys) (i:=j+1) (by omega) (by omega);have yl16:∀y∈ys,y.length<=16:=λy hy=>Kg (yl y hy) (by decide);have ye:∀H1,al H H1->Ev (pN K (bu 0) (bu 4)) [some (.ref d),some (.int c),some (.ref kq),some (.int kd),some (.int j)] H1 (.str y):=λH1 s1=>bK (aa rfl) (aa rfl) (.inl (aM.of (s1 _ _ hd))) ey;exact fin rfl (dL (dL (dF (aa rfl) dc (bR (aa rfl)) hd yl16) (λH1 s1=>vW (A6 (jv (ye H1 s1) dc (bR (fO ao)) (yl y hy) (by decide)) (by decide)) (λH2 s2=>gw (jv (ye H2 (s1.trans s2)) (bR (fO ao)) dc (yl y hy) (by decide)) (λH3 s3=>ls (bK (x:=.str y') (aa rfl) (bM (aa rfl) ao) (.inl (aM.of (((s1.trans s2).trans s3) _ _ hd))) ey') (yl y' hy')) (by decide))) (by omega)) (λH1 s1=>dF (aa rfl) (bR (bM (aa rfl) ao)) dc (s1 _ _ hd) yl16) (by omega)) (by omega) (by omega)
  .refine bC (bn (zk (aa rfl) ao)) (λ_=>aO (aa rfl) (k d ys H hd (by omega) (λy hy=>Kg (yl y hy) (by decide)) (al.refl H))) (λ_=>?_);exact gM (eV (ac (aa rfl) (ac (aa rfl) (ac (aa rfl) av))) ⟨d,kq,c,ys,ks,rfl,hd,hk,lt,k6,y2,y9,yl,k⟩)
end
section
variable{P:Fn}{w:Fp}{K:Frag}{mg:Fc}{E3:Fw}{aS aA aE aW aD:Addr}
theorem lc{f:Addr}{fd:Ft}(F:bT K "_law_read" "_law_read" cS f fd)(T:Txt mg aS aA aE aW aD):bo P w K mg E3 dO 1 f fd ["_law_lines_here","_law_wide","_law_high","_law_holes","_law_kinds_here"] (oV K):=by
 refine F.ok cr (λvs H Q E h=>?_) (λcdv A E4 s H vs Q E hr h=>?_)
 .obtain⟨d,hq,kq,wi,hi,ys,hs,ks,rfl,_⟩:=h;rfl
 .obtain⟨d,hq,kq,wi,hi,ys,hs,ks,rfl,hd,hh,hk,lt,k6,w1,w8,h1,h8,y30,yl,kY,kN⟩:=h;have hu:=cC hr;have m1:wi*hi<=8*8:=KB w8 h8 (by omega) (by omega);have m0:1*1<=wi*hi:=KB w1 h1 (by omega) (by omega);have ew:((wi.toNat:Nat):Int)=wi:=KA (by omega);have eh:((hi.toNat:Nat):Int)=hi:=KA (by omega);have ewh:(wi*hi).toNat=hi.toNat*wi.toNat:=by
   have:wi*hi=((hi.toNat*wi.toNat:Nat):Int):=by rw[KH,ew,eh,Int.mul_comm]
   rw[this];rfl
  refine⟨_,(ae (bf (PW.pt (dG (bi K hu (kB (dI K) bq T.len (ay (cv 0) pa_nil)) (ah (cv 2) ag)) (cI (bi K hu (eN K (cv 0) (eI ag)) (aY (ay aX (ay aX pa_nil))))))) (am (aB io)) aI)
   (ae (aF (i:=5) cr.nd rfl (Or.inl rfl) aX)
   (ae (ik Gk rfl (qy K (ie K (cv 0) bc (aP (eI ag)))) (de (i:=6) cr.nd rfl (Or.inl rfl)) (ae (bf (bi K hu (kB (dI K) bq T.len (ay (cv 6) pa_nil)) (cv 1)) (am (aB io)) aI)
   (am (aF (i:=5) cr.nd rfl (Or.inl rfl) (ah (cv 6) (cv 5))))))
   (ae (aF (i:=7) cr.nd rfl (Or.inl rfl) (ah (ah (cv 4) (eF (bZ (N:=["_law_kind"]) (src:=[none]) (aj cS) ["_law_lines_here","_law_wide","_law_high","_law_holes","_law_kinds_here","_law_row_here","_law_one","_law_pieces","_law_square"]) (qy K (cv 4)) (λ_ _ _=>(bb (i:=0) ["_law_kind"])) (λ_ _ _=>bx) (λ_ _ _=>(lx PySem.F.slot_str_upper PySem.F.type_str_upper li (cv 0))))) (aY (ay aX pa_nil))))
   (ae (ik Gk rfl (vJ T.range (ay (ah (cv 1) (cv 2)) pa_nil)) (de (i:=8) cr.nd rfl (Or.inl rfl)) (am (bf (PW.pt (dG (PW.pt (gc (bi K hu (cv 8) (cv 3)) (eQ (bi K hu (eN K (cv 5) (cv 8)) aX)))) (cI (PW.pt (gc (bi K hu (cv 8) (cv 3)) (eQ (bi K hu (eN K (cv 5) (cv 8)) (cv 7)))))))) (am (aB io)) aI)))
   (am (aB (ji (ay (cv 5) (ay (qC ki lE T.int (ay (gB K hu (eN K (cv 0) (eI ag)) aX) pa_nil)) pa_nil)))))))))),?_⟩
  show bg _ _ _ [oR d,oJ wi,oJ hi,oR hq,oR kq,none,none,none,none] H;have lenE:=mH (K:=K) (cK (K:=K) (to:=bu 0) (σ:=[oR d,oJ wi,oJ hi,oR hq,oR kq,none,none,none,none]) (H:=H) (aa rfl) (.inl (aM.of hd))) (bM (ta:=bu 2) (aa rfl) (ao (x:=.int 1)));rw[IL]at lenE
  by_cases hl:(ys.length:Int)=hi+1
  .rw[E5 hl]at lenE;have hn:ys≠[]:=λe=>by rw[e]at hl;simp at hl;omega
   obtain⟨init,wd,rfl⟩:∃init wd,ys=init++[wd]:=⟨ys.dropLast,ys.getLast hn,(Kc hn).symm⟩;have il:init.length=hi.toNat:=by rw[IT]at hl;simp at hl;omega
   have lastE:∀{σ:St}{H':Hp}{te:TE},al H H'->Ev te σ H' (.ref d)->Ev (pN K te (v3 (tC (.int 1)))) σ H' (.str wd):=λs e=>bK e (fO ao) (.inl (aM.of (s _ _ hd))) v8;refine cx (λb H'=>b= !decide (wd∈(["first","second"]:List Str))/\al H H') (λR z=>oI (bn lenE) (gR ((lastE (al.refl H) (aa rfl)) _ (cA (bz ao (bz ao (bV ⟨by show 2<=sizeLine;decide,λp hp=>nP (ws:=["first","second"]) (.inl (aM.of af)) (z _ _ ⟨rfl,(al.refl H).upd hp⟩)⟩))))))) (λH1 w=>?_) (λH1 w=>?_)
   .obtain⟨hb,s1⟩:=w;refine aO ao (kN (λ⟨init',wd',o⟩=>?_) _ s1);have e:=o.eq;have e2:wd=wd':=by simpa using congrArg List.getLast? e
    subst e2;rw[E5 (by rcases o.wd with z|z<;>simp[z])]at hb
    cases hb
   .obtain⟨hb,s1⟩:=w;have hw:wd="first"\/wd="second":=by
     by_cases z:wd∈(["first","second"]:List Str)
     .simpa using z
     .rw[E6 z]at hb;cases hb
    refine bp ao ?_;show bg _ _ _ [oR d,oJ wi,oJ hi,oR hq,oR kq,oT (""),none,none,none] H1;have no:∀y∈init,¬y.length=wi.toNat->¬∃i' w',lI wi hi hs ks (init++[wd]) i' w':=λy hy hne ⟨i',w',o⟩=>by have e:=congrArg List.dropLast o.eq;rw[Jq,Jq]at e;subst e;exact hne (o.all y hy)
    refine dm (λσ' H'=>(∃o6,σ'=[oR d,oJ wi,oJ hi,oR hq,oR kq,oT (Fx "" init.reverse),o6,none,none])/\(∀y∈init,y.length=wi.toNat)/\al H H') (λK' hK=>?_) ?_
    .refine mF (λv H'=>∃p,v=.ref p/\H' p=some (.lst (init.map V.str))/\al H1 H') (λQ q=>j2 (aa rfl) dc (bR (fO ao)) (aM.of (s1 _ _ hd)) λp hp=>q _ _ ⟨p,rfl,by rw[af];exact congrArg (λz=>some (HO.lst z)) uw,(al.refl _).upd hp⟩) ?_;rintro _ H2 ⟨p,rfl,ep,s2⟩;refine⟨p,init.map V.str,rfl,aM.of ep,λi σ' H'=>(∃o6,σ'=[oR d,oJ wi,oJ hi,oR hq,oR kq,oT (Fx "" (init.take i).reverse),o6,none,none])/\(∀y∈init.take i,y.length=wi.toNat)/\al H2 H',⟨⟨_,rfl⟩,(λy hy=>by simp at hy),al.refl _⟩,λi σ H' _ h=>aM.of (h.2.2 _ _ ep),?_,?_⟩
     .rintro i x _ H3 hx ⟨⟨o6,rfl⟩,ha,s3⟩;rw[IU]at hx;cases hy:init[i]? with
      |none=>rw[hy]at hx;cases hx
      |some y=>
       rw[hy]at hx;cases hx;show bg _ _ _ [oR d,oJ wi,oJ hi,oR hq,oR kq,oT (Fx "" (init.take i).reverse),oT y,none,none] H3;have ym:y∈init:=Jm hy;have y3:=yl y (JB _ ym);have jl:(Fx "" (init.take i).reverse).length=(init.take i).length*wi.toNat:=by rw[ms (w:=wi.toNat) (λy hy=>ha y (by simpa using hy)),Jt]
       have jb:(init.take i).length*wi.toNat<=8*8:=Kn (by rw[IX];omega) (by omega);refine bC (bn (mH (eS (aa rfl) (by rw[Fq];omega)) (aa rfl))) (λh=>?_) (λh=>?_)
       .refine aO ao (kN (no y ym λe=>?_) _ ((s1.trans s2).trans s3));rw[E5 (by rw[e];exact ew)]at h;cases h
       .have hyw:y.length=wi.toNat:=by
         by_cases e:(y.length:Int)=wi
         .omega
         .rw[E6 e]at h;cases h
        have et:init.take (i+1)=init.take i++[y]:=by rw[JW,hy];rfl
        refine oM (hV (aa rfl) (aa rfl) (by rw[jl,Fq];omega)) ⟨⟨some (.str y),?_⟩,?_,s3⟩
        .rw[et,qD];rfl
        .rw[et];intro z hz
         rcases Jf.mp hz with hz|hz
         .exact ha z hz
         .rw[IS.mp hz];exact hyw
     .rintro σ' H3 ⟨o,ha,s3⟩;rw[IL,List.take_length]at o ha;exact hK _ _ ⟨o,ha,(s1.trans s2).trans s3⟩
    rintro _ H3 ⟨⟨o6,rfl⟩,ha,s3⟩;have jl:(Fx "" init.reverse).length=hi.toNat*wi.toNat:=by rw[ms (w:=wi.toNat) (λy hy=>ha y (by simpa using hy)),Jt,il]
    have okl:oB wi hi hs ks (Fx "" init.reverse)->lI wi hi hs ks (init++[wd]) init wd:=λr=>⟨rfl,il,hw,ha,r⟩;have nok:¬oB wi hi hs ks (Fx "" init.reverse)->¬∃i' w',lI wi hi hs ks (init++[wd]) i' w':=λhn ⟨i',w',o⟩=>by have e:=congrArg List.dropLast o.eq;rw[Jq,Jq]at e;subst e;exact hn o.row
    generalize hzj:Fx "" init.reverse=z at jl okl nok ⊢;show bg _ _ _ [oR d,oJ wi,oJ hi,oR hq,oR kq,oT z,o6,none,none] H3;have hk3:=s3 _ _ hk;refine bv (λu H'=>∃pq,u=.ref pq/\H' pq=some (.lst ((ks++ks.map (· - 32)++[46]).map strV))/\al H3 H') (λQ q=>?_) ?_
    .refine fG (fG (qK (aa rfl) (du (d:=kq) (xs:=ks.map strV) (rest:=[]) (aa rfl) (aM.of hk3) (by rw[IL,Fq];omega) rfl (λ_=>true) upV (λx hx=>bW) (λx hx _=>?_) (λp hp=>?_))))
     .obtain⟨k,hk,rfl⟩:=IR.mp hx;exact uk (aa rfl) (lt k hk)
     .refine eU (by rw[ar (au hk3 hp)];exact hk3) af ?_ (λp4 hp4=>cA (bz ao (bV ⟨by show 1<=sizeLine;decide,λp5 hp5=>eU (((al.refl _).upd hp5) _ _ af) af ?_ (λp6 hp6=>q _ _ ⟨p6,rfl,?_,((((al.refl H3).upd hp).upd hp4).upd hp5).upd hp6⟩)⟩)))
      .rw[IW.mpr (λ_ _=>rfl),IL,IL,IL];omega
      .rw[IW.mpr (λ_ _=>rfl),IT,IL,IL,IL];show _+1<=1000;omega
      .rw[af,IW.mpr (λ_ _=>rfl),IQ,IV,IV,IQ,pJ];rfl
    rintro _ H4 ⟨pq,rfl,hpq,s4⟩;have s04:=s3.trans s4;show bg _ _ _ [oR d,oJ wi,oJ hi,oR hq,oR kq,oT z,o6,oR pq,none] H4;refine dm (λσ' H'=>(∃o8,σ'=[oR d,oJ wi,oJ hi,oR hq,oR kq,oT z,o6,oR pq,o8])/\al H H'/\oB wi hi hs ks z) (λK' hK=>?_) ?_
    .refine mE (wi*hi) (λQ q=>(ac (dE (aa rfl) (aa rfl) (.inl ⟨by omega,by omega⟩)) av) _ q) (by omega) (by omega)
      (λi σ' H'=>(∃o8,σ'=[oR d,oJ wi,oJ hi,oR hq,oR kq,oT z,o6,oR pq,o8])/\H4=H'/\∀(s c:Nat),s<i->z.cps.toList[s]? =some c->eH ks c (if(s:Int)∈hs then 35 else 46)=true) ⟨⟨_,rfl⟩,rfl,λs c h=>by omega⟩ ?_ ?_
     .rintro i _ _ hi' ⟨⟨o8,rfl⟩,rfl,hg⟩;have hil:i<z.cps.toList.length:=by rw[<-bI,jl,<-ewh];exact hi'
      obtain⟨c,hc⟩:∃c,z.cps.toList[i]? =some c:=⟨_,IP hil⟩;show na _ _ _ _ [oR d,oJ wi,oJ hi,oR hq,oR kq,oT z,o6,oR pq,oJ (0+(i:Int))] H4;rw[KG];have ec:Ev (pN K (bu 5) (bu 8)) [some (.ref d),some (.int wi),some (.int hi),some (.ref hq),some (.ref kq),some (.str z),o6,some (.ref pq),some (.int (i:Int))] H4 (.str (one c)):=lr (aa rfl) (aa rfl) (by rw[jl,Fq,<-ewh];omega) (bD hc);refine fJ (fU (fV (bn (zj (aa rfl) (aa rfl) (.inl (aM.of (s04 _ _ hh))))) (λ_=>bn (um ec ao))) (λ_=>fV (bn (lq (aa rfl) (aa rfl) (.inl (aM.of (s04 _ _ hh))))) (λ_=>bn (vS (ws:=(ks++ks.map (· - 32)++[46]).map one) ec (aa rfl) (.inl (aM.of (by rw[IQ];exact hpq))))))) (λh=>?_) (λh=>?_)
      .rw[kh]at h;refine aO ao (kN (nok λr=>?_) _ s04);rw[r.at_ i c hc]at h;cases h
      .rw[kh]at h;refine⟨⟨_,rfl⟩,rfl,λs c' hs' hc'=>?_⟩
       by_cases e:s=i
       .subst e;rw[hc]at hc';cases hc';simpa using h
       .exact hg s c' (by omega) hc'
     .rintro _ _ ⟨o,rfl,hg⟩;exact hK _ _ ⟨o,s04,⟨by rw[jl,ewh],λs c hc=>hg s c (by have:=(Je.mp hc).1;rw[<-bI,jl,<-ewh]at this;exact this) hc⟩⟩
    rintro _ H5 ⟨⟨o8,rfl⟩,s5,rk⟩;show cp _ _ [oR d,oJ wi,oJ hi,oR hq,oR kq,oT z,o6,oR pq,o8] H5;have esd:(if decide (wd="second")=true then(1:Int)else 0)=jH wd:=by
     unfold jH
     rcases hw with rfl|rfl<;>decide+kernel
    refine gM (sP (bz (aa rfl) (bz (pF (ju (lastE s5 (aa rfl)) ao)) (bV ⟨by show 2<=sizeLine;decide,λt ht=>kY init wd t _ (okl rk) ?_ (s5.upd ht)⟩))));rw[af,hzj,esd]
  .rw[E6 hl]at lenE;exact bC (fU (b:=false) (bn lenE) (λh=>by cases h)) (λ_=>aO ao (kN (λ⟨init,wd,o⟩=>hl (by rw[o.eq,IT,o.len];simp;omega)) _ (al.refl H))) (λh=>by cases h)
end
section
variable{P:Fn}{w:Fp}{K:Frag}{mg:Fc}{E3:Fw}{aS aA aE aW aD:Addr}
theorem iP{f:Addr}{fd:Ft}(F:bT K "_law_cell_at" "_law_cell_at" ci f fd)(T:Txt mg aS aA aE aW aD):bo P w K mg E3 dO 1 f fd ["_law_script","_law_k"] (gZ K):=by
 refine F.ok iM (λvs H Q E h=>?_) (λcdv A E4 s H vs Q E hr h=>?_)
 .obtain⟨a,ns,k,rfl,_⟩:=h;rfl
 .obtain⟨a,ns,k,rfl,hS,k0,q⟩:=h;have hu:=cC hr;refine⟨_,(ae (bf (bi K hu (cv 1) (kB (dI K) bq T.len (ay (cv 0) pa_nil))) (am (aB (eN K (cv 0) (cv 1)))) aI)
   (am (aB ag))),?_⟩
  show bg _ _ _ [oR a,oJ k] H;unfold cellAt at q;refine bC (bn (zi (aa rfl) (cK (aa rfl) (.inl hS)))) (λh=>?_) (λh=>?_)
  .have h:=E9 h;rw[IL]at h;have hlt:k.toNat<ns.length:=by omega
   have e:(ns.map V.int)[k.toNat]? =some (.int (ns.getD k.toNat 0)):=by rw[IU,IY,IP hlt];rfl
   have e2:=bD e;have ei:((k.toNat:Nat):Int)=k:=by omega
   rw[ei]at e2;exact aO (bK (aa rfl) (aa rfl) (.inl hS) e2) q
  .have h:=Fa h;rw[IL]at h;rw[IY,Js (by omega)]at q;exact aO ao q
theorem jN{f:Addr}{fd:Ft}(F:bT K "_law_mixed" "_law_mixed" cY f fd)(T:Txt mg aS aA aE aW aD):bo P w K mg E3 dO 1 f fd ["_law_cell","_law_k"] iV:=by
 refine F.ok jK (λvs H Q E h=>?_) (λcdv A E4 s H vs Q E hr h=>?_)
 .obtain⟨c,k,rfl,_⟩:=h;rfl
 .obtain⟨c,k,rfl,q⟩:=h;refine⟨_,(am (aB (ah (ah (ah (ah (cv 0) (ah ag (cv 1))) ag) ag) ag))),?_⟩;show cp _ _ [oJ c,oJ k] H;exact aO (bd (dE (bM (bM (aa rfl) (dE ao (aa rfl) (.inl ⟨by decide,by decide⟩))) ao) ao (.inr ⟨by decide,by decide⟩)) ao (by decide)) q
theorem jP{f:Addr}{fd:Ft}(F:bT K "_law_kinds" "_law_kinds" cu f fd)(T:Txt mg aS aA aE aW aD):bo P w K mg E3 dO 1 f fd ["_law_cell"] lW:=by
 refine F.ok eY (λvs H Q E h=>?_) (λcdv A E4 s H vs Q E hr h=>?_)
 .obtain⟨c,rfl,_⟩:=h;rfl
 .obtain⟨c,rfl,k⟩:=h;have hu:=cC hr;refine⟨_,(ae (aF (i:=1) eY.nd rfl (Or.inr rfl) aX)
   (ae (aF (i:=2) eY.nd rfl (Or.inr rfl) (eN K (aY (gv rfl)) (ah (ah (cv 0) ag) ag)))
   (am (aB (eF (bZ (N:=["_law_k","_law_letters","_law_cell","_law_step"]) (src:=[none,some 1,some 0,some 2]) (aj cu) ["_law_cell","_law_letters","_law_step"]) (vJ T.range (ay (eN K (aY (gv rfl)) (ah (cv 0) ag)) pa_nil)) (λ_ _ _=>(bb (i:=0) ["_law_k","_law_letters","_law_cell","_law_step"])) (λ_ _ _=>bx) (λ_ _ _=>(eN K (cv 1) (ah (ah (ah (cv 2) ag) (ah (cv 3) (cv 0))) ag)))))))),?_⟩
  show bg _ _ _ [oJ c,none,none] H;refine bp ao ?_;refine bv (λv H'=>∃st:Int,v=.int st/\st∈([1,3,5,7,9,11]:List Int)/\al H H') (λQ q=>?_) ?_
  .obtain⟨n,e,hn⟩:=pr (ns:=[1,3,5,7,9,11]) (i:=c / 208 % 6) (by omega) (by show _<(6:Int);omega);exact tT mS (by decide) (λH'=>(bd (bL (aa rfl) ao ⟨by decide,by decide⟩) ao (by decide))) e (λH' s=>q _ _ ⟨n,rfl,hn,s⟩)
  rintro _ H1 ⟨st,rfl,hst,s1⟩;obtain⟨n,e,hn⟩:=pr (ns:=[1,2,2,3,3,1,6,4]) (i:=c % 8) (by omega) (by show _<(8:Int);omega);have hn6:1<=n/\n<=6:=by simp only[IN,Jl,or_false]at hn;omega
  show cp _ _ [oJ c,oT ("abcdefghijklmnopqrstuvwxyz"),oJ st] H1;refine qQ (n:=n) (rest:=[oT ("abcdefghijklmnopqrstuvwxyz"),oJ c,oJ st]) (λQ q=>yX mS (by decide) (λH'=>(bd (aa rfl) ao (by decide))) e q) (by omega) (by rw[Fq];omega) (by omega) rfl (λ_=>true)
   (λx=>match x with| .int i=>strV (97+((c / 8+st*i) % 26).toNat)|_=>.non) (λi H' s hi=>bW) (λi H' s hi _=>?_) (λH' d s hd=>?_)
  .have hlt:0<=0+(i:Int)/\0+(i:Int)<6:=by omega
   exact lr (aa rfl) (bd (bM (bL (aa rfl) ao ⟨by decide,by decide⟩) (dE (aa rfl) (aa rfl) (.inr ⟨by omega,by omega⟩))) ao (by decide)) (by decide) (Bq (by omega) (by omega))
  .have e2:(((List.range n.toNat).map λ(i:Nat)=>V.int (0+(i:Int))).filter λ_=>true).map (λx=>match x with| .int i=>strV (97+((c / 8+st*i) % 26).toNat)|_=>.non)=(gO (c / 8) st n.toNat).map strV:=by rw[IW.mpr (λ_ _=>rfl),IQ];unfold gO;rw[IQ];refine Jp λi _=>?_;show strV (97+((c / 8+st*(0+(i:Int))) % 26).toNat)=strV (97+((c / 8+st*(i:Int)) % 26).toNat);rw[KG]
   rw[e2];have hl:(gO (c / 8) st n.toNat).length=n.toNat:=by unfold gO;simp
   exact k d _ _ ((s1.trans s).free hd) af nV (qA (by omega) hst) (by omega) (by omega) ((s1.trans s).upd hd)
theorem jQ{f:Addr}{fd:Ft}(F:bT K "_law_board" "_law_board" da f fd)(T:Txt mg aS aA aE aW aD)(C:LG1 P w K mg E3):bo P w K mg E3 dO 2 f fd ["_law_script"] (lX K):=by
 refine F.ok bh (λvs H Q E h=>?_) (λcdv A E4 s H vs Q E hr h=>?_)
 .obtain⟨a,ns,rfl,_⟩:=h;rfl
 .obtain⟨a,ns,rfl,hS,k⟩:=h;have hu:=cC hr;refine⟨_,(ae (aF (i:=1) bh.nd rfl (Or.inl rfl) (aK C._law_cell_at hr (ay (cv 0) (ay ag pa_nil))))
   (ae (aF (i:=2) bh.nd rfl (Or.inl rfl) (ah ag (ah (cv 1) ag)))
   (ae (aF (i:=3) bh.nd rfl (Or.inl rfl) (ah ag (ah (ah (cv 1) ag) ag)))
   (ae (bf (bi K hu (ah (ah (cv 1) ag) ag) ag) (ae (aF (i:=2) bh.nd rfl (Or.inl rfl) (ah ag (ah (ah (cv 1) ag) ag)))
   (am (aF (i:=3) bh.nd rfl (Or.inl rfl) (ah ag (ah (ah (cv 1) ag) ag))))) aI)
   (ae (aF (i:=1) bh.nd rfl (Or.inl rfl) (aK C._law_cell_at hr (ay (cv 0) (ay ag pa_nil))))
   (ae (aF (i:=4) bh.nd rfl (Or.inl rfl) (aY pa_nil))
   (ae (ik Gk rfl (vJ T.range (ay (eN K (aY (gv rfl)) (ah (cv 1) ag)) pa_nil)) (de (i:=5) bh.nd rfl (Or.inl rfl)) (ae (aF (i:=6) bh.nd rfl (Or.inl rfl) (ah (aK C._law_mixed hr (ay (ah (cv 1) ag) (ay (cv 5) pa_nil))) (ah (cv 2) (cv 3))))
   (am (bf (PW.pt (gc (bi K hu (cv 6) (cv 4)) (eQ (bi K hu (ah (kB (dI K) bq T.len (ay (cv 4) pa_nil)) ag) (ah (cv 2) (cv 3)))))) (am (iX (on (cv 4) (cv 6)))) aI))))
   (am (aB (ji (ay (cv 2) (ay (cv 3) (ay (cv 4) pa_nil))))))))))))),?_⟩
  show bg _ _ _ [oR a,none,none,none,none,none,none] H;refine bp (aJ (ac (aa rfl) (ac ao av)) (λQ q=>⟨a,ns,0,rfl,hS,by decide,q⟩)) ?_;generalize cellAt ns 0=c;refine bp (bM ao (bd (aa rfl) ao (by decide))) ?_;refine bp (bM ao (bd (bL (aa rfl) ao ⟨by decide,by decide⟩) ao (by decide))) ?_;refine dm (λσ' H'=>∃wi hi:Int,1<=wi/\wi<=8/\1<=hi/\hi<=8/\σ'=[oR a,oJ c,oJ wi,oJ hi,none,none,none]/\H'=H) (λK' hK=>?_) ?_
  .refine fJ (bn (eG (bd (bL (aa rfl) ao ⟨by decide,by decide⟩) ao (by decide)) ao)) (λ_=>?_) (λ_=>hK _ _ ⟨_,_,by omega,by omega,by omega,by omega,rfl,rfl⟩);refine bp (bM ao (bd (bL (aa rfl) ao ⟨by decide,by decide⟩) ao (by decide))) ?_;exact oM (bM ao (bd (bL (aa rfl) ao ⟨by decide,by decide⟩) ao (by decide))) (hK _ _ ⟨_,_,by omega,by omega,by omega,by omega,rfl,rfl⟩)
  rintro _ H1 ⟨wi,hi,w1,w8,h1,h8,rfl,rfl⟩;have m1:wi*hi<=8*8:=KB w8 h8 (by omega) (by omega);have m0:1*1<=wi*hi:=KB w1 h1 (by omega) (by omega);refine bp (aJ (ac (aa rfl) (ac ao av)) (λQ q=>⟨a,ns,1,rfl,hS,by decide,q⟩)) ?_;generalize cellAt ns 1=c1;refine sW λq1 hq1=>?_;have sm:al H1 (upd H1 q1 (.lst [])):=(al.refl H1).upd hq1;obtain⟨n,e,hn⟩:=pr (ns:=[0,0,1,2]) (i:=c1 % 4) (by omega) (by show _<(4:Int);omega);have hn2:0<=n/\n<=2:=by simp only[IN,Jl,or_false]at hn;omega
  refine dm (λσ' H'=>∃hs:List Int,(∃o5 o6,σ'=[oR a,oJ c1,oJ wi,oJ hi,oR q1,o5,o6])/\H' q1=some (.lst (hs.map V.int))/\(∀h∈hs,0<=h/\h<wi*hi)/\hs.Nodup/\(hs.length:Int)<wi*hi/\hs.length<=2/\al H1 H') (λK' hK=>?_) ?_
  .refine qJ n (λQ q=>yX mS (by decide) (λH'=>(bd (aa rfl) ao (by decide))) e q) (by omega) (by omega)
    (λi σ' H'=>∃hs:List Int,(∃o5 o6,σ'=[oR a,oJ c1,oJ wi,oJ hi,oR q1,o5,o6])/\H' q1=some (.lst (hs.map V.int))/\(∀h∈hs,0<=h/\h<wi*hi)/\hs.Nodup/\(hs.length:Int)<wi*hi/\hs.length<=i/\al H1 H')
    (λH' s=>⟨[],⟨_,_,rfl⟩,s _ _ af,(λh hh=>by cases hh),List.nodup_nil,by show(0:Int)<_;omega,Kd _,sm.trans s⟩) ?_ (λσ' H' h=>?_)
   .rintro i _ H3 hi' ⟨hs,⟨o5,o6,rfl⟩,h3,gd,nd,hl,hl2,s3⟩;show bg _ _ _ [oR a,oJ c1,oJ wi,oJ hi,oR q1,oJ (0+(i:Int)),o6] H3;generalize 0+(i:Int)=j;refine bp (bd (aJ (ac (bL (aa rfl) ao ⟨by decide,by decide⟩) (ac (aa rfl) av)) (λQ q=>⟨_,_,rfl,q⟩)) (dE (aa rfl) (aa rfl) (.inl ⟨by omega,by omega⟩)) (by omega)) ?_;generalize hsq:mixed (c1 / 4) j % (wi*hi)=sq;have sq0:0<=sq:=hsq▸KC _ (by omega);have sq1:sq<wi*hi:=hsq▸KD _ (by omega);refine fJ (fV (bn (lq (aa rfl) (aa rfl) (.inl (aM.of h3)))) (λ_=>(bn (zi (bM (cK (aa rfl) (.inl (aM.of h3))) ao) (dE (aa rfl) (aa rfl) (.inl ⟨by omega,by omega⟩)))))) (λh=>?_) (λ_=>⟨hs,⟨_,_,rfl⟩,h3,gd,nd,hl,by omega,s3⟩);rw[KJ]at h;have hni:¬sq∈hs:=λz=>by have h1:=h.1;rw[E5 z]at h1;cases h1
    have hl':=E9 h.2;rw[IL]at hl';refine oP (aa rfl) (aa rfl) h3 (by rw[IL,Fq];omega) ⟨hs++[sq],⟨_,_,rfl⟩,?_,λh hh=>?_,?_,?_,?_,s3.put hq1⟩
    .rw[af,IV];rfl
    .rcases Jf.mp hh with z|z
     .exact gd h z
     .rw[IS.mp z];exact⟨sq0,sq1⟩
    .rw[JU];refine⟨nd,by simp,λx hx y hy e=>?_⟩;rw[IS.mp hy]at e;exact hni (e▸hx)
    .rw[IT];show((hs.length+1:Nat):Int)<_;omega
    .rw[IT];show hs.length+1<=_;omega
   .obtain⟨hs,o,h3,gd,nd,hl,hl2,s3⟩:=h;exact hK _ _ ⟨hs,o,h3,gd,nd,hl,by omega,s3⟩
  rintro _ H3 ⟨hs,⟨o5,o6,rfl⟩,h3,gd,nd,hl,hl2,s3⟩;show cp _ _ [oR a,oJ c1,oJ wi,oJ hi,oR q1,o5,o6] H3;refine Ac (aa rfl) (aa rfl) (aa rfl) (λt ht=>?_);exact k t q1 wi hi hs _ w1 w8 h1 h8 af (by rw[ar (au h3 ht)];exact h3) gd nd hl hl2 hq1 (s3.free ht) (s3.upd ht)
theorem jM{f:Addr}{fd:Ft}(F:bT K "_law_whole" "_law_whole" cX f fd)(T:Txt mg aS aA aE aW aD):bo P w K mg E3 dO 1 f fd ["_law_thing"] je:=by
 refine F.ok jJ (λvs H Q E h=>?_) (λcdv A E4 s H vs Q E hr h=>?_)
 .obtain⟨v,rfl,_⟩:=h;rfl
 .obtain⟨v,rfl,q⟩:=h;refine⟨_,(am (aB (cy (qz .int T.isinstance T.int lE (cv 0)) (df (uC (qz .bool T.isinstance T.bool pO (cv 0))))))),?_⟩;show cp _ _ [oJ v] H;exact aO (bY (ur (aa rfl)) (λ_=>ul (ur (aa rfl)))) q
end
theorem uK{α:Type}{xs:List α}{i:Int}(h0:0<=i)(h1:i<xs.length):∃v,iK xs i=some v/\xs[i.toNat]? =some v:=by
 have hx:xs[i.toNat]? =some (xs[i.toNat]'(by omega)):=IP (by omega);refine⟨_,?_,hx⟩;have e:i=((i.toNat:Nat):Int):=by omega
 have:=bD hx;rw[<-e]at this;exact this
theorem y7{xs:List V}{i:Int}(h0:0<=i)(h1:i<xs.length):∃v,iK xs i=some v/\v∈xs:=by obtain⟨v,e1,e2⟩:=uK (xs:=xs) h0 h1;exact⟨v,e1,Jm e2⟩
def sX(K:Frag)(cB cG:Addr):Sp:=λvs H Q _=>∃(a g b:Addr)(ns:List Int)(st:Int)(wi hi:Int)(hs:List Int)(ks:List Nat)(rs ts es:List V)(sw:Str),vs=[.ref a,.ref g,.int st]/\aM K H a (ns.map V.int)/\0<=st/\st<=100/\gT cG H g b (ks.map strV) rs ts es sw/\cc K cB H b wi hi hs/\(∀k∈ks,mY k)/\1<=ks.length/\ks.length<=6/\(hs.length:Int)<wi*hi/\
 ∀(z:Str)(H':Hp),z.length=(wi*hi).toNat->(∀(s c:Nat),z.cps.toList[s]? =some c->eH ks c (if(s:Int)∈hs then 35 else 46)=true)->al H H'->Q (.str z) H'
theorem AS{K:Frag}{H:Hp}{Q:VK}{d:Addr}{cs:List Nat}(h:H d=some (.lst (cs.map strV)))(hl:cs.length<=1000)(q:Q (.str ⟨cs.toArray⟩) H):iG K (.str "") [.ref d] H Q:=by
 rw[nF];refine⟨cs.map one,aM.of (by rw[IQ];exact h),?_,?_⟩
 .rw[IQ];have es:∀l:List Nat,(l.map ((λx:Str=>x.length)∘one)).sum=l.length:=λl=>by
   induction l with
   |nil=>rfl
   |cons a r ih=>rw[Jh,JK,ih,Jg];show 1+r.length=_;omega
  have ez:("":Str).length=0:=by decide+kernel
  have hz:sizeLine=sizeLine:=rfl;rw[es,ez];show cs.length+(cs.map one).length*0<=16777216;omega
 .rw[iu];exact q
theorem qM(F:List Int)(lo hi:Option Int):∃ss:List Int,dh (F.map V.int) lo hi=ss.map V.int/\(∀s∈ss,s∈F)/\ss.length<=F.length:=by
 refine⟨(F.drop (HT.sIx (F.map V.int).length 0 lo)).take (HT.sIx (F.map V.int).length (F.map V.int).length hi - HT.sIx (F.map V.int).length 0 lo),?_,λs hs=>JH (JI hs),?_⟩
 .unfold dh;rw[JX,JY]
 .rw[IX,Jn];omega
def gI(F:List Int)(x:V):Int:=F.getD (match x with| .int i=>(i % (F.length:Int)).toNat|_=>0) 0
theorem DH{F:List Int}(h:0<F.length)(x:V):gI F x∈F:=by
 have key:∀j,j<F.length->F.getD j 0∈F:=λj hj=>by rw[IY,IP hj];exact Jx _
 unfold gI;cases x with
 |int i=>
  have h0:=KC i (by omega:(F.length:Int)≠0);have h1:=KD i (by omega:(0:Int)<F.length);refine key _ ?_;dsimp only;omega
 |_=>exact key _ h
theorem DI{F:List Int}(h:0<F.length)(i:Int):iK (F.map V.int) (i % ((F.map V.int).length:Int))=some (.int (gI F (.int i))):=by
 rw[IL];have h0:=KC i (by omega:(F.length:Int)≠0);have h1:=KD i (by omega:(0:Int)<F.length);obtain⟨v,e1,e2⟩:=uK (xs:=F.map V.int) h0 (by rw[IL];exact h1);rw[e1];rw[IU]at e2;unfold gI;dsimp only;rw[IY];cases e:F[(i % (F.length:Int)).toNat]? with
 |none=>rw[e]at e2;cases e2
 |some z=>rw[e]at e2;exact e2.symm
def bareL(n:Nat)(hs:List Int):List Nat:=(List.range n).map λ(s:Nat)=>if(s:Int)∈hs then 35 else 46
def yW(hs:List Int):V->V
 | .int i=>strV (if i∈hs then 35 else 46)
 |_=>.non
section
variable{P:Fn}{w:Fp}{K:Frag}{mg:Fc}{E3:Fw}{aS aA aE aW aD:Addr}
theorem mn{f cB cG:Addr}{fd:Ft}(F:bT K "_law_row" "_law_row" bX f fd)(T:Txt mg aS aA aE aW aD)(B:iS K cB)(D:zu K cG)(C:LG1 P w K mg E3):bo P w K mg E3 dO 2 f fd ["_law_script","_law_game","_law_start"] (sX K cB cG):=by
 refine F.ok ba (λvs H Q E h=>?_) (λcdv A E4 s H vs Q E hr h=>?_)
 .obtain⟨a,g,b,ns,st,wi,hi,hs,ks,rs,ts,es,sw,rfl,_⟩:=h;rfl
 .obtain⟨a,g,b,ns,st,wi,hi,hs,ks,rs,ts,es,sw,rfl,hS,st0,st1,G,O,hlt,k1,k6,ln,q⟩:=h;have hu:=cC hr;refine⟨_,(ae (aF (i:=3) ba.nd rfl (Or.inl rfl) (ah (fC K (fC K (cv 1))) (fC K (fC K (cv 1)))))
   (ae (aF (i:=4) ba.nd rfl (Or.inr rfl) (eF (bZ (N:=["_law_square","_law_game"]) (src:=[none,some 1]) (aj bX) ["_law_script","_law_game","_law_start","_law_size","_law_free","_law_signs","_law_cell","_law_cells","_law_spots","_law_k","_law_square","_law_more","_law_kind"]) (vJ T.range (ay (cv 3) pa_nil)) (λ_ _ _=>(bb (i:=0) ["_law_square","_law_game"])) (λ_ _ _=>(ma (bi K hu (cv 0) (fC K (fC K (cv 1)))))) (λ_ _ _=>(cv 0))))
   (ae (iW (i:=5) rfl (bZ (N:=["_law_square","_law_game"]) (src:=[none,some 1]) (aj bX) ["_law_script","_law_game","_law_start","_law_size","_law_free","_law_signs","_law_cell","_law_cells","_law_spots","_law_k","_law_square","_law_more","_law_kind"]) (vJ T.range (ay (cv 3) pa_nil)) (λ_ _ _=>(bb (i:=0) ["_law_square","_law_game"])) (λ_ _ _=>bx) (λ_ _ _=>(eN K aX (qC ki lE T.int (ay (gB K hu (cv 0) (fC K (fC K (cv 1)))) pa_nil)))) ba.nd rfl (Or.inl rfl) rfl (Or.inl rfl))
   (ae (aF (i:=6) ba.nd rfl (Or.inl rfl) (aK C._law_cell_at hr (ay (cv 0) (ay (cv 2) pa_nil))))
   (ae (iW (i:=7) rfl (bZ (N:=["_law_k","_law_script","_law_start"]) (src:=[none,some 0,some 2]) (aj bX) ["_law_script","_law_game","_law_start","_law_size","_law_free","_law_signs","_law_cell","_law_cells","_law_spots","_law_k","_law_square","_law_more","_law_kind"]) (vJ T.range (ay ag pa_nil)) (λ_ _ _=>(bb (i:=0) ["_law_k","_law_script","_law_start"])) (λ_ _ _=>bx) (λ_ _ _=>(aK C._law_mixed hr (ay (aK C._law_cell_at hr (ay (cv 1) (ay (ah (ah (cv 2) ag) (cv 0)) pa_nil))) (ay (cv 0) pa_nil)))) ba.nd rfl (Or.inl rfl) rfl (Or.inl rfl))
   (ae (iW (i:=8) rfl (bZ (N:=["_law_more","_law_free"]) (src:=[none,some 4]) (aj bX) ["_law_script","_law_game","_law_start","_law_size","_law_free","_law_signs","_law_cell","_law_cells","_law_spots","_law_k","_law_square","_law_more","_law_kind"]) (qy K (ie K (cv 7) bc (aP (ah ag (ah (cv 6) ag))))) (λ_ _ _=>(bb (i:=0) ["_law_more","_law_free"])) (λ_ _ _=>bx) (λ_ _ _=>(eN K (cv 1) (ah (cv 0) (kB (dI K) bq T.len (ay (cv 1) pa_nil))))) ba.nd rfl (Or.inl rfl) rfl (Or.inl rfl))
   (ae (bf (bi K hu (ah (ah (cv 6) ag) ag) ag) (am (aF (i:=8) ba.nd rfl (Or.inl rfl) (ie K (cv 4) bc (aP ag)))) aI)
   (ae (bf (bi K hu (ah (ah (cv 6) ag) ag) ag) (am (aF (i:=8) ba.nd rfl (Or.inl rfl) (aY pa_nil))) aI)
   (ae (ik Gk rfl (Dv K T.enumerate (cv 8)) (EC K (n:=2) (en (de (i:=9) ba.nd rfl (Or.inl rfl)) (en (de (i:=10) ba.nd rfl (Or.inl rfl)) kM))) (ae (aF (i:=11) ba.nd rfl (Or.inl rfl) (ah (eN K (cv 7) (ah (cv 9) ag)) (ah ag (ah (cv 9) ag))))
   (ae (aF (i:=12) ba.nd rfl (Or.inl rfl) (eN K (fC K (cv 1)) (ah (ah (cv 11) ag) (kB (dI K) bq T.len (ay (fC K (cv 1)) pa_nil)))))
   (am (tF (eN K (aY (ay (lx PySem.F.slot_str_upper PySem.F.type_str_upper li (cv 12)) (ay (cv 12) pa_nil))) (ah (ah (cv 11) ag) ag)) (As (cv 5) (cv 10) tf))))))
   (am (aB (Ef PySem.F.slot_str_join PySem.F.type_str_join (pA K) aX (ay (cv 5) pa_nil))))))))))))),?_⟩
  show bg _ _ _ [oR a,oR g,oJ st,none,none,none,none,none,none,none,none,none,none] H;have mm:=O.many;have w1:=O.w1;have w8:=O.w8;have fb:∀(H':Hp)(σ:St)(j:Nat),σ[j]? =some (some (V.ref g))->al H H'->Ev (Bg K (bu j) "board") σ H' (.ref b):=λH' σ j h s=>cj (aa h) ((G.same s).board D);refine bp (dE (cj (fb H _ 1 rfl (al.refl H)) (O.wide B)) (cj (fb H _ 1 rfl (al.refl H)) (O.high B)) (.inl ⟨by omega,by omega⟩)) ?_;obtain⟨hq,fh,eh⟩:=O.holes B;refine bv (λv H'=>∃fq,v=.ref fq/\H' fq=some (.lst ((dH wi hi hs).map V.int))/\al H H') (λQ q=>?_) ?_
  .refine gk (n:=wi*hi) (rest:=[oR g]) (ac (aa rfl) av) (by omega) (by rw[Fq];omega) (by omega) rfl (uf hs) (λv=>v) (λi hi=>?_) (λi hi _=>aa rfl) (λq' hq'=>?_)
   .exact bn (lq (aa rfl) (cj (fb H _ 1 rfl (al.refl H)) fh) (.inl (aM.of eh)))
   .rw[n6];exact q _ _ ⟨q',rfl,af,(al.refl H).upd hq'⟩
  rintro _ H1 ⟨fq,rfl,ef,s1⟩;obtain⟨hq1,fh1,eh1⟩:=(O.same s1).holes B;refine bv (λv H'=>∃sq,v=.ref sq/\H1 sq=none/\H' sq=some (.lst ((bareL (wi*hi).toNat hs).map strV))/\al H1 H') (λQ q=>?_) ?_
  .refine gk (n:=wi*hi) (rest:=[oR g]) (ac (aa rfl) av) (by omega) (by rw[Fq];omega) (by omega) rfl (λ_=>true) (yW hs) (λi hi=>bW) (λi hi' _=>?_) (λq' hq'=>?_)
   .have e:strV (if decide (0+(i:Int)∈hs)=true then 35 else 46)=yW hs (.int (0+(i:Int))):=by
     show _=strV (if 0+(i:Int)∈hs then 35 else 46)
     by_cases m:0+(i:Int)∈hs
     .rw[E8 m,E8 (E5 m)]
     .rw[E7 m,E6 m];rfl
    rw[<-e];exact lr ao (pF (zj (aa rfl) (cj (fb H1 _ 1 rfl s1) fh1) (.inl (aM.of eh1)))) (by decide) (DM _)
   .refine q _ _ ⟨q',rfl,hq',?_,(al.refl H1).upd hq'⟩;rw[af,IW.mpr (λ_ _=>rfl),IQ];unfold bareL;rw[IQ];congr 2;refine Jp λi _=>?_;show strV (if 0+(i:Int)∈hs then 35 else 46)=strV (if(i:Int)∈hs then 35 else 46);rw[KG]
  rintro _ H2 ⟨sq,rfl,sqn,esq,s2⟩;have s02:=s1.trans s2;refine bp (aJ (sp:=gZ K) (ac (aa rfl) (ac (aa rfl) av)) (λQ q=>⟨a,ns,st,rfl,s02.seq hS,st0,q⟩)) ?_;generalize cellAt ns st=c;refine bv (λv H'=>∃(cq:Addr)(cs:List Int),v=.ref cq/\H' cq=some (.lst (cs.map V.int))/\cs.length=6/\al H2 H') (λQ q=>?_) ?_
  .refine gk (n:=6) (rest:=[oR a,oJ st]) (ac ao av) (by omega) (by decide) (by decide) rfl (λ_=>true) (λx=>match x with| .int i=>.int (mixed (cellAt ns (st+1+i)) i)|_=>.non) (λi hi=>bW) (λi hi' _=>?_) (λq' hq'=>?_)
   .exact aJ (sp:=iV) (ac (aJ (sp:=gZ K) (ac (aa rfl) (ac (bM (bM (aa rfl) ao) (aa rfl)) av)) (λQ q=>⟨a,ns,_,rfl,s02.seq hS,by omega,q⟩)) (ac (aa rfl) av)) (λQ q=>⟨_,_,rfl,q⟩)
   .refine q _ _ ⟨q',(List.range 6).map λ(i:Nat)=>mixed (cellAt ns (st+1+(0+(i:Int)))) (0+(i:Int)),rfl,?_,by rw[IL,Jk],(al.refl H2).upd hq'⟩;rw[af,IW.mpr (λ_ _=>rfl),IQ,IQ];rfl
  rintro _ H3 ⟨cq,cs,rfl,ecs,l6,s3⟩;have s03:=s02.trans s3;have esq3:=s3 _ _ esq;have ef3:=(s2.trans s3) _ _ ef;have fpos:=qI ln;show bg _ _ _ [oR a,oR g,oJ st,oJ (wi*hi),oR fq,oR sq,oJ c,oR cq,none,none,none,none,none] H3;have flen:(dH wi hi hs).length<=64:=by unfold dH;have:=J4 (λi=> !decide (i∈hs)) ((List.range (wi*hi).toNat).map λ(i:Nat)=>(i:Int));rw[IL,Jk]at this;omega
  have nsq:∀p,H3 p=none->p≠sq:=λp hp e=>by rw[e,esq3]at hp;cases hp
  refine bv (λv H'=>∃(pq:Addr)(ss:List Int),v=.ref pq/\H' pq=some (.lst (ss.map V.int))/\pq≠sq/\(∀s∈ss,s∈dH wi hi hs)/\ss.length<=64/\al H3 H') (λQ q=>?_) ?_
  .refine j2 (lo:=none) (hi:=some (1+c % 6)) (aa rfl) (λQ q=>q) (λQ q=>qK (bM ao (bd (aa rfl) ao (by decide))) q) (aM.of ecs) (λp hp=>?_);have s4:=(al.refl H3).upd (o:=.lst (dh (cs.map V.int) none (some (1+c % 6)))) hp;have cl:(dh (cs.map V.int) none (some (1+c % 6))).length<=6:=by have:=iI (cs.map V.int) none (some (1+c % 6));rw[IL]at this;omega
   have ef4:aM K _ fq ((dH wi hi hs).map V.int):=aM.of (s4 _ _ ef3);refine du (tl:=tC (.ref p)) (d:=p) (xs:=dh (cs.map V.int) none (some (1+c % 6))) (rest:=[oR fq]) ao (aM.of af) (by rw[Fq];omega) rfl (λ_=>true) (λx=>.int (gI (dH wi hi hs) x)) (λx hx=>bW) (λx hx _=>?_) (λp2 hp2=>?_)
   .obtain⟨i,_,rfl⟩:=IR.mp (uy hx);exact bK (aa rfl) (bd (aa rfl) (cK (aa rfl) (.inl ef4)) (by rw[IL];omega)) (.inl ef4) (DI fpos i)
   .refine q _ _ ⟨p2,(dh (cs.map V.int) none (some (1+c % 6))).map (gI (dH wi hi hs)),rfl,?_,nsq _ (s4.free hp2),λs hs'=>?_,by rw[IL];omega,s4.upd hp2⟩
    .rw[af,IW.mpr (λ_ _=>rfl),IQ];rfl
    .obtain⟨x,_,rfl⟩:=IR.mp hs';exact DH fpos x
  rintro _ H4 ⟨pq,ss,rfl,epq,npq,hss,lss,s4⟩;show bg _ _ _ [oR a,oR g,oJ st,oJ (wi*hi),oR fq,oR sq,oJ c,oR cq,oR pq,none,none,none,none] H4;have ef4:=s4 _ _ ef3;refine oN (λσ' H'=>∃(pq:Addr)(ss:List Int),σ'=[oR a,oR g,oJ st,oJ (wi*hi),oR fq,oR sq,oJ c,oR cq,oR pq,none,none,none,none]/\H' pq=some (.lst (ss.map V.int))/\pq≠sq/\(∀s∈ss,s∈dH wi hi hs)/\ss.length<=64/\al H3 H') ?_ (λgo=>?_)
  rotate_left
  .refine bC (bn (eG (bd (bL (aa rfl) ao ⟨by decide,by decide⟩) ao (by decide)) ao)) (λ_=>?_) (λ_=>go _ _ ⟨pq,ss,rfl,epq,npq,hss,lss,s4⟩);obtain⟨ss2,e2,h2,l2⟩:=qM (dH wi hi hs) none (some 12);exact uL (j2 (lo:=none) (hi:=some 12) (aa rfl) (λQ q=>q) (λQ q=>qK ao q) (aM.of ef4) (λp hp=>go _ _ ⟨p,ss2,rfl,by rw[af,e2],nsq _ (s4.free hp),h2,by omega,s4.upd hp⟩))
  rintro _ H4 ⟨pq,ss,rfl,epq,npq,hss,lss,s4⟩;refine oN (λσ' H'=>∃(pq:Addr)(ss:List Int),σ'=[oR a,oR g,oJ st,oJ (wi*hi),oR fq,oR sq,oJ c,oR cq,oR pq,none,none,none,none]/\H' pq=some (.lst (ss.map V.int))/\pq≠sq/\(∀s∈ss,s∈dH wi hi hs)/\ss.length<=64/\al H3 H') ?_ (λgo=>?_)
  rotate_left
  .refine bC (bn (eG (bd (bL (aa rfl) ao ⟨by decide,by decide⟩) ao (by decide)) ao)) (λ_=>?_) (λ_=>go _ _ ⟨pq,ss,rfl,epq,npq,hss,lss,s4⟩);exact uL (cA (bV ⟨Kh _,λp hp=>go _ _ ⟨p,[],rfl,af,nsq _ (s4.free hp),λs hs=>(by cases hs),Kh _,s4.upd hp⟩⟩))
  rintro _ H4 ⟨pq,ss,rfl,epq,npq,hss,lss,s4⟩;have esq4:=s4 _ _ esq3;have hsn:H sq=none:=s1.free sqn;have s04:=s03.trans s4;have back:∀H',SameBut sq H4 H'->al H H':=λH' sb d o e=>sb d o (s04 d o e) (λz=>by rw[z,hsn]at e;cases e);have ncq:cq≠sq:=λz=>by
   have h1:H3 sq=some (.lst (cs.map V.int)):=z▸ecs;rw[esq3]at h1;have h2:(bareL (wi*hi).toNat hs).map strV=cs.map V.int:=by injection h1 with h1;injection h1
   cases cs with
   |nil=>simp at l6
   |cons x r=>
    cases hb:bareL (wi*hi).toNat hs with
    |nil=>rw[hb]at h2;cases h2
    |cons y r2=>rw[hb]at h2;injection h2 with h2 _;cases h2
  refine dm (λσ' H'=>∃(zs:List Nat)(o9 o10 o11 o12:Option V),σ'=[oR a,oR g,oJ st,oJ (wi*hi),oR fq,oR sq,oJ c,oR cq,oR pq,o9,o10,o11,o12]/\H' sq=some (.lst (zs.map strV))/\zs.length=(wi*hi).toNat/\(∀(s c:Nat),zs[s]? =some c->eH ks c (if(s:Int)∈hs then 35 else 46)=true)/\SameBut sq H4 H') (λK' hK=>?_) ?_
  .refine ui (λq' H'=>q'=pq/\H'=H4) (λQ q=>qK (v:=.ref pq) (aa rfl) (q _ _ ⟨rfl,rfl⟩)) ?_;rintro q' H' ⟨rfl,rfl⟩;refine⟨ss.map V.int,aM.of epq,λi σ' H''=>∃(zs:List Nat)(o9 o10 o11 o12:Option V),σ'=[oR a,oR g,oJ st,oJ (wi*hi),oR fq,oR sq,oJ c,oR cq,oR q',o9,o10,o11,o12]/\H'' sq=some (.lst (zs.map strV))/\zs.length=(wi*hi).toNat/\(∀(s c:Nat),zs[s]? =some c->eH ks c (if(s:Int)∈hs then 35 else 46)=true)/\SameBut sq H' H'',
    ⟨bareL (wi*hi).toNat hs,_,_,_,_,rfl,esq4,?_,?_,SameBut.refl _⟩,?_,?_,?_⟩
   .unfold bareL;rw[IL,Jk]
   .intro s c' h;unfold bareL at h;rw[IU]at h;cases hr:(List.range (wi*hi).toNat)[s]? with
    |none=>rw[hr]at h;cases h
    |some s'=>
     rw[hr]at h;have e1:s'=s:=by have:=Je.mp hr;obtain⟨h1,h2⟩:=this;rw[J0]at h2;exact h2.symm
     subst e1;have h:(if(s':Int)∈hs then 35 else 46)=c':=by injection h
     rw[<-h];unfold eH
     by_cases m:(s':Int)∈hs
     .rw[E8 m];rfl
     .rw[E7 m,E7 (by decide)];exact E5 (.inl rfl)
   .rintro i σ' H'' ⟨_,_,_,_,_,_,_,_,_,sb⟩;exact aM.of (sb _ _ epq npq)
   .rintro i x _ H5 t hx ⟨zs,o9,o10,o11,o12,rfl,e5,lz,gz,sb⟩ nt;obtain⟨z,hz,rfl⟩:=IR.mp (Jm hx);refine DG af ?_;obtain⟨z0,z1,z2⟩:=ug (hss z hz);have s6:=(al.refl H5).upd (o:=.tup [.int (i:Int),.int z]) nt;generalize upd H5 t (HO.tup [V.int (i:Int),V.int z])=H6 at s6;have sb6:SameBut sq H' H6:=sb.trans s6.but;have ecs6:aM K H6 cq (cs.map V.int):=aM.of (sb6 _ _ (s4 _ _ ecs) ncq);have s06:=back H6 sb6;have e6:=s6 _ _ e5;show bg _ _ _ [oR a,oR g,oJ st,oJ (wi*hi),oR fq,oR sq,oJ c,oR cq,oR q',oJ (i:Int),oJ z,o11,o12] H6;obtain⟨n1,en1,_⟩:=pr (ns:=cs) (i:=(i:Int) % 6) (by omega) (by omega);refine bp (bM (bK (aa rfl) (bd (aa rfl) ao (by decide)) (.inl ecs6) en1) (dE ao (bL (aa rfl) ao ⟨by decide,by decide⟩) (.inl ⟨by decide,by decide⟩))) ?_;generalize n1+4099*((i:Int) / 6)=more;obtain⟨kq,fk,ek⟩:=(G.same s06).kinds D;have kpos:(0:Int)<((ks.map strV).length:Int):=by rw[IL];omega
    obtain⟨kv,ekv,mkv⟩:=y7 (xs:=ks.map strV) (i:=more / 64 % ((ks.map strV).length:Int)) (KC _ (by omega)) (KD _ kpos);obtain⟨k,hk,rfl⟩:=IR.mp mkv;refine bp (bK (cj (aa rfl) fk) (bd (bL (aa rfl) ao ⟨by decide,by decide⟩) (cK (cj (aa rfl) fk) (.inl (aM.of ek))) kpos) (.inl (aM.of ek)) ekv) ?_;show tAsg _ _ _ [some (.ref a),some (.ref g),some (.int st),some (.int (wi*hi)),some (.ref fq),some (.ref sq),some (.int c),some (.ref cq),some (.ref q'),some (.int (i:Int)),some (.int z),some (.int more),some (strV k)] H6;obtain⟨v,ev,mv⟩:=y7 (xs:=[strV (k - 32),strV k]) (i:=more / 512 % 2) (by omega) (by show _<(2:Int);omega);refine De (l:=sq) (i:=z) (P:=λv H'=>al H6 H'/\∃c,v=strV c/\(c∈ks\/c∈ks.map (· - 32))) (λQ q=>tT (ac (uk (aa rfl) (hlt k hk)) (ac (aa rfl) av)) (by show 2<=1000;decide) (λH'=>(bd (bL (aa rfl) ao ⟨by decide,by decide⟩) ao (by decide))) ev (λH' s=>q _ _ ⟨s,?_⟩)) (λu H7 h=>?_)
    .simp only[IN,Jl,or_false]at mv
     rcases mv with rfl|rfl
     .exact⟨_,rfl,.inr (IR.mpr ⟨k,hk,rfl⟩)⟩
     .exact⟨_,rfl,.inl hk⟩
    .obtain⟨s7,c',rfl,hc'⟩:=h;refine⟨aa rfl,aa rfl,zs.map strV,s7 _ _ e6,z0,by rw[IL];omega,zs.set z.toNat c',_,_,_,_,rfl,?_,by rw[List.length_set];exact lz,λs c2 h2=>?_,(sb6.trans s7.but).self⟩
     .rw[af,List.map_set]
     .by_cases hs2:s=z.toNat
      .subst hs2;rw[JL (by omega)]at h2;cases h2;rw[E7 (by rw[KA z0];exact z2)];unfold eH;rw[E7 (by decide)];exact E5 (.inr hc')
      .rw[JM (λe=>hs2 e.symm)]at h2;exact gz s c2 h2
   .rintro σ' H'' h;exact hK _ _ h
  rintro _ H5 ⟨zs,o9,o10,o11,o12,rfl,e5,lz,gz,sb⟩;show cp _ _ [oR a,oR g,oJ st,oJ (wi*hi),oR fq,oR sq,oJ c,oR cq,oR pq,o9,o10,o11,o12] H5;refine yV ao (qK (aa rfl) (AS e5 (by omega) (q _ _ ?_ (λs c' h=>gz s c' h) (back _ sb))));show zs.toArray.size=_;rw[IM];exact lz
end
def oX(K:Frag):Sp:=λvs H Q _=>∃(a:Addr)(ns:List Int),vs=[.ref a]/\aM K H a (ns.map V.int)/\ns.length<=63/\∀H',Q (.bl true) H'
structure CL(P:Fn)(w:Fp)(K:Frag)(mg:Fc)(E3:Fw)(cB cG:Addr):Prop extends LG1 P w K mg E3 where
 _law_board:eK P w K mg E3 "_law_board" ["_law_script"] 2 (lX K)
 _law_kinds:eK P w K mg E3 "_law_kinds" ["_law_cell"] 1 lW
 _law_row:eK P w K mg E3 "_law_row" ["_law_script","_law_game","_law_start"] 2 (sX K cB cG)
 _law_lines:eK P w K mg E3 "_law_lines" ["_law_place","_law_wide","_law_high"] 1 (lV K)
 _law_changed:eK P w K mg E3 "_law_changed" ["_law_lines_here","_law_cell","_law_kinds_here"] 2 (pa K)
 _law_read:eK P w K mg E3 "_law_read" ["_law_lines_here","_law_wide","_law_high","_law_holes","_law_kinds_here"] 1 (oV K)
 _law_told:eK P w K mg E3 "_law_told" ["_law_game","_law_lines_here"] 8 (oQ K cB cG)
 _law_whole:eK P w K mg E3 "_law_whole" ["_law_thing"] 1 je
 shown:eK P w K mg E3 "shown" ["game","place"] 1 (ky K cB cG)
 Board:mW P w K mg E3 "Board" cB ["self","wide","high","holes"] 4 (pc K cB)
 Game:mW P w K mg E3 "Game" cG ["self","board","kinds","rules","turns","ends","stuck"] 6 (oY K cG)
section
variable{P:Fn}{w:Fp}{K:Frag}{mg:Fc}{E3:Fw}{aS aA aE aW aD:Addr}
theorem AG{f cB cG:Addr}{fd:Ft}(F:bT K "law" "law" gb f fd)(T:Txt mg aS aA aE aW aD)(B:iS K cB)(D:zu K cG)(C:CL P w K mg E3 cB cG):bo P w K mg E3 dO 9 f fd ["_law_script"] (oX K):=by
 refine F.ok cf (λvs H Q E h=>?_) (λcdv A E4 s H vs Q E hr h=>?_)
 .obtain⟨a,ns,rfl,_⟩:=h;rfl
 .obtain⟨a,ns,rfl,hS,hlen,k⟩:=h;have hu:=cC hr;refine⟨_,(ae (tF (aK C._law_board hr (ay (cv 0) pa_nil)) (EC K (n:=3) (en (de (i:=1) cf.nd rfl (Or.inl rfl)) (en (de (i:=2) cf.nd rfl (Or.inl rfl)) (en (de (i:=3) cf.nd rfl (Or.inl rfl)) kM)))))
   (ae (aF (i:=4) cf.nd rfl (Or.inl rfl) (aK C._law_kinds hr (ay (aK C._law_cell_at hr (ay (cv 0) (ay ag pa_nil))) pa_nil)))
   (ae (aF (i:=5) cf.nd rfl (Or.inl rfl) (eN K (aY (ay aX (ay aX pa_nil))) (ah (ah (aK C._law_cell_at hr (ay (cv 0) (ay ag pa_nil))) ag) ag)))
   (ae (aF (i:=6) cf.nd rfl (Or.inl rfl) (gB K hu (ah (ah (aK C._law_cell_at hr (ay (cv 0) (ay ag pa_nil))) ag) ag) ag))
   (ae (bf (aZ (cv 6)) (am (vn (i:=1) (j:=3) (l:=4) rfl cf.nd rfl rfl rfl rfl rfl rfl (ay (kB (dI K) bq T.len (ay (cv 5) pa_nil)) (ay (aY pa_nil) (ay (qC (ou rfl) cF T.list (ay (cv 5) pa_nil)) pa_nil))) rfl)) aI)
   (ae (aF (i:=7) cf.nd rfl (Or.inl rfl) (zd C.Game hr (ay (zd C.Board hr (ay (cv 1) (ay (cv 2) (ay (qC (jn K) cF T.list (ay (cv 3) pa_nil)) pa_nil)))) (ay (qC (jn K) cF T.list (ay (cv 4) pa_nil)) (ay (aY pa_nil) (ay (aY pa_nil) (ay (aY pa_nil) (ay aX pa_nil))))))))
   (ae (aF (i:=8) cf.nd rfl (Or.inl rfl) (ji (ay (aK C._law_row hr (ay (cv 0) (ay (cv 7) (ay ag pa_nil)))) (ay (ah (aK C._law_cell_at hr (ay (cv 0) (ay ag pa_nil))) ag) pa_nil))))
   (ae (bf (aZ (cv 6)) (am (aF (i:=8) cf.nd rfl (Or.inl rfl) (ji (ay (ah (cv 5) (ie K (eN K (cv 8) ag) (aP (cv 1)) bc)) (ay (eN K (cv 8) ag) pa_nil))))) aI)
   (ae (aF (i:=9) cf.nd rfl (Or.inl rfl) (aK C._law_lines hr (ay (cv 8) (ay (cv 1) (ay (cv 2) pa_nil)))))
   (ae (aF (i:=10) cf.nd rfl (Or.inl rfl) (aK C.shown hr (ay (cv 7) (ay (cv 8) pa_nil))))
   (ae (bf (PW.pt (dG (bw (aZ (qz .list T.isinstance T.list cF (cv 10)))) (dG (bi K hu (cv 10) (cv 9)) (cI (bi K hu (eF (bZ (N:=["_law_one"]) (src:=[none]) (aj gb) ["_law_script","_law_wide","_law_high","_law_holes","_law_kinds_here","_law_word","_law_is_word","_law_game","_law_place","_law_due","_law_found","_law_cells","_law_cell","_law_lines_here","_law_handed","_law_told_here"]) (qy K (cv 10)) (λ_ _ _=>(bb (i:=0) ["_law_one"])) (λ_ _ _=>(ma (bw (aZ (qz .str T.isinstance T.str lD (cv 0)))))) (λ_ _ _=>(cv 0))) (aY pa_nil)))))) (am (aB dA)) aI)
   (ae (iX (on (cv 10) aX))
   (ae (bf (PW.pt (dG (bi K hu (aK C.shown hr (ay (cv 7) (ay (cv 8) pa_nil))) (cv 9)) (cI (bi K hu (cv 10) (ah (cv 9) (aY (ay aX pa_nil))))))) (am (aB dA)) aI)
   (ae (aF (i:=11) cf.nd rfl (Or.inl rfl) (ah (ah (aY (ay ag (ay (aK C._law_mixed hr (ay (aK C._law_cell_at hr (ay (cv 0) (ay ag pa_nil))) (ay ag pa_nil))) pa_nil))) (eF (bZ (N:=["_law_cell"]) (src:=[none]) (aj gb) ["_law_script","_law_wide","_law_high","_law_holes","_law_kinds_here","_law_word","_law_is_word","_law_game","_law_place","_law_due","_law_found","_law_cells","_law_cell","_law_lines_here","_law_handed","_law_told_here"]) (qy K (ie K (cv 0) (aP ag) (aP ag))) (λ_ _ _=>(bb (i:=0) ["_law_cell"])) (λ_ _ _=>bx) (λ_ _ _=>(aK C._law_mixed hr (ay (cv 0) (ay ag pa_nil)))))) (aY (ay ag pa_nil))))
   (ae (ik Gk rfl (qy K (cv 11)) (de (i:=12) cf.nd rfl (Or.inl rfl)) (ae (aF (i:=13) cf.nd rfl (Or.inl rfl) (aK C._law_changed hr (ay (cv 9) (ay (cv 12) (ay (cv 4) pa_nil)))))
   (ae (aF (i:=14) cf.nd rfl (Or.inl rfl) (qC (jn K) cF T.list (ay (cv 13) pa_nil)))
   (ae (aF (i:=15) cf.nd rfl (Or.inl rfl) (aK C._law_told hr (ay (cv 7) (ay (cv 14) pa_nil))))
   (ae (bf (PW.pt (dG (bi K hu (cv 15) (aK C._law_read hr (ay (cv 13) (ay (cv 1) (ay (cv 2) (ay (cv 3) (ay (cv 4) pa_nil))))))) (cI (bi K hu (cv 14) (cv 13))))) (am (aB dA)) aI)
   (ae (iX (uD (cv 14)))
   (am (bf (PW.pt (gc (bi K hu (cv 15) io) (eQ (PW.pt (dG (bw (aZ (qz .tuple T.isinstance T.tuple mR (cv 15)))) (cI (bw (aZ (aK C._law_whole hr (ay (eN K (cv 15) ag) pa_nil)))))))))) (am (aB dA)) aI))))))))
   (am (aB dA))))))))))))))))),?_⟩
  show bg _ _ _ [oR a,none,none,none,none,none,none,none,none,none,none,none,none,none,none,none] H;refine dm (λσ' H'=>∃(wi hi:Int)(d:Addr)(hs:List Int),σ'=[oR a,oJ wi,oJ hi,oR d,none,none,none,none,none,none,none,none,none,none,none,none]/\1<=wi/\wi<=8/\1<=hi/\hi<=8/\H' d=some (.lst (hs.map V.int))/\(∀h∈hs,0<=h/\h<wi*hi)/\hs.Nodup/\(hs.length:Int)<wi*hi/\al H H') (λK' hK=>?_) ?_
  .refine Bl (ac (aa rfl) av) ⟨a,ns,rfl,hS,λt d wi hi hs H' w1 w8 h1 h8 et ed gd nd ln l2 nq nt s=>?_⟩;exact DF et (hK _ _ ⟨wi,hi,d,hs,rfl,w1,w8,h1,h8,ed,gd,nd,ln,s⟩)
  rintro _ H1 ⟨wi0,hi,d0,hs0,rfl,w10,w80,h1,h8,ed0,gd0,nd0,ln0,s1⟩;have hS1:=s1.seq hS;refine bv (λv H'=>∃(kq:Addr)(ks:List Nat),v=.ref kq/\H' kq=some (.lst (ks.map strV))/\(∀c∈ks,mY c)/\ks.Nodup/\1<=ks.length/\ks.length<=6/\al H1 H') (λQ q=>?_) ?_
  .exact eV (ac (aJ (ac (aa rfl) (ac ao av)) (λQ q=>⟨a,ns,2,rfl,hS1,by decide,q⟩)) av) ⟨_,rfl,λkq ks H' z1 z2 z3 z4 z5 z6 z7=>q _ _ ⟨kq,ks,rfl,z2,z3,z4,z5,z6,z7⟩⟩
  rintro _ H2 ⟨kq0,ks0,rfl,ek0,hks0,knd0,k10,k60,s2⟩;have hS2:=s2.seq hS1;obtain⟨wd,ew,hwd⟩:=j3 (ss:=["first","second"]) (i:=cellAt ns 3 / 2 % 2) (by omega) (by show _<(2:Int);omega);have hw:wd="first"\/wd="second":=by simpa using hwd
  refine bv (λv H'=>v=.str wd/\al H2 H') (λQ q=>nU (vs:=[.str "first",.str "second"]) (ac ao (ac ao av)) (by decide) (λH' s'=>(bd (bL (aJ (ac (aa rfl) (ac ao av)) (λQ q=>⟨a,ns,3,rfl,s'.seq hS2,by decide,q⟩)) ao ⟨by decide,by decide⟩) ao (by decide))) ew (λH' s'=>q _ _ ⟨rfl,s'⟩)) ?_;rintro _ H3 ⟨rfl,s3⟩;have hS3:=s3.seq hS2;refine bp (eG (bd (bL (aJ (ac (aa rfl) (ac ao av)) (λQ q=>⟨a,ns,3,rfl,hS3,by decide,q⟩)) ao ⟨by decide,by decide⟩) ao (by decide)) ao) ?_;generalize decide (cellAt ns 3 / 4 % 16=3)=iw;show bg _ _ _ [oR a,oJ wi0,oJ hi,oR d0,oR kq0,oT wd,some (.bl iw),none,none,none,none,none,none,none,none,none] H3;have wl:wd.length=5\/wd.length=6:=by rcases hw with rfl|rfl<;>decide+kernel
  refine dm (λσ' H'=>∃(wi:Int)(d kq:Addr)(hs:List Int)(ks:List Nat),σ'=[oR a,oJ wi,oJ hi,oR d,oR kq,oT wd,some (.bl iw),none,none,none,none,none,none,none,none,none]/\1<=wi/\wi<=8/\H' d=some (.lst (hs.map V.int))/\(∀h∈hs,0<=h/\h<wi*hi)/\hs.Nodup/\(hs.length:Int)<wi*hi/\H' kq=some (.lst (ks.map strV))/\(∀c∈ks,mY c)/\ks.Nodup/\1<=ks.length/\ks.length<=6/\(iw=true->(wd.length:Int)=wi)/\al H3 H') (λK' hK=>?_) ?_
  .refine fJ (bn (aa rfl)) (λhiw=>?_) (λhiw=>hK _ _ ⟨wi0,d0,kq0,hs0,ks0,rfl,w10,w80,(s2.trans s3) _ _ ed0,gd0,nd0,ln0,s3 _ _ ek0,hks0,knd0,k10,k60,(λz=>by rw[hiw]at z;cases z),al.refl _⟩);have wch:∀c∈wd.cps.toList,97<=c/\c<=122:=by rcases hw with rfl|rfl<;>decide+kernel
   have wnd:wd.cps.toList.Nodup:=by rcases hw with rfl|rfl<;>decide+kernel
   have wll:=bI wd;have mm:1*1<=(wd.length:Int)*hi:=KB (by omega) h1 (by omega) (by omega);refine Au (bz (eS (aa rfl) (by rw[Fq];omega)) (bP (cA (bV ⟨Kh _,λe he=>bP (AK (aa rfl) (by omega) λl hl=>bV ⟨_,_,_,rfl,hK _ _ ⟨wd.length,e,l,[],wd.cps.toList,rfl,by omega,by omega,?_,(λh hh=>by cases hh),List.nodup_nil,by show(0:Int)<_;omega,af,wch,wnd,by omega,by omega,λ_=>rfl,((al.refl H3).upd he).upd hl⟩⟩)⟩))));exact((al.refl _).upd hl) _ _ af
  rintro _ H4 ⟨wi,d,kq,hs,ks,rfl,w1,w8,ed2,gd,nd,ln,ek,hks,knd,k1,k6,hwl,s4⟩;have ew2:((wi.toNat:Nat):Int)=wi:=KA (by omega);have eh2:((hi.toNat:Nat):Int)=hi:=KA (by omega);have ewh:(wi*hi).toNat=wi.toNat*hi.toNat:=by
   have:wi*hi=((wi.toNat*hi.toNat:Nat):Int):=by rw[KH,ew2,eh2]
   rw[this];rfl
  have m64:wi.toNat*hi.toNat<=8*8:=Kn (by omega) (by omega);have mw:wi.toNat*1<=wi.toNat*hi.toNat:=Ku _ (by omega);refine bv (λv H'=>∃(g b:Addr)(hs':List Int),v=.ref g/\hs'.Perm hs/\cc K cB H' b wi hi hs'/\gT cG H' g b (ks.map strV) [] [] [] "lost"/\al H4 H') (λQ q=>?_) ?_
  .refine vD (bP (vE (aa rfl) (aa rfl) (aa rfl) (.inl (aM.of ed2)) λl hl x dx nx ndx ne=>?_));have sl:=(al.refl H4).upd (o:=.lst (hs.map V.int)) hl;have el:(upd H4 l (.lst (hs.map V.int))) l=some (.lst (hs.map V.int)):=af;refine⟨x,l,dx,wi,hi,hs,rfl,af,by rw[ar (au el nx),ar (au el ndx)];exact el,w1,w8,h1,h8,gd,nd,ln,λhs' H' pm O sb=>⟨rfl,?_⟩⟩;have s3:=j5 sl nx ndx sb;have ek3:=s3 _ _ ek;refine bP (za (aa rfl) (.inl (aM.of ek3)) λkl hkl=>bP (cA (bV ⟨Kh _,λr hr'=>bP (cA (bV ⟨Kh _,λt ht=>bP (cA (bV ⟨Kh _,λe he=>bz ao (bV λg gx ng ngx nne=>?_)⟩))⟩))⟩)));have sA:=(al.refl H').upd (o:=.lst (ks.map strV)) hkl;have eA:(upd H' kl (.lst (ks.map strV))) kl=some (.lst (ks.map strV)):=af;generalize upd H' kl (HO.lst (ks.map strV))=HA at sA eA hr' ht he ng ngx ⊢;have sB:=(al.refl HA).upd (o:=.lst []) hr';have eB:(upd HA r (.lst [])) r=some (.lst []):=af;generalize upd HA r (HO.lst [])=HB at sB eB ht he ng ngx ⊢;have sC:=(al.refl HB).upd (o:=.lst []) ht;have eC:(upd HB t (.lst [])) t=some (.lst []):=af;generalize upd HB t (HO.lst [])=HC at sC eC he ng ngx ⊢;have sD:=(al.refl HC).upd (o:=.lst []) he;have eD:(upd HC e (.lst [])) e=some (.lst []):=af;generalize upd HC e (HO.lst [])=HD at sD eD ng ngx ⊢;have sF:al HD (upd (upd HD gx (.own g)) g (.ins cG gx [])):=((al.refl HD).upd ngx).upd (by rw[ar (Ne.symm nne)];exact ng);have ekF:=(((sB.trans sC).trans sD).trans sF) _ _ eA;have erF:=((sC.trans sD).trans sF) _ _ eB;have etF:=(sD.trans sF) _ _ eC;have eeF:=sF _ _ eD;have mm:(ks.map one).map V.str=ks.map strV:=by rw[IQ];rfl
   refine⟨g,x,kl,r,t,e,gx,ks.map one,[],[],[],"lost",rfl,af,by rw[mm];exact ekF,erF,etF,eeF,u7 ekF (λy hy=>?_),ku erF,ku etF,ku eeF,qB ekF hks knd k1 k6,?_,?_,?_,by decide,by decide,λH'' G sb'=>⟨rfl,?_⟩⟩
   .obtain⟨c,_,rfl⟩:=IR.mp hy;exact(show 1<=1000 from by decide)
   .unfold eg;rw[lj erF];rfl
   .unfold eX pairsB;rw[lj etF];rfl
   .unfold pairsB;rw[lj eeF];rfl
   .rw[mm]at G;have s4:al H' H'':=j5 (((sA.trans sB).trans sC).trans sD) ng ngx sb';exact q _ _ ⟨g,x,hs',rfl,pm,O.same s4,G,s3.trans s4⟩
  rintro _ H5 ⟨g,b,hs',rfl,pm,O,G,s5⟩;have hS5:=(s4.trans s5).seq hS3;refine bv (λv H'=>∃(p:Addr)(z:Str),v=.ref p/\H' p=some (.tup [.str z,.int (cellAt ns 3 % 2)])/\z.length=wi.toNat*hi.toNat/\al H5 H') (λQ q=>?_) ?_
  .exact sP (bP (eV (ac (aa rfl) (ac (aa rfl) (ac ao av))) ⟨a,g,b,ns,5,wi,hi,hs',ks,[],[],[],"lost",rfl,hS5,by decide,by decide,G,O,hks,k1,k6,by rw[pm.length_eq];exact ln,λz H' e1 e2 s=>bz (bd (aJ (ac (aa rfl) (ac ao av)) (λQ q=>⟨a,ns,3,rfl,s.seq hS5,by decide,q⟩)) ao (by decide)) (bV ⟨by show 2<=sizeLine;decide,λp hp=>q _ _ ⟨p,z,rfl,af,by rw[e1,ewh],s.upd hp⟩⟩)⟩))
  rintro _ H6 ⟨p0,z0,rfl,ep0,zl0,s6⟩;have hsd:cellAt ns 3 % 2=0\/cellAt ns 3 % 2=1:=by omega
  generalize cellAt ns 3 % 2=sd at hsd ep0;show bg _ _ _ [oR a,oJ wi,oJ hi,oR d,oR kq,oT wd,some (.bl iw),oR g,oR p0,none,none,none,none,none,none,none] H6;refine dm (λσ' H'=>∃(p:Addr)(z:Str),σ'=[oR a,oJ wi,oJ hi,oR d,oR kq,oT wd,some (.bl iw),oR g,oR p,none,none,none,none,none,none,none]/\H' p=some (.tup [.str z,.int sd])/\z.length=wi.toNat*hi.toNat/\al H6 H') (λK' hK=>?_) ?_
  .refine fJ (bn (aa rfl)) (λhiw=>?_) (λhiw=>hK _ _ ⟨p0,z0,rfl,ep0,zl0,al.refl _⟩);have hl:=hwl hiw;have ec:(gQ z0 (some wi) none).length=z0.length - wi.toNat:=by
    have:=qN (z:=z0) (n:=wi.toNat) (by omega)
    rwa[ew2]at this
   refine Bm (sP (bz (hV (aa rfl) (zh (bK (x:=.str z0) (aa rfl) ao (.inr (dC.of ep0)) rfl) (bR (aa rfl)) dc (by rw[Fq];omega)) (by rw[ec,Fq];omega)) (bz (bK (x:=.int sd) (aa rfl) ao (.inr (dC.of ep0)) rfl) (bV ⟨by show 2<=sizeLine;decide,λp hp=>hK _ _ ⟨p,_,rfl,af,?_,(al.refl _).upd hp⟩⟩))));rw[ck,ec];omega
  rintro _ H7 ⟨p,z,rfl,ep,zl,s7⟩;refine bv (λv H'=>∃dq,v=.ref dq/\H' dq=some (.lst ((shL z wi.toNat hi.toNat sd).map V.str))/\al H7 H') (λQ q=>eV (ac (aa rfl) (ac (aa rfl) (ac (aa rfl) av))) ⟨p,z,sd,wi,hi,rfl,w1,w8,h1,h8,dC.of ep,zl,hsd,λdq H' _ e s=>q _ _ ⟨dq,rfl,e,s⟩⟩) ?_;rintro _ H8 ⟨dq,rfl,edq,s8⟩;have s58:=(s6.trans s7).trans s8;have G8:=G.same s58;have O8:=O.same s58;have ep8:=s8 _ _ ep;refine bv (λv H'=>∃q,v=.ref q/\H8 q=none/\H' q=some (.lst ((shL z wi.toNat hi.toNat sd).map V.str))/\al H8 H') (λQ q=>eV (ac (aa rfl) (ac (aa rfl) av)) ⟨g,b,p,z,sd,wi,hi,hs',ks.map strV,[],[],[],"lost",rfl,G8,O8,dC.of ep8,zl,hsd,λr H' n e s=>q _ _ ⟨r,rfl,n,e,s⟩⟩) ?_;rintro _ H9 ⟨q,rfl,nq,eq,s9⟩;have shl:(shL z wi.toNat hi.toNat sd).length=hi.toNat+1:=pe;show bg _ _ _ [oR a,oJ wi,oJ hi,oR d,oR kq,oT wd,some (.bl iw),oR g,oR p,oR dq,oR q,none,none,none,none,none] H9;have e1:pQ K H9 20 (.ref q) (.ref dq) true:=by
   have:=fE (n:=19) (aM.of (K:=K) eq) (aM.of (K:=K) (s9 _ _ edq))
   rwa[E5 rfl]at this
  refine cx (λb H'=>b=false/\al H9 H') (λR zz=>oI (bQ (bn (uq (T:=.list) (aa rfl) eq))) (oI (bn (A2 (aa rfl) (aa rfl) e1)) (gR (du (rest:=[]) (aa rfl) (aM.of eq) (by rw[IL,shl,Fq];omega) rfl (λ_=>false) (λx=>x) (λx hx=>?_) (λx hx h=>by cases h) (λp' hp'=>cA (bV ⟨Kh _,λp2 hp2=>?_⟩)))))) (λH' w=>nomatch w.1) (λH10 w=>?_)
  .obtain⟨y,_,rfl⟩:=IR.mp hx;exact bQ (bn (A4 (T:=.str) (aa rfl)))
  .have e2:=fE (K:=K) (n:=19) (xs:=[]) (ys:=[]) (q:=p') (d:=p2) (H:=upd (upd H9 p' (.lst ((((shL z wi.toNat hi.toNat sd).map V.str).filter λ_=>false).map λx=>x))) p2 (.lst [])) (aM.of (((al.refl _).upd hp2) _ _ (by rw[af];simp))) (aM.of af);exact⟨_,e2,zz _ _ ⟨by rw[E5 rfl];rfl,((al.refl H9).upd hp').upd hp2⟩⟩
  obtain⟨_,s10⟩:=w;refine Ai (aa rfl) ao (s10 _ _ eq) (by rw[IL,shl,Fq];omega) ?_;have s11:al H8 (upd H10 q (.lst ((shL z wi.toNat hi.toNat sd).map V.str++[.str "more"]))):=(s9.trans s10).put nq;have e11:(upd H10 q (.lst ((shL z wi.toNat hi.toNat sd).map V.str++[.str "more"]))) q=some (.lst ((shL z wi.toNat hi.toNat sd++(["more"]:List Str)).map V.str)):=by rw[af,IV];rfl
  generalize upd H10 q (.lst ((shL z wi.toNat hi.toNat sd).map V.str++[.str "more"]))=H11 at s11 e11 ⊢;have edq11:=s11 _ _ edq;show bg _ _ _ [oR a,oJ wi,oJ hi,oR d,oR kq,oT wd,some (.bl iw),oR g,oR p,oR dq,oR q,none,none,none,none,none] H11;refine cx (λb H'=>b=false/\al H11 H') (λR zz=>lN (qR (ac (aa rfl) (ac (aa rfl) av)) ⟨g,b,p,z,sd,wi,hi,hs',ks.map strV,[],[],[],"lost",rfl,G8.same s11,O8.same s11,dC.of (s11 _ _ ep8),zl,hsd,λr H' n e s=>(show Ev (bu 9) _ _ (.ref dq)from aa rfl) _ ⟨true,?_,tM (gR ((show Ev (bu 10) _ _ (.ref q)from aa rfl) _ (fG ((show Ev (bu 9) _ _ (.ref dq)from aa rfl) _ (cA (bz ao (bV ⟨by show 1<=sizeLine;decide,λp2 hp2=>eU ((s.upd hp2) _ _ edq11) af ?_ (λp3 hp3=>?_)⟩)))))))⟩⟩)) (λH' w=>nomatch w.1) (λH12 w=>?_)
  .have:=fE (n:=19) (aM.of (K:=K) e) (aM.of (K:=K) (s _ _ edq11))
   rwa[E5 rfl]at this
  .rw[IL,shl];show _+1<=1000;omega
  .have sx:=(s.upd (o:=.lst [.str "more"]) hp2).upd (o:=.lst ((shL z wi.toNat hi.toNat sd).map V.str++[.str "more"])) hp3;have:=fE (n:=19) (d:=p3) (ys:=shL z wi.toNat hi.toNat sd++(["more"]:List Str)) (aM.of (K:=K) (sx _ _ e11)) (aM.of (K:=K) (by rw[af,IV];rfl));rw[E5 rfl]at this;exact⟨true,this,zz _ _ ⟨rfl,sx⟩⟩
  obtain⟨_,s12⟩:=w;have hS12:=((s58.trans s11).trans s12).seq hS5;refine bv (λv H'=>∃(cq:Addr)(cs:List Int),v=.ref cq/\H' cq=some (.lst (cs.map V.int))/\al H12 H') (λQ qq=>?_) ?_
  .obtain⟨ss,es,sl⟩:=EN ns (some 12) (some 18);refine fG (fG (cA (bz ao (bz (aJ (ac (aJ (ac (aa rfl) (ac ao av)) (λQ q=>⟨a,ns,4,rfl,hS12,by decide,q⟩)) (ac ao av)) (λQ q=>⟨_,_,rfl,q⟩)) (bV ⟨by show 2<=sizeLine;decide,λp1 hp1=>?_⟩)))));refine uA (rest:=[]) (aa rfl) (bR ao) (bR ao) (((al.refl _).upd hp1).seq hS12) (by rw[IL];omega) rfl (λx=>match x with| .int n=>.int (mixed n 1)|v=>v) (λH' x hx=>?_) (λd' H' e s=>?_)
   .obtain⟨n,rfl⟩:=t5 hx;exact(show Ev (fH iV (aV (bu 0) (aV (tC (.int 1)) ce))) [some (.int n)] H' (.int (mixed n 1))from aJ (ac (aa rfl) (ac ao av)) (λQ qq=>⟨_,_,rfl,qq⟩))
   .rw[es]at e;have e':H' d'=some (.lst ((ss.map λn=>mixed n 1).map V.int)):=by rw[e,IQ,IQ];rfl
    refine eU (s _ _ af) e' (by rw[IL,IL];show 2+_<=1000;omega) (λp3 hp3=>cA (bz ao (bV ⟨by show 1<=sizeLine;decide,λp4 hp4=>eU (((al.refl _).upd hp4) _ _ af) af ?_ (λp5 hp5=>qq _ _ ⟨p5,7::mixed (cellAt ns 4) 2::(ss.map λn=>mixed n 1)++[7],rfl,?_,(((((al.refl _).upd hp1).trans s).upd hp3).upd hp4).upd hp5⟩)⟩)))
    .rw[IT,IL,IL];show 2+_+1<=1000;omega
    .rw[af,IV];rfl
  rintro _ H13 ⟨cq,cs,rfl,ecq,s13⟩;have S0:=(s11.trans s12).trans s13;show bg _ _ _ [oR a,oJ wi,oJ hi,oR d,oR kq,oT wd,some (.bl iw),oR g,oR p,oR dq,oR q,oR cq,none,none,none,none] H13;refine dm (λσ' H'=>True) (λK' hK=>?_) (λσ' H' _=>aO ao (k _));refine mF (λv H'=>v=.ref cq/\H13=H') (λQ qq=>(show Ev (bu 11) _ _ (.ref cq)from aa rfl) _ (qq _ _ ⟨rfl,rfl⟩)) ?_;rintro _ _ ⟨rfl,rfl⟩;refine⟨cq,cs.map V.int,rfl,aM.of ecq,λi σ' H'=>(∃o12 o13 o14 o15,σ'=[oR a,oJ wi,oJ hi,oR d,oR kq,oT wd,some (.bl iw),oR g,oR p,oR dq,oR q,oR cq,o12,o13,o14,o15])/\al H13 H',⟨⟨_,_,_,_,rfl⟩,al.refl _⟩,λi σ H' _ h=>aM.of (h.2 _ _ ecq),?_,λσ H' _=>hK _ _ trivial⟩;rintro i x _ Hi hx ⟨⟨o12,o13,o14,o15,rfl⟩,si⟩;obtain⟨c,rfl⟩:=t5 (Jm hx);show bg _ _ _ [oR a,oJ wi,oJ hi,oR d,oR kq,oT wd,some (.bl iw),oR g,oR p,oR dq,oR q,oR cq,oJ c,o13,o14,o15] Hi;have s8i:=S0.trans si;refine bv (λv H'=>∃(l:Addr)(zs:List Str),v=.ref l/\H' l=some (.lst (zs.map V.str))/\zs.length<=30/\(∀y∈zs,y.length<=30)/\al Hi H') (λQ qq=>eV (ac (aa rfl) (ac (aa rfl) (ac (aa rfl) av))) ⟨dq,kq,c,shL z wi.toNat hi.toNat sd,ks,rfl,s8i _ _ edq,((s5.trans s58).trans s8i) _ _ ek,hks,k6,by rw[shl];omega,by rw[shl];omega,pZ (by omega),λl zs H' e n m s=>qq _ _ ⟨l,zs,rfl,e,n,m,s⟩⟩) ?_;rintro _ Ha ⟨l,zs,rfl,el,zn,zm,sa⟩;refine bv (λv H'=>∃hn,v=.ref hn/\Ha hn=none/\H' hn=some (.lst (zs.map V.str))/\al Ha H') (λQ qq=>za (aa rfl) (.inl (aM.of el)) λhn hh=>qq _ _ ⟨hn,rfl,hh,af,(al.refl _).upd hh⟩) ?_;rintro _ Hb ⟨hn,rfl,nh,eh,sb⟩;have s8b:=s8i.trans (sa.trans sb);refine bv (λv H'=>((∃init w' t,v=.ref t/\lI wi hi hs ks zs init w'/\H' t=some (.tup [.str (Fx "" init.reverse),.int (jH w')]))\/(v=.non/\¬∃init w',lI wi hi hs ks zs init w'))/\al Hb H') (λQ qq=>eV (ac (aa rfl) (ac (aa rfl) av)) ⟨g,b,hn,zs,wi,hi,hs',ks,[],[],[],"lost",rfl,G8.same s8b,O8.same s8b,hks,k6,aM.of eh,zn,zm,λinit w' t H' o e s=>qq _ _ ⟨.inl ⟨init,w',t,rfl,o.perm pm.symm,e⟩,s⟩,λno H' s=>qq _ _ ⟨.inr ⟨rfl,λ⟨i',w',o⟩=>no ⟨i',w',o.perm pm⟩⟩,s⟩⟩) ?_;rintro tv Hc ⟨ht,sc⟩;show bg _ _ _ [oR a,oJ wi,oJ hi,oR d,oR kq,oT wd,some (.bl iw),oR g,oR p,oR dq,oR q,oR cq,oJ c,oR l,oR hn,some tv] Hc;have s8c:=s8b.trans sc;have elc:=(sb.trans sc) _ _ el;have ehc:=sc _ _ eh;have oth:∀(H':Hp)(R:Bool->Hp->Prop),al Hc H'->(∀b H',b=false/\al Hc H'->R b H')->gn (e7 K .NotEq (bu 14) (bu 13)) [some (.ref a),some (.int wi),some (.int hi),some (.ref d),some (.ref kq),some (.str wd),some (.bl iw),some (.ref g),some (.ref p),some (.ref dq),some (.ref q),some (.ref cq),some (.int c),some (.ref l),some (.ref hn),some tv] H' R:=λH' R s zz=>by have:=fE (n:=19) (aM.of (K:=K) (s _ _ ehc)) (aM.of (K:=K) (s _ _ elc));rw[E5 rfl]at this;exact gR ((show Ev (bu 14) _ _ (.ref hn)from aa rfl) _ ((show Ev (bu 13) _ _ (.ref l)from aa rfl) _ ⟨true,this,zz _ _ ⟨rfl,s⟩⟩))
  refine cx (λb H'=>b=false/\al Hc H') (λR zz=>lN (gR ((show Ev (bu 15) _ _ tv from aa rfl) _ (eV (ac (aa rfl) (ac (aa rfl) (ac (aa rfl) (ac (aa rfl) (ac (aa rfl) av))))) ⟨l,d,kq,wi,hi,zs,hs,ks,rfl,elc,((s5.trans s58).trans s8c) _ _ ed2,((s5.trans s58).trans s8c) _ _ ek,hks,k6,w1,w8,h1,h8,zn,zm,λinit w' t2 H' o e s=>?_,λno H' s=>?_⟩)))) (λH' w=>nomatch w.1) (λHd w=>?_)
  .rcases ht with⟨i2,w2,t,rfl,o2,et⟩|⟨rfl,no⟩
   .obtain⟨rfl,rfl⟩:=o2.uniq o;exact⟨true,A7 (n:=19) (s _ _ et) e,tM (oth _ _ s zz)⟩
   .exact Fb ⟨_,_,o⟩ no
  .rcases ht with⟨i2,w2,t,rfl,o2,et⟩|⟨rfl,_⟩
   .exact Fb ⟨_,_,o2⟩ no
   .exact(tM (oth _ _ s zz))
  obtain⟨_,sd'⟩:=w;have ehd:=sd' _ _ ehc;refine DN (aa rfl) ehd ?_;have sE:al H13 (upd Hd hn (.lst [])):=si.trans ((((sa.trans sb).trans sc).trans sd').put (sa.free nh))
  rcases ht with⟨i2,w2,t,rfl,o2,et⟩|⟨rfl,no⟩
  .have etd:=sd' _ _ et;have ne:t≠hn:=λz=>by rw[z,ehd]at etd;cases etd
   have ete:(upd Hd hn (.lst [])) t=some (.tup [.str (Fx "" i2.reverse),.int (jH w2)]):=by rw[ar ne];exact etd
   exact fJ (b:=false) (fV (a:=true) (b:=false) (bn (λQ qq=>(show Ev (bu 15) _ _ (.ref t)from aa rfl) _ (ao _ qq))) (λ_=>fU (a:=false) (b:=false) (bQ (b:=true) (bn (A3 (T:=.tuple) (aa rfl) ete))) (λ_=>bQ (b:=true) (bn (aJ (sp:=je) (x:=.bl true) (ac (bK (x:=.int (jH w2)) (aa rfl) ao (.inr (dC.of ete)) rfl) av) (λQ qq=>⟨_,rfl,qq⟩)))))) (λh=>nomatch h) (λ_=>⟨⟨_,_,_,_,rfl⟩,sE⟩)
  .exact fJ (b:=false) (fV (a:=false) (b:=false) (bn (λQ qq=>(show Ev (bu 15) _ _ .non from aa rfl) _ (ao _ qq))) (λh=>nomatch h)) (λh=>nomatch h) (λ_=>⟨⟨_,_,_,_,rfl⟩,sE⟩)
end
end K11
namespace L2
open PySem PySem.W PyProof.Rows
theorem sN{q:Fn}{loose:List Str}{XP:(Fc)->Fw->Prop}{YP:Fp->Fw->Prop}{α:Type}{Yf:Fi->α}{Ya:Fp->α}{r:RowW}{d:DefRec}{kwd:List (Str×FA)}{run:Value->List Value->Sem Value}
  (hY:∀(w:Fp)(s₀ s₁:Fi),Yf s₀=Ya w->(∀b o,s₀.heap.get? b=some o->s₁.heap.get? b=some o)->YP w s₁.heap) (h:WalkO q loose XP YP r d kwd run):PySem.W.WalkX q loose XP Yf Ya r d kwd run:=
 λw s₀ s₁ mg mb G y a o pm cd doc dV kV ho hd hcd hD hmg hg args vals as L hpre hlay hrd hwl hlo=>h w s₀ s₁ mg mb G (hY w s₀ s₁ y L.keeps) a o pm cd doc dV kV ho hd hcd hD hmg hg args vals as hpre hlay hrd hwl hlo
theorem vI{P:List Value->Prop}(h:∀a0:Value,P [a0]):∀us:List Value,us.length=1->P us
 | [a0],_=>h a0
theorem m3{P:List Value->Prop}(h:∀a0 a1:Value,P [a0,a1]):∀us:List Value,us.length=2->P us
 | [a0,a1],_=>h a0 a1
theorem vH{P:List Value->Prop}(h:∀a0 a1 a2:Value,P [a0,a1,a2]):∀us:List Value,us.length=3->P us
 | [a0,a1,a2],_=>h a0 a1 a2
theorem ln4{P:List Value->Prop}(h:∀a0 a1 a2 a3:Value,P [a0,a1,a2,a3]):∀us:List Value,us.length=4->P us
 | [a0,a1,a2,a3],_=>h a0 a1 a2 a3
theorem ln5{P:List Value->Prop}(h:∀a0 a1 a2 a3 a4:Value,P [a0,a1,a2,a3,a4]):∀us:List Value,us.length=5->P us
 | [a0,a1,a2,a3,a4],_=>h a0 a1 a2 a3 a4
theorem ln7{P:List Value->Prop}(h:∀a0 a1 a2 a3 a4 a5 a6:Value,P [a0,a1,a2,a3,a4,a5,a6]):∀us:List Value,us.length=7->P us
 | [a0,a1,a2,a3,a4,a5,a6],_=>h a0 a1 a2 a3 a4 a5 a6
def m7:Nat->List Obj->Nat->Nat->PySem.W.BT
 |0,_,_,_=>.nil
 |f+1,l,a,b=>(l[b]?).elim .nil λo=>.node o (m7 f l (2*a) (a+b)) (m7 f l (2*a) (2*a+b))
def toT(s:Fi):SharedT:=⟨m7 12 s.heap.objs.toList 1 0,s.heap.objs.size,s.heap.life,s.gens,s.drawn,s.toks,s.os⟩
theorem Ds{p q:Fn}{loose:List Str}{Xt:Fi->Bool}{α:Type}{Yf:Fi->α}{Ya:Fp->α}{N:Nat}{g0:Bool}{H₀:GT->Fw}{gs₀:Array GL}{d₀:Drawn}{k₀ m₀:Nat}{ann:Option Value}{n0 nb n nf:Nat}
  {b:List FG} {env:HS} {qp p0 p1 p2:GO} {sa:Fp->Gf->Fi} {sb sc:Fp->Gf->SharedT} {sf:Fp->Gf->Fi}
  (open_:∀w:Fp,(fencedOpening Fy p w N).map (λs=>(s.heap,s.gens,s.drawn,s.toks))=some (H₀ w.params,gs₀,d₀,k₀))
  (size:∀w:Fp,((H₀ w.params).isNs Fg&&gs₀.size == 0,(H₀ w.params).objs.size,(H₀ w.params).nsMap Fg "__annotations__")=(true,m₀,ann))
  (pre:∀w os,topGo Fy p w m₀ ann n0 ⟨H₀ w.params,gs₀,d₀,k₀,os⟩ (topStub p)=some (sa w os,⟨denote Fy (.body b env),.body b env,p0,[Hy qp]⟩))
  (block:∀w os,segRun Fy p w m₀ ann 1 nb (sa w os) (blockOf b env (.body b env) p0 [Hy qp])=some (.next,(sb w os).abs,.body b env,p1))
  (main:∀w os,segRunT Fy p w m₀ ann 1 n (sb w os) (piecesOf b env (.body b env) p1 [Hy qp])=some (.next,sc w os,.body b env,p2))
  (fin:∀w os,topRun Fy p w m₀ ann nf (sc w os).abs ⟨doneF .next,.body b env,p2,[Hy qp]⟩=some (sf w os))
  (le:Nat.ble (n0+(nb+(n+nf))) N=true)
  (looks:∀w os,((Iy (FU p.main.body) (H₀ w.params) (sf w os).heap&&Ij p (sf w os).heap&&gensDone (sf w os)&&laidKept (H₀ w.params) (sf w os).heap),
    openSeen q loose (FU p.main.body) Xt g0 (sf w os),Yf (sf w os))=(true,openGood q loose,Ya w)):LeftO p q loose Xt Yf Ya N g0:=λw=>by
 obtain⟨⟨h,gs,d,k,os⟩,e,e'⟩:=KY.mp (open_ w);obtain⟨rfl,rfl,rfl,rfl⟩:h=H₀ w.params/\gs=gs₀/\d=d₀/\k=k₀:=by simpa using e'
 obtain⟨z1,z2,z3⟩:_/\_/\_:=by simpa only[Prod.mk.injEq]using size w
 obtain⟨l1,l2,l3⟩:_/\_/\_:=by simpa only[Prod.mk.injEq]using looks w os
 have r1:=piece_app (rest:=[]) (segRun_of (main w os)) (piece_nil (fin w os));rw[Jj]at r1;have r3:=go_top (pre w os) (piece_block (block w os) r1);have r:=topRun_mono (N - (n0+(nb+(n+nf)))) _ _ _ _ r3;rw[show n0+(nb+(n+nf))+(N - (n0+(nb+(n+nf))))=N by have:=Kz le;omega]at r;have t:Io Fy p w N ⟨H₀ w.params,gs,d,k,os⟩=some (sf w os):=by
  unfold Io;dsimp only;rw[z1,z2,z3,r];show(match Iy (FU p.main.body) (H₀ w.params) (sf w os).heap&&Ij p (sf w os).heap&&gensDone (sf w os)&&laidKept (H₀ w.params) (sf w os).heap with|true=>_|false=>_)=_
  rw[l1]
 unfold openEnds;rw[e];show(Io Fy p w N _).map _=_;rw[t];exact congrArg some (Prod.ext l2 l3)
abbrev DJ(name qual:Str)(params:Arguments)(body:List FG)(scope:Gj)(globals:Addr)(closure:List (Str×Addr))(dV kV doc pm:Value)(an:Option Addr)(cdv ct:Value)(bl:Addr):Ft:=
 {name,qualname:=qual,params,body:=.stmts body,scope,globals,closure,defaults:=dV,kwdefaults:=kV,doc,pyModule:=pm,annotations:=an,code:=cdv,closureTuple:=ct,builtins:=bl}
noncomputable def stT(t:PySem.W.BT)(n k:Nat)(P:GT)(os:Gf):SharedT:=⟨t,n,(boot_heap P).life,Array.mk [],boot_drawn,k,os⟩
theorem qx{p q:Fn}{loose:List Str}{Xt:Fi->Bool}{α:Type}{Yf:Fi->α}{Ya:Fp->α}{N:Nat}{g0:Bool}{H₀:GT->Fw}{gs₀:Array GL}{d₀:Drawn}{k₀ m₀:Nat}{ann:Option Value}{n0 nb n:Nat}
  {b:List FG} {env:HS} {qp p0 p1:GO} {sa:Fp->Gf->Fi} {sb:Fp->Gf->SharedT} {sf:Fp->Gf->Fi}
  (open_:∀w:Fp,(fencedOpening Fy p w N).map (λs=>(s.heap,s.gens,s.drawn,s.toks))=some (H₀ w.params,gs₀,d₀,k₀))
  (size:∀w:Fp,((H₀ w.params).isNs Fg&&gs₀.size == 0,(H₀ w.params).objs.size,(H₀ w.params).nsMap Fg "__annotations__")=(true,m₀,ann))
  (pre:∀w os,topGo Fy p w m₀ ann n0 ⟨H₀ w.params,gs₀,d₀,k₀,os⟩ (topStub p)=some (sa w os,⟨denote Fy (.body b env),.body b env,p0,[Hy qp]⟩))
  (block:∀w os,segRun Fy p w m₀ ann 1 nb (sa w os) (blockOf b env (.body b env) p0 [Hy qp])=some (.next,(sb w os).abs,.body b env,p1))
  (main:∀w os,topRun Fy p w m₀ ann n (sb w os).abs (restOf b env (.body b env) p1 [Hy qp])=some (sf w os))
  (le:Nat.ble (n0+(nb+n)) N=true)
  (looks:∀w os,((Iy (FU p.main.body) (H₀ w.params) (sf w os).heap&&Ij p (sf w os).heap&&gensDone (sf w os)&&laidKept (H₀ w.params) (sf w os).heap),
    openSeen q loose (FU p.main.body) Xt g0 (sf w os),Yf (sf w os))=(true,openGood q loose,Ya w)):LeftO p q loose Xt Yf Ya N g0:=λw=>by
 obtain⟨⟨h,gs,d,k,os⟩,e,e'⟩:=KY.mp (open_ w);obtain⟨rfl,rfl,rfl,rfl⟩:h=H₀ w.params/\gs=gs₀/\d=d₀/\k=k₀:=by simpa using e'
 obtain⟨z1,z2,z3⟩:_/\_/\_:=by simpa only[Prod.mk.injEq]using size w
 obtain⟨l1,l2,l3⟩:_/\_/\_:=by simpa only[Prod.mk.injEq]using looks w os
 have r3:=go_top (pre w os) (piece_block (block w os) (main w os));have r:=topRun_mono (N - (n0+(nb+n))) _ _ _ _ r3;rw[show n0+(nb+n)+(N - (n0+(nb+n)))=N by have:=Kz le;omega]at r;have t:Io Fy p w N ⟨H₀ w.params,gs,d,k,os⟩=some (sf w os):=by
  unfold Io;dsimp only;rw[z1,z2,z3,r];show(match Iy (FU p.main.body) (H₀ w.params) (sf w os).heap&&Ij p (sf w os).heap&&gensDone (sf w os)&&laidKept (H₀ w.params) (sf w os).heap with|true=>_|false=>_)=_
  rw[l1]
 unfold openEnds;rw[e];show(Io Fy p w N _).map _=_;rw[t];exact congrArg some (Prod.ext l2 l3)
def pE(as:List Addr)(s:Fi):List (Option Obj):=as.map s.heap.get?
def pD(K:GT->Frag)(w:Fp):List (Option Obj):=(K w.params).map λp=>some p.2
theorem DB{K:GT->Frag}{as:List Addr}(e:∀P,as=(K P).map (·.1))(w:Fp)(s₀ s₁:Fi)(y:pE as s₀=pD K w)(k:∀b o,s₀.heap.get? b=some o->s₁.heap.get? b=some o):(K w.params).In s₁.heap:=
 InK.keeps w s₀.heap s₁.heap (InK.of e w s₀ y) k
end L2
namespace K11
open PySem L2
noncomputable abbrev e8(x:Array Value)(n:Nat):Obj:=⟨.type "tuple",none,.seq x n,#[]⟩
noncomputable abbrev eO(a b:Str)(s:FG):Obj:=⟨.none,none,.func (L2.DJ a b (eT s) (dg s) (aj s) 0 [] .none .none .none .none none .none .none 0),#[]⟩
noncomputable abbrev gW(a b:Str)(n m l:Nat)(i j k o:Int)(r:Nat)(f:Bool)(p:Int)(q x y z:Nat)(u v:Int)(e:Nat):Obj:=⟨.type "code",none,.fields #[.str a n,.str b m,.str "/claim/cut.py" l,.int i 0,.int j 0,.int 0 0,.int k 0,.int o 0,.ref r,.bool f,.int p 0,.ref q,.none,.ref x,.ref y,.ref z,.int u 0,.int v 0,.str "/claim/cut.py" e],#[]⟩
noncomputable abbrev pT(a b:Str)(n m l:Nat)(i j k o:Int)(r:Nat)(f:Bool)(p:Int)(q:Nat)(u v:Int)(e:Nat):Obj:=⟨.type "code",none,.fields #[.str a n,.str b m,.str "/claim/cut.py" l,.int i 0,.int j 0,.int 0 0,.int k 0,.int o 0,.ref r,.bool f,.int p 0,.ref q,.none,.none,.none,.none,.int u 0,.int v 0,.str "/claim/cut.py" e],#[]⟩
noncomputable abbrev eP(a b:Str)(s:FG)(m:Str)(n c:Nat):Obj:=⟨.type "function",none,.func (Lb a b (eT s) (dg s) (aj s) .none .none .none (.str m n) none (.ref c) .none),#[]⟩
noncomputable abbrev Bz(x:Array Value):Obj:=⟨.none,none,.fields x,#[]⟩
noncomputable abbrev oF(x:Array Value):Obj:=⟨.type "code",none,.fields x,#[]⟩
noncomputable abbrev aG(P:GT)(x:Str)(n:Nat)(v:Value):DictEntry:=⟨PyData.keyHash P x,.str x n,v⟩
noncomputable abbrev aw(x:Obj):PySem.W.BT:=.node x .nil .nil
noncomputable abbrev aq(x:Obj)(a b:PySem.W.BT):PySem.W.BT:=.node x a b
noncomputable abbrev bG:Value:=.int 0 0
noncomputable abbrev gU(n:Nat):Value:=.str "/claim/cut.py" n
noncomputable abbrev aN(n:Int):Value:=.int n 0
abbrev hP:Fn:=PySem.Challenge.pw_playboard_k11_shown_and_read
noncomputable def hQ:Fn:={hP with main:={hP.main with body:=bA 0::bA 2::bA 3::bA 4::bA 5::bA 6::bA 7::bA 8::bA 9::bA 10::bA 11::bA 13::bA 14::bA 15::bA 17::bA 18::bA 19::bA 20::bA 21::bA 22::bA 23::bA 24::bA 25::bA 26::bA 27::bA 28::bA 29::bA 30::bA 31::bA 32::bA 33::bA 34::bA 36::bA 37::bA 38::bA 39::bA 40::bA 41::bA 43::bA 44::bA 45::bA 47::bA 48::bA 49::bA 51::bA 53::bA 54::bA 55::bA 56::bA 57::bA 58::bA 59::bA 60::bA 61::bA 62::bA 63::bA 64::bA 65::[]}}
noncomputable section
variable(P:GT)
def zo3:Obj:=⟨(.type "dict"),none,(.dict #[aG P "__name__" 165 (.str "playboard.rules" 392),aG P "__doc__" 166 .none,aG P "__package__" 167 .none,aG P "__loader__" 168 (.builtin "__main__.__loader__#opaque"),aG P "__spec__" 169 .none,aG P "__annotations__" 170 (.ref 6),aG P "__builtins__" 171 (.ref 4),aG P "__file__" 173 (gU 172),aG P "__cached__" 174 .none,aG P "_wall" 193 (.ref 21),aG P "PlayError" 213 (.ref 31),aG P "BadBoard" 229 (.ref 44),aG P "BadGame" 245 (.ref 56),aG P "BadLine" 270 (.ref 75),aG P "BadPlace" 286 (.ref 87),aG P "NoMove" 302 (.ref 99),aG P "TooWide" 318 (.ref 111),aG P "NoWord" 334 (.ref 123),aG P "Over" 350 (.ref 135),aG P "NothingBack" 366 (.ref 147),aG P "is_whole" 375 (.ref 156),aG P "is_letter" 382 (.ref 163),aG P "is_among" 391 (.ref 170),aG P "SORTS" 397 (.ref 171),aG P "AIMS" 401 (.ref 172),aG P "END_WORDS" 404 (.ref 173),aG P "STUCK_WORDS" 408 (.ref 174),aG P "MOST_KINDS" 410 (.int 6 409),aG P "MOST_RULES" 412 (.int 24 411),aG P "MOST_PAIRS" 414 (.int 6 413),aG P "is_word" 422 (.ref 181),aG P "is_tuple_of" 430 (.ref 188),aG P "is_list_of" 439 (.ref 195),aG P "is_step" 449 (.ref 202),aG P "is_rule" 459 (.ref 209),aG P "is_pair" 468 (.ref 216),aG P "are_pairs" 474 (.ref 221),aG P "is_turns" 480 (.ref 226)] 38),#[]⟩
def ak:Obj:=e8 #[] 0
def Ej:Obj:=Bz #[(aN 1),bG,(.ref 20),(aN 5),bG,(.ref 27),(aN 7),bG,(.ref 40),(aN 9),bG,(.ref 52),(aN 11),bG,(.ref 64),(aN 16),bG,(.ref 83),(aN 18),bG,(.ref 95),(aN 20),bG,(.ref 107),(aN 22),bG,(.ref 119),(aN 24),bG,(.ref 131),(aN 26),bG,(.ref 143),(aN 29),bG,(.ref 155),(aN 31),bG,(.ref 162),(aN 33),bG,(.ref 169),(aN 43),bG,(.ref 180),(aN 45),bG,(.ref 187),(aN 47),bG,(.ref 194),(aN 49),bG,(.ref 201),(aN 54),bG,(.ref 208),(aN 64),bG,(.ref 215),(aN 66),bG,(.ref 220),(aN 68),bG,(.ref 225)]
def C4:Obj:=pT "<module>" "<module>" 182 183 184 1 0 0 0 11 false 181 12 185 1 186
def C3:Obj:=⟨(.type "frame"),none,.plain,#[(some (.ref 13)),(some (.ref 3)),(some (.ref 3)),none,(some (.str "__main__" 164)),none,(some (.ref 0))]⟩
def aR:Obj:=Bz #[]
def zS:Obj:=e8 #[(.str "k" 190)] 0
def C2:Obj:=eO "_wall" "_wall" pj
def zR:Obj:=gW "_wall" "_wall" 187 188 189 1 1 0 3 15 true 181 16 17 18 19 191 1 192
def zQ:Obj:=eP "_wall" "_wall" pj "__main__" 164 20
def zP:Obj:=e8 #[(.type "ValueError")] 0
def eM:Obj:=⟨(.type "builtin_function_or_method"),none,(.fields #[(.builtin "type.__prepare__"),(.type "type")]),#[]⟩
def CY:Obj:=⟨(.type "dict"),none,(.dict #[aG P "__module__" 203 (.str "playboard.errors" 194),aG P "__qualname__" 205 (.str "PlayError" 204),aG P "__firstlineno__" 207 (.int 5 206),aG P "__static_attributes__" 208 (.ref 29)] 4),#[]⟩
def CQ:Obj:=pT "PlayError" "PlayError" 198 199 200 5 0 0 0 25 false 181 26 201 5 202
def CN:Obj:=⟨(.type "frame"),none,.plain,#[(some (.ref 27)),(some (.ref 3)),(some (.ref 24)),none,(some (.str "playboard.errors" 194)),none,(some (.ref 0))]⟩
def zO:Obj:=⟨(.type "dict"),none,(.dict #[aG P "__module__" 203 (.str "playboard.errors" 194),aG P "__firstlineno__" 207 (.int 5 206),aG P "__static_attributes__" 208 (.ref 29),aG P "__weakref__" 210 (.ref 32),aG P "__doc__" 211 .none] 3),#[]⟩
def zN:Obj:=⟨(.type "type"),none,(.cls ⟨"PlayError",[(.type "ValueError")],[(.ref 31),(.type "ValueError"),(.type "Exception"),(.type "BaseException"),(.type "object")],30,"PlayError",true,[],[(.ref 44),(.ref 56),(.ref 75),(.ref 87),(.ref 99),(.ref 111),(.ref 123),(.ref 135),(.ref 147)],false,none,false⟩),#[(some (.ref 22)),none,(some (.str "PlayError" 196)),(some (.str "PlayError" 204)),(some (.builtin "ValueError.__new__")),(some (.bool true))]⟩
def zM:Obj:=⟨(.type "getset_descriptor"),none,(.fields #[(.str "__weakref__" 209),(.ref 31),(.builtin "ExceptionGroup.__weakref__"),.none]),#[]⟩
def Cy:Obj:=⟨(.type "super"),none,(.fields #[(.ref 31),(.ref 31),(.ref 31)]),#[]⟩
def Cr:Obj:=⟨(.type "builtin_function_or_method"),none,(.fields #[(.builtin "object.__init_subclass__"),(.ref 31)]),#[]⟩
def dj:Obj:=e8 #[(.ref 31)] 0
def Ck:Obj:=⟨(.type "dict"),none,(.dict #[aG P "__module__" 221 (.str "playboard.errors" 194),aG P "__qualname__" 223 (.str "BadBoard" 222),aG P "__firstlineno__" 225 (.int 7 224),aG P "__static_attributes__" 226 (.ref 42)] 4),#[]⟩
def Ce:Obj:=pT "BadBoard" "BadBoard" 216 217 218 7 0 0 0 38 false 181 39 219 7 220
def Cb:Obj:=⟨(.type "frame"),none,.plain,#[(some (.ref 40)),(some (.ref 3)),(some (.ref 37)),none,(some (.str "playboard.errors" 194)),none,(some (.ref 0))]⟩
def zL:Obj:=⟨(.type "dict"),none,(.dict #[aG P "__module__" 221 (.str "playboard.errors" 194),aG P "__firstlineno__" 225 (.int 7 224),aG P "__static_attributes__" 226 (.ref 42),aG P "__doc__" 227 .none] 2),#[]⟩
def zK:Obj:=⟨(.type "type"),none,(.cls ⟨"BadBoard",[(.ref 31)],[(.ref 44),(.ref 31),(.type "ValueError"),(.type "Exception"),(.type "BaseException"),(.type "object")],43,"BadBoard",true,[],[],false,none,false⟩),#[(some (.ref 35)),none,(some (.str "BadBoard" 214)),(some (.str "BadBoard" 222)),(some (.builtin "ValueError.__new__")),(some (.bool true))]⟩
def B4:Obj:=⟨(.type "super"),none,(.fields #[(.ref 44),(.ref 44),(.ref 44)]),#[]⟩
def B3:Obj:=⟨(.type "builtin_function_or_method"),none,(.fields #[(.builtin "object.__init_subclass__"),(.ref 44)]),#[]⟩
def B2:Obj:=⟨(.type "dict"),none,(.dict #[aG P "__module__" 237 (.str "playboard.errors" 194),aG P "__qualname__" 239 (.str "BadGame" 238),aG P "__firstlineno__" 241 (.int 9 240),aG P "__static_attributes__" 242 (.ref 54)] 4),#[]⟩
def B1:Obj:=pT "BadGame" "BadGame" 232 233 234 9 0 0 0 50 false 181 51 235 9 236
def B0:Obj:=⟨(.type "frame"),none,.plain,#[(some (.ref 52)),(some (.ref 3)),(some (.ref 49)),none,(some (.str "playboard.errors" 194)),none,(some (.ref 0))]⟩
def zJ:Obj:=⟨(.type "dict"),none,(.dict #[aG P "__module__" 237 (.str "playboard.errors" 194),aG P "__firstlineno__" 241 (.int 9 240),aG P "__static_attributes__" 242 (.ref 54),aG P "__doc__" 243 .none] 2),#[]⟩
def zI:Obj:=⟨(.type "type"),none,(.cls ⟨"BadGame",[(.ref 31)],[(.ref 56),(.ref 31),(.type "ValueError"),(.type "Exception"),(.type "BaseException"),(.type "object")],55,"BadGame",true,[],[],false,none,false⟩),#[(some (.ref 47)),none,(some (.str "BadGame" 230)),(some (.str "BadGame" 238)),(some (.builtin "ValueError.__new__")),(some (.bool true))]⟩
def BZ:Obj:=⟨(.type "super"),none,(.fields #[(.ref 56),(.ref 56),(.ref 56)]),#[]⟩
def BY:Obj:=⟨(.type "builtin_function_or_method"),none,(.fields #[(.builtin "object.__init_subclass__"),(.ref 56)]),#[]⟩
def BX:Obj:=⟨(.type "dict"),none,(.dict #[aG P "__module__" 253 (.str "playboard.errors" 194),aG P "__qualname__" 255 (.str "BadLine" 254),aG P "__firstlineno__" 257 (.int 11 256),aG P "__init__" 265 (.ref 72),aG P "__static_attributes__" 267 (.ref 73)] 5),#[]⟩
def BW:Obj:=Bz #[(aN 13),(aN 4),(.ref 71)]
def BV:Obj:=pT "BadLine" "BadLine" 248 249 250 11 0 0 0 62 false 181 63 251 11 252
def BS:Obj:=⟨(.type "frame"),none,.plain,#[(some (.ref 64)),(some (.ref 3)),(some (.ref 61)),none,(some (.str "playboard.errors" 194)),none,(some (.ref 0))]⟩
def zH:Obj:=e8 #[(.str "self" 261),(.str "at" 262)] 0
def BR:Obj:=eO "__init__" "BadLine.__init__" dZ
def zG:Obj:=gW "__init__" "BadLine.__init__" 258 259 260 13 2 0 3 66 true 181 67 68 69 70 263 13 264
def zF:Obj:=eP "__init__" "BadLine.__init__" dZ "playboard.errors" 194 71
def zE:Obj:=e8 #[(.str "at" 266)] 0
def zD:Obj:=⟨(.type "dict"),none,(.dict #[aG P "__module__" 253 (.str "playboard.errors" 194),aG P "__firstlineno__" 257 (.int 11 256),aG P "__init__" 265 (.ref 72),aG P "__static_attributes__" 267 (.ref 73),aG P "__doc__" 268 .none] 2),#[]⟩
def zC:Obj:=⟨(.type "type"),none,(.cls ⟨"BadLine",[(.ref 31)],[(.ref 75),(.ref 31),(.type "ValueError"),(.type "Exception"),(.type "BaseException"),(.type "object")],74,"BadLine",true,[],[],false,none,false⟩),#[(some (.ref 59)),none,(some (.str "BadLine" 246)),(some (.str "BadLine" 254)),(some (.builtin "ValueError.__new__")),(some (.bool true))]⟩
def BQ:Obj:=⟨(.type "super"),none,(.fields #[(.ref 75),(.ref 75),(.ref 75)]),#[]⟩
def BP:Obj:=⟨(.type "builtin_function_or_method"),none,(.fields #[(.builtin "object.__init_subclass__"),(.ref 75)]),#[]⟩
def BO:Obj:=⟨(.type "dict"),none,(.dict #[aG P "__module__" 278 (.str "playboard.errors" 194),aG P "__qualname__" 280 (.str "BadPlace" 279),aG P "__firstlineno__" 282 (.int 16 281),aG P "__static_attributes__" 283 (.ref 85)] 4),#[]⟩
def BN:Obj:=pT "BadPlace" "BadPlace" 273 274 275 16 0 0 0 81 false 181 82 276 16 277
def BM:Obj:=⟨(.type "frame"),none,.plain,#[(some (.ref 83)),(some (.ref 3)),(some (.ref 80)),none,(some (.str "playboard.errors" 194)),none,(some (.ref 0))]⟩
def zB:Obj:=⟨(.type "dict"),none,(.dict #[aG P "__module__" 278 (.str "playboard.errors" 194),aG P "__firstlineno__" 282 (.int 16 281),aG P "__static_attributes__" 283 (.ref 85),aG P "__doc__" 284 .none] 2),#[]⟩
def zA:Obj:=⟨(.type "type"),none,(.cls ⟨"BadPlace",[(.ref 31)],[(.ref 87),(.ref 31),(.type "ValueError"),(.type "Exception"),(.type "BaseException"),(.type "object")],86,"BadPlace",true,[],[],false,none,false⟩),#[(some (.ref 78)),none,(some (.str "BadPlace" 271)),(some (.str "BadPlace" 279)),(some (.builtin "ValueError.__new__")),(some (.bool true))]⟩
def BL:Obj:=⟨(.type "super"),none,(.fields #[(.ref 87),(.ref 87),(.ref 87)]),#[]⟩
def BK:Obj:=⟨(.type "builtin_function_or_method"),none,(.fields #[(.builtin "object.__init_subclass__"),(.ref 87)]),#[]⟩
def BJ:Obj:=⟨(.type "dict"),none,(.dict #[aG P "__module__" 294 (.str "playboard.errors" 194),aG P "__qualname__" 296 (.str "NoMove" 295),aG P "__firstlineno__" 298 (.int 18 297),aG P "__static_attributes__" 299 (.ref 97)] 4),#[]⟩
def BI:Obj:=pT "NoMove" "NoMove" 289 290 291 18 0 0 0 93 false 181 94 292 18 293
def BH:Obj:=⟨(.type "frame"),none,.plain,#[(some (.ref 95)),(some (.ref 3)),(some (.ref 92)),none,(some (.str "playboard.errors" 194)),none,(some (.ref 0))]⟩
def zy:Obj:=⟨(.type "dict"),none,(.dict #[aG P "__module__" 294 (.str "playboard.errors" 194),aG P "__firstlineno__" 298 (.int 18 297),aG P "__static_attributes__" 299 (.ref 97),aG P "__doc__" 300 .none] 2),#[]⟩
def zx:Obj:=⟨(.type "type"),none,(.cls ⟨"NoMove",[(.ref 31)],[(.ref 99),(.ref 31),(.type "ValueError"),(.type "Exception"),(.type "BaseException"),(.type "object")],98,"NoMove",true,[],[],false,none,false⟩),#[(some (.ref 90)),none,(some (.str "NoMove" 287)),(some (.str "NoMove" 295)),(some (.builtin "ValueError.__new__")),(some (.bool true))]⟩
def yM:Obj:=⟨(.type "super"),none,(.fields #[(.ref 99),(.ref 99),(.ref 99)]),#[]⟩
def yL:Obj:=⟨(.type "builtin_function_or_method"),none,(.fields #[(.builtin "object.__init_subclass__"),(.ref 99)]),#[]⟩
def yJ:Obj:=⟨(.type "dict"),none,(.dict #[aG P "__module__" 310 (.str "playboard.errors" 194),aG P "__qualname__" 312 (.str "TooWide" 311),aG P "__firstlineno__" 314 (.int 20 313),aG P "__static_attributes__" 315 (.ref 109)] 4),#[]⟩
def yI:Obj:=pT "TooWide" "TooWide" 305 306 307 20 0 0 0 105 false 181 106 308 20 309
def yH:Obj:=⟨(.type "frame"),none,.plain,#[(some (.ref 107)),(some (.ref 3)),(some (.ref 104)),none,(some (.str "playboard.errors" 194)),none,(some (.ref 0))]⟩
def sK:Obj:=⟨(.type "dict"),none,(.dict #[aG P "__module__" 310 (.str "playboard.errors" 194),aG P "__firstlineno__" 314 (.int 20 313),aG P "__static_attributes__" 315 (.ref 109),aG P "__doc__" 316 .none] 2),#[]⟩
def sJ:Obj:=⟨(.type "type"),none,(.cls ⟨"TooWide",[(.ref 31)],[(.ref 111),(.ref 31),(.type "ValueError"),(.type "Exception"),(.type "BaseException"),(.type "object")],110,"TooWide",true,[],[],false,none,false⟩),#[(some (.ref 102)),none,(some (.str "TooWide" 303)),(some (.str "TooWide" 311)),(some (.builtin "ValueError.__new__")),(some (.bool true))]⟩
def yG:Obj:=⟨(.type "super"),none,(.fields #[(.ref 111),(.ref 111),(.ref 111)]),#[]⟩
def yF:Obj:=⟨(.type "builtin_function_or_method"),none,(.fields #[(.builtin "object.__init_subclass__"),(.ref 111)]),#[]⟩
def yE:Obj:=⟨(.type "dict"),none,(.dict #[aG P "__module__" 326 (.str "playboard.errors" 194),aG P "__qualname__" 328 (.str "NoWord" 327),aG P "__firstlineno__" 330 (.int 22 329),aG P "__static_attributes__" 331 (.ref 121)] 4),#[]⟩
def yD:Obj:=pT "NoWord" "NoWord" 321 322 323 22 0 0 0 117 false 181 118 324 22 325
def yB:Obj:=⟨(.type "frame"),none,.plain,#[(some (.ref 119)),(some (.ref 3)),(some (.ref 116)),none,(some (.str "playboard.errors" 194)),none,(some (.ref 0))]⟩
def sH:Obj:=⟨(.type "dict"),none,(.dict #[aG P "__module__" 326 (.str "playboard.errors" 194),aG P "__firstlineno__" 330 (.int 22 329),aG P "__static_attributes__" 331 (.ref 121),aG P "__doc__" 332 .none] 2),#[]⟩
def sG:Obj:=⟨(.type "type"),none,(.cls ⟨"NoWord",[(.ref 31)],[(.ref 123),(.ref 31),(.type "ValueError"),(.type "Exception"),(.type "BaseException"),(.type "object")],122,"NoWord",true,[],[],false,none,false⟩),#[(some (.ref 114)),none,(some (.str "NoWord" 319)),(some (.str "NoWord" 327)),(some (.builtin "ValueError.__new__")),(some (.bool true))]⟩
def yz:Obj:=⟨(.type "super"),none,(.fields #[(.ref 123),(.ref 123),(.ref 123)]),#[]⟩
def yy:Obj:=⟨(.type "builtin_function_or_method"),none,(.fields #[(.builtin "object.__init_subclass__"),(.ref 123)]),#[]⟩
def yx:Obj:=⟨(.type "dict"),none,(.dict #[aG P "__module__" 342 (.str "playboard.errors" 194),aG P "__qualname__" 344 (.str "Over" 343),aG P "__firstlineno__" 346 (.int 24 345),aG P "__static_attributes__" 347 (.ref 133)] 4),#[]⟩
def yv:Obj:=pT "Over" "Over" 337 338 339 24 0 0 0 129 false 181 130 340 24 341
def yu:Obj:=⟨(.type "frame"),none,.plain,#[(some (.ref 131)),(some (.ref 3)),(some (.ref 128)),none,(some (.str "playboard.errors" 194)),none,(some (.ref 0))]⟩
def sy:Obj:=⟨(.type "dict"),none,(.dict #[aG P "__module__" 342 (.str "playboard.errors" 194),aG P "__firstlineno__" 346 (.int 24 345),aG P "__static_attributes__" 347 (.ref 133),aG P "__doc__" 348 .none] 2),#[]⟩
def su:Obj:=⟨(.type "type"),none,(.cls ⟨"Over",[(.ref 31)],[(.ref 135),(.ref 31),(.type "ValueError"),(.type "Exception"),(.type "BaseException"),(.type "object")],134,"Over",true,[],[],false,none,false⟩),#[(some (.ref 126)),none,(some (.str "Over" 335)),(some (.str "Over" 343)),(some (.builtin "ValueError.__new__")),(some (.bool true))]⟩
def yt:Obj:=⟨(.type "super"),none,(.fields #[(.ref 135),(.ref 135),(.ref 135)]),#[]⟩
def yr:Obj:=⟨(.type "builtin_function_or_method"),none,(.fields #[(.builtin "object.__init_subclass__"),(.ref 135)]),#[]⟩
def yq:Obj:=⟨(.type "dict"),none,(.dict #[aG P "__module__" 358 (.str "playboard.errors" 194),aG P "__qualname__" 360 (.str "NothingBack" 359),aG P "__firstlineno__" 362 (.int 26 361),aG P "__static_attributes__" 363 (.ref 145)] 4),#[]⟩
def yp:Obj:=pT "NothingBack" "NothingBack" 353 354 355 26 0 0 0 141 false 181 142 356 26 357
def yo:Obj:=⟨(.type "frame"),none,.plain,#[(some (.ref 143)),(some (.ref 3)),(some (.ref 140)),none,(some (.str "playboard.errors" 194)),none,(some (.ref 0))]⟩
def sk:Obj:=⟨(.type "dict"),none,(.dict #[aG P "__module__" 358 (.str "playboard.errors" 194),aG P "__firstlineno__" 362 (.int 26 361),aG P "__static_attributes__" 363 (.ref 145),aG P "__doc__" 364 .none] 2),#[]⟩
def sj:Obj:=⟨(.type "type"),none,(.cls ⟨"NothingBack",[(.ref 31)],[(.ref 147),(.ref 31),(.type "ValueError"),(.type "Exception"),(.type "BaseException"),(.type "object")],146,"NothingBack",true,[],[],false,none,false⟩),#[(some (.ref 138)),none,(some (.str "NothingBack" 351)),(some (.str "NothingBack" 359)),(some (.builtin "ValueError.__new__")),(some (.bool true))]⟩
def yn:Obj:=⟨(.type "super"),none,(.fields #[(.ref 147),(.ref 147),(.ref 147)]),#[]⟩
def yk:Obj:=⟨(.type "builtin_function_or_method"),none,(.fields #[(.builtin "object.__init_subclass__"),(.ref 147)]),#[]⟩
def se:Obj:=e8 #[(.str "thing" 372)] 0
def yj:Obj:=eO "is_whole" "is_whole" dU
def r6:Obj:=gW "is_whole" "is_whole" 369 370 371 29 1 0 3 150 true 181 151 152 153 154 373 29 374
def r0:Obj:=eP "is_whole" "is_whole" dU "playboard.words" 367 155
def rZ:Obj:=e8 #[(.str "thing" 379)] 0
def yi:Obj:=eO "is_letter" "is_letter" dv
def rY:Obj:=gW "is_letter" "is_letter" 376 377 378 31 1 0 3 157 true 181 158 159 160 161 380 31 381
def rX:Obj:=eP "is_letter" "is_letter" dv "playboard.words" 367 162
def rW:Obj:=e8 #[(.str "thing" 386),(.str "least" 387),(.str "most" 388)] 0
def yh:Obj:=eO "is_among" "is_among" dY
def rV:Obj:=gW "is_among" "is_among" 383 384 385 33 3 0 3 164 true 181 165 166 167 168 389 33 390
def rT:Obj:=eP "is_among" "is_among" dY "playboard.words" 367 169
def rS:Obj:=e8 #[(.str "leap" 394),(.str "slide" 395),(.str "jump" 396)] 0
def rR:Obj:=e8 #[(.str "go" 398),(.str "hit" 399),(.str "any" 400)] 0
def rQ:Obj:=e8 #[(.str "without" 402),(.str "home" 403)] 0
def rP:Obj:=e8 #[(.str "lost" 405),(.str "even" 406),(.str "won" 407)] 0
def rO:Obj:=e8 #[(.str "thing" 418),(.str "words" 419)] 0
def yg:Obj:=eO "is_word" "is_word" fm
def rN:Obj:=gW "is_word" "is_word" 415 416 417 43 2 0 3 175 true 181 176 177 178 179 420 43 421
def rM:Obj:=eP "is_word" "is_word" fm "playboard.rules" 392 180
def rL:Obj:=e8 #[(.str "thing" 426),(.str "many" 427)] 0
def yf:Obj:=eO "is_tuple_of" "is_tuple_of" cz
def rK:Obj:=gW "is_tuple_of" "is_tuple_of" 423 424 425 45 2 0 3 182 true 181 183 184 185 186 428 45 429
def rJ:Obj:=eP "is_tuple_of" "is_tuple_of" cz "playboard.rules" 392 187
def rH:Obj:=e8 #[(.str "thing" 434),(.str "least" 435),(.str "most" 436)] 0
def yd:Obj:=eO "is_list_of" "is_list_of" cW
def rG:Obj:=gW "is_list_of" "is_list_of" 431 432 433 47 3 0 3 189 true 181 190 191 192 193 437 47 438
def rF:Obj:=eP "is_list_of" "is_list_of" cW "playboard.rules" 392 194
def rE:Obj:=e8 #[(.str "sort" 443),(.str "across" 444),(.str "up" 445),(.str "longest" 446)] 0
def yb:Obj:=eO "is_step" "is_step" fo
def rD:Obj:=gW "is_step" "is_step" 440 441 442 49 3 0 3 196 true 181 197 198 199 200 447 49 448
def rC:Obj:=eP "is_step" "is_step" fo "playboard.rules" 392 201
def rB:Obj:=e8 #[(.str "thing" 453),(.str "kinds" 454),(.str "sort" 455),(.str "aim" 456)] 0
def ya:Obj:=eO "is_rule" "is_rule" ft
def rA:Obj:=gW "is_rule" "is_rule" 450 451 452 54 2 0 3 203 true 181 204 205 206 207 457 54 458
def rz:Obj:=eP "is_rule" "is_rule" ft "playboard.rules" 392 208
def rp:Obj:=e8 #[(.str "thing" 463),(.str "firsts" 464),(.str "seconds" 465)] 0
def x9:Obj:=eO "is_pair" "is_pair" fu
def rn:Obj:=gW "is_pair" "is_pair" 460 461 462 64 3 0 3 210 true 181 211 212 213 214 466 64 467
def rl:Obj:=eP "is_pair" "is_pair" fu "playboard.rules" 392 215
def x8:Obj:=eO "are_pairs" "are_pairs" cO
def rj:Obj:=oF #[(.str "are_pairs" 469),(.str "are_pairs" 470),(gU 471),(aN 66),(aN 3),bG,bG,(aN 3),(.ref 217),(.bool true),(aN 181),(.ref 218),.none,.none,.none,(.ref 219),(aN 472),(aN 66),(gU 473)]
def rh:Obj:=eP "are_pairs" "are_pairs" cO "playboard.rules" 392 220
def x6:Obj:=eO "is_turns" "is_turns" cH
def rg:Obj:=oF #[(.str "is_turns" 475),(.str "is_turns" 476),(gU 477),(aN 68),(aN 2),bG,bG,(aN 3),(.ref 222),(.bool true),(aN 181),(.ref 223),.none,.none,.none,(.ref 224),(aN 478),(aN 68),(gU 479)]
def rf:Obj:=eP "is_turns" "is_turns" cH "playboard.rules" 392 225
def wG:Obj:=⟨(.type "dict"),none,(.dict #[aG P "__name__" 165 (.str "law_playboard_k11_shown_and_read" 684),aG P "__doc__" 166 .none,aG P "__package__" 167 .none,aG P "__loader__" 168 (.builtin "__main__.__loader__#opaque"),aG P "__spec__" 169 .none,aG P "__annotations__" 170 (.ref 6),aG P "__builtins__" 171 (.ref 4),aG P "__file__" 173 (gU 172),aG P "__cached__" 174 .none,aG P "_wall" 193 (.ref 21),aG P "PlayError" 213 (.ref 31),aG P "BadBoard" 229 (.ref 44),aG P "BadGame" 245 (.ref 56),aG P "BadLine" 270 (.ref 75),aG P "BadPlace" 286 (.ref 87),aG P "NoMove" 302 (.ref 99),aG P "TooWide" 318 (.ref 111),aG P "NoWord" 334 (.ref 123),aG P "Over" 350 (.ref 135),aG P "NothingBack" 366 (.ref 147),aG P "is_whole" 375 (.ref 156),aG P "is_letter" 382 (.ref 163),aG P "is_among" 391 (.ref 170),aG P "SORTS" 397 (.ref 171),aG P "AIMS" 401 (.ref 172),aG P "END_WORDS" 404 (.ref 173),aG P "STUCK_WORDS" 408 (.ref 174),aG P "MOST_KINDS" 410 (.int 6 409),aG P "MOST_RULES" 412 (.int 24 411),aG P "MOST_PAIRS" 414 (.int 6 413),aG P "is_word" 422 (.ref 181),aG P "is_tuple_of" 430 (.ref 188),aG P "is_list_of" 439 (.ref 195),aG P "is_step" 449 (.ref 202),aG P "is_rule" 459 (.ref 209),aG P "is_pair" 468 (.ref 216),aG P "are_pairs" 474 (.ref 221),aG P "is_turns" 480 (.ref 226),aG P "is_ends" 488 (.ref 233),aG P "are_kinds" 494 (.ref 238),aG P "are_rules" 500 (.ref 243),aG P "EMPTY" 504 (.str "." 503),aG P "HOLE" 506 (.str "#" 505),aG P "sign_of" 514 (.ref 250),aG P "empty_row" 520 (.ref 255),aG P "is_row" 526 (.ref 260),aG P "is_place" 534 (.ref 267),aG P "SIDE_WORDS" 539 (.ref 268),aG P "shown" 545 (.ref 273),aG P "place_of" 554 (.ref 280),aG P "LONGEST" 558 (.int 8 557),aG P "are_holes" 564 (.ref 285),aG P "Board" 626 (.ref 326),aG P "Game" 683 (.ref 361),aG P "_law_cell_at" 693 (.ref 372),aG P "_law_mixed" 701 (.ref 379),aG P "_law_whole" 708 (.ref 386),aG P "_law_board" 721 (.ref 393),aG P "_law_kinds" 727 (.ref 398),aG P "_law_row" 733 (.ref 403),aG P "_law_lines" 745 (.ref 410),aG P "_law_line_changed" 759 (.ref 417),aG P "_law_changed" 770 (.ref 424),aG P "_law_read" 776 (.ref 429),aG P "_law_alone" 784 (.ref 436),aG P "_law_told" 793 (.ref 443),aG P "law" 799 (.ref 448)] 67),#[]⟩
def zT:Obj:=Bz #[(aN 1),bG,(.ref 20),(aN 5),bG,(.ref 27),(aN 7),bG,(.ref 40),(aN 9),bG,(.ref 52),(aN 11),bG,(.ref 64),(aN 16),bG,(.ref 83),(aN 18),bG,(.ref 95),(aN 20),bG,(.ref 107),(aN 22),bG,(.ref 119),(aN 24),bG,(.ref 131),(aN 26),bG,(.ref 143),(aN 29),bG,(.ref 155),(aN 31),bG,(.ref 162),(aN 33),bG,(.ref 169),(aN 43),bG,(.ref 180),(aN 45),bG,(.ref 187),(aN 47),bG,(.ref 194),(aN 49),bG,(.ref 201),(aN 54),bG,(.ref 208),(aN 64),bG,(.ref 215),(aN 66),bG,(.ref 220),(aN 68),bG,(.ref 225),(aN 75),bG,(.ref 232),(aN 77),bG,(.ref 237),(aN 81),bG,(.ref 242),(aN 86),bG,(.ref 249),(aN 88),bG,(.ref 254),(aN 90),bG,(.ref 259),(aN 96),bG,(.ref 266),(aN 100),bG,(.ref 272),(aN 105),bG,(.ref 279),(aN 114),bG,(.ref 284),(aN 120),bG,(.ref 291),(aN 144),bG,(.ref 336),(aN 170),bG,(.ref 371),(aN 174),bG,(.ref 378),(aN 176),bG,(.ref 385),(aN 178),bG,(.ref 392),(aN 192),bG,(.ref 397),(aN 196),bG,(.ref 402),(aN 212),bG,(.ref 409),(aN 218),bG,(.ref 416),(aN 227),bG,(.ref 423),(aN 246),bG,(.ref 428),(aN 259),bG,(.ref 435),(aN 264),bG,(.ref 442),(aN 269),bG,(.ref 447)]
def x5:Obj:=e8 #[(.str "thing" 484),(.str "kinds" 485)] 0
def C1:Obj:=eO "is_ends" "is_ends" fv
def x0:Obj:=gW "is_ends" "is_ends" 481 482 483 75 2 0 3 227 true 181 228 229 230 231 486 75 487
def xZ:Obj:=eP "is_ends" "is_ends" fv "playboard.rules" 392 232
def CZ:Obj:=eO "are_kinds" "are_kinds" cQ
def xY:Obj:=oF #[(.str "are_kinds" 489),(.str "are_kinds" 490),(gU 491),(aN 77),(aN 1),bG,bG,(aN 3),(.ref 234),(.bool true),(aN 181),(.ref 235),.none,.none,.none,(.ref 236),(aN 492),(aN 77),(gU 493)]
def xX:Obj:=eP "are_kinds" "are_kinds" cQ "playboard.rules" 392 237
def CW:Obj:=eO "are_rules" "are_rules" cM
def xW:Obj:=oF #[(.str "are_rules" 495),(.str "are_rules" 496),(gU 497),(aN 81),(aN 2),bG,bG,(aN 3),(.ref 239),(.bool true),(aN 181),(.ref 240),.none,.none,.none,(.ref 241),(aN 498),(aN 81),(gU 499)]
def xV:Obj:=eP "are_rules" "are_rules" cM "playboard.rules" 392 242
def xU:Obj:=e8 #[(.str "kind" 510),(.str "side" 511)] 0
def CV:Obj:=eO "sign_of" "sign_of" fj
def xT:Obj:=gW "sign_of" "sign_of" 507 508 509 86 2 0 3 244 true 181 245 246 247 248 512 86 513
def xS:Obj:=eP "sign_of" "sign_of" fj "playboard.places" 501 249
def CU:Obj:=eO "empty_row" "empty_row" cL
def xR:Obj:=oF #[(.str "empty_row" 515),(.str "empty_row" 516),(gU 517),(aN 88),(aN 1),bG,bG,(aN 3),(.ref 251),(.bool true),(aN 181),(.ref 252),.none,.none,.none,(.ref 253),(aN 518),(aN 88),(gU 519)]
def xQ:Obj:=eP "empty_row" "empty_row" cL "playboard.places" 501 254
def CT:Obj:=eO "is_row" "is_row" dW
def xP:Obj:=oF #[(.str "is_row" 521),(.str "is_row" 522),(gU 523),(aN 90),(aN 2),bG,bG,(aN 3),(.ref 256),(.bool true),(aN 181),(.ref 257),.none,.none,.none,(.ref 258),(aN 524),(aN 90),(gU 525)]
def xO:Obj:=eP "is_row" "is_row" dW "playboard.places" 501 259
def xN:Obj:=e8 #[(.str "game" 530),(.str "thing" 531)] 0
def CS:Obj:=eO "is_place" "is_place" dX
def xM:Obj:=gW "is_place" "is_place" 527 528 529 96 2 0 3 261 true 181 262 263 264 265 532 96 533
def xL:Obj:=eP "is_place" "is_place" dX "playboard.places" 501 266
def xK:Obj:=e8 #[(.str "first" 537),(.str "second" 538)] 0
def CP:Obj:=eO "shown" "shown" gu
def xJ:Obj:=oF #[(.str "shown" 540),(.str "shown" 541),(gU 542),(aN 100),(aN 2),bG,bG,(aN 3),(.ref 269),(.bool true),(aN 181),(.ref 270),.none,.none,.none,(.ref 271),(aN 543),(aN 100),(gU 544)]
def xI:Obj:=eP "shown" "shown" gu "playboard.showing" 535 272
def xH:Obj:=e8 #[(.str "game" 549),(.str "lines" 550),(.str "place" 551)] 0
def CO:Obj:=eO "place_of" "place_of" dS
def xG:Obj:=gW "place_of" "place_of" 546 547 548 105 2 0 3 274 true 181 275 276 277 278 552 105 553
def xF:Obj:=eP "place_of" "place_of" dS "playboard.showing" 535 279
def CM:Obj:=eO "are_holes" "are_holes" cR
def xE:Obj:=oF #[(.str "are_holes" 559),(.str "are_holes" 560),(gU 561),(aN 114),(aN 2),bG,bG,(aN 3),(.ref 281),(.bool true),(aN 181),(.ref 282),.none,.none,.none,(.ref 283),(aN 562),(aN 114),(gU 563)]
def xD:Obj:=eP "are_holes" "are_holes" cR "playboard.boards" 555 284
def CK:Obj:=⟨(.type "dict"),none,(.dict #[aG P "__module__" 572 (.str "playboard.boards" 555),aG P "__qualname__" 574 (.str "Board" 573),aG P "__firstlineno__" 576 (.int 120 575),aG P "__init__" 582 (.ref 297),aG P "has" 590 (.ref 304),aG P "squares" 596 (.ref 309),aG P "moved" 606 (.ref 316),aG P "far_row" 614 (.ref 323),aG P "__static_attributes__" 619 (.ref 324)] 9),#[]⟩
def CJ:Obj:=Bz #[(aN 122),(aN 4),(.ref 296),(aN 132),(aN 4),(.ref 303),(aN 135),(aN 4),(.ref 308),(aN 138),(aN 4),(.ref 315),(aN 141),(aN 4),(.ref 322)]
def CI:Obj:=pT "Board" "Board" 567 568 569 120 0 0 0 289 false 181 290 570 120 571
def CH:Obj:=⟨(.type "frame"),none,.plain,#[(some (.ref 291)),(some (.ref 3)),(some (.ref 288)),none,(some (.str "playboard.boards" 555)),none,(some (.ref 0))]⟩
def CG:Obj:=eO "__init__" "Board.__init__" bH
def xC:Obj:=oF #[(.str "__init__" 577),(.str "Board.__init__" 578),(gU 579),(aN 122),(aN 4),bG,bG,(aN 3),(.ref 293),(.bool true),(aN 181),(.ref 294),.none,.none,.none,(.ref 295),(aN 580),(aN 122),(gU 581)]
def xB:Obj:=eP "__init__" "Board.__init__" bH "playboard.boards" 555 296
def xA:Obj:=e8 #[(.str "self" 586),(.str "square" 587)] 0
def CF:Obj:=eO "has" "Board.has" dy
def xz:Obj:=gW "has" "Board.has" 583 584 585 132 2 0 3 298 true 181 299 300 301 302 588 132 589
def xy:Obj:=eP "has" "Board.has" dy "playboard.boards" 555 303
def CD:Obj:=eO "squares" "Board.squares" fQ
def xx:Obj:=oF #[(.str "squares" 591),(.str "Board.squares" 592),(gU 593),(aN 135),(aN 1),bG,bG,(aN 3),(.ref 305),(.bool true),(aN 181),(.ref 306),.none,.none,.none,(.ref 307),(aN 594),(aN 135),(gU 595)]
def xw:Obj:=eP "squares" "Board.squares" fQ "playboard.boards" 555 308
def xu:Obj:=e8 #[(.str "self" 600),(.str "square" 601),(.str "across" 602),(.str "up" 603)] 0
def CC:Obj:=eO "moved" "Board.moved" gE
def xt:Obj:=gW "moved" "Board.moved" 597 598 599 138 4 0 3 310 true 181 311 312 313 314 604 138 605
def xr:Obj:=eP "moved" "Board.moved" gE "playboard.boards" 555 315
def xp:Obj:=e8 #[(.str "self" 610),(.str "side" 611)] 0
def CB:Obj:=eO "far_row" "Board.far_row" fR
def xo:Obj:=gW "far_row" "Board.far_row" 607 608 609 141 2 0 3 317 true 181 318 319 320 321 612 141 613
def xn:Obj:=eP "far_row" "Board.far_row" fR "playboard.boards" 555 322
def xm:Obj:=e8 #[(.str "firm" 615),(.str "high" 616),(.str "holes" 617),(.str "wide" 618)] 0
def xl:Obj:=⟨(.type "dict"),none,(.dict #[aG P "__module__" 572 (.str "playboard.boards" 555),aG P "__firstlineno__" 576 (.int 120 575),aG P "__init__" 582 (.ref 297),aG P "has" 590 (.ref 304),aG P "squares" 596 (.ref 309),aG P "moved" 606 (.ref 316),aG P "far_row" 614 (.ref 323),aG P "__static_attributes__" 619 (.ref 324),aG P "__dict__" 621 (.ref 327),aG P "__weakref__" 623 (.ref 328),aG P "__doc__" 624 .none] 4),#[]⟩
def xk:Obj:=⟨(.type "type"),none,(.cls ⟨"Board",[(.type "object")],[(.ref 326),(.type "object")],325,"Board",true,[],[],false,none,false⟩),#[none,none,(some (.str "Board" 565)),(some (.str "Board" 573)),(some (.builtin "object.__new__")),(some (.bool true))]⟩
def xj:Obj:=⟨(.type "getset_descriptor"),none,(.fields #[(.str "__dict__" 620),(.ref 326),(.builtin "function.__dict__"),(.builtin "function.__dict__#set")]),#[]⟩
def xi:Obj:=⟨(.type "getset_descriptor"),none,(.fields #[(.str "__weakref__" 622),(.ref 326),(.builtin "ExceptionGroup.__weakref__"),.none]),#[]⟩
def Cz:Obj:=⟨(.type "super"),none,(.fields #[(.ref 326),(.ref 326),(.ref 326)]),#[]⟩
def Cw:Obj:=⟨(.type "builtin_function_or_method"),none,(.fields #[(.builtin "object.__init_subclass__"),(.ref 326)]),#[]⟩
def Cv:Obj:=⟨(.type "dict"),none,(.dict #[aG P "__module__" 636 (.str "playboard.games" 627),aG P "__qualname__" 638 (.str "Game" 637),aG P "__firstlineno__" 640 (.int 144 639),aG P "__init__" 653 (.ref 344),aG P "rules_of" 661 (.ref 351),aG P "turned" 669 (.ref 358),aG P "__static_attributes__" 676 (.ref 359)] 7),#[]⟩
def Cu:Obj:=Bz #[(aN 146),(aN 4),(.ref 343),(aN 164),(aN 4),(.ref 350),(aN 167),(aN 4),(.ref 357)]
def Ct:Obj:=pT "Game" "Game" 631 632 633 144 0 0 0 334 false 181 335 634 144 635
def Cs:Obj:=⟨(.type "frame"),none,.plain,#[(some (.ref 336)),(some (.ref 3)),(some (.ref 333)),none,(some (.str "playboard.games" 627)),none,(some (.ref 0))]⟩
def xh:Obj:=e8 #[(.str "self" 644),(.str "board" 645),(.str "kinds" 646),(.str "rules" 647),(.str "turns" 648),(.str "ends" 649),(.str "stuck" 650)] 0
def Cq:Obj:=eO "__init__" "Game.__init__" cb
def xg:Obj:=gW "__init__" "Game.__init__" 641 642 643 146 7 0 3 338 true 181 339 340 341 342 651 146 652
def xf:Obj:=eP "__init__" "Game.__init__" cb "playboard.games" 627 343
def xb:Obj:=e8 #[(.str "self" 657),(.str "kind" 658)] 0
def Cp:Obj:=eO "rules_of" "Game.rules_of" fP
def xa:Obj:=gW "rules_of" "Game.rules_of" 654 655 656 164 2 0 3 345 true 181 346 347 348 349 659 164 660
def w9:Obj:=eP "rules_of" "Game.rules_of" fP "playboard.games" 627 350
def w6:Obj:=e8 #[(.str "self" 665),(.str "kind" 666)] 0
def Co:Obj:=eO "turned" "Game.turned" gD
def w5:Obj:=gW "turned" "Game.turned" 662 663 664 167 2 0 3 352 true 181 353 354 355 356 667 167 668
def w4:Obj:=eP "turned" "Game.turned" gD "playboard.games" 627 357
def wZ:Obj:=e8 #[(.str "board" 670),(.str "ends" 671),(.str "kinds" 672),(.str "rules" 673),(.str "stuck" 674),(.str "turns" 675)] 0
def wY:Obj:=⟨(.type "dict"),none,(.dict #[aG P "__module__" 636 (.str "playboard.games" 627),aG P "__firstlineno__" 640 (.int 144 639),aG P "__init__" 653 (.ref 344),aG P "rules_of" 661 (.ref 351),aG P "turned" 669 (.ref 358),aG P "__static_attributes__" 676 (.ref 359),aG P "__dict__" 678 (.ref 362),aG P "__weakref__" 680 (.ref 363),aG P "__doc__" 681 .none] 4),#[]⟩
def wX:Obj:=⟨(.type "type"),none,(.cls ⟨"Game",[(.type "object")],[(.ref 361),(.type "object")],360,"Game",true,[],[],false,none,false⟩),#[none,none,(some (.str "Game" 629)),(some (.str "Game" 637)),(some (.builtin "object.__new__")),(some (.bool true))]⟩
def wW:Obj:=⟨(.type "getset_descriptor"),none,(.fields #[(.str "__dict__" 677),(.ref 361),(.builtin "function.__dict__"),(.builtin "function.__dict__#set")]),#[]⟩
def wV:Obj:=⟨(.type "getset_descriptor"),none,(.fields #[(.str "__weakref__" 679),(.ref 361),(.builtin "ExceptionGroup.__weakref__"),.none]),#[]⟩
def Cn:Obj:=⟨(.type "super"),none,(.fields #[(.ref 361),(.ref 361),(.ref 361)]),#[]⟩
def Cm:Obj:=⟨(.type "builtin_function_or_method"),none,(.fields #[(.builtin "object.__init_subclass__"),(.ref 361)]),#[]⟩
def wU:Obj:=e8 #[(.str "_law_script" 689),(.str "_law_k" 690)] 0
def Cj:Obj:=eO "_law_cell_at" "_law_cell_at" ci
def wT:Obj:=gW "_law_cell_at" "_law_cell_at" 686 687 688 170 2 0 3 366 true 181 367 368 369 370 691 170 692
def wS:Obj:=eP "_law_cell_at" "_law_cell_at" ci "law_playboard_k11_shown_and_read" 684 371
def wR:Obj:=e8 #[(.str "_law_cell" 697),(.str "_law_k" 698)] 0
def Ci:Obj:=eO "_law_mixed" "_law_mixed" cY
def wQ:Obj:=gW "_law_mixed" "_law_mixed" 694 695 696 174 2 0 3 373 true 181 374 375 376 377 699 174 700
def wP:Obj:=eP "_law_mixed" "_law_mixed" cY "law_playboard_k11_shown_and_read" 684 378
def wO:Obj:=e8 #[(.str "_law_thing" 705)] 0
def Ch:Obj:=eO "_law_whole" "_law_whole" cX
def wN:Obj:=gW "_law_whole" "_law_whole" 702 703 704 176 1 0 3 380 true 181 381 382 383 384 706 176 707
def wM:Obj:=eP "_law_whole" "_law_whole" cX "law_playboard_k11_shown_and_read" 684 385
def wL:Obj:=e8 #[(.str "_law_script" 712),(.str "_law_cell" 713),(.str "_law_wide" 714),(.str "_law_high" 715),(.str "_law_holes" 716),(.str "_law_k" 717),(.str "_law_hole" 718)] 0
def Cg:Obj:=eO "_law_board" "_law_board" da
def wK:Obj:=gW "_law_board" "_law_board" 709 710 711 178 1 0 3 387 true 181 388 389 390 391 719 178 720
def wJ:Obj:=eP "_law_board" "_law_board" da "law_playboard_k11_shown_and_read" 684 392
def Cf:Obj:=eO "_law_kinds" "_law_kinds" cu
def wI:Obj:=oF #[(.str "_law_kinds" 722),(.str "_law_kinds" 723),(gU 724),(aN 192),(aN 1),bG,bG,(aN 3),(.ref 394),(.bool true),(aN 181),(.ref 395),.none,.none,.none,(.ref 396),(aN 725),(aN 192),(gU 726)]
def wH:Obj:=eP "_law_kinds" "_law_kinds" cu "law_playboard_k11_shown_and_read" 684 397
def Cd:Obj:=eO "_law_row" "_law_row" bX
def wF:Obj:=oF #[(.str "_law_row" 728),(.str "_law_row" 729),(gU 730),(aN 196),(aN 3),bG,bG,(aN 3),(.ref 399),(.bool true),(aN 181),(.ref 400),.none,.none,.none,(.ref 401),(aN 731),(aN 196),(gU 732)]
def wD:Obj:=eP "_law_row" "_law_row" bX "law_playboard_k11_shown_and_read" 684 402
def wC:Obj:=e8 #[(.str "_law_place" 737),(.str "_law_wide" 738),(.str "_law_high" 739),(.str "_law_lines_here" 740),(.str "_law_k" 741),(.str "_law_begin" 742)] 0
def Cc:Obj:=eO "_law_lines" "_law_lines" cZ
def wB:Obj:=gW "_law_lines" "_law_lines" 734 735 736 212 3 0 3 404 true 181 405 406 407 408 743 212 744
def wA:Obj:=eP "_law_lines" "_law_lines" cZ "law_playboard_k11_shown_and_read" 684 409
def wz:Obj:=e8 #[(.str "_law_lines_here" 749),(.str "_law_cell" 750),(.str "_law_kinds_here" 751),(.str "_law_at" 752),(.str "_law_one" 753),(.str "_law_place" 754),(.str "_law_signs" 755),(.str "_law_sign" 756)] 0
def Ca:Obj:=eO "_law_line_changed" "_law_line_changed" bB
def wy:Obj:=gW "_law_line_changed" "_law_line_changed" 746 747 748 218 3 0 3 411 true 181 412 413 414 415 757 218 758
def wx:Obj:=eP "_law_line_changed" "_law_line_changed" bB "law_playboard_k11_shown_and_read" 684 416
def ww:Obj:=e8 #[(.str "_law_lines_here" 763),(.str "_law_cell" 764),(.str "_law_kinds_here" 765),(.str "_law_kind" 766),(.str "_law_at" 767)] 0
def B9:Obj:=eO "_law_changed" "_law_changed" cg
def wv:Obj:=gW "_law_changed" "_law_changed" 760 761 762 227 3 0 3 418 true 181 419 420 421 422 768 227 769
def wu:Obj:=eP "_law_changed" "_law_changed" cg "law_playboard_k11_shown_and_read" 684 423
def B8:Obj:=eO "_law_read" "_law_read" cS
def wt:Obj:=oF #[(.str "_law_read" 771),(.str "_law_read" 772),(gU 773),(aN 246),(aN 5),bG,bG,(aN 3),(.ref 425),(.bool true),(aN 181),(.ref 426),.none,.none,.none,(.ref 427),(aN 774),(aN 246),(gU 775)]
def wq:Obj:=eP "_law_read" "_law_read" cS "law_playboard_k11_shown_and_read" 684 428
def wp:Obj:=e8 #[(.str "_law_e" 780),(.str "_law_told_here" 781)] 0
def B7:Obj:=eO "_law_alone" "_law_alone" db
def wo:Obj:=gW "_law_alone" "_law_alone" 777 778 779 259 1 0 3 430 true 181 431 432 433 434 782 259 783
def wj:Obj:=eP "_law_alone" "_law_alone" db "law_playboard_k11_shown_and_read" 684 435
def wg:Obj:=e8 #[(.str "_law_game" 788),(.str "_law_lines_here" 789),(.str "_law_e" 790)] 0
def B6:Obj:=eO "_law_told" "_law_told" dw
def wf:Obj:=gW "_law_told" "_law_told" 785 786 787 264 2 0 3 437 true 181 438 439 440 441 791 264 792
def we:Obj:=eP "_law_told" "_law_told" dw "law_playboard_k11_shown_and_read" 684 442
def B5:Obj:=eO "law" "law" gb
def wc:Obj:=oF #[(.str "law" 794),(.str "law" 795),(gU 796),(aN 269),(aN 1),bG,bG,(aN 3),(.ref 444),(.bool true),(aN 181),(.ref 445),.none,.none,.none,(.ref 446),(aN 797),(aN 269),(gU 798)]
def wb:Obj:=eP "law" "law" gb "law_playboard_k11_shown_and_read" 684 447
end
noncomputable def hK(P:GT):Frag:=(nat_lit 2,Lw P)::(nat_lit 3,wG P)::(nat_lit 15,ak)::(nat_lit 17,zS)::(nat_lit 18,ak)::(nat_lit 20,zR)::(nat_lit 21,zQ)::(nat_lit 22,zP)::(nat_lit 29,ak)::(nat_lit 30,zO P)::(nat_lit 31,zN)::(nat_lit 32,zM)::(nat_lit 35,dj)::(nat_lit 42,ak)::(nat_lit 43,zL P)::(nat_lit 44,zK)::(nat_lit 47,dj)::(nat_lit 54,ak)::(nat_lit 55,zJ P)::(nat_lit 56,zI)::(nat_lit 59,dj)::(nat_lit 66,ak)::(nat_lit 68,zH)::(nat_lit 69,ak)::(nat_lit 71,zG)::(nat_lit 72,zF)::(nat_lit 73,zE)::(nat_lit 74,zD P)::(nat_lit 75,zC)::(nat_lit 78,dj)::(nat_lit 85,ak)::(nat_lit 86,zB P)::(nat_lit 87,zA)::(nat_lit 90,dj)::(nat_lit 97,ak)::(nat_lit 98,zy P)::(nat_lit 99,zx)::(nat_lit 102,dj)::(nat_lit 109,ak)::(nat_lit 110,sK P)::(nat_lit 111,sJ)::(nat_lit 114,dj)::(nat_lit 121,ak)::(nat_lit 122,sH P)::(nat_lit 123,sG)::(nat_lit 126,dj)::(nat_lit 133,ak)::(nat_lit 134,sy P)::(nat_lit 135,su)::(nat_lit 138,dj)::(nat_lit 145,ak)::(nat_lit 146,sk P)::(nat_lit 147,sj)::(nat_lit 150,ak)::(nat_lit 152,se)::(nat_lit 153,ak)::(nat_lit 155,r6)::(nat_lit 156,r0)::(nat_lit 157,ak)::(nat_lit 159,rZ)::(nat_lit 160,ak)::(nat_lit 162,rY)::(nat_lit 163,rX)::(nat_lit 164,ak)::(nat_lit 166,rW)::(nat_lit 167,ak)::(nat_lit 169,rV)::(nat_lit 170,rT)::(nat_lit 171,rS)::(nat_lit 172,rR)::(nat_lit 173,rQ)::(nat_lit 174,rP)::(nat_lit 175,ak)::(nat_lit 177,rO)::(nat_lit 178,ak)::(nat_lit 180,rN)::(nat_lit 181,rM)::(nat_lit 182,ak)::(nat_lit 184,rL)::(nat_lit 185,ak)::(nat_lit 187,rK)::(nat_lit 188,rJ)::(nat_lit 189,ak)::(nat_lit 191,rH)::(nat_lit 192,ak)::(nat_lit 194,rG)::(nat_lit 195,rF)::(nat_lit 196,ak)::(nat_lit 198,rE)::(nat_lit 199,ak)::(nat_lit 201,rD)::(nat_lit 202,rC)::(nat_lit 203,ak)::(nat_lit 205,rB)::(nat_lit 206,ak)::(nat_lit 208,rA)::(nat_lit 209,rz)::(nat_lit 210,ak)::(nat_lit 212,rp)::(nat_lit 213,ak)::(nat_lit 215,rn)::(nat_lit 216,rl)::(nat_lit 217,ak)::(nat_lit 220,rj)::(nat_lit 221,rh)::(nat_lit 222,ak)::(nat_lit 225,rg)::(nat_lit 226,rf)::(nat_lit 227,ak)::(nat_lit 229,x5)::(nat_lit 230,ak)::(nat_lit 232,x0)::(nat_lit 233,xZ)::(nat_lit 234,ak)::(nat_lit 237,xY)::(nat_lit 238,xX)::(nat_lit 239,ak)::(nat_lit 242,xW)::(nat_lit 243,xV)::(nat_lit 244,ak)::(nat_lit 246,xU)::(nat_lit 247,ak)::(nat_lit 249,xT)::(nat_lit 250,xS)::(nat_lit 251,ak)::(nat_lit 254,xR)::(nat_lit 255,xQ)::(nat_lit 256,ak)::(nat_lit 259,xP)::(nat_lit 260,xO)::(nat_lit 261,ak)::(nat_lit 263,xN)::(nat_lit 264,ak)::(nat_lit 266,xM)::(nat_lit 267,xL)::(nat_lit 268,xK)::(nat_lit 269,ak)::(nat_lit 272,xJ)::(nat_lit 273,xI)::(nat_lit 274,ak)::(nat_lit 276,xH)::(nat_lit 277,ak)::(nat_lit 279,xG)::(nat_lit 280,xF)::(nat_lit 281,ak)::(nat_lit 284,xE)::(nat_lit 285,xD)::(nat_lit 293,ak)::(nat_lit 296,xC)::(nat_lit 297,xB)::(nat_lit 298,ak)::(nat_lit 300,xA)::(nat_lit 301,ak)::(nat_lit 303,xz)::(nat_lit 304,xy)::(nat_lit 305,ak)::(nat_lit 308,xx)::(nat_lit 309,xw)::(nat_lit 310,ak)::(nat_lit 312,xu)::(nat_lit 313,ak)::(nat_lit 315,xt)::(nat_lit 316,xr)::(nat_lit 317,ak)::(nat_lit 319,xp)::(nat_lit 320,ak)::(nat_lit 322,xo)::(nat_lit 323,xn)::(nat_lit 324,xm)::(nat_lit 325,xl P)::(nat_lit 326,xk)::(nat_lit 327,xj)::(nat_lit 328,xi)::(nat_lit 338,ak)::(nat_lit 340,xh)::(nat_lit 341,ak)::(nat_lit 343,xg)::(nat_lit 344,xf)::(nat_lit 345,ak)::(nat_lit 347,xb)::(nat_lit 348,ak)::(nat_lit 350,xa)::(nat_lit 351,w9)::(nat_lit 352,ak)::(nat_lit 354,w6)::(nat_lit 355,ak)::(nat_lit 357,w5)::(nat_lit 358,w4)::(nat_lit 359,wZ)::(nat_lit 360,wY P)::(nat_lit 361,wX)::(nat_lit 362,wW)::(nat_lit 363,wV)::(nat_lit 366,ak)::(nat_lit 368,wU)::(nat_lit 369,ak)::(nat_lit 371,wT)::(nat_lit 372,wS)::(nat_lit 373,ak)::(nat_lit 375,wR)::(nat_lit 376,ak)::(nat_lit 378,wQ)::(nat_lit 379,wP)::(nat_lit 380,ak)::(nat_lit 382,wO)::(nat_lit 383,ak)::(nat_lit 385,wN)::(nat_lit 386,wM)::(nat_lit 387,ak)::(nat_lit 389,wL)::(nat_lit 390,ak)::(nat_lit 392,wK)::(nat_lit 393,wJ)::(nat_lit 394,ak)::(nat_lit 397,wI)::(nat_lit 398,wH)::(nat_lit 399,ak)::(nat_lit 402,wF)::(nat_lit 403,wD)::(nat_lit 404,ak)::(nat_lit 406,wC)::(nat_lit 407,ak)::(nat_lit 409,wB)::(nat_lit 410,wA)::(nat_lit 411,ak)::(nat_lit 413,wz)::(nat_lit 414,ak)::(nat_lit 416,wy)::(nat_lit 417,wx)::(nat_lit 418,ak)::(nat_lit 420,ww)::(nat_lit 421,ak)::(nat_lit 423,wv)::(nat_lit 424,wu)::(nat_lit 425,ak)::(nat_lit 428,wt)::(nat_lit 429,wq)::(nat_lit 430,ak)::(nat_lit 432,wp)::(nat_lit 433,ak)::(nat_lit 435,wo)::(nat_lit 436,wj)::(nat_lit 437,ak)::(nat_lit 439,wg)::(nat_lit 440,ak)::(nat_lit 442,wf)::(nat_lit 443,we)::(nat_lit 444,ak)::(nat_lit 447,wc)::(nat_lit 448,wb)::[]
noncomputable def hA:List Addr:=nat_lit 2::nat_lit 3::nat_lit 15::nat_lit 17::nat_lit 18::nat_lit 20::nat_lit 21::nat_lit 22::nat_lit 29::nat_lit 30::nat_lit 31::nat_lit 32::nat_lit 35::nat_lit 42::nat_lit 43::nat_lit 44::nat_lit 47::nat_lit 54::nat_lit 55::nat_lit 56::nat_lit 59::nat_lit 66::nat_lit 68::nat_lit 69::nat_lit 71::nat_lit 72::nat_lit 73::nat_lit 74::nat_lit 75::nat_lit 78::nat_lit 85::nat_lit 86::nat_lit 87::nat_lit 90::nat_lit 97::nat_lit 98::nat_lit 99::nat_lit 102::nat_lit 109::nat_lit 110::nat_lit 111::nat_lit 114::nat_lit 121::nat_lit 122::nat_lit 123::nat_lit 126::nat_lit 133::nat_lit 134::nat_lit 135::nat_lit 138::nat_lit 145::nat_lit 146::nat_lit 147::nat_lit 150::nat_lit 152::nat_lit 153::nat_lit 155::nat_lit 156::nat_lit 157::nat_lit 159::nat_lit 160::nat_lit 162::nat_lit 163::nat_lit 164::nat_lit 166::nat_lit 167::nat_lit 169::nat_lit 170::nat_lit 171::nat_lit 172::nat_lit 173::nat_lit 174::nat_lit 175::nat_lit 177::nat_lit 178::nat_lit 180::nat_lit 181::nat_lit 182::nat_lit 184::nat_lit 185::nat_lit 187::nat_lit 188::nat_lit 189::nat_lit 191::nat_lit 192::nat_lit 194::nat_lit 195::nat_lit 196::nat_lit 198::nat_lit 199::nat_lit 201::nat_lit 202::nat_lit 203::nat_lit 205::nat_lit 206::nat_lit 208::nat_lit 209::nat_lit 210::nat_lit 212::nat_lit 213::nat_lit 215::nat_lit 216::nat_lit 217::nat_lit 220::nat_lit 221::nat_lit 222::nat_lit 225::nat_lit 226::nat_lit 227::nat_lit 229::nat_lit 230::nat_lit 232::nat_lit 233::nat_lit 234::nat_lit 237::nat_lit 238::nat_lit 239::nat_lit 242::nat_lit 243::nat_lit 244::nat_lit 246::nat_lit 247::nat_lit 249::nat_lit 250::nat_lit 251::nat_lit 254::nat_lit 255::nat_lit 256::nat_lit 259::nat_lit 260::nat_lit 261::nat_lit 263::nat_lit 264::nat_lit 266::nat_lit 267::nat_lit 268::nat_lit 269::nat_lit 272::nat_lit 273::nat_lit 274::nat_lit 276::nat_lit 277::nat_lit 279::nat_lit 280::nat_lit 281::nat_lit 284::nat_lit 285::nat_lit 293::nat_lit 296::nat_lit 297::nat_lit 298::nat_lit 300::nat_lit 301::nat_lit 303::nat_lit 304::nat_lit 305::nat_lit 308::nat_lit 309::nat_lit 310::nat_lit 312::nat_lit 313::nat_lit 315::nat_lit 316::nat_lit 317::nat_lit 319::nat_lit 320::nat_lit 322::nat_lit 323::nat_lit 324::nat_lit 325::nat_lit 326::nat_lit 327::nat_lit 328::nat_lit 338::nat_lit 340::nat_lit 341::nat_lit 343::nat_lit 344::nat_lit 345::nat_lit 347::nat_lit 348::nat_lit 350::nat_lit 351::nat_lit 352::nat_lit 354::nat_lit 355::nat_lit 357::nat_lit 358::nat_lit 359::nat_lit 360::nat_lit 361::nat_lit 362::nat_lit 363::nat_lit 366::nat_lit 368::nat_lit 369::nat_lit 371::nat_lit 372::nat_lit 373::nat_lit 375::nat_lit 376::nat_lit 378::nat_lit 379::nat_lit 380::nat_lit 382::nat_lit 383::nat_lit 385::nat_lit 386::nat_lit 387::nat_lit 389::nat_lit 390::nat_lit 392::nat_lit 393::nat_lit 394::nat_lit 397::nat_lit 398::nat_lit 399::nat_lit 402::nat_lit 403::nat_lit 404::nat_lit 406::nat_lit 407::nat_lit 409::nat_lit 410::nat_lit 411::nat_lit 413::nat_lit 414::nat_lit 416::nat_lit 417::nat_lit 418::nat_lit 420::nat_lit 421::nat_lit 423::nat_lit 424::nat_lit 425::nat_lit 428::nat_lit 429::nat_lit 430::nat_lit 432::nat_lit 433::nat_lit 435::nat_lit 436::nat_lit 437::nat_lit 439::nat_lit 440::nat_lit 442::nat_lit 443::nat_lit 444::nat_lit 447::nat_lit 448::[]
noncomputable def hE:HS:={scope:=hP.main.scope,locals:=mainNs,globals:=mainNs,cells:=[],code:=(.ref 13),frame:=some 14}
noncomputable def hB:List FG:=PySem.W.behindTheImports hP
noncomputable abbrev hC:Code:=.body hB hE
noncomputable abbrev hN:Option Value:=(some (.ref 6))
noncomputable abbrev hF:List Frame:=[PySem.W.topFrame ⟨0,0,0,0⟩]
noncomputable def hS(w:Fp)(os:Gf):Fi:=⟨Lp w.params,Array.mk [],PySem.W.boot_drawn,PySem.W.boot_toks,os⟩
noncomputable def DE(w:Fp)(os:Gf):Fi:=(PySem.W.topGo Fy hP w 11 hN 12 (hS w os) (LH hP)).elim (hS w os) λx=>x.1
noncomputable def DD(w:Fp)(os:Gf):PySem.W.SharedT:=toT ((LJ Fy hP w 11 hN 1 1 (DE w os) (LK hB hE hC ⟨0,0,0,0⟩ hF)).elim (DE w os) λx=>x.2.1)
theorem hpre(w:Fp)(os:Gf):PySem.W.topGo Fy hP w 11 hN 12 (hS w os) (LH hP)=some (DE w os,⟨denote Fy hC,hC,⟨0,0,0,0⟩,hF⟩):=by kernel_rfl
theorem EJ(w:Fp)(os:Gf):LJ Fy hP w 11 hN 1 1 (DE w os) (LK hB hE hC ⟨0,0,0,0⟩ hF)=some (.next,(DD w os).abs,hC,⟨0,0,0,0⟩):=by kernel_rfl
noncomputable def hL1(P:GT):PySem.W.BT:=aq (LL P) (aq (LM P) (aq (zo3 P) (aq (LN P) (aq ak (aq zN (aq BW (aw eM) (aw rH)) (aq BI (aw rZ) (aw aR))) (aq dj (aq eM (aw yp) (aw ya)) (aq sJ (aw ak) .nil))) (aq eM (aq aR (aq zG (aw su) (aw ak)) (aq eM (aw ak) .nil)) (aq (zJ P) (aq zA (aw aR) (aw rn)) (aq yD (aw aR) .nil)))) (aq ak (aq C2 (aq dj (aq aR (aw yv) (aw rF)) (aq zx (aw rX) .nil)) (aq aR (aq BN (aw sj) (aw aR)) (aq eM (aw yg) .nil))) (aq CQ (aq (zL P) (aq zC (aw eM) (aw ak)) (aq yI (aw rS) .nil)) (aq dj (aq eM (aw r6) (aw x8)) (aq sG (aw rK) .nil))))) (aq (LO P) (aq (LP P) (aq zS (aq Cy (aq BS (aw ak) (aw yd)) (aq ak (aw yi) (aw rg))) (aq (B2 P) (aq ak (aw ak) (aw rz)) (aq yF (aw rO) .nil))) (aq ak (aq Cb (aq zE (aw yr) (aw rD)) (aq ak (aw rV) .nil)) (aq BZ (aq BK (aw ak) (aw ak)) (aq ak (aw ak) .nil)))) (aq C4 (aq zQ (aq (Ck P) (aq ak (aw ak) (aw aR)) (aq yL (aw aR) .nil)) (aq B0 (aq ak (aw yk) (aw ak)) (aq ak (aw rM) .nil))) (aq ak (aq B4 (aq BP (aw ak) (aw rB)) (aq ak (aw rQ) .nil)) (aq (BX P) (aq ak (aw ak) (aw rh)) (aq yy (aw ak) .nil)))))) (aq (Lw P) (aq (LQ P) (aq (LR P) (aq aR (aq zM (aq BV (aw (yx P)) (aw ak)) (aq BH (aw ak) (aw x6))) (aq eM (aq (BO P) (aw yo) (aw rA)) (aq yG (aw aR) .nil))) (aq (CY P) (aq Ce (aq zF (aw yt) (aw yb)) (aq (yJ P) (aw yh) .nil)) (aq zI (aq BL (aw se) (aw rl)) (aq yB (aw rL) .nil)))) (aq Ej (aq zR (aq eM (aq zH (aw yu) (aw ak)) (aq yM (aw ak) .nil)) (aq B1 (aq BM (aw yn) (aw rp)) (aq (yE P) (aw rN) .nil))) (aq CN (aq zK (aq BQ (aw (yq P)) (aw aR)) (aq yH (aw rR) .nil)) (aq eM (aq (BJ P) (aw r0) (aw rj)) (aq yz (aw rJ) .nil))))) (aq (LS P) (aq (LU P) (aq ak (aq Cr (aq ak (aw aR) (aw rG)) (aq (zy P) (aw rY) (aw rf))) (aq ak (aq aR (aw (sk P)) (aw ak)) (aq dj (aw ak) .nil))) (aq aR (aq ak (aq (zD P) (aw dj) (aw rC)) (aq aR (aw rT) .nil)) (aq BY (aq dj (aw yj) (aw aR)) (aq (sH P) (aw yf) .nil)))) (aq C3 (aq zP (aq ak (aq BR (aw (sy P)) (aw rE)) (aq dj (aw rW) .nil)) (aq ak (aq (zB P) (aw ak) (aw x9)) (aq aR (aw ak) .nil))) (aq (zO P) (aq B3 (aq dj (aw aR) (aw ak)) (aq (sK P) (aw rP) .nil)) (aq ak (aq aR (aw aR) (aw ak)) (aq dj (aw aR) .nil))))))
noncomputable def hG1(w:Fp)(os:Gf):PySem.W.SharedT:=stT (hL1 w.params) 227 481 w.params os
noncomputable def hT1:List FG:=(hB.drop 0).take 32
theorem Dz(w:Fp):(λos=>LV Fy hP w 11 hN 1 2597 (DD w os) ⟨(execs hT1 hE).wrap Lq LW id id,hC,⟨0,0,0,0⟩,hF⟩)=λos=>some (ID,(hG1 w os),hC,⟨68,0,74,42⟩):=by
 rw[PySem.W.Fast.te10110043849684766642,PySem.W.Fast.te12563942051412417395,PySem.W.Fast.te14364793385576792824]
 kernel_rfl
noncomputable def hL2(P:GT):PySem.W.BT:=aq (LL P) (aq (LM P) (aq (wG P) (aq (LN P) (aq ak (aq zN (aq BW (aq eM (aw xQ) (aw ak)) (aq rH (aw xp) (aw wc))) (aq BI (aq rZ (aw eM) (aw Ca)) (aq aR (aw w9) .nil))) (aq dj (aq eM (aq yp (aw CP) (aw ak)) (aq ya (aw Cu) .nil)) (aq sJ (aq ak (aw xz) (aw aR)) (aq ak (aw aR) .nil)))) (aq eM (aq aR (aq zG (aq su (aw xN) (aw Cg)) (aq ak (aw xj) .nil)) (aq eM (aq ak (aw CG) (aw wv)) (aq C1 (aw wZ) .nil))) (aq (zJ P) (aq zA (aq aR (aw xG) (aw ak)) (aq rn (aw xg) .nil)) (aq yD (aq aR (aw aR) (aw wg)) (aq ak (aw wR) .nil))))) (aq ak (aq C2 (aq dj (aq aR (aq yv (aw xP) (aw ak)) (aq rF (aw xn) .nil)) (aq zx (aq rX (aw CI) (aw aR)) (aq ak (aw ak) .nil))) (aq aR (aq BN (aq sj (aw aR) (aw wD)) (aq aR (aw aR) .nil)) (aq eM (aq yg (aw CD) (aw wo)) (aq xV (aw wT) .nil)))) (aq CQ (aq (zL P) (aq zC (aq eM (aw xL) (aw aR)) (aq ak (aw ak) .nil)) (aq yI (aq rS (aw aR) (aw B8)) (aq aR (aw wV) .nil))) (aq dj (aq eM (aq r6 (aw CM) (aw ak)) (aq x8 (aw xb) .nil)) (aq sG (aq rK (aw xt) (aw we)) (aq ak (aw wP) .nil)))))) (aq (LO P) (aq (LP P) (aq zS (aq Cy (aq BS (aq ak (aw aR) (aw wN)) (aq yd (aw CB) .nil)) (aq ak (aq yi (aw ak) (aw wx)) (aq rg (aw aR) .nil))) (aq (B2 P) (aq ak (aq ak (aw xI) (aw Cd)) (aq rz (aw Cs) .nil)) (aq yF (aq rO (aw ak) (aw ak)) (aq CW (aw ak) .nil)))) (aq ak (aq Cb (aq zE (aq yr (aw CS) (aw wJ)) (aq rD (aw Cz) .nil)) (aq ak (aq rV (aw xB) (aw ak)) (aq xZ (aw wX) .nil))) (aq BZ (aq BK (aq ak (aw ak) (aw wB)) (aq ak (aw ak) .nil)) (aq ak (aq ak (aw ak) (aw B6)) (aq xT (aw Ci) .nil))))) (aq C4 (aq zQ (aq (Ck P) (aq ak (aq ak (aw ak) (aw wL)) (aq aR (aw (xl P)) .nil)) (aq yL (aq aR (aw ak) (aw ak)) (aq x5 (aw w5) .nil))) (aq B0 (aq ak (aq yk (aw ak) (aw aR)) (aq ak (aw ak) .nil)) (aq ak (aq rM (aw xw) (aw ak)) (aq aR (aw ak) .nil)))) (aq ak (aq B4 (aq BP (aq ak (aw ak) (aw wI)) (aq rB (aw (Cv P)) .nil)) (aq ak (aq rQ (aw ak) (aw wq)) (aq xY (aw Cm) .nil))) (aq (BX P) (aq ak (aq ak (aw xD) (aw wz)) (aq rh (aw Cp) .nil)) (aq yy (aq ak (aw ak) (aw aR)) (aq CU (aw aR) .nil))))))) (aq (Lw P) (aq (LQ P) (aq (LR P) (aq aR (aq zM (aq BV (aq (yx P) (aw ak) (aw Ch)) (aq ak (aw ak) (aw wb))) (aq BH (aq ak (aw (CK P)) (aw wy)) (aq x6 (aw ak) .nil))) (aq eM (aq (BO P) (aq yo (aw xJ) (aw aR)) (aq rA (aw Ct) .nil)) (aq yG (aq aR (aw xy) (aw wp)) (aq aR (aw wU) .nil)))) (aq (CY P) (aq Ce (aq zF (aq yt (aw ak) (aw wK)) (aq yb (aw xi) .nil)) (aq (yJ P) (aq yh (aw xC) (aw wu)) (aq x0 (aw (wY P)) .nil))) (aq zI (aq BL (aq se (aw xF) (aw Cc)) (aq rl (aw xf) .nil)) (aq yB (aq rL (aw xu) (aw ak)) (aq CV (aw ak) .nil))))) (aq zT (aq zR (aq eM (aq zH (aq yu (aw xO) (aw aR)) (aq ak (aw xm) .nil)) (aq yM (aq ak (aw CH) (aw ww)) (aq aR (aw Co) .nil))) (aq B1 (aq BM (aq yn (aw xH) (aw ak)) (aq rp (aw xh) .nil)) (aq (yE P) (aq rN (aw xx) (aw wj)) (aq ak (aw wS) .nil)))) (aq CN (aq zK (aq BQ (aq (yq P) (aw xK) (aw Cf)) (aq aR (aw eM) .nil)) (aq yH (aq rR (aw xA) (aw wt)) (aq CZ (aw Cn) .nil))) (aq eM (aq (BJ P) (aq r0 (aw xE) (aw aR)) (aq rj (aw ak) .nil)) (aq yz (aq rJ (aw xr) (aw ak)) (aq aR (aw ak) .nil)))))) (aq (LS P) (aq (LU P) (aq ak (aq Cr (aq ak (aq aR (aw CT) (aw wM)) (aq rG (aw xo) .nil)) (aq (zy P) (aq rY (aw CJ) (aw ak)) (aq rf (aw w6) .nil))) (aq ak (aq aR (aq (sk P) (aw ak) (aw wF)) (aq ak (aw ak) .nil)) (aq dj (aq ak (aw aR) (aw B7)) (aq xW (aw Cj) .nil)))) (aq aR (aq ak (aq (zD P) (aq dj (aw xM) (aw ak)) (aq rC (aw Cw) .nil)) (aq aR (aq rT (aw ak) (aw aR)) (aq ak (aw wW) .nil))) (aq BY (aq dj (aq yj (aw aR) (aw wA)) (aq aR (aw aR) .nil)) (aq (sH P) (aq yf (aw CC) (aw wf)) (aq xS (aw wQ) .nil))))) (aq C3 (aq zP (aq ak (aq BR (aq (sy P) (aw aR) (aw ak)) (aq rE (aw xk) .nil)) (aq dj (aq rW (aw aR) (aw B9)) (aq ak (aw w4) .nil))) (aq ak (aq (zB P) (aq ak (aw CO) (aw wC)) (aq x9 (aw Cq) .nil)) (aq aR (aq ak (aw ak) (aw aR)) (aq xU (aw aR) .nil)))) (aq (zO P) (aq B3 (aq dj (aq aR (aw aR) (aw wH)) (aq ak (aw ak) .nil)) (aq (sK P) (aq rP (aw CF) (aw ak)) (aq xX (aw ak) .nil))) (aq ak (aq aR (aq aR (aw ak) (aw ak)) (aq ak (aw xa) .nil)) (aq dj (aq aR (aw aR) (aw B5)) (aq xR (aw wO) .nil)))))))
noncomputable def EK(w:Fp)(os:Gf):PySem.W.SharedT:=stT (hL2 w.params) 449 800 w.params os
noncomputable def hT2:List FG:=(hB.drop 32).take 34
theorem Dy(w:Fp):(λos=>LV Fy hP w 11 hN 1 1397 (hG1 w os) ⟨(execs hT2 hE).wrap Lq LW id id,hC,⟨68,0,74,42⟩,hF⟩)=λos=>some (ID,(EK w os),hC,⟨269,0,297,15⟩):=by
 rw[PySem.W.Fast.te10110043849684766642,PySem.W.Fast.te12563942051412417395,PySem.W.Fast.te14364793385576792824]
 kernel_rfl
noncomputable def hSf(tr:(String->Option GN)->Fn->Fp->Nat->Option Value->Nat->Fi->Thread->Option Fi)(tb:String->Option GN)(w:Fp)(os:Gf):Fi:=
 (tr tb hP w 11 hN 2 (EK w os).abs ⟨Lq .next,hC,⟨269,0,297,15⟩,hF⟩).elim (hS w os) id
noncomputable def hX(s:Fi):Bool:=PySem.W.xlAt hQ [] s&&PySem.W.recOk (PySem.W.RowW.records PySem.Challenge.rw_playboard_k11_shown_and_read.row.toRowW) s
theorem EI(w:Fp):(λos=>K7 Fy hP w 11 hN 2 (EK w os).abs ⟨Lq .next,hC,⟨269,0,297,15⟩,hF⟩)=λos=>some (hSf K7 Fy w os):=by
 rw[PySem.W.Fast.te14364793385576792824,PySem.W.Fast.te14082659384304107361]
 kernel_rfl
theorem AZ(w:Fp):(λos=>(PySem.W.staticsOk (FU hP.main.body) (Lp w.params) (hSf K7 Fy w os).heap&&PySem.W.namesBound hP (hSf K7 Fy w os).heap&&PySem.W.gensDone (hSf K7 Fy w os)&&PySem.W.laidKept (Lp w.params) (hSf K7 Fy w os).heap))=λos=>true:=by
 rw[PySem.W.Fast.te14364793385576792824,PySem.W.Fast.te14082659384304107361,PySem.W.Fast.te5923862056798008813]
 kernel_rfl
theorem AY(w:Fp):(λos=>PySem.W.openSeen hQ [] (FU hP.main.body) hX true (hSf K7 Fy w os))=λos=>PySem.W.openGood hQ []:=by
 rw[PySem.W.Fast.te14364793385576792824,PySem.W.Fast.te14082659384304107361,PySem.W.Fast.te4187177175401517315,PySem.W.Fast.te5923862056798008813]
 kernel_rfl
theorem AX(w:Fp):(λos=>pE hA (hSf K7 Fy w os))=λos=>pD hK w:=by
 rw[PySem.W.Fast.te14364793385576792824,PySem.W.Fast.te14082659384304107361]
 kernel_rfl
theorem hBe:hB=(hT1++(hT2++[])):=by kernel_rfl
theorem DC(w:Fp)(os:Gf):K7 Fy hP w 11 hN (2597+(1397+2)) (DD w os).abs (LX hB hE hC ⟨0,0,0,0⟩ hF)=some (hSf K7 Fy w os):=by have r:=PySem.W.piece_nil (env:=hE) (congrFun (EI w) os);have r:=LY (LZ (congrFun (Dy w) os)) r;have r:=LY (LZ (congrFun (Dz w) os)) r;exact(congrArg (λl=>K7 Fy hP w 11 hN (2597+(1397+2)) (DD w os).abs (LX l hE hC ⟨0,0,0,0⟩ hF)) hBe).trans r
theorem hleft:PySem.W.LeftO hP hQ [] hX (pE hA) (pD hK) 8110:=
 qx (n0:=12) (nb:=1) (n:=(2597+(1397+2))) (qp:=⟨0,0,0,0⟩) (p0:=⟨0,0,0,0⟩) (p1:=⟨0,0,0,0⟩) (H₀:=Lp) (m₀:=11) (ann:=hN) (b:=hB) (env:=hE) (sa:=DE) (sb:=DD) (sf:=λw os=>(hSf K7 Fy w os))
  (PySem.W.boot_open (by kernel_rfl) (by decide+kernel) (λs=>by kernel_rfl)) (λw=>by kernel_rfl) hpre EJ DC (by decide+kernel) (λw os=>by rw[congrFun (AZ w) os,congrFun (AY w) os,congrFun (AX w) os])
theorem mC(P:Fn)(w:Fp)(E3:Fw){K:Frag}{h:Fw}{mg:Fc}{name q:Str}{st:FG}{ps:List Str}{k:Nat}{sp:Sp}{f:Addr}{fd:Ft}(X:K.In h)(G:h.Ns Fg mg)(a:K1 K Fg name=some (some (.ref f)))(F:bT K name q st f fd)(b:eW K fd ps [])(o:bo P w K mg E3 dO k f fd ps sp):eK P w K mg E3 name ps k sp:=⟨f,_,o,K2 X G a,F.kp,b⟩
noncomputable abbrev ζL(o:Value)(d:Option Addr)(a b:Str)(s:FG)(k c p:Value)(n:Option Addr)(e t:Value)(l:Array (Option Value)):Obj:=⟨o,d,.func (Lb a b (eT s) (dg s) (aj s) .none k c p n e t),l⟩
theorem all_mk{l:PySem.W.OpenLaw}{w:Fp}{K:Frag}{h:Fw}{mg:Fc}{fa f1 f2 f3 f4 f5 f6 f7 f8 f9 f10 f11 f12 f13 f14 f15 f16 f17 f18 f19 f20 f21 f22 f23 f24 f25 f26 f27 f28 f29 f30 f31 f32 f33 f34 f35 f36 f37 cBoard cGame cPlayError cBadBoard cBadGame cBadLine cBadPlace cNoMove cTooWide cNoWord cOver cNothingBack aS aA aE aD aW:Addr}(X:K.In h)(G:h.Ns Fg mg)(hfa:mg "law"=some (.ref fa))
  {od37 an37:Option Addr} {sl37:Array (Option Value)} {oc37 kV37 dc37 pm37 cd37 ct37:Value} {d1 d2 d3 d4 d5 d6 d7 d8 d9 d10 d11 d12 d13 d14 d15 d16 d17 d18 d19 d20 d21 d22 d23 d24 d25 d26 d27 d28 d29 d30 d31 d32 d33 d34 d35 d36:Ft} {u0 u1 u2 u3 u4 u5:Value}
  (aCBoard:K1 K Fg "Board"=some (some (.ref cBoard)))
  (aCGame:K1 K Fg "Game"=some (some (.ref cGame)))
  (aEPlayError:K1 K Fg "PlayError"=some (some (.ref cPlayError)))
  (aEBadBoard:K1 K Fg "BadBoard"=some (some (.ref cBadBoard)))
  (aEBadGame:K1 K Fg "BadGame"=some (some (.ref cBadGame)))
  (aEBadLine:K1 K Fg "BadLine"=some (some (.ref cBadLine)))
  (aEBadPlace:K1 K Fg "BadPlace"=some (some (.ref cBadPlace)))
  (aENoMove:K1 K Fg "NoMove"=some (some (.ref cNoMove)))
  (aETooWide:K1 K Fg "TooWide"=some (some (.ref cTooWide)))
  (aENoWord:K1 K Fg "NoWord"=some (some (.ref cNoWord)))
  (aEOver:K1 K Fg "Over"=some (some (.ref cOver)))
  (aENothingBack:K1 K Fg "NothingBack"=some (some (.ref cNothingBack)))
  (a1:K1 K Fg "is_whole"=some (some (.ref f1)))
  (F1:bT K "is_whole" "is_whole" dU f1 d1)
  (a2:K1 K Fg "is_letter"=some (some (.ref f2)))
  (F2:bT K "is_letter" "is_letter" dv f2 d2)
  (a3:K1 K Fg "is_among"=some (some (.ref f3)))
  (F3:bT K "is_among" "is_among" dY f3 d3)
  (a4:K1 K Fg "is_word"=some (some (.ref f4)))
  (F4:bT K "is_word" "is_word" fm f4 d4)
  (a5:K1 K Fg "is_tuple_of"=some (some (.ref f5)))
  (F5:bT K "is_tuple_of" "is_tuple_of" cz f5 d5)
  (a6:K1 K Fg "is_list_of"=some (some (.ref f6)))
  (F6:bT K "is_list_of" "is_list_of" cW f6 d6)
  (a7:K1 K Fg "is_step"=some (some (.ref f7)))
  (F7:bT K "is_step" "is_step" fo f7 d7)
  (a8:K1 K Fg "is_rule"=some (some (.ref f8)))
  (F8:bT K "is_rule" "is_rule" ft f8 d8)
  (a9:K1 K Fg "is_pair"=some (some (.ref f9)))
  (F9:bT K "is_pair" "is_pair" fu f9 d9)
  (a10:K1 K Fg "are_pairs"=some (some (.ref f10)))
  (F10:bT K "are_pairs" "are_pairs" cO f10 d10)
  (a11:K1 K Fg "is_turns"=some (some (.ref f11)))
  (F11:bT K "is_turns" "is_turns" cH f11 d11)
  (a12:K1 K Fg "is_ends"=some (some (.ref f12)))
  (F12:bT K "is_ends" "is_ends" fv f12 d12)
  (a13:K1 K Fg "are_kinds"=some (some (.ref f13)))
  (F13:bT K "are_kinds" "are_kinds" cQ f13 d13)
  (a14:K1 K Fg "are_rules"=some (some (.ref f14)))
  (F14:bT K "are_rules" "are_rules" cM f14 d14)
  (a15:K1 K Fg "sign_of"=some (some (.ref f15)))
  (F15:bT K "sign_of" "sign_of" fj f15 d15)
  (a16:K1 K Fg "empty_row"=some (some (.ref f16)))
  (F16:bT K "empty_row" "empty_row" cL f16 d16)
  (a17:K1 K Fg "is_row"=some (some (.ref f17)))
  (F17:bT K "is_row" "is_row" dW f17 d17)
  (a18:K1 K Fg "is_place"=some (some (.ref f18)))
  (F18:bT K "is_place" "is_place" dX f18 d18)
  (a19:K1 K Fg "shown"=some (some (.ref f19)))
  (F19:bT K "shown" "shown" gu f19 d19)
  (a20:K1 K Fg "place_of"=some (some (.ref f20)))
  (F20:bT K "place_of" "place_of" dS f20 d20)
  (a21:K1 K Fg "are_holes"=some (some (.ref f21)))
  (F21:bT K "are_holes" "are_holes" cR f21 d21)
  (a22:K3 K (.ref cBoard) "__init__"=some (some (.ref f22))) (iF22:Lf K (.ref f22)=true)
  (F22:bT K "__init__" "Board.__init__" bH f22 d22)
  (a23:K3 K (.ref cBoard) "has"=some (some (.ref f23))) (iF23:Lf K (.ref f23)=true)
  (F23:bT K "has" "Board.has" dy f23 d23)
  (a24:K3 K (.ref cGame) "__init__"=some (some (.ref f24))) (iF24:Lf K (.ref f24)=true)
  (F24:bT K "__init__" "Game.__init__" cb f24 d24)
  (a25:K1 K Fg "_law_cell_at"=some (some (.ref f25)))
  (F25:bT K "_law_cell_at" "_law_cell_at" ci f25 d25)
  (a26:K1 K Fg "_law_mixed"=some (some (.ref f26)))
  (F26:bT K "_law_mixed" "_law_mixed" cY f26 d26)
  (a27:K1 K Fg "_law_whole"=some (some (.ref f27)))
  (F27:bT K "_law_whole" "_law_whole" cX f27 d27)
  (a28:K1 K Fg "_law_board"=some (some (.ref f28)))
  (F28:bT K "_law_board" "_law_board" da f28 d28)
  (a29:K1 K Fg "_law_kinds"=some (some (.ref f29)))
  (F29:bT K "_law_kinds" "_law_kinds" cu f29 d29)
  (a30:K1 K Fg "_law_row"=some (some (.ref f30)))
  (F30:bT K "_law_row" "_law_row" bX f30 d30)
  (a31:K1 K Fg "_law_lines"=some (some (.ref f31)))
  (F31:bT K "_law_lines" "_law_lines" cZ f31 d31)
  (a32:K1 K Fg "_law_line_changed"=some (some (.ref f32)))
  (F32:bT K "_law_line_changed" "_law_line_changed" bB f32 d32)
  (a33:K1 K Fg "_law_changed"=some (some (.ref f33)))
  (F33:bT K "_law_changed" "_law_changed" cg f33 d33)
  (a34:K1 K Fg "_law_read"=some (some (.ref f34)))
  (F34:bT K "_law_read" "_law_read" cS f34 d34)
  (a35:K1 K Fg "_law_alone"=some (some (.ref f35)))
  (F35:bT K "_law_alone" "_law_alone" db f35 d35)
  (a36:K1 K Fg "_law_told"=some (some (.ref f36)))
  (F36:bT K "_law_told" "_law_told" dw f36 d36)
  (a37:K1 K Fg "law"=some (some (.ref f37)))
  (l37:K.lookup f37=some (ζL oc37 od37 "law" "law" gb kV37 dc37 pm37 an37 cd37 ct37 sl37)) (c37:Lo K cd37 "law"=true) (k37:K9 K (.ref f37)=true)
  (pgXBoard:Le K cBoard Gm=true)
  (hdXBoard:Lg K cBoard=true)
  (poXBoard:Lm K cBoard=true)
  (saXBoard:K3 K (.ref cBoard) "__setattr__"=some (some (.builtin "object.__setattr__")))
  (mkXBoard:Ln K cBoard=true)
  (kcXBoard:K9 K (.ref cBoard)=true)
  (naBoardwide:K3 K (.ref cBoard) "wide"=some none)
  (naBoardhigh:K3 K (.ref cBoard) "high"=some none)
  (naBoardholes:K3 K (.ref cBoard) "holes"=some none)
  (naBoardfirm:K3 K (.ref cBoard) "firm"=some none)
  (pgXGame:Le K cGame Gm=true)
  (hdXGame:Lg K cGame=true)
  (poXGame:Lm K cGame=true)
  (saXGame:K3 K (.ref cGame) "__setattr__"=some (some (.builtin "object.__setattr__")))
  (mkXGame:Ln K cGame=true)
  (kcXGame:K9 K (.ref cGame)=true)
  (naGameboard:K3 K (.ref cGame) "board"=some none)
  (naGamekinds:K3 K (.ref cGame) "kinds"=some none)
  (naGamerules:K3 K (.ref cGame) "rules"=some none)
  (naGameturns:K3 K (.ref cGame) "turns"=some none)
  (naGameends:K3 K (.ref cGame) "ends"=some none)
  (naGamestuck:K3 K (.ref cGame) "stuck"=some none)
  (xq:Lj K cBadPlace [.type "ValueError",.type "Exception",.type "BaseException",.type "object"] "ValueError.__new__"=true)
  (xga:K3 K (.ref cBadPlace) "__getattribute__"=some (some (.builtin "BaseException.__getattribute__")))
  (xgh:K3 K (.ref cBadPlace) "__getattr__"=some none)
  (xha:K3 K (.ref cBadPlace) "__class__"=some (some (.builtin "object.__class__")))
  (xhn:LA K (.builtin "object.__class__") "__get__"=some (some (.builtin "getset_descriptor.__get__")))
  (xtk:LB K (.builtin "object.__class__")=some true)
  (xhm:Lh K cBadPlace (.type "object")=some true)
  (xhb:Lh K cBadPlace (.type "BaseException")=some true)
  (xem:Lk K (.ref cBadPlace) (.ref cPlayError)=some true)
  (xv:K4 K (.ref cBadPlace) (.type "ValueError")=some true)
  (xkBadBoard:K4 K (.ref cBadPlace) (.ref cBadBoard)=some false)
  (xkBadGame:K4 K (.ref cBadPlace) (.ref cBadGame)=some false)
  (xkBadLine:K4 K (.ref cBadPlace) (.ref cBadLine)=some false)
  (xkBadPlace:K4 K (.ref cBadPlace) (.ref cBadPlace)=some true)
  (xkNoMove:K4 K (.ref cBadPlace) (.ref cNoMove)=some false)
  (xkTooWide:K4 K (.ref cBadPlace) (.ref cTooWide)=some false)
  (xkNoWord:K4 K (.ref cBadPlace) (.ref cNoWord)=some false)
  (xkOver:K4 K (.ref cBadPlace) (.ref cOver)=some false)
  (xkNothingBack:K4 K (.ref cBadPlace) (.ref cNothingBack)=some false)
  (z0:K1 K Fg "isinstance"=some none)
  (z1:K1 K Fg "int"=some none)
  (z2:K1 K Fg "bool"=some none)
  (z3:K1 K Fg "str"=some none)
  (z4:K1 K Fg "list"=some none)
  (z5:K1 K Fg "tuple"=some none)
  (z6:K1 K Fg "len"=some none)
  (z7:K1 K Fg "range"=some none)
  (z8:K1 K Fg "all"=some none)
  (z9:K1 K Fg "any"=some none)
  (z10:K1 K Fg "set"=some none)
  (z11:K1 K Fg "sorted"=some none)
  (z12:K1 K Fg "min"=some none)
  (z13:K1 K Fg "enumerate"=some none)
  (z14:K1 K Fg "zip"=some none)
  (z15:K1 K Fg "reversed"=some none)
  (z16:K1 K Fg "dict"=some none)
  (z17:K1 K Fg "ValueError"=some none)
  (kg0:K1 K Fg "EMPTY"=some (some u0)) (rv0:RelV (.str ".") u0)
  (kg1:K1 K Fg "HOLE"=some (some u1)) (rv1:RelV (.str "#") u1)
  (kg2:K1 K Fg "MOST_PAIRS"=some (some u2)) (rv2:RelV (.int 6) u2)
  (kg3:K1 K Fg "MOST_KINDS"=some (some u3)) (rv3:RelV (.int 6) u3)
  (kg4:K1 K Fg "MOST_RULES"=some (some u4)) (rv4:RelV (.int 24) u4)
  (kg5:K1 K Fg "LONGEST"=some (some u5)) (rv5:RelV (.int 8) u5)
  {tO0:Value} {tD0:Option Addr} {tI0:Array Value} {tN0:Nat} {tS0:Array (Option Value)} (kt0:K1 K Fg "SORTS"=some (some (.ref aS))) (lt0:K.lookup aS=some ⟨tO0,tD0,.seq tI0 tN0,tS0⟩) (ctp0:tO0=.type "tuple") (zt0:tI0.size<=sizeLine) (vt0:aL ([V.str "leap",V.str "slide",V.str "jump"]) tI0.toList)
  {tO1:Value} {tD1:Option Addr} {tI1:Array Value} {tN1:Nat} {tS1:Array (Option Value)} (kt1:K1 K Fg "AIMS"=some (some (.ref aA))) (lt1:K.lookup aA=some ⟨tO1,tD1,.seq tI1 tN1,tS1⟩) (ctp1:tO1=.type "tuple") (zt1:tI1.size<=sizeLine) (vt1:aL ([V.str "go",V.str "hit",V.str "any"]) tI1.toList)
  {tO2:Value} {tD2:Option Addr} {tI2:Array Value} {tN2:Nat} {tS2:Array (Option Value)} (kt2:K1 K Fg "END_WORDS"=some (some (.ref aE))) (lt2:K.lookup aE=some ⟨tO2,tD2,.seq tI2 tN2,tS2⟩) (ctp2:tO2=.type "tuple") (zt2:tI2.size<=sizeLine) (vt2:aL ([V.str "without",V.str "home"]) tI2.toList)
  {tO3:Value} {tD3:Option Addr} {tI3:Array Value} {tN3:Nat} {tS3:Array (Option Value)} (kt3:K1 K Fg "SIDE_WORDS"=some (some (.ref aD))) (lt3:K.lookup aD=some ⟨tO3,tD3,.seq tI3 tN3,tS3⟩) (ctp3:tO3=.type "tuple") (zt3:tI3.size<=sizeLine) (vt3:aL ([V.str "first",V.str "second"]) tI3.toList)
  {tO4:Value} {tD4:Option Addr} {tI4:Array Value} {tN4:Nat} {tS4:Array (Option Value)} (kt4:K1 K Fg "STUCK_WORDS"=some (some (.ref aW))) (lt4:K.lookup aW=some ⟨tO4,tD4,.seq tI4 tN4,tS4⟩) (ctp4:tO4=.type "tuple") (zt4:tI4.size<=sizeLine) (vt4:aL ([V.str "lost",V.str "even",V.str "won"]) tI4.toList)
  (tw2:Br K aD "first" "second"):
  ∃fd:Ft,(∀(s:Fi)(v:Value),Ib s fd ⟨[v],[]⟩ [("_law_script",v)])/\∀E3:Fw,K.In E3->E3.Ns Fg mg->bo l.prog w K mg E3 dO 9 fa fd ["_law_script"] (oX K):=by
 have e:=hfa.symm.trans (K2 X G a37);cases e;have T:Txt mg aS aA aE aW aD:=⟨K5 X G z0,K5 X G z1,K5 X G z2,K5 X G z3,K5 X G z4,K5 X G z5,K5 X G z6,K5 X G z7,K5 X G z8,K5 X G z9,K5 X G z10,K5 X G z11,K5 X G z12,K5 X G z13,K5 X G z14,K5 X G z15,K5 X G z16,K5 X G z17,⟨_,K2 X G kg0,rv0⟩,⟨_,K2 X G kg1,rv1⟩,⟨_,K2 X G kg2,rv2⟩,⟨_,K2 X G kg3,rv3⟩,⟨_,K2 X G kg4,rv4⟩,⟨_,K2 X G kg5,rv5⟩,⟨_,K2 X G kt0,rfl⟩,⟨_,K2 X G kt1,rfl⟩,⟨_,K2 X G kt2,rfl⟩,⟨_,K2 X G kt3,rfl⟩,⟨_,K2 X G kt4,rfl⟩⟩;have hT_SORTS:∀H,eJ K H aS ["leap","slide","jump"]:=λH=>.inr (.inr ⟨_,tI0,tN0,lt0,ctp0,rfl,zt0,vt0⟩);have hT_AIMS:∀H,eJ K H aA ["go","hit","any"]:=λH=>.inr (.inr ⟨_,tI1,tN1,lt1,ctp1,rfl,zt1,vt1⟩);have hT_END_WORDS:∀H,eJ K H aE ["without","home"]:=λH=>.inr (.inr ⟨_,tI2,tN2,lt2,ctp2,rfl,zt2,vt2⟩);have hT_SIDE_WORDS:∀H,eJ K H aD ["first","second"]:=λH=>.inr (.inr ⟨_,tI3,tN3,lt3,ctp3,rfl,zt3,vt3⟩);have hT_STUCK_WORDS:∀H,eJ K H aW ["lost","even","won"]:=λH=>.inr (.inr ⟨_,tI4,tN4,lt4,ctp4,rfl,zt4,vt4⟩);have b1:=F1.binds (ps:=["thing"]) λ_ _ _ _ _ _=>L2.vI (λ_=>rfl);have b2:=F2.binds (ps:=["thing"]) λ_ _ _ _ _ _=>L2.vI (λ_=>rfl);have b3:=F3.binds (ps:=["thing","least","most"]) λ_ _ _ _ _ _=>L2.vH (λ_ _ _=>rfl);have b4:=F4.binds (ps:=["thing","words"]) λ_ _ _ _ _ _=>L2.m3 (λ_ _=>rfl);have b5:=F5.binds (ps:=["thing","many"]) λ_ _ _ _ _ _=>L2.m3 (λ_ _=>rfl);have b6:=F6.binds (ps:=["thing","least","most"]) λ_ _ _ _ _ _=>L2.vH (λ_ _ _=>rfl);have b7:=F7.binds (ps:=["sort","across","up"]) λ_ _ _ _ _ _=>L2.vH (λ_ _ _=>rfl);have b8:=F8.binds (ps:=["thing","kinds"]) λ_ _ _ _ _ _=>L2.m3 (λ_ _=>rfl);have b9:=F9.binds (ps:=["thing","firsts","seconds"]) λ_ _ _ _ _ _=>L2.vH (λ_ _ _=>rfl);have b10:=F10.binds (ps:=["thing","firsts","seconds"]) λ_ _ _ _ _ _=>L2.vH (λ_ _ _=>rfl);have b11:=F11.binds (ps:=["thing","kinds"]) λ_ _ _ _ _ _=>L2.m3 (λ_ _=>rfl);have b12:=F12.binds (ps:=["thing","kinds"]) λ_ _ _ _ _ _=>L2.m3 (λ_ _=>rfl);have b13:=F13.binds (ps:=["thing"]) λ_ _ _ _ _ _=>L2.vI (λ_=>rfl);have b14:=F14.binds (ps:=["thing","kinds"]) λ_ _ _ _ _ _=>L2.m3 (λ_ _=>rfl);have b15:=F15.binds (ps:=["kind","side"]) λ_ _ _ _ _ _=>L2.m3 (λ_ _=>rfl);have b16:=F16.binds (ps:=["board"]) λ_ _ _ _ _ _=>L2.vI (λ_=>rfl);have b17:=F17.binds (ps:=["game","thing"]) λ_ _ _ _ _ _=>L2.m3 (λ_ _=>rfl);have b18:=F18.binds (ps:=["game","thing"]) λ_ _ _ _ _ _=>L2.m3 (λ_ _=>rfl);have b19:=F19.binds (ps:=["game","place"]) λ_ _ _ _ _ _=>L2.m3 (λ_ _=>rfl);have b20:=F20.binds (ps:=["game","lines"]) λ_ _ _ _ _ _=>L2.m3 (λ_ _=>rfl);have b21:=F21.binds (ps:=["thing","many"]) λ_ _ _ _ _ _=>L2.m3 (λ_ _=>rfl);have b22:=F22.binds (ps:=["self","wide","high","holes"]) λ_ _ _ _ _ _=>L2.ln4 (λ_ _ _ _=>rfl);have b23:=F23.binds (ps:=["self","square"]) λ_ _ _ _ _ _=>L2.m3 (λ_ _=>rfl);have b24:=F24.binds (ps:=["self","board","kinds","rules","turns","ends","stuck"]) λ_ _ _ _ _ _=>L2.ln7 (λ_ _ _ _ _ _ _=>rfl);have b25:=F25.binds (ps:=["_law_script","_law_k"]) λ_ _ _ _ _ _=>L2.m3 (λ_ _=>rfl);have b26:=F26.binds (ps:=["_law_cell","_law_k"]) λ_ _ _ _ _ _=>L2.m3 (λ_ _=>rfl);have b27:=F27.binds (ps:=["_law_thing"]) λ_ _ _ _ _ _=>L2.vI (λ_=>rfl);have b28:=F28.binds (ps:=["_law_script"]) λ_ _ _ _ _ _=>L2.vI (λ_=>rfl);have b29:=F29.binds (ps:=["_law_cell"]) λ_ _ _ _ _ _=>L2.vI (λ_=>rfl);have b30:=F30.binds (ps:=["_law_script","_law_game","_law_start"]) λ_ _ _ _ _ _=>L2.vH (λ_ _ _=>rfl);have b31:=F31.binds (ps:=["_law_place","_law_wide","_law_high"]) λ_ _ _ _ _ _=>L2.vH (λ_ _ _=>rfl);have b32:=F32.binds (ps:=["_law_lines_here","_law_cell","_law_kinds_here"]) λ_ _ _ _ _ _=>L2.vH (λ_ _ _=>rfl);have b33:=F33.binds (ps:=["_law_lines_here","_law_cell","_law_kinds_here"]) λ_ _ _ _ _ _=>L2.vH (λ_ _ _=>rfl);have b34:=F34.binds (ps:=["_law_lines_here","_law_wide","_law_high","_law_holes","_law_kinds_here"]) λ_ _ _ _ _ _=>L2.ln5 (λ_ _ _ _ _=>rfl);have b35:=F35.binds (ps:=["_law_e"]) λ_ _ _ _ _ _=>L2.vI (λ_=>rfl);have b36:=F36.binds (ps:=["_law_game","_law_lines_here"]) λ_ _ _ _ _ _=>L2.m3 (λ_ _=>rfl);have F37:=aT (st:=gb) l37 c37 k37;have b37:=F37.binds (ps:=["_law_script"]) λ_ _ _ _ _ _=>L2.vI (λ_=>rfl);have cl_Board:mZ K cBoard:=⟨pgXBoard,hdXBoard,poXBoard,saXBoard⟩;have cl_Game:mZ K cGame:=⟨pgXGame,hdXGame,poXGame,saXGame⟩;refine⟨Lb "law" "law" (eT gb) (dg gb) (aj gb) .none kV37 dc37 pm37 an37 cd37 ct37,λs v=>.of_eq rfl,λE3 _ _=>?_⟩;have C_is_whole:=mC l.prog w E3 X G a1 F1 b1 (mh F1 T);have C_is_letter:=mC l.prog w E3 X G a2 F2 b2 (kS F2 T);have C_is_among:=mC l.prog w E3 X G a3 F3 b3 (ml F3 T ⟨C_is_whole⟩);have C_is_word:=mC l.prog w E3 X G a4 F4 b4 (nJ F4 T);have C_is_tuple_of:=mC l.prog w E3 X G a5 F5 b5 (jj F5 T);have C_is_list_of:=mC l.prog w E3 X G a6 F6 b6 (jL F6 T);have C_is_step:=mC l.prog w E3 X G a7 F7 b7 (nK F7 T ⟨C_is_among⟩);have R2:RG2 l.prog w K mg E3:=⟨C_is_word,C_is_tuple_of⟩;have R3:RG3 l.prog w K mg E3:={toRG2:=R2,is_step:=C_is_step};have C_is_rule:=mC l.prog w E3 X G a8 F8 b8 (nM F8 T hT_SORTS hT_AIMS R3);have C_is_pair:=mC l.prog w E3 X G a9 F9 b9 (nN F9 T R2);have C_are_pairs:=mC l.prog w E3 X G a10 F10 b10 (kW F10 T ⟨C_is_list_of,C_is_pair⟩);have C_is_ends:=mC l.prog w E3 X G a12 F12 b12 (nO F12 T hT_END_WORDS ⟨C_are_pairs⟩);have C_is_turns:=mC l.prog w E3 X G a11 F11 b11 (mi F11 T ⟨C_are_pairs⟩);have G1:EZ l.prog w K mg E3:=⟨C_is_list_of,C_is_letter,C_is_rule⟩;have C_are_kinds:=mC l.prog w E3 X G a13 F13 b13 (kX F13 T G1);have C_are_rules:=mC l.prog w E3 X G a14 F14 b14 (kU F14 T G1);have G2:GG2 l.prog w K mg E3:=⟨C_are_kinds,C_are_rules,C_is_turns,C_is_ends,C_is_word⟩;have GC:zu K cGame:=⟨cl_Game,naGameboard,naGamekinds,naGamerules,naGameturns,naGameends,naGamestuck⟩;have C_Game:mW l.prog w K mg E3 "Game" cGame _ _ _:=⟨f24,_,⟨mkXGame,a24,iF24,kcXGame⟩,lf F24 T hT_STUCK_WORDS GC G2,K2 X G aCGame,b24⟩;have DA:CA l.prog w K mg E3:=⟨Bo C_is_among⟩;have C_are_holes:=mC l.prog w E3 X G a21 F21 b21 (kZ F21 T DA);have DB2:CB2 l.prog w K mg E3:={toCA:=DA,are_holes:=C_are_holes};have BC:iS K cBoard:=⟨cl_Board,naBoardwide,naBoardhigh,naBoardholes,naBoardfirm⟩;have C_Board:mW l.prog w K mg E3 "Board" cBoard _ _ _:=⟨f22,_,⟨mkXBoard,a22,iF22,kcXBoard⟩,jS F22 T BC DB2,K2 X G aCBoard,b22⟩;have C_Board_has:Bv l.prog w K mg E3 cBoard "has" _ _ _:=⟨⟨f23,_,lg F23 T BC DA,⟨a23,iF23,F23.kp⟩,b23⟩,cl_Board⟩;have C_sign_of:=mC l.prog w E3 X G a15 F15 b15 (nI F15 T);have C_empty_row:=mC l.prog w E3 X G a16 F16 b16 (kT F16 T BC ⟨C_Board_has⟩);have C_is_row:=mC l.prog w E3 X G a17 F17 b17 (qt F17 T BC GC ⟨C_sign_of,C_empty_row⟩);have C_is_place:=mC l.prog w E3 X G a18 F18 b18 (mj F18 T ⟨C_is_tuple_of,C_is_among,C_is_row⟩);have C_shown:=mC l.prog w E3 X G a19 F19 b19 (tN F19 T BC GC hT_SIDE_WORDS);have X_place_of:wa l.prog w K mg E3 "place_of" _ _ _:=⟨f20,_,mf F20 T hT_SIDE_WORDS tw2 (K2 X G aEBadPlace) xq ⟨C_is_place,C_shown⟩,K2 X G a20,F20.kp,b20⟩;have C__law_cell_at:=mC l.prog w E3 X G a25 F25 b25 (iP F25 T);have C__law_mixed:=mC l.prog w E3 X G a26 F26 b26 (jN F26 T);have C__law_whole:=mC l.prog w E3 X G a27 F27 b27 (jM F27 T);have LG:LG1 l.prog w K mg E3:=⟨C__law_cell_at,C__law_mixed⟩;have C__law_board:=mC l.prog w E3 X G a28 F28 b28 (jQ F28 T LG);have C__law_kinds:=mC l.prog w E3 X G a29 F29 b29 (jP F29 T);have C__law_row:=mC l.prog w E3 X G a30 F30 b30 (mn F30 T BC GC LG);have XC:PySem.W.ExcC K cBadPlace:=⟨xga,xgh,xha,xhn,xtk,xhm,xhb,ol xhm⟩;have AL:AlC mg K cBadPlace false false false true false false false false false:=⟨XC,⟨_,K2 X G aEBadBoard,xkBadBoard⟩,⟨_,K2 X G aEBadGame,xkBadGame⟩,⟨_,K2 X G aEBadLine,xkBadLine⟩,⟨_,K2 X G aEBadPlace,xkBadPlace⟩,⟨_,K2 X G aENoMove,xkNoMove⟩,⟨_,K2 X G aETooWide,xkTooWide⟩,⟨_,K2 X G aENoWord,xkNoWord⟩,⟨_,K2 X G aEOver,xkOver⟩,⟨_,K2 X G aENothingBack,xkNothingBack⟩,xv,rfl⟩;have N__law_alone:Bx l.prog w K mg E3 "_law_alone" _ _ _:=⟨f35,_,jR F35 T AL,K2 X G a35,F35.kp,b35⟩;have C__law_told:=mC l.prog w E3 X G a36 F36 b36 (la F36 T (K2 X G aEPlayError) (K2 X G aEBadPlace) xem xkBadPlace XC ⟨X_place_of,N__law_alone⟩);have C__law_lines:=mC l.prog w E3 X G a31 F31 b31 (jO F31 T);have C__law_line_changed:=mC l.prog w E3 X G a32 F32 b32 (gg F32 T);have C__law_changed:=mC l.prog w E3 X G a33 F33 b33 (iO F33 T ⟨C__law_line_changed⟩);have C__law_read:=mC l.prog w E3 X G a34 F34 b34 (lc F34 T);have C:CL l.prog w K mg E3 cBoard cGame:={toLG1:=LG,_law_board:=C__law_board,_law_kinds:=C__law_kinds,_law_row:=C__law_row,_law_lines:=C__law_lines,_law_changed:=C__law_changed,_law_read:=C__law_read,_law_told:=C__law_told,_law_whole:=C__law_whole,shown:=C_shown,Board:=C_Board,Game:=C_Game};exact AG F37 T BC GC C
theorem walk{l:PySem.W.OpenLaw}{q:Fn}{loose:List Str}{XP:(Fc)->Fw->Prop}{YP:Fp->Fw->Prop}{d:DefRec}{K:GT->Frag}(hn:l.most=some 63)(hdf:d.params.defaults=[])
  (hY:∀(w:Fp)(h:Fw),YP w h->(K w.params).In h)
  (F:∀(w:Fp)(mg:Fc)(fa:Addr)(h:Fw),(K w.params).In h->h.Ns Fg mg->mg d.name=some (.ref fa)->
   ∃fd:Ft,(∀(s:Fi)(u:Value),Ib s fd ⟨[u],[]⟩ [("_law_script",u)])/\∀E3:Fw,(K w.params).In E3->E3.Ns Fg mg->bo l.prog w (K w.params) mg E3 dO 9 fa fd ["_law_script"] (oX (K w.params))):
  PySem.W.WalkO q loose XP YP l.row.toRowW d [] (λf vs=>PySem.call f vs):=
 L2.uZ (n:=63) (k:=9) (x:="_law_script") (CX:=λ_=>dO) (sp:=λw=>oX (K w.params)) hn (by decide) hdf ⟨rfl,by decide,by decide⟩ hY F (λ_ _ a ns hl _ hS=>⟨a,ns,rfl,hS,hl,λ_=>rfl⟩) λ_ _ _ _ _ z=>z
end K11
open PySem PySem.W PyProof.Rows
set_option maxRecDepth 100000 in
set_option maxHeartbeats 0 in
theorem PySem.Challenge.cw_playboard_k11_shown_and_read_holds : PySem.Challenge.rw_playboard_k11_shown_and_read.Holds := by
 w_on
 o_law
 refine PySem.W.holds_openX (q:=K11.hQ) (loose:=[]) (Xt:=K11.hX) (XP:=PySem.W.XL K11.hQ []) (Yf:=L2.pE K11.hA) (Ya:=L2.pD K11.hK) K11.hleft (λs e=>PySem.W.xl_of s (KN.mp e).1) PySem.W.XL.keeps (by rfl) (by rfl) (by rfl) (λs e=>PySem.W.recFacts_of (KN.mp e).2) (by rfl) (by first|assumption|decide+kernel) (by decide+kernel) ⟨rfl,rfl,rfl,rfl,rfl,by decide+kernel⟩ ?hw ?hc
 (case hw=>w_witness2)
 k_fill
 refine L2.sN (L2.DB (λ_=>by kernel_rfl)) ?_;refine K11.walk (l:=PySem.Challenge.rw_playboard_k11_shown_and_read) rfl rfl (λw h Y=>Y) ?F
 case F=>
  intro w mg fa h KX G hmg
  refine' K11.all_mk KX G hmg ?aCBoard ?aCGame ?aEPlayError ?aEBadBoard ?aEBadGame ?aEBadLine ?aEBadPlace ?aENoMove ?aETooWide ?aENoWord ?aEOver ?aENothingBack ?a1 ?F1 ?a2 ?F2 ?a3 ?F3 ?a4 ?F4 ?a5 ?F5 ?a6 ?F6 ?a7 ?F7 ?a8 ?F8 ?a9 ?F9 ?a10 ?F10 ?a11 ?F11 ?a12 ?F12 ?a13 ?F13 ?a14 ?F14 ?a15 ?F15 ?a16 ?F16 ?a17 ?F17 ?a18 ?F18 ?a19 ?F19 ?a20 ?F20 ?a21 ?F21 ?a22 ?iF22 ?F22 ?a23 ?iF23 ?F23 ?a24 ?iF24 ?F24 ?a25 ?F25 ?a26 ?F26 ?a27 ?F27 ?a28 ?F28 ?a29 ?F29 ?a30 ?F30 ?a31 ?F31 ?a32 ?F32 ?a33 ?F33 ?a34 ?F34 ?a35 ?F35 ?a36 ?F36 ?a37 ?l37 ?c37 ?k37 ?pgXBoard ?hdXBoard ?poXBoard ?saXBoard ?mkXBoard ?kcXBoard ?naBoardwide ?naBoardhigh ?naBoardholes ?naBoardfirm ?pgXGame ?hdXGame ?poXGame ?saXGame ?mkXGame ?kcXGame ?naGameboard ?naGamekinds ?naGamerules ?naGameturns ?naGameends ?naGamestuck ?xq ?xga ?xgh ?xha ?xhn ?xtk ?xhm ?xhb ?xem ?xv ?xkBadBoard ?xkBadGame ?xkBadLine ?xkBadPlace ?xkNoMove ?xkTooWide ?xkNoWord ?xkOver ?xkNothingBack ?z0 ?z1 ?z2 ?z3 ?z4 ?z5 ?z6 ?z7 ?z8 ?z9 ?z10 ?z11 ?z12 ?z13 ?z14 ?z15 ?z16 ?z17 ?kg0 ?rv0 ?kg1 ?rv1 ?kg2 ?rv2 ?kg3 ?rv3 ?kg4 ?rv4 ?kg5 ?rv5 ?kt0 ?lt0 ?ctp0 ?zt0 ?vt0 ?kt1 ?lt1 ?ctp1 ?zt1 ?vt1 ?kt2 ?lt2 ?ctp2 ?zt2 ?vt2 ?kt3 ?lt3 ?ctp3 ?zt3 ?vt3 ?kt4 ?lt4 ?ctp4 ?zt4 ?vt4 ?tw2
  (case aCBoard=>k_is)
  (case aCGame=>k_is)
  (case aEPlayError=>k_is)
  (case aEBadBoard=>k_is)
  (case aEBadGame=>k_is)
  (case aEBadLine=>k_is)
  (case aEBadPlace=>k_is)
  (case aENoMove=>k_is)
  (case aETooWide=>k_is)
  (case aENoWord=>k_is)
  (case aEOver=>k_is)
  (case aENothingBack=>k_is)
  (case a1=>k_is)
  (case F1=>exact L2.aT (by k_is) (by k_is) (by k_is))
  (case a2=>k_is)
  (case F2=>exact L2.aT (by k_is) (by k_is) (by k_is))
  (case a3=>k_is)
  (case F3=>exact L2.aT (by k_is) (by k_is) (by k_is))
  (case a4=>k_is)
  (case F4=>exact L2.aT (by k_is) (by k_is) (by k_is))
  (case a5=>k_is)
  (case F5=>exact L2.aT (by k_is) (by k_is) (by k_is))
  (case a6=>k_is)
  (case F6=>exact L2.aT (by k_is) (by k_is) (by k_is))
  (case a7=>k_is)
  (case F7=>exact L2.aT (by k_is) (by k_is) (by k_is))
  (case a8=>k_is)
  (case F8=>exact L2.aT (by k_is) (by k_is) (by k_is))
  (case a9=>k_is)
  (case F9=>exact L2.aT (by k_is) (by k_is) (by k_is))
  (case a10=>k_is)
  (case F10=>exact L2.aT (by k_is) (by k_is) (by k_is))
  (case a11=>k_is)
  (case F11=>exact L2.aT (by k_is) (by k_is) (by k_is))
  (case a12=>k_is)
  (case F12=>exact L2.aT (by k_is) (by k_is) (by k_is))
  (case a13=>k_is)
  (case F13=>exact L2.aT (by k_is) (by k_is) (by k_is))
  (case a14=>k_is)
  (case F14=>exact L2.aT (by k_is) (by k_is) (by k_is))
  (case a15=>k_is)
  (case F15=>exact L2.aT (by k_is) (by k_is) (by k_is))
  (case a16=>k_is)
  (case F16=>exact L2.aT (by k_is) (by k_is) (by k_is))
  (case a17=>k_is)
  (case F17=>exact L2.aT (by k_is) (by k_is) (by k_is))
  (case a18=>k_is)
  (case F18=>exact L2.aT (by k_is) (by k_is) (by k_is))
  (case a19=>k_is)
  (case F19=>exact L2.aT (by k_is) (by k_is) (by k_is))
  (case a20=>k_is)
  (case F20=>exact L2.aT (by k_is) (by k_is) (by k_is))
  (case a21=>k_is)
  (case F21=>exact L2.aT (by k_is) (by k_is) (by k_is))
  (case a22=>k_is)
  (case iF22=>k_is)
  (case F22=>exact L2.aT (by k_is) (by k_is) (by k_is))
  (case a23=>k_is)
  (case iF23=>k_is)
  (case F23=>exact L2.aT (by k_is) (by k_is) (by k_is))
  (case a24=>k_is)
  (case iF24=>k_is)
  (case F24=>exact L2.aT (by k_is) (by k_is) (by k_is))
  (case a25=>k_is)
  (case F25=>exact L2.aT (by k_is) (by k_is) (by k_is))
  (case a26=>k_is)
  (case F26=>exact L2.aT (by k_is) (by k_is) (by k_is))
  (case a27=>k_is)
  (case F27=>exact L2.aT (by k_is) (by k_is) (by k_is))
  (case a28=>k_is)
  (case F28=>exact L2.aT (by k_is) (by k_is) (by k_is))
  (case a29=>k_is)
  (case F29=>exact L2.aT (by k_is) (by k_is) (by k_is))
  (case a30=>k_is)
  (case F30=>exact L2.aT (by k_is) (by k_is) (by k_is))
  (case a31=>k_is)
  (case F31=>exact L2.aT (by k_is) (by k_is) (by k_is))
  (case a32=>k_is)
  (case F32=>exact L2.aT (by k_is) (by k_is) (by k_is))
  (case a33=>k_is)
  (case F33=>exact L2.aT (by k_is) (by k_is) (by k_is))
  (case a34=>k_is)
  (case F34=>exact L2.aT (by k_is) (by k_is) (by k_is))
  (case a35=>k_is)
  (case F35=>exact L2.aT (by k_is) (by k_is) (by k_is))
  (case a36=>k_is)
  (case F36=>exact L2.aT (by k_is) (by k_is) (by k_is))
  (case a37=>k_is)
  (case l37=>k_is)
  (case c37=>k_is)
  (case k37=>k_is)
  (case pgXBoard=>k_is)
  (case hdXBoard=>k_is)
  (case poXBoard=>k_is)
  (case saXBoard=>k_is)
  (case mkXBoard=>k_is)
  (case kcXBoard=>k_is)
  (case naBoardwide=>k_is)
  (case naBoardhigh=>k_is)
  (case naBoardholes=>k_is)
  (case naBoardfirm=>k_is)
  (case pgXGame=>k_is)
  (case hdXGame=>k_is)
  (case poXGame=>k_is)
  (case saXGame=>k_is)
  (case mkXGame=>k_is)
  (case kcXGame=>k_is)
  (case naGameboard=>k_is)
  (case naGamekinds=>k_is)
  (case naGamerules=>k_is)
  (case naGameturns=>k_is)
  (case naGameends=>k_is)
  (case naGamestuck=>k_is)
  (case xq=>kernel_rfl)
  (case xga=>k_is)
  (case xgh=>k_is)
  (case xha=>k_is)
  (case xhn=>k_is)
  (case xtk=>k_is)
  (case xhm=>k_is)
  (case xhb=>k_is)
  (case xem=>kernel_rfl)
  (case xv=>kernel_rfl)
  (case xkBadBoard=>kernel_rfl)
  (case xkBadGame=>kernel_rfl)
  (case xkBadLine=>kernel_rfl)
  (case xkBadPlace=>kernel_rfl)
  (case xkNoMove=>kernel_rfl)
  (case xkTooWide=>kernel_rfl)
  (case xkNoWord=>kernel_rfl)
  (case xkOver=>kernel_rfl)
  (case xkNothingBack=>kernel_rfl)
  (case z0=>k_is)
  (case z1=>k_is)
  (case z2=>k_is)
  (case z3=>k_is)
  (case z4=>k_is)
  (case z5=>k_is)
  (case z6=>k_is)
  (case z7=>k_is)
  (case z8=>k_is)
  (case z9=>k_is)
  (case z10=>k_is)
  (case z11=>k_is)
  (case z12=>k_is)
  (case z13=>k_is)
  (case z14=>k_is)
  (case z15=>k_is)
  (case z16=>k_is)
  (case z17=>k_is)
  (case kg0=>k_is)
  (case rv0=>exact⟨_,rfl⟩)
  (case kg1=>k_is)
  (case rv1=>exact⟨_,rfl⟩)
  (case kg2=>k_is)
  (case rv2=>exact⟨_,rfl⟩)
  (case kg3=>k_is)
  (case rv3=>exact⟨_,rfl⟩)
  (case kg4=>k_is)
  (case rv4=>exact⟨_,rfl⟩)
  (case kg5=>k_is)
  (case rv5=>exact⟨_,rfl⟩)
  (case kt0=>k_is)
  (case lt0=>k_is)
  (case ctp0=>rfl)
  (case zt0=>decide)
  (case vt0=>exact .cons ⟨_,rfl⟩ (.cons ⟨_,rfl⟩ (.cons ⟨_,rfl⟩ (.nil))))
  (case kt1=>k_is)
  (case lt1=>k_is)
  (case ctp1=>rfl)
  (case zt1=>decide)
  (case vt1=>exact .cons ⟨_,rfl⟩ (.cons ⟨_,rfl⟩ (.cons ⟨_,rfl⟩ (.nil))))
  (case kt2=>k_is)
  (case lt2=>k_is)
  (case ctp2=>rfl)
  (case zt2=>decide)
  (case vt2=>exact .cons ⟨_,rfl⟩ (.cons ⟨_,rfl⟩ (.nil)))
  (case kt3=>k_is)
  (case lt3=>k_is)
  (case ctp3=>rfl)
  (case zt3=>decide)
  (case vt3=>exact .cons ⟨_,rfl⟩ (.cons ⟨_,rfl⟩ (.nil)))
  (case kt4=>k_is)
  (case lt4=>k_is)
  (case ctp4=>rfl)
  (case zt4=>decide)
  (case vt4=>exact .cons ⟨_,rfl⟩ (.cons ⟨_,rfl⟩ (.cons ⟨_,rfl⟩ (.nil))))
  (case tw2=>exact⟨_,_,_,_,by k_is,⟨_,rfl⟩,⟨_,rfl⟩⟩)
