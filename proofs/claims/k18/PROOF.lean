import PyProof.Rows.All
import Wide.All
import OpenK.AllK
import Wide.FinOn
import Lean
import PyProof.EqAt
import PyProof.EqKinds
import PyProof.TupleCall
import KE.KIntText
import KE.IntTextLaws
import KE.IntText
import KE.KRevIter
import KE.KEqDict
import PyProof.ZipIter
import PyProof.Draws
import PyProof.EnumMake
import PyProof.SetScanFacts
import PyProof.ListStr
import PyProof.SetKind
import PyProof.CollectWalk
import PyProof.FactsAll.set
import PyProof.StrLoop
import PyProof.TupleKey
import KE.KSortTup
import PyProof.Rows.SortWalk
import PyProof.Rows.SortStr
import PyProof.NeKinds
import PyProof.AttrMissHeap
import KE.KDictOf
import OpenK.ZGo
import PySem.Challenge.RW_playboard_k18_followers
set_option Elab.async false
set_option linter.all false
set_option maxRecDepth 100000
set_option maxHeartbeats 4000000
open List renaming length_map → NZ, mem_map → N0, mem_cons → N1, getElem?_eq_getElem → N2, getElem?_map → N3, size_toArray → N4, mem_singleton → N5, mem_cons_of_mem → N6, map_map → N7, getD_eq_getElem?_getD → N8, mem_cons_self → N9, length_append → Oa, mem_range → Ob, mem_append → Oc, not_mem_nil → Od, getElem?_eq_some_iff → Oe, getElem_mem → Of, map_append → Og, length_cons → Oh, mem_append_right → Oi, map_cons → Oj, length_take → Ol, mem_of_getElem? → Om, all_eq_true → On, filter_eq_self → Oo, all_cons → Op, mem_filter → Oq, append_nil → Os, getElem?_eq_none → Ot, pairwise_map → Ou, map_congr_left → Ov, length_range → Ow, mem_append_left → Ox, lookup_cons → Oy, getElem?_range → Oz, nodup_cons → OA, length_set → OB, any_eq_true → OC, nodup_iff_pairwise_ne → OD, append_assoc → OE, getElem_of_mem → OF, filterMap_cons → OG, any_cons → OH, ext_getElem? → OJ, length_filter_le → OK, mem_filterMap → OL, any_eq_false → OM, getElem?_append_left → ON, length_drop → OO, range_succ → OP, mem_of_mem_take → OQ, pairwise_cons → OR, getElem?_of_mem → OS, getElem?_append_right → OT, find?_cons → OU, drop_eq_getElem_cons → OV, drop_zero → OW, take_of_length_le → OX, nodup_append → OY, take_length → OZ, length_pos_of_mem → O0, pairwise_iff_getElem → O3, getElem_inj → O4, getElem?_set_self → O5, getElem?_set_ne → O6, of_mem_zip → O7, getElem?_take_of_lt → O8, map_nil → O9, length_singleton → Pa, forIn_cons → Pb, length_eq_zero_iff → Pc, any_map → Pd, getElem?_toArray → Pe, length_erase_of_mem → Pf, mem_erase_of_ne → Pg, filter_map → Ph, nodup_range → Pi, getElem_append_left → Pj, getElem_append_right → Pk, map_take → Pl, nodup_nil → Pm, all_map → Pn, take_succ_eq_append_getElem → Po, take_sublist → Pp, mem_iff_getElem → Pq, mem_of_mem_drop → Pr, take_add_one → Ps, pairwise_append → Pu, mem_drop_iff_getElem → Pw, take_append_drop → Px, length_eraseIdx_of_lt → Py, perm_cons_erase → Pz, pairwise_singleton → PB, set_cons_zero → PC, getElem_range → PD
open Nat renaming le_refl → PF, ne_of_lt → PH, zero_le → PJ, le_trans → PK, lt_of_lt_of_le → PL, ne_of_gt → PM, le_succ → PN, lt_irrefl → PP, lt_trans → PQ, le_add_right → PU, zero_add → PV, le_of_eq → PX, lt_succ_of_lt → PY, le_of_lt → PZ, lt_succ_self → P3, succ_ne_self → P4, lt_trichotomy → P5, mod_lt → P6, succ_pos → P7, sub_zero → P8, eq_zero_or_pos → P9, le_of_ble_eq_true → Qa
open Int renaming emod_nonneg → Qb, emod_lt_of_pos → Qc, toNat_natCast → Qd, zero_add → Qe, mul_le_mul → Qf, mul_comm → Qg, mul_le_mul_of_nonneg_left → Qh, one_mul → Qi, emod_eq_of_lt → Qj, toNat_of_nonneg → Qk, mul_nonneg → Ql, mul_le_mul_of_nonneg_right → Qm, emod_eq_emod_iff_emod_sub_eq_zero → Qn
open Bool renaming false_ne_true → Qo, and_eq_true → Qp, eq_iff_iff → Qq, false_eq_true → Qr, not_eq_true' → Qs, true_and → Qt, not_eq_false' → Qu, or_false → Qv, or_eq_true → Qw, not_true → Qx, and_eq_true_iff → Qy
open Array renaming getElem?_eq_getElem → Qz, getElem?_toList → QA, length_toList → QB, getElem?_eq_none → QC, size_map → QD, toList_inj → QE, toList_push → QF, getElem_toList → QG, forIn_toList → QH
open Option renaming map_eq_some_iff → QI, getD_none → QJ
open PySem.W renaming nsIn → QK, findIn → QL, mg_none_of → QM, mg_of → QN, topRun → QO, kia_one → QP, isFn → QQ, fnOf → QR, emptyDict → QS, keepIn → QT, instObj → QU, plainGet → QV, hasDictIn → QW, lookIn → QX, plainOver → QY, makesIn → QZ, kitOne → Q0, codeIn → Q3, boot_heap → Q4, doneF → Q5, methodObj → Q6, plainGet_of → Q7, takerIn → Q8, callWith_K → Q9, boot_o_2 → Ra, handedIn → Rb, kitx_list → Rc, kitx_dict → Re, cellsFrom_some → Rf, topStub → Rg, segRun → Rh, blockOf → Ri, boot_o_0 → Rj, boot_o_1 → Rk, boot_o_7 → Rl, boot_o_5 → Rn, boot_o_9 → Ro, boot_o_4 → Rp, boot_o_8 → Rq, boot_o_6 → Rr, boot_o_10 → Rs, segRunT → Rt, deadEnd → Ru, restOf → Rv, piece_app → Rw, segRun_of → Rx
open PySem.W (Frag)
namespace L2
open PySem PySem.Spec PyProof.Rows
abbrev Key:=Sum Int Str
def mP:Key->Value->Bool
 | .inl k,v=>Value.isInt k v
 | .inr x,v=>Value.isStrOf x v
def NI (w:World):Key->Int
 | .inl k=>hashInt k
 | .inr x=>hashStr w x
theorem bP:∀{k:Key}{v:Value},mP k v=true->(∃i t,k=Sum.inl i/\v=Value.int i t)\/(∃x t,k=Sum.inr x/\v=Value.str x t)
 | .inl i,v,h=>by obtain ⟨t,e⟩:=Value.isInt_shape (k:=i) (v:=v) h;exact .inl ⟨i,t,rfl,e⟩
 | .inr x,v,h=>by obtain ⟨t,e⟩:=Value.isStrOf_shape (x:=x) (v:=v) h;exact .inr ⟨x,t,rfl,e⟩
theorem ww (i:Int) (t:Tok):mP (.inl i) (.int i t)=true:=by simp [mP,Value.isInt]
theorem wv (x:Str) (t:Tok):mP (.inr x) (.str x t)=true:=by simp [mP,Value.isStrOf]
theorem Jj (a b:Int):decide ((Sum.inl a:Key)=Sum.inl b)=(a == b):=by
 by_cases e:a=b
 ·subst e;simp
 ·have h:¬(Sum.inl a:Key)=Sum.inl b:=λ q=>e (Sum.inl.inj q);rw [decide_eq_false h];exact (beq_eq_false_iff_ne.mpr e).symm
theorem Jg (a b:Str):decide ((Sum.inr a:Key)=Sum.inr b)=decide (a=b):=by
 by_cases e:a=b
 ·subst e;simp
 ·have h:¬(Sum.inr a:Key)=Sum.inr b:=λ q=>e (Sum.inr.inj q);rw [decide_eq_false h,decide_eq_false e]
theorem Ji (a:Int) (b:Str):decide ((Sum.inl a:Key)=Sum.inr b)=false:=decide_eq_false (λ q=>nomatch q)
theorem Jh (a:Str) (b:Int):decide ((Sum.inr a:Key)=Sum.inl b)=false:=decide_eq_false (λ q=>nomatch q)
def mixKind (prog:Program) (w:World):PySem.KeyKind prog w Key where
 is:=mP
 hash:=NI w
 inj:=λ v a b ha hb=>by
  rcases bP ha with ⟨i,t,rfl,rfl⟩ | ⟨x,t,rfl,rfl⟩
  ·rcases bP hb with ⟨j,u,rfl,e⟩ | ⟨y,u,rfl,e⟩
   ·injection e with e1 _;rw [e1]
   ·exact nomatch e
  ·rcases bP hb with ⟨j,u,rfl,e⟩ | ⟨y,u,rfl,e⟩
   ·exact nomatch e
   ·injection e with e1 _;rw [e1]
 byValue:=λ k v h=>by
   rcases bP h with ⟨i,t,rfl,rfl⟩ | ⟨x,t,rfl,rfl⟩<;>rfl
 pyHash:=λ hv h=>by
  rcases bP hv with ⟨i,t,rfl,rfl⟩ | ⟨x,t,rfl,rfl⟩
  ·exact wpAny_pyHash_int h
  ·exact wpAny_pyHash_str h
 eqBool:=λ hu hv h=>by
  rcases bP hu with ⟨i,t,rfl,rfl⟩ | ⟨x,t,rfl,rfl⟩
  ·rcases bP hv with ⟨j,u,rfl,rfl⟩ | ⟨y,u,rfl,rfl⟩
   ·rw [Jj] at h;exact wpAny_eqBool_int h
   ·rw [Ji] at h;exact SeqAt.EqAt.int_str i t y u _ _ _ _ h
  ·rcases bP hv with ⟨j,u,rfl,rfl⟩ | ⟨y,u,rfl,rfl⟩
   ·rw [Jh] at h;exact SeqAt.EqAt.str_int x t j u _ _ _ _ h
   ·rw [Jg] at h;exact wpAny_eqBool_str h
 «strs» :=λ k x t v h=>by
  rcases bP h with ⟨i,u,rfl,e⟩ | ⟨y,u,rfl,e⟩
  ·exact nomatch e
  ·injection e with e1 _;subst e1;cases v<;>rfl
theorem qy (prog:Program) (w:World) (i:Int) (t:Tok):(mixKind prog w).is (.inl i) (.int i t)=true:=ww i t
theorem qx (prog:Program) (w:World) (x:Str) (t:Tok):(mixKind prog w).is (.inr x) (.str x t)=true:=wv x t
end L2
namespace L2
open PySem PySem.Spec PyProof.Rows
inductive V where
 | non | bl (b:Bool) | int (i:Int) | str (x:Str) | byt (b:Array UInt8) | flt (b:UInt64) | ref (a:Addr) | ty (n:String)
 deriving DecidableEq
def aL:V->Value->Prop
 | .non,u=>u=Value.none
 | .bl b,u=>u=Value.bool b
 | .int i,u=> ∃t,u=Value.int i t
 | .str x,u=> ∃t,u=Value.str x t
 | .byt b,u=> ∃t,u=Value.bytes b t
 | .flt b,u=> ∃t,u=Value.float b t
 | .ref a,u=>u=Value.ref a
 | .ty n,u=>u=Value.type n
abbrev aP:List V->List Value->Prop:=Paired aL
theorem aP.length {xs:List V}{us:List Value}(r:aP xs us):xs.length=us.length:=Paired.length r
theorem aP.get:∀{xs:List V}{us:List Value}{i:Nat}{x:V},aP xs us->xs[i]? =some x->∃u,us[i]? =some u/\aL x u
 | _,_,_,_,.nil,e=>by simp at e
 | _,_,0,_,.cons r _,e=>by simp at e;subst e;exact ⟨_,rfl,r⟩
 | _,_,i+1,x,.cons _ t,e=>by obtain ⟨u,h1,h2⟩:=aP.get (i:=i) (x:=x) t (by simpa using e);exact ⟨u,by simpa using h1,h2⟩
theorem aP.set {x:V}{u:Value}(r:aL x u):∀{xs:List V}{us:List Value}(i:Nat),aP xs us->aP (xs.set i x) (us.set i u)
 | _,_,_,.nil=>.nil
 | _,_,0,.cons _ t=>.cons r t
 | _,_,i+1,.cons q t=>.cons q (aP.set r i t)
theorem aP.append:∀{xs ys:List V}{us ws:List Value},aP xs us->aP ys ws->aP (xs++ys) (us++ws)
 | _,_,_,_,.nil,s=>s
 | _,_,_,_,.cons r t,s=>.cons r (aP.append t s)
theorem aP.take:∀{xs:List V}{us:List Value}(n:Nat),aP xs us->aP (xs.take n) (us.take n)
 | _,_,0,_=>.nil
 | _,_,_+1,.nil=>.nil
 | _,_,n+1,.cons r t=>.cons r (aP.take n t)
theorem aP.drop:∀{xs:List V}{us:List Value}(n:Nat),aP xs us->aP (xs.drop n) (us.drop n)
 | _,_,0,r=>r
 | _,_,_+1,.nil=>.nil
 | _,_,n+1,.cons _ t=>aP.drop n t
def jU:Option V->Option Value->Prop
 | some v,some u=>aL v u
 | none,none=>True
 | _,_=>False
def KV {κ:Type}:List (κ×V)->List (κ×Value)->Prop:=Paired λ (p:κ×V) (q:κ×Value)=>p.1=q.1/\aL p.2 q.2
def kV:Key->V
 | .inl i=>.int i
 | .inr x=>.str x
inductive HO where
 | lst (xs:List V)
 | tup (xs:List V)
 | dK (kvs:List (Key×V)) | dT (kvs:List (List Key×V))
 | set (S:Int->Bool) (n:Nat)
 | ins (C dx:Addr) (fs:List (Str×V))
 | own (x:Addr)
 | xd (fs:List (Str×V))
 | met (f x:Addr)
 | rng (lo hi:Int)
 | frz (o:Obj) (u:HO)
 | tbl (ps:Array Value)
 | ext (φ:Heap->Prop)
abbrev Hp:=Addr->Option HO
def upd (H:Hp) (a:Addr) (o:HO):Hp:=λ b=>if b=a then some o else H b
theorem ag {H:Hp}{a:Addr}{o:HO}:upd H a o a=some o:=by unfold upd;rw [if_pos rfl]
theorem aq {H:Hp}{a b:Addr}{o:HO}(h:b≠a):upd H a o b=H b:=by unfold upd;rw [if_neg h]
theorem ar {H:Hp}{a b:Addr}{o:HO}(h:H a=some o) (h':H b=none):a≠b:=by intro e;subst e;rw [h] at h';cases h'
section
variable (P:Program) (w:World)
def bw (H:Hp) (h:Heap) (a:Addr):HO->Prop
 | .lst xs=>xs.length<=sizeLine/\∃(its:List Value) (n:Nat),aP xs its/\h.get? a=some {cls:=.type "list",data:=.seq its.toArray n}
 | .tup xs=>xs.length<=sizeLine/\∃its:List Value,aP xs its/\IsTup h a its.toArray
 | .dK kvs=>kvs.length<=sizeLine/\(a == sysModules)=false/\∃vs,KV kvs vs/\h.DictOf (mixKind P w) a vs
 | .dT kvs=>kvs.length<=sizeLine/\(a == sysModules)=false/\∃xs:List (List Key×Addr×Value),
   Paired (λ (p:List Key×V) (q:List Key×Addr×Value)=>p.1=q.1/\H q.2.1=some (.tup (p.1.map kV))/\aL p.2 q.2.2) kvs xs/\
   ∃o es ep,h.get? a=some o/\o.ExactDict/\o.data=.dict es ep/\es.toList=xs.map (entryOfKey (tupleKind (mixKind P w)))/\(xs.map (·.1)).Nodup
 | .set S n=>h.SetOf (intKind P w) a S n
 | .ins C dx fs=>H dx=some (.own a)/\fs.length<=1000/\dx≠a/\h.get? a=some (QU C dx)/\
   ∃mA,h.Ns1 dx mA/\(∀f,jU (fs.lookup f) (mA f))/\PySem.Within mA (fs.map (·.1))
 | .own _=> ∃o,h.get? a=some o
 | .xd fs=> ∃mA,h.Ns1 a mA/\∀f,jU (fs.lookup f) (mA f)
 | .rng lo hi=> ∃t u v,h.get? a=some {cls:=.type "range",data:=.fields #[.int lo t,.int hi u,.int 1 v]}
 | .frz o u=>h.get? a=some o/\bw H h a u
 | .tbl ps=>h.get? a=some {cls:=.none,data:=.fields ps}
 | .met f x=>h.get? a=some (Q6 (.ref f) (.ref x))
 | .ext φ=>φ h/\(∃o,h.get? a=some o)/\∀h1 h2:Heap,φ h1->(∀o,h1.get? a=some o->h2.get? a=some o)->φ h2
def ju (H:Hp) (h:Heap):Prop:= ∀a o,H a=some o->bw P w H h a o
end
section
variable {P:Program}{w:World}{H H':Hp}{h h':Heap}{a:Addr}{o:HO}
theorem bw.lt (x:bw P w H h a o):a<h.objs.size:=by
 cases o with
 | lst xs=>obtain ⟨_,_,_,_,e⟩:=x;exact Heap.lt_size e
 | tup xs=>obtain ⟨_,_,_,p⟩:=x;exact p.lt
 | dK kvs=>obtain ⟨_,_,_,_,o,_,_,e,_⟩:=x;exact Heap.lt_size e
 | dT kvs=>obtain ⟨_,_,_,_,o,_,_,e,_⟩:=x;exact Heap.lt_size e
 | set S n=>obtain ⟨o,_,_,_,e,_⟩:=x;exact Heap.lt_size e
 | ins C dx fs=>obtain ⟨_,_,_,e,_⟩:=x;exact Heap.lt_size e
 | own y=>obtain ⟨_,e⟩:=x;exact Heap.lt_size e
 | xd fs=>obtain ⟨_,⟨_,_,_,e,_⟩,_⟩:=x;exact Heap.lt_size e
 | rng lo hi=>obtain ⟨_,_,_,e⟩:=x;exact Heap.lt_size e
 | frz ob u=>obtain ⟨e,_⟩:=x;exact Heap.lt_size e
 | tbl ps=>exact Heap.lt_size (show h.get? a=some _ from x)
 | met f y=>exact Heap.lt_size (show h.get? a=some _ from x)
 | ext φ=>obtain ⟨_,⟨_,e⟩,_⟩:=x;exact Heap.lt_size e
theorem Paired.mapP {α β:Type}{F G:α->β->Prop}:∀{l₁:List α}{l₂:List β},Paired F l₁ l₂->(∀a b,F a b->G a b)->Paired G l₁ l₂
 | _,_,.nil,_=>.nil
 | _,_,.cons r t,f=>.cons (f _ _ r) (Paired.mapP t f)
theorem bw.stay (x:bw P w H h a o) (k:∀b u,(b=a\/H b=some (.own a))->h.get? b=some u->h'.get? b=some u)
  (ho:∀b,H b=some (.own a)->H' b=some (.own a)) (ht:∀b xs,H b=some (.tup xs)->H' b=some (.tup xs)):bw P w H' h' a o:=by
 induction o with
 | lst xs=>obtain ⟨z,its,n,r,e⟩:=x;exact ⟨z,its,n,r,k _ _ (.inl rfl) e⟩
 | tup xs=>obtain ⟨z,its,r,ob,e,c⟩:=x;exact ⟨z,its,r,ob,k _ _ (.inl rfl) e,c⟩
 | dK kvs=>obtain ⟨z,y,vs,r,ob,es,ep,e,c⟩:=x;exact ⟨z,y,vs,r,ob,es,ep,k _ _ (.inl rfl) e,c⟩
 | dT kvs=>
   obtain ⟨z,y,xs,r,ob,es,ep,e,c⟩:=x;exact ⟨z,y,xs,Paired.mapP r λ p q z=>⟨z.1,ht _ _ z.2.1,z.2.2⟩,ob,es,ep,k _ _ (.inl rfl) e,c⟩
 | set S n=>obtain ⟨ob,es,ep,t,e,c⟩:=x;exact ⟨ob,es,ep,t,k _ _ (.inl rfl) e,c⟩
 | ins C dx fs=>
   obtain ⟨d,z,ne,e,mA,⟨od,es,ep,e2,c⟩,r⟩:=x;exact ⟨ho _ d,z,ne,k _ _ (.inl rfl) e,mA,⟨od,es,ep,k _ _ (.inr d) e2,c⟩,r⟩
 | own y=>obtain ⟨ob,e⟩:=x;exact ⟨ob,k _ _ (.inl rfl) e⟩
 | xd fs=>obtain ⟨mA,⟨od,es,ep,e,c⟩,r⟩:=x;exact ⟨mA,⟨od,es,ep,k _ _ (.inl rfl) e,c⟩,r⟩
 | rng lo hi=>obtain ⟨t,u,v,e⟩:=x;exact ⟨t,u,v,k _ _ (.inl rfl) e⟩
 | frz ob u ih=>obtain ⟨e,q⟩:=x;exact ⟨k _ _ (.inl rfl) e,ih q⟩
 | tbl ps=>
   have e:h.get? a=some {cls:=.none,data:=.fields ps}:=x;show h'.get? a=some {cls:=.none,data:=.fields ps};exact k a _ (.inl rfl) e
 | met f y=>
   have e:h.get? a=some (Q6 (.ref f) (.ref y)):=x;show h'.get? a=some (Q6 (.ref f) (.ref y));exact k a _ (.inl rfl) e
 | ext φ=>obtain ⟨p,⟨o,e⟩,st⟩:=x;exact ⟨st _ _ p λ o q=>k _ _ (.inl rfl) q,⟨o,k _ _ (.inl rfl) e⟩,st⟩
theorem ju.lt (x:ju P w H h) (e:H a=some o):a<h.objs.size:=(x a o e).lt
theorem ju.fresh (x:ju P w H h) (e:h.objs.size<=a):H a=none:=by
 cases q:H a with
 | none=>rfl
 | some u=>exact absurd (PL (x.lt q) e) (PP _)
theorem ju.kept (x:ju P w H h) (k:∀b u,h.get? b=some u->h'.get? b=some u):ju P w H h':=λ a o e=>
 (x a o e).stay (λ b u _ q=>k b u q) (λ _ q=>q) λ _ _ q=>q
theorem ju.laid (x:ju P w H h) (k:∀b u,h.get? b=some u->h'.get? b=some u) (hp:h.objs.size<=a) (new:bw P w (upd H a o) h' a o):ju P w (upd H a o) h':=λ b u e=>by
 have hn:=x.fresh hp
 by_cases hb:b=a
 ·subst hb;rw [ag] at e;cases e;exact new
 ·rw [aq hb] at e;exact (x b u e).stay (λ c v _ q=>k c v q) (λ c q=>by rw [aq (ar q hn)];exact q) λ c xs q=>by rw [aq (ar q hn)];exact q
end
def Rd (H:Hp) (a:Addr) (u:HO):Prop:=H a=some u\/∃o,H a=some (.frz o u)
theorem Rd.ok {P:Program}{w:World}{H:Hp}{h:Heap}{a:Addr}{u:HO}(r:Rd H a u) (x:ju P w H h):bw P w H h a u:=by
 rcases r with r | ⟨o,r⟩
 ·exact x a u r
 ·obtain ⟨_,q⟩:=x a _ r;exact q
def Nt:Option HO->Prop
 | some (.lst _)=>True
 | some (.dK _)=>True
 | some (.dT _)=>True
 | some (.set _ _)=>True
 | some (.ins _ _ _)=>True
 | some (.ext _)=>True
 | _=>False
section
variable {P:Program}{w:World}{H:Hp}{h h':Heap}{x e:Addr}{o':HO}
theorem ju.write (ok:ju P w H h) (mu:Nt (H x)) (he:e=x\/H e=some (.own x)) (k:∀b u,b≠e->h.get? b=some u->h'.get? b=some u) (heo:∃u,h'.get? e=some u)
  (new:bw P w (upd H x o') h' x o'):ju P w (upd H x o') h':=λ b u q=>by
 have nown:∀c y,H c=some (.own y)->c≠x:=λ c y r z=>by subst z;rw [r] at mu;exact mu
 have ntup:∀c xs,H c=some (.tup xs)->c≠x:=λ c xs r z=>by subst z;rw [r] at mu;exact mu
 by_cases hb:b=x
 ·subst hb;rw [ag] at q;cases q;exact new
 ·rw [aq hb] at q
  by_cases hbe:b=e
  ·have q':H b=some (.own x):=by
    rcases he with z | z
    ·exact absurd (hbe.trans z) hb
    ·rw [hbe];exact z
   rw [q] at q';cases q';obtain ⟨v,hv⟩:=heo;exact ⟨v,by rw [hbe];exact hv⟩
  ·refine (ok b u q).stay (λ c v hc r=>k c v ?_ r) (λ c r=>by rw [aq (nown c b r)];exact r) λ c xs r=>by rw [aq (ntup c xs r)];exact r
   rcases hc with rfl | hc
   ·exact hbe
   ·rintro rfl
    rcases he with z | z
    ·exact nown c b hc z
    ·rw [hc] at z;cases z;exact hb rfl
end
structure Un (fs ex:List Addr) (H H':Hp) (h h':Heap):Prop where
 keep:∀b o,h.get? b=some o->H b=none->b∉fs->b∉ex->h'.get? b=some o
 slot:∀b o,h.get? b=some o->H b=none->b∈fs->b∉ex->∃sl,h'.get? b=some {o with slots:=sl}
 free:∀b o,h.get? b=some o->H b=none->b∉ex->H' b=none
 there:∀b o,h.get? b=some o->b∉ex->∃o',h'.get? b=some o'
 tups:∀b xs,H b=some (.tup xs)->H' b=some (.tup xs)
 frzs:∀b o u,H b=some (.frz o u)->H' b=some (.frz o u)
 tbls:∀b ps,H b=some (.tbl ps)->∃more,H' b=some (.tbl (ps++more))
section
variable {fs fs' ex ex':List Addr}{H H1 H2:Hp}{h h1 h2 h':Heap}{a x e:Addr}{o:HO}
theorem Un.any (u:Un fs ex H H1 h h1) {b:Addr}{ob:Obj}(q:h.get? b=some ob) (n:H b=none) (hx:b∉ex):∃sl,h1.get? b=some {ob with slots:=sl}:=by
 by_cases hb:b∈fs
 ·exact u.slot b ob q n hb hx
 ·exact ⟨ob.slots,u.keep b ob q n hb hx⟩
theorem Un.kept (k:∀b u,h.get? b=some u->h'.get? b=some u):Un fs ex H H h h':=
 ⟨λ b ob q _ _ _=>k b ob q,λ b ob q _ _ _=>⟨ob.slots,k b ob q⟩,λ _ _ _ n _=>n,λ b ob q _=>⟨ob,k b ob q⟩,λ _ _ q=>q,λ _ _ _ q=>q,λ _ ps q=>⟨#[],by rw [q];simp⟩⟩
theorem Un.refl:Un fs ex H H h h:=Un.kept λ _ _ q=>q
theorem Un.laid (k:∀b u,h.get? b=some u->h'.get? b=some u) (hp:h.objs.size<=a) (hn:H a=none):Un fs ex H (upd H a o) h h' where
 keep:=λ b u q _ _ _=>k b u q
 slot:=λ b u q _ _ _=>⟨u.slots,k b u q⟩
 free:=λ b u q n _=>by rw [aq (PH (PL (Heap.lt_size q) hp))];exact n
 there:=λ b u q _=>⟨u,k b u q⟩
 tups:=λ b xs q=>by rw [aq (ar q hn)];exact q
 frzs:=λ b u xs q=>by rw [aq (ar q hn)];exact q
 tbls:=λ b ps q=>⟨#[],by rw [aq (ar q hn),q];simp⟩
theorem Un.write (mu:Nt (H x)) (he:e=x\/H e=some (.own x)) (k:∀b u,b≠e->h.get? b=some u->h'.get? b=some u) (heo:∃u,h'.get? e=some u):Un fs ex H (upd H x o) h h':=by
 have hx:∀b,H b=none->b≠x:=λ b n z=>by subst z;rw [n] at mu;exact mu
 have hb:∀b,H b=none->b≠e:=λ b n z=>by
  subst z
  rcases he with r | r
  ·exact hx b n r
  ·rw [n] at r;cases r
 have hm:∀b u,H b=some u->¬Nt (some u)->b≠x:=λ b u q nm z=>by subst z;rw [q] at mu;exact nm mu
 refine ⟨λ b u q n _ _=>k b u (hb b n) q,λ b u q n _ _=>⟨u.slots,k b u (hb b n) q⟩,λ b u q n _=>by rw [aq (hx b n)];exact n,λ b u q _=>?_,
  λ b xs q=>by rw [aq (hm b _ q λ z=>z)];exact q,λ b u xs q=>by rw [aq (hm b _ q λ z=>z)];exact q,λ b ps q=>⟨#[],by rw [aq (hm b _ q λ z=>z),q];simp⟩⟩
 by_cases hbe:b=e
 ·subst hbe;exact heo
 ·exact ⟨u,k b u hbe q⟩
end
def Nj (h:Heap) (H:Hp):List Addr:=(List.range h.objs.size).filter λ a=>(H a).isSome
def oM (h:Heap) (H:Hp):Heap:=PySem.W.hideAll h (Nj h H)
theorem wA (h:Heap) (H:Hp):(oM h H).objs.size=h.objs.size:=PySem.W.hideAll_size _ _
theorem AJ {h:Heap}{H:Hp}{b:Addr}{o:Obj}(e:h.get? b=some o) (n:H b=none):(oM h H).get? b=some o:=
 PySem.W.hideAll_get _ e λ hm=>by have q:(H b).isSome=true:=(Oq.mp hm).2;rw [n] at q;simp at q
theorem Cd {h:Heap}{H:Hp}{b:Addr}{o:Obj}(e:(oM h H).get? b=some o):h.get? b=some o/\H b=none:=by
 have e':h.get? b=some o:=PySem.W.of_hideAll (Nj h H) e;refine ⟨e',?_⟩;cases q:H b with
 | none=>rfl
 | some x=>
   have hm:b∈Nj h H:=Oq.mpr ⟨Ob.mpr (Heap.lt_size e'),by simp [q]⟩;have z:(oM h H).get? b=none:=PySem.W.hideAll_none (Nj h H) hm;rw [z] at e;cases e
def kK (g h:Heap) (L:Addr):List (Addr×Obj):=(List.range h.objs.size).filterMap λ a=>if a=L\/(g.get? a).isSome=true then none else (h.get? a).map λ o=>(a,o)
theorem qz {g h:Heap}{L a:Addr}{o:Obj}(h1:a≠L) (h2:g.get? a=none) (h3:h.get? a=some o):(a,o)∈kK g h L:=
 OL.mpr ⟨a,Ob.mpr (Heap.lt_size h3),by simp [h1,h2,h3]⟩
theorem lw {g h:Heap}{L:Addr}{p:Addr×Obj}(hp:p∈kK g h L):p.1≠L/\g.get? p.1=none/\h.get? p.1=some p.2:=by
 obtain ⟨b,_,e⟩:=OL.mp hp;split at e
 ·cases e
 ·rename_i hn;cases q:h.get? b with
  | none=>rw [q] at e;simp at e
  | some u=>
    rw [q] at e;simp only [Option.map_some,Option.some.injEq] at e;subst e;refine ⟨λ z=>hn (.inl z),?_,q⟩;show g.get? b=none;cases r:g.get? b with
    | none=>rfl
    | some v=>exact (hn (.inr (by simp [r]))).elim
def rest (g h:Heap) (L d:Addr):List (Addr×Obj):=(kK g h L).filter λ p=>decide (p.1≠d)
theorem rest_ne {g h:Heap}{L d:Addr}:∀p∈rest g h L d,p.1≠d:=λ p hp=>of_decide_eq_true (Oq.mp hp).2
theorem As {g h:Heap}{L d a:Addr}{o:Obj}(h1:a≠L) (h2:g.get? a=none) (h3:h.get? a=some o) (h4:a≠d):(a,o)∈rest g h L d:=
 Oq.mpr ⟨qz h1 h2 h3,decide_eq_true h4⟩
theorem Ao {g h:Heap}{L:Addr}:News g L h (kK g h L):=λ p hp=>let ⟨a,b,c⟩:=lw hp;⟨c,a,b⟩
theorem Cf {g h:Heap}{L d:Addr}{o:Obj}(h1:d≠L) (h2:g.get? d=none) (h3:h.get? d=some o):News g L h ((d,o)::rest g h L d):=λ p hp=>by
 rcases N1.mp hp with rfl | hp
 ·exact ⟨h3,h1,h2⟩
 ·exact Ao p (Oq.mp hp).1
theorem jf {g h h':Heap}{L d:Addr}{m:Str->Option Value}(k:∀b o,g.get? b=some o->h.get? b=some o) (F:Fr g L h' m) (N:News g L h' (rest g h L d)):
  ∀b o,b≠L->b≠d->h.get? b=some o->h'.get? b=some o:=λ b o h1 h2 e=>by
 cases q:g.get? b with
 | some u=>
   have:=k b u q;rw [e] at this;cases this;exact F.keep b _ q
 | none=>exact (N (b,o) (As h1 q e h2)).1
end L2
namespace L2
open PySem PySem.Spec PyProof.Rows
structure Mod (K:Frag) (mg:Str->Option Value) (base:Heap):Prop where
 kin:K.In base
 glob:base.Ns mainGlobals mg
 blt:∃mb,base.Ns builtinsNs mb/\∀x:Str,x≠"__name__"->mb x=bootBuiltins x
 nolimit:base.NoLimit
structure Cx where
 prog:Program
 w:World
 K:Frag
 mg:Str->Option Value
 base:Heap
 A:Around
 N:List Str
 s₀:Shared
 H₀:Hp
 env:Env
 outer:List Env
 stack:List Env
 ex:List Addr
 fn:Str->Bool
 calm:Bool
 pn:List (Addr×Obj)
 xe:Value->Shared->Prop
def vb (l:List Env):List Addr:=l.filterMap (·.frame)
abbrev Cx.fs (X:Cx):List Addr:=vb X.outer
def Nr (sc:Scope) (x:Str):Prop:=sc.names.lookup x=some .local\/sc.names.lookup x=some .cell\/sc.names.lookup x=some .free
def JZ (sc:Scope) (x:Str):Prop:=sc.names.lookup x=some .local\/sc.names.lookup x=some .cell
def NX (env:Env) (h:Heap) (m:Str->Option Value) (x:Str) (u:Value):Prop:=
 (env.kindOf x=some .local/\m x=some u)\/((env.kindOf x=some .cell\/env.kindOf x=some .free)/\∃c,env.cells.lookup x=some c/\h.IsCell c (some u))
structure Cx.Ok (X:Cx):Prop where
 mod:Mod X.K X.mg X.base
 kind:X.env.scope.kind=.function
 glob:X.env.globals=mainGlobals
 blt:X.env.builtins=builtinsNs
 above:X.s₀.heap.objs.size<=X.env.locals
 inj:∀x y c,X.env.cells.lookup x=some c->X.env.cells.lookup y=some c->x=y
 has:∀x,(X.env.kindOf x=some .cell\/X.env.kindOf x=some .free)->∃c,X.env.cells.lookup x=some c
 cab:∀x c,X.fn x=true->X.env.cells.lookup x=some c->X.s₀.heap.objs.size<=c
 hd:X.calm=true->X.A.handled=none
 frames:X.A.frames=some X.stack
 stk:X.stack=X.outer\/(X.stack=X.env::X.outer/\X.env.frame=some X.env.locals)
 exf:∀b∈X.ex,b≠X.env.locals/\∀x c,X.env.cells.lookup x=some c->c≠b
 bs:∀b o,X.base.get? b=some o->X.s₀.heap.get? b=some o/\X.H₀ b=none
 bsz:X.base.objs.size<=X.s₀.heap.objs.size
 noex:∀b o,X.base.get? b=some o->b∉X.ex
 exfs:∀b∈X.ex,b∉X.fs
 funs:X.s₀.heap.FunFrames X.base X.outer
 frf:∀b∈X.fs,X.H₀ b=none
structure aH (X:Cx) (pins:List (Addr×Obj)) (σ:List (Option V)) (H:Hp) (s:Shared):Prop where
 ok:X.Ok
 os:s.os=X.s₀.os
 bare:AllBare s.gens
 base:Un X.fs X.ex X.H₀ H X.s₀.heap s.heap
 loc:∃m,s.heap.Ns X.env.locals m/\∀(i:Nat) (x:Str) (v:V),X.N[i]? =some x->σ[i]? =some (some v)->Nr X.env.scope x->∃u,aL v u/\NX X.env s.heap m x u
 cell:∀x c,X.env.cells.lookup x=some c->∃v,s.heap.IsCell c v
 free:H X.env.locals=none
 freeC:∀x c,X.env.cells.lookup x=some c->H c=none
 pin:∀p∈X.pn++pins,s.heap.get? p.1=some p.2/\H p.1=none/\p.1≠X.env.locals/\p.1∉X.fs/\∀v,p.2.data≠.cell v
 hok:ju X.prog X.w H s.heap
 len:σ.length=X.N.length
section
variable {X:Cx}{pins:List (Addr×Obj)}{σ:List (Option V)}{H H':Hp}{s:Shared}{h':Heap}
theorem Cx.Ok.nofr (ok:X.Ok) {b:Addr}{o:Obj}(e:X.base.get? b=some o):b∉X.fs:=λ hb=>by have:=(ok.funs.mem hb).1;rw [e] at this;cases this
theorem aH.bs (I:aH X pins σ H s):∀b o,X.base.get? b=some o->s.heap.get? b=some o/\H b=none:=λ b o e=>
 ⟨I.base.keep b o (I.ok.bs b o e).1 (I.ok.bs b o e).2 (I.ok.nofr e) (I.ok.noex b o e),I.base.free b o (I.ok.bs b o e).1 (I.ok.bs b o e).2 (I.ok.noex b o e)⟩
theorem aH.bk (I:aH X pins σ H s):∀b o,X.base.get? b=some o->s.heap.get? b=some o:=λ b o e=>(I.bs b o e).1
theorem aH.mod (I:aH X pins σ H s):Mod X.K X.mg X.base:=I.ok.mod
theorem aH.kIn (I:aH X pins σ H s):X.K.In s.heap:=I.ok.mod.kin.keeps I.bk
theorem aH.fr (I:aH X pins σ H s):∃m,Fr X.base X.env.locals s.heap m:=
 let ⟨m,hn,_⟩:=I.loc
 ⟨m,hn,I.bk,PK I.ok.bsz I.ok.above⟩
theorem aH.lt (I:aH X pins σ H s):X.env.locals<s.heap.objs.size:=let ⟨_,hn,_⟩:=I.loc;hn.lt
theorem aH.sz (I:aH X pins σ H s):X.s₀.heap.objs.size<=s.heap.objs.size:=PK I.ok.above (PZ I.lt)
theorem aH.nofs (I:aH X pins σ H s) {a:Addr}(h:s.heap.objs.size<=a):a∉X.fs:=λ hb=>by obtain ⟨_,o,ho,_⟩:=I.ok.funs.mem hb;exact absurd (PL (Heap.lt_size ho) (PK I.sz h)) (PP _)
theorem aH.cne (I:aH X pins σ H s):∀x c,X.env.cells.lookup x=some c->c≠X.env.locals:=λ x c e z=>by obtain ⟨v,o,ho,hd⟩:=I.cell x c e;obtain ⟨m,⟨o',es,ep,ho',hd',_⟩,_⟩:=I.loc;rw [z,ho'] at ho;cases ho;rw [hd'] at hd;cases hd
theorem aH.funs (I:aH X pins σ H s):s.heap.FunFrames X.base X.outer:=by
 have all:∀(l:List Env),(∀b∈vb l,b∈X.fs)->X.s₀.heap.FunFrames X.base l->s.heap.FunFrames X.base l:=by
  intro l
  induction l with
  | nil=>intro _ _;trivial
  | cons env r ih=>
    intro hs hl;obtain ⟨hk,⟨L,o,hf,hn,ho,hd⟩,hr⟩:=hl;have hL:L∈X.fs:=hs L (by unfold vb;rw [OG,hf];exact N9);obtain ⟨sl,e⟩:=I.base.slot L o ho (I.ok.frf L hL) hL λ z=>I.ok.exfs L z hL;exact ⟨hk,⟨L,_,hf,hn,e,hd⟩,ih (λ b hb=>hs b (by unfold vb;rw [OG,hf];exact N6 _ hb)) hr⟩
 exact all X.outer (λ _ hb=>hb) I.ok.funs
theorem aH.stack (I:aH X pins σ H s):s.heap.FunFrames X.base X.stack:=by
 rcases I.ok.stk with e | ⟨e,hf⟩
 ·rw [e];exact I.funs
 ·rw [e];obtain ⟨m,hn,_⟩:=I.loc;refine .cons (by rw [I.ok.kind];decide) hf hn ?_ I.funs;exact Heap.get?_none_of_le (PK I.ok.bsz I.ok.above)
theorem aH.stkSub (I:aH X pins σ H s):∀b∈vb X.stack,b∈X.env.locals::X.fs:=λ b hb=>by
 rcases I.ok.stk with e | ⟨e,hf⟩
 ·rw [e] at hb;exact N6 _ hb
 ·rw [e] at hb;unfold vb at hb;rw [OG,hf] at hb;exact hb
theorem aH.stkFree (I:aH X pins σ H s):∀b∈vb X.stack,H b=none:=λ b hb=>by
 rcases N1.mp (I.stkSub b hb) with e | hb
 ·rw [e];exact I.free
 ·obtain ⟨_,o,ho,_⟩:=I.ok.funs.mem hb;exact I.base.free b o ho (I.ok.frf b hb) λ z=>I.ok.exfs b z hb
theorem aH.step {g':Array GenState}{t':Nat}{d':Drawn}{ch:List Addr}(I:aH X pins σ H s)
  (hch:∀b∈ch,(b∈X.ex\/X.s₀.heap.objs.size<=b)/\b≠X.env.locals/\(∀x c,X.env.cells.lookup x=some c->c≠b)/\∀p∈X.pn++pins,p.1≠b)
  (keep:∀b o,b≠X.env.locals->b∉X.fs->b∉ch->s.heap.get? b=some o->H b=none->h'.get? b=some o)
  (slot:∀b o,b≠X.env.locals->b∈X.fs->b∉ch->s.heap.get? b=some o->H b=none->∃sl,h'.get? b=some {o with slots:=sl}) (free:∀b o,b∉ch->s.heap.get? b=some o->H b=none->H' b=none)
  (there:∀b o,b∉ch->s.heap.get? b=some o->∃o',h'.get? b=some o')
  (tups:∀b xs,H b=some (.tup xs)->H' b=some (.tup xs)) (frzs:∀b o u,H b=some (.frz o u)->H' b=some (.frz o u)) (tbls:∀b ps,H b=some (.tbl ps)->∃more,H' b=some (.tbl (ps++more)))
  (ns:∀m,s.heap.Ns X.env.locals m->h'.Ns X.env.locals m) (hok:ju X.prog X.w H' h') (hg:AllBare g'):
  aH X pins σ H' {s with heap:=h',gens:=g',drawn:=d',toks:=t'}:=by
 have neL:∀b o,X.s₀.heap.get? b=some o->b≠X.env.locals:=λ b o e=>PH (PL (Heap.lt_size e) I.ok.above);have neC:∀b o,X.s₀.heap.get? b=some o->b∉X.ex->b∉ch:=λ b o e hx hb=>by
  rcases (hch b hb).1 with z | z
  ·exact hx z
  ·exact absurd (PL (Heap.lt_size e) z) (PP _)
 have cellK:∀x c,X.env.cells.lookup x=some c->∀v,s.heap.IsCell c v->h'.IsCell c v:=λ x c e v ⟨o,ho,hd⟩=>by
  have nch:c∉ch:=λ z=>(hch c z).2.2.1 x c e rfl
  by_cases hc:c∈X.fs
  ·obtain ⟨sl,q⟩:=slot c o (I.cne x c e) hc nch ho (I.freeC x c e);exact ⟨_,q,hd⟩
  ·exact ⟨o,keep c o (I.cne x c e) hc nch ho (I.freeC x c e),hd⟩
 refine ⟨I.ok,I.os,hg,⟨λ b o e n hb hx=>?_,λ b o e n hb hx=>?_,λ b o e n hx=>?_,λ b o e hx=>?_,λ b xs e=>tups b xs (I.base.tups b xs e),λ b o xs e=>frzs b o xs (I.base.frzs b o xs e),λ b ps e=>?_⟩,?_,λ x c e=>?_,?_,λ x c e=>?_,λ p hp=>?_,hok,I.len⟩
 ·exact keep b o (neL b o e) hb (neC b o e hx) (I.base.keep b o e n hb hx) (I.base.free b o e n hx)
 ·obtain ⟨sl,e1⟩:=I.base.slot b o e n hb hx;obtain ⟨sl',e2⟩:=slot b _ (neL b o e) hb (neC b o e hx) e1 (I.base.free b o e n hx);exact ⟨sl',e2⟩
 ·obtain ⟨o',e1⟩:=I.base.there b o e hx;exact free b o' (neC b o e hx) e1 (I.base.free b o e n hx)
 ·obtain ⟨o',e1⟩:=I.base.there b o e hx;exact there b o' (neC b o e hx) e1
 ·obtain ⟨m1,e1⟩:=I.base.tbls b ps e;obtain ⟨m2,e2⟩:=tbls b _ e1;exact ⟨m1++m2,by rw [e2,Array.append_assoc]⟩
 ·obtain ⟨m,hn,hl⟩:=I.loc;refine ⟨m,ns m hn,λ i x v e1 e2 e3=>?_⟩;obtain ⟨u,r,l⟩:=hl i x v e1 e2 e3;refine ⟨u,r,?_⟩
  rcases l with l | ⟨k,c,e,z⟩
  ·exact .inl l
  ·exact .inr ⟨k,c,e,cellK x c e _ z⟩
 ·obtain ⟨v,z⟩:=I.cell x c e;exact ⟨v,cellK x c e v z⟩
 ·obtain ⟨m,⟨o,_,_,ho,_⟩,_⟩:=I.loc;exact free _ o (λ z=>(hch _ z).2.1 rfl) ho I.free
 ·obtain ⟨v,o,ho,hd⟩:=I.cell x c e;exact free c o (λ z=>(hch c z).2.2.1 x c e rfl) ho (I.freeC x c e)
 ·obtain ⟨e,n,ne,nf,d⟩:=I.pin p hp;have nch:p.1∉ch:=λ z=>(hch p.1 z).2.2.2 p hp rfl;exact ⟨keep p.1 p.2 ne nf nch e n,free p.1 p.2 nch e n,ne,nf,d⟩
theorem aH.un {t':Nat}(I:aH X pins σ H s) (u:Un X.fs [] H H' s.heap h') (hok:ju X.prog X.w H' h'):aH X pins σ H' {s with heap:=h',toks:=t'}:=by
 obtain ⟨m,⟨o,es,ep,ho,r⟩,_⟩:=id I.loc;obtain ⟨sl,hL⟩:=u.any ho I.free (by simp);exact I.step (g':=s.gens) (d':=s.drawn) (ch:=[]) (λ _ z=>nomatch z) (λ b o _ hb _ e n=>u.keep b o e n hb (by simp)) (λ b o _ hb _ e n=>u.slot b o e n hb (by simp)) (λ b o _ e n=>u.free b o e n (by simp)) (λ b o _ e=>u.there b o e (by simp)) u.tups u.frzs u.tbls (λ m' hm=>by
  obtain ⟨o',es',ep',ho',r'⟩:=hm;rw [ho] at ho';cases ho';exact ⟨_,es',ep',hL,r'⟩) hok I.bare
theorem aH.call {g':Array GenState}{t':Nat}{d':Drawn}{ch:List Addr}(I:aH X pins σ H s) (u:Un (vb X.stack) ch H H' s.heap h') (hok:ju X.prog X.w H' h') (hg:AllBare g')
  (hch:∀b∈ch,(b∈X.ex\/X.s₀.heap.objs.size<=b)/\b≠X.env.locals/\(∀x c,X.env.cells.lookup x=some c->c≠b)/\∀p∈X.pn++pins,p.1≠b):
  aH X pins σ H' {s with heap:=h',gens:=g',drawn:=d',toks:=t'}:=by
 obtain ⟨m,⟨o,es,ep,ho,r⟩,_⟩:=id I.loc;obtain ⟨sl,hL⟩:=u.any ho I.free λ z=>(hch _ z).2.1 rfl;exact I.step (ch:=ch) hch (λ b o hL hb hc e n=>u.keep b o e n (λ z=>(N1.mp (I.stkSub b z)).elim hL hb) hc) (λ b o _ _ hc e n=>u.any e n hc) (λ b o hc e n=>u.free b o e n hc) (λ b o hc e=>u.there b o e hc) u.tups u.frzs u.tbls (λ m' hm=>by
  obtain ⟨o',es',ep',ho',r'⟩:=hm;rw [ho] at ho';cases ho';exact ⟨_,es',ep',hL,r'⟩) hok hg
theorem aH.turned {t':Nat}{it:Addr}(I:aH X pins σ H s) (k:∀b o,b≠it->s.heap.get? b=some o->h'.get? b=some o) (hn:H it=none) (hL:it≠X.env.locals)
  (h1:it∈X.ex\/X.s₀.heap.objs.size<=it) (h2:∀x c,X.env.cells.lookup x=some c->c≠it) (h3:∀p∈X.pn++pins,p.1≠it):aH X pins σ H {s with heap:=h',toks:=t'}:=by
 have nit:∀b u,H b=some u->b≠it:=λ b u e z=>by rw [z,hn] at e;cases e
 refine I.step (g':=s.gens) (d':=s.drawn) (ch:=[it]) (λ b hb=>?_) (λ b o _ _ hc e _=>k b o (λ z=>hc (by simp [z])) e) (λ b o _ _ hc e _=>⟨o.slots,k b o (λ z=>hc (by simp [z])) e⟩) (λ _ _ _ _ n=>n)
  (λ b o hc e=>⟨o,k b o (λ z=>hc (by simp [z])) e⟩) (λ _ _ e=>e) (λ _ _ _ e=>e) (λ b ps e=>⟨#[],by rw [e];simp⟩) (λ m hm=>?_) (λ b u e=>?_) I.bare
 ·have e:b=it:=by simpa using hb
  subst e;exact ⟨h1,hL,h2,h3⟩
 ·obtain ⟨o,es,ep,ho,r⟩:=hm;exact ⟨o,es,ep,k _ o (Ne.symm hL) ho,r⟩
 ·refine (I.hok b u e).stay (λ c v hc q=>k c v ?_ q) (λ _ q=>q) λ _ _ q=>q
  rcases hc with z | z
  ·rw [z];exact nit b u e
  ·exact nit c _ z
theorem aH.tok (I:aH X pins σ H s) (t:Nat):aH X pins σ H {s with toks:=t}:=I.un (h':=s.heap) (t':=t) Un.refl I.hok
theorem aH.kept {t':Nat}(I:aH X pins σ H s) (k:∀b u,s.heap.get? b=some u->h'.get? b=some u):aH X pins σ H {s with heap:=h',toks:=t'}:=I.un (Un.kept k) (I.hok.kept k)
theorem aH.laid {a:Addr}{o:HO}{t':Nat}(I:aH X pins σ H s) (k:∀b u,s.heap.get? b=some u->h'.get? b=some u) (hp:s.heap.objs.size<=a) (new:bw X.prog X.w (upd H a o) h' a o):
  aH X pins σ (upd H a o) {s with heap:=h',toks:=t'}:=I.un (Un.laid k hp (I.hok.fresh hp)) (I.hok.laid k hp new)
theorem aH.write {x e:Addr}{o:HO}{t':Nat}(I:aH X pins σ H s) (mu:Nt (H x)) (he:e=x\/H e=some (.own x)) (k:∀b u,b≠e->s.heap.get? b=some u->h'.get? b=some u) (heo:∃u,h'.get? e=some u)
  (new:bw X.prog X.w (upd H x o) h' x o):aH X pins σ (upd H x o) {s with heap:=h',toks:=t'}:=I.un (Un.write mu he k heo) (I.hok.write mu he k heo new)
theorem aH.pins_of {pins':List (Addr×Obj)}(I:aH X pins σ H s) (h:∀p∈pins',s.heap.get? p.1=some p.2/\H p.1=none/\p.1≠X.env.locals/\p.1∉X.fs/\∀v,p.2.data≠.cell v):aH X pins' σ H s:=
 ⟨I.ok,I.os,I.bare,I.base,I.loc,I.cell,I.free,I.freeC,λ p hp=>(Oc.mp hp).elim (λ z=>I.pin p (Ox _ z)) (h p),I.hok,I.len⟩
theorem qw {N:List Str}(hN:N.Nodup) {i j:Nat}{x:Str}(a:N[i]? =some x) (b:N[j]? =some x):i=j:=by obtain ⟨h1,e1⟩:=Oe.mp a;obtain ⟨h2,e2⟩:=Oe.mp b;exact (O4 hN).mp (e1.trans e2.symm)
theorem mw {M:Model}{A:Around}{E:Value->Shared->Prop}{i:Nat}{x:Str}{v:V}{u:Value}{Q:Unit->Shared->Prop}(I:aH X pins σ H s) (hN:X.N.Nodup) (hi:X.N[i]? =some x) (hx:JZ X.env.scope x) (r:aL v u)
  (h:∀s',aH X pins (σ.set i (some v)) H s'->(∃a,Heap.SameBut a s.heap s'.heap/\(a=X.env.locals\/X.env.cells.lookup x=some a))->Q () s') (hf:X.fn x=true\/X.env.scope.names.lookup x=some .local:=by first | exact .inl rfl | exact .inr rfl | assumption):wpAny M A (storeName X.env x u) Q E s:=by
 obtain ⟨m,hn,hl⟩:=id I.loc;have hcls:(X.env.scope.kind == .class||(X.env.scope.kind == .module&&X.env.locals != X.env.globals))=false:=by rw [I.ok.kind];rfl
 have hiσ:i<σ.length:=by rw [I.len];exact (Oe.mp hi).1
 have cne:=I.cne;have tracked:∀{a:Addr} {h':Heap},(∃o,s.heap.get? a=some o/\H a=none)->Heap.SameBut a s.heap h'->ju X.prog X.w H h':=λ {a h'} ha hs b ob e=>by
  obtain ⟨_,_,hfree⟩:=ha;refine (I.hok b ob e).stay (λ c w' hc q=>(hs.2 c ?_).trans q) (λ _ q=>q) λ _ _ q=>q;rintro rfl
  rcases hc with rfl | hc
  ·rw [hfree] at e;cases e
  ·rw [hfree] at hc;cases hc
 rcases hx with hk | hk
 ·refine wpAny_storeName_local hk hn (λ h' hn' hs=>?_) hcls;obtain ⟨oL,_,_,hoL,_⟩:=id hn;refine h _ ⟨I.ok,I.os,I.bare,⟨λ b o e n hb hx=>?_,λ b o e n hb hx=>?_,I.base.free,λ b o e hx=>?_,I.base.tups,I.base.frzs,I.base.tbls⟩,⟨_,hn',λ j y v' e1 e2 e3=>?_⟩,λ y c e=>?_,I.free,I.freeC,λ p hp=>?_,tracked ⟨oL,hoL,I.free⟩ hs,by simpa using I.len⟩ ⟨_,hs,.inl rfl⟩
  ·exact (hs.2 b (PH (PL (Heap.lt_size e) I.ok.above))).trans (I.base.keep b o e n hb hx)
  ·obtain ⟨sl,e1⟩:=I.base.slot b o e n hb hx;exact ⟨sl,(hs.2 b (PH (PL (Heap.lt_size e) I.ok.above))).trans e1⟩
  ·obtain ⟨o',e1⟩:=I.base.there b o e hx;exact ⟨o',(hs.2 b (PH (PL (Heap.lt_size e) I.ok.above))).trans e1⟩
  ·by_cases hj:j=i
   ·subst hj;rw [hi] at e1;cases e1;rw [O5 hiσ] at e2;cases e2;exact ⟨u,r,.inl ⟨hk,by simp⟩⟩
   ·rw [O6 (Ne.symm hj)] at e2;obtain ⟨u',r',q⟩:=hl j y v' e1 e2 e3;refine ⟨u',r',?_⟩
    rcases q with ⟨k,e⟩ | ⟨k,c,e,z⟩
    ·refine .inl ⟨k,?_⟩;have:y≠x:=λ e=>hj (qw hN e1 (e▸hi));simp [this,e]
    ·exact .inr ⟨k,c,e,z.sameBut hs (cne y c e)⟩
  ·obtain ⟨w',z⟩:=I.cell y c e;exact ⟨w',z.sameBut hs (cne y c e)⟩
  ·obtain ⟨e,n,ne,nf,d⟩:=I.pin p hp;exact ⟨(hs.2 p.1 ne).trans e,n,ne,nf,d⟩
 ·have hfn:X.fn x=true:=by
   rcases hf with z | z
   ·exact z
   ·rw [z] at hk;cases hk
  obtain ⟨c,hc⟩:=I.ok.has x (.inl hk);obtain ⟨w',z⟩:=I.cell x c hc;refine wpAny_storeName_cell I.ok.kind hk hc z (λ h' hc' hs=>?_);obtain ⟨oc,hoc,hocd⟩:=id z;refine h {s with heap:=h'} ⟨I.ok,I.os,I.bare,⟨λ b o e n hb hx=>?_,λ b o e n hb hx=>?_,I.base.free,λ b o e hx=>?_,I.base.tups,I.base.frzs,I.base.tbls⟩,⟨m,hn.sameBut hs (Ne.symm (cne x c hc)),λ j y v' e1 e2 e3=>?_⟩,λ y c' e=>?_,I.free,I.freeC,λ p hp=>?_,tracked ⟨oc,hoc,I.freeC x c hc⟩ hs,by simpa using I.len⟩ ⟨c,hs,.inr hc⟩
  ·exact (hs.2 b (PH (PL (Heap.lt_size e) (I.ok.cab x c hfn hc)))).trans (I.base.keep b o e n hb hx)
  ·obtain ⟨sl,e1⟩:=I.base.slot b o e n hb hx;exact ⟨sl,(hs.2 b (PH (PL (Heap.lt_size e) (I.ok.cab x c hfn hc)))).trans e1⟩
  ·obtain ⟨o',e1⟩:=I.base.there b o e hx;exact ⟨o',(hs.2 b (PH (PL (Heap.lt_size e) (I.ok.cab x c hfn hc)))).trans e1⟩
  ·by_cases hj:j=i
   ·subst hj;rw [hi] at e1;cases e1;rw [O5 hiσ] at e2;cases e2;exact ⟨u,r,.inr ⟨.inl hk,c,hc,hc'⟩⟩
   ·rw [O6 (Ne.symm hj)] at e2;obtain ⟨u',r',q⟩:=hl j y v' e1 e2 e3;refine ⟨u',r',?_⟩
    rcases q with q | ⟨k,c',e,z'⟩
    ·exact .inl q
    ·refine .inr ⟨k,c',e,z'.sameBut hs ?_⟩;rintro rfl;exact hj (qw hN e1 (I.ok.inj _ _ _ e hc▸hi))
  ·by_cases hcc:c'=c
   ·subst hcc;exact ⟨_,hc'⟩
   ·obtain ⟨w2,z2⟩:=I.cell y c' e;exact ⟨w2,z2.sameBut hs hcc⟩
  ·obtain ⟨e,n,ne,nf,d⟩:=I.pin p hp;refine ⟨(hs.2 p.1 ?_).trans e,n,ne,nf,d⟩;intro q;rw [q,hoc] at e;have q':oc=p.2:=Option.some.inj e;exact d w' (by rw [<-q'];exact hocd)
theorem pH {M:Model}{A:Around}{E:Value->Shared->Prop}{i:Nat}{x:Str}{v:V}{u:Value}{Q:Unit->Shared->Prop}(I:aH X pins σ H s) (hN:X.N.Nodup) (hi:X.N[i]? =some x) (hx:JZ X.env.scope x) (r:aL v u)
  (h:∀s',aH X pins (σ.set i (some v)) H s'->Q () s') (hf:X.fn x=true\/X.env.scope.names.lookup x=some .local:=by first | exact .inl rfl | exact .inr rfl | assumption):wpAny M A (storeName X.env x u) Q E s:=
 mw I hN hi hx r (λ s' I' _=>h s' I') hf
theorem aH.call' {s':Shared}{ch:List Addr}(I:aH X pins σ H s) (ho:s'.os=s.os) (u:Un (vb X.stack) ch H H' s.heap s'.heap) (hok:ju X.prog X.w H' s'.heap) (hg:AllBare s'.gens)
  (hch:∀b∈ch,(b∈X.ex\/X.s₀.heap.objs.size<=b)/\b≠X.env.locals/\(∀x c,X.env.cells.lookup x=some c->c≠b)/\∀p∈X.pn++pins,p.1≠b):aH X pins σ H' s':=by
 obtain ⟨h',g',d',t',o'⟩:=s';have e:o'=s.os:=ho;subst e;exact I.call (g':=g') (t':=t') (d':=d') u hok hg hch
end
abbrev XK:=Value->Option Addr->Hp->Prop
abbrev St:=List (Option V)
abbrev oR (a:Addr):Option V:=some (.ref a)
abbrev oJ (a:Int):Option V:=some (.int a)
abbrev oT (a:Str):Option V:=some (.str a)
abbrev VK:=V->Hp->Prop
abbrev TE:=St->Hp->VK->Prop
abbrev TT:=St->Hp->(Bool->Hp->Prop)->Prop
abbrev TA:=St->Hp->(List V->Hp->Prop)->Prop
structure dC where
 nx:St->Hp->Prop
 rt:VK
 bk:St->Hp->Prop:=λ _ _=>False
 ct:St->Hp->Prop:=λ _ _=>False
abbrev TS:=dC->St->Hp->Prop
def EP (X:Cx) (pins:List (Addr×Obj)) (σ:St) (Q:VK) (u:Value) (s':Shared):Prop:= ∃v H',aH X pins σ H' s'/\aL v u/\Q v H'
def TP (X:Cx) (pins:List (Addr×Obj)) (σ:St) (Q:Bool->Hp->Prop) (b:Bool) (s':Shared):Prop:= ∃H',aH X pins σ H' s'/\Q b H'
def AP (X:Cx) (pins:List (Addr×Obj)) (σ:St) (Q:List V->Hp->Prop) (us:List Value) (s':Shared):Prop:= ∃vs H',aH X pins σ H' s'/\aP vs us/\Q vs H'
def SP (X:Cx) (pins:List (Addr×Obj)) (D:dC) (f:Flow) (s':Shared):Prop:=
 match f with
 | .next=> ∃σ' H',aH X pins σ' H' s'/\D.nx σ' H'
 | .brk=> ∃σ' H',aH X pins σ' H' s'/\D.bk σ' H'
 | .cont=> ∃σ' H',aH X pins σ' H' s'/\D.ct σ' H'
 | .ret u=> ∃v σ' H',aH X pins σ' H' s'/\aL v u/\D.rt v H'
def PE (X:Cx) (e:Expr) (t:TE):Prop:=
 ∀(pins:List (Addr×Obj)) (s:Shared) (σ:St) (H:Hp) (Q:VK),aH X pins σ H s->t σ H Q->wpAny (model X.prog X.w) X.A (eval e X.env) (EP X pins σ Q) X.xe s
def PT (X:Cx) (e:Expr) (t:TT):Prop:=
 ∀(pins:List (Addr×Obj)) (s:Shared) (σ:St) (H:Hp) (Q:Bool->Hp->Prop),aH X pins σ H s->t σ H Q->wpAny (model X.prog X.w) X.A (isTrue e X.env (eval e X.env)) (TP X pins σ Q) X.xe s
def PW (X:Cx) (e:Expr) (t:TT):Prop:=
 ∀(whole:Sem Value) (pins:List (Addr×Obj)) (s:Shared) (σ:St) (H:Hp) (Q:Bool->Hp->Prop),aH X pins σ H s->t σ H Q->wpAny (model X.prog X.w) X.A (isTrue e X.env whole) (TP X pins σ Q) X.xe s
theorem PW.pt {X:Cx}{e:Expr}{t:TT}(h:PW X e t):PT X e t:=h _
def PA (X:Cx) (es:List Expr) (t:TA):Prop:=
 ∀(pos:Pos) (pins:List (Addr×Obj)) (s:Shared) (σ:St) (H:Hp) (Q:List V->Hp->Prop),aH X pins σ H s->t σ H Q->wpAny (model X.prog X.w) X.A (spliced (backTo pos (starEach es X.env))) (AP X pins σ Q) X.xe s
def PS (X:Cx) (st:Stmt) (t:TS):Prop:=
 ∀(pins:List (Addr×Obj)) (s:Shared) (σ:St) (H:Hp) (D:dC),aH X pins σ H s->t D σ H->wpAny (model X.prog X.w) X.A (exec st X.env) (SP X pins D) X.xe s
def vy (X:Cx) (st:List Stmt) (t:TS):Prop:=
 ∀(pins:List (Addr×Obj)) (s:Shared) (σ:St) (H:Hp) (D:dC),aH X pins σ H s->t D σ H->wpAny (model X.prog X.w) X.A (execs st X.env) (SP X pins D) X.xe s
theorem bL {α:Type}{t:Sem α}{Q Q':α->Shared->Prop}{M:Model}{A:Around}{E:Value->Shared->Prop}{s:Shared}(h:wpAny M A t Q E s) (hQ:∀a s,Q a s->Q' a s):wpAny M A t Q' E s:=wpAny_mono h hQ λ _ _ x=>x
end L2
namespace L2
open PySem PySem.Spec PyProof.Rows
section
variable {X:Cx}
theorem bin {a b:Expr}{ta tb:TE}(ha:PE X a ta) (hb:PE X b tb) {pins:List (Addr×Obj)}{s:Shared}{σ:St}{H:Hp}{R:V->V->Hp->Prop}(I:aH X pins σ H s) (h:ta σ H λ x H1=>tb σ H1 λ y H2=>R x y H2)
  {α:Type} {Q:α->Shared->Prop} {f:Value->Value->Sem α}
  (hf:∀v u s2 x y H2,aH X pins σ H2 s2->aL x v->aL y u->R x y H2->wpAny (model X.prog X.w) X.A (f v u) Q X.xe s2):
  wpAny (model X.prog X.w) X.A (eval a X.env) (λ v s₁=>wpAny (model X.prog X.w) X.A (eval b X.env) (λ u s₂=>wpAny (model X.prog X.w) X.A (f v u) Q X.xe s₂) X.xe s₁) X.xe s:=by
 refine bL (ha pins s σ H _ I h) λ v s1 ⟨x,H1,I1,r1,q1⟩=>?_;refine bL (hb pins s1 σ H1 _ I1 q1) λ u s2 ⟨y,H2,I2,r2,q2⟩=>?_;exact hf v u s2 x y H2 I2 r1 r2 q2
def Nv (i:Nat):TE:=λ σ H Q=> ∃v,σ[i]? =some (some v)/\Q v H
def tC (v:V):TE:=λ _ H Q=>Q v H
theorem IN {i:Nat}{x:Str}{pos:Pos}(hN:X.N[i]? =some x) (hv:Nr X.env.scope x) (hd:(x == ("__debug__":Str))=false:=by decide) (hcd:(x == ("__classdict__":Str))=false:=by decide):PE X (.Name x pos) (Nv i):=by
 intro pins s σ H Q I h;obtain ⟨v,e,h⟩:=h;obtain ⟨m,hn,hl⟩:=I.loc;obtain ⟨u,r,l⟩:=hl i x v hN e hv;have fin:EP X pins σ Q u s:=⟨v,H,I,r,h⟩
 rcases l with ⟨hk,hm⟩ | ⟨hk,c,hc,hcell⟩
 ·exact wpAny_Name (wpAny_loadName_local I.ok.kind hk hn hm fin) hd
 ·rcases hk with hk | hk
  ·exact wpAny_Name (wpAny_loadName_cell I.ok.kind hk hc hcell fin) hd
  ·exact wpAny_Name (wpAny_loadName_free I.ok.kind hk hc hcell fin hcd) hd
theorem af {i j pos}:PE X (.Constant (.int i) j pos) (tC (.int i)):=λ _ _ _ H _ I h=>wpAny_Constant_int ⟨.int i,H,I.tok _,⟨_,rfl⟩,h⟩
theorem fA {b j pos}:PE X (.Constant (.bool b) j pos) (tC (.bl b)):=λ _ _ _ H _ I h=>Constant_bool ⟨.bl b,H,I,rfl,h⟩
theorem di {j pos}:PE X (.Constant .none j pos) (tC .non):=λ _ _ _ H _ I h=>Constant_none ⟨.non,H,I,rfl,h⟩
theorem bC {x j pos}:PE X (.Constant (.str x) j pos) (tC (.str x)):=λ _ _ _ H _ I h=>Calls.Constant_str ⟨.str x,H,I.tok _,⟨_,rfl⟩,h⟩
def Gl (X:Cx) (x:Str):Prop:=X.env.kindOf x=some .globalImplicit
theorem oH {E:Value->Shared->Prop}{pins:List (Addr×Obj)}{s:Shared}{σ:St}{H:Hp}{x:Str}{u:Value}{pos:Pos}{Q:Value->Shared->Prop}(I:aH X pins σ H s) (hg:Gl X x) (hm:X.mg x=some u) (h:Q u s)
  (hd:(x == ("__debug__":Str))=false:=by decide):wpAny (model X.prog X.w) X.A (eval (.Name x pos) X.env) Q E s:=
 Calls.Name_function_global I.ok.kind hg (Calls.loadGlobal_global (by rw [I.ok.glob];exact I.mod.glob.keeps I.bk) hm h) hd
theorem iQ {E:Value->Shared->Prop}{pins:List (Addr×Obj)}{s:Shared}{σ:St}{H:Hp}{x:Str}{u:Value}{pos:Pos}{Q:Value->Shared->Prop}(I:aH X pins σ H s) (hg:Gl X x) (hm:X.mg x=none) (hv:bootBuiltins x=some u) (h:Q u s)
  (hn:x≠"__name__":=by decide) (hd:(x == ("__debug__":Str))=false:=by decide):wpAny (model X.prog X.w) X.A (eval (.Name x pos) X.env) Q E s:=by
 obtain ⟨mb,h1,h2⟩:=I.mod.blt;exact Calls.Name_function_global I.ok.kind hg (Calls.loadGlobal_builtin (by rw [I.ok.glob];exact I.mod.glob.keeps I.bk) hm (by rw [I.ok.blt];exact h1.keeps I.bk) ((h2 x hn).trans hv) h) hd
theorem B4 {x:Str}{v:V}{u:Value}{pos:Pos}(hg:Gl X x) (hm:X.mg x=some u) (r:aL v u) (hd:(x == ("__debug__":Str))=false:=by decide):PE X (.Name x pos) (tC v):=
 λ _ _ _ H _ I h=>oH I hg hm ⟨v,H,I,r,h⟩ hd
theorem B8 {x:Str}{v:V}{u:Value}{pos:Pos}(hg:Gl X x) (hm:X.mg x=none) (hv:bootBuiltins x=some u) (r:aL v u) (hn:x≠"__name__":=by decide) (hd:(x == ("__debug__":Str))=false:=by decide):PE X (.Name x pos) (tC v):=
 λ _ _ _ H _ I h=>iQ I hg hm hv ⟨v,H,I,r,h⟩ hn hd
variable {a b:Expr}{ta tb:TE}{pos:Pos}
def tB (t:TE):TT:=λ σ H Q=>t σ H λ x H1=> ∃c,x=.bl c/\Q c H1
variable {tA tB':TT}{rest:List Expr}
def Ir (t u:TT):TT:=λ σ H Q=>t σ H λ c H1=>if c=true then u σ H1 Q else Q false H1
def L6 (t u:TT):TT:=λ σ H Q=>t σ H λ c H1=>if c=true then Q true H1 else u σ H1 Q
def zy (t:TT):TT:=λ σ H Q=>t σ H λ c H1=>Q (!c) H1
theorem iq (ha:PT X a tA):PW X (.BoolOp .And [a] pos) tA:=by
 intro wh pins s σ H Q I h;refine isTrue_and (bL (ha pins s σ H Q I h) λ c s1 e=>?_);cases c with
 | true=>exact isTrue_and_nil e
 | false=>exact e
theorem fc (ha:PT X a tA):PW X (.BoolOp .Or [a] pos) tA:=by
 intro wh pins s σ H Q I h;refine isTrue_or (bL (ha pins s σ H Q I h) λ c s1 e=>?_);cases c with
 | false=>exact isTrue_or_nil e
 | true=>exact e
theorem jE (ha:PT X a tA) (hb:PW X (.BoolOp .And (b::rest) pos) tB'):PW X (.BoolOp .And (a::b::rest) pos) (Ir tA tB'):=by
 intro wh pins s σ H Q I h;refine isTrue_and (bL (ha pins s σ H _ I h) λ c s1 ⟨H1,I1,q1⟩=>?_);cases c with
 | true=>exact hb wh pins s1 σ H1 Q I1 q1
 | false=>exact ⟨H1,I1,q1⟩
theorem gD (ha:PT X a tA) (hb:PW X (.BoolOp .Or (b::rest) pos) tB'):PW X (.BoolOp .Or (a::b::rest) pos) (L6 tA tB'):=by
 intro wh pins s σ H Q I h;refine isTrue_or (bL (ha pins s σ H _ I h) λ c s1 ⟨H1,I1,q1⟩=>?_);cases c with
 | true=>exact ⟨H1,I1,q1⟩
 | false=>exact hb wh pins s1 σ H1 Q I1 q1
theorem bz (ha:PT X a tA):PT X (.UnaryOp .Not a pos) (zy tA):=by intro pins s σ H Q I h;exact isTrue_not (ha pins s σ H (λ c H1=>Q (!c) H1) I h)
theorem dh {op}{t:TE}(h:PE X a t):PE X (.BoolOp op [a] pos) t:=λ pins s σ H Q I hw=>BoolOp_one (h pins s σ H Q I hw)
def Nk (t:TT) (ta tb:TE):TE:=λ σ H Q=>t σ H λ c H1=>if c=true then ta σ H1 Q else tb σ H1 Q
theorem cw {c:Expr}(hc:PT X c tA) (ha:PE X a ta) (hb:PE X b tb):PE X (.IfExp c a b pos) (Nk tA ta tb):=by
 intro pins s σ H Q I h;refine wpAny_IfExp (bL (hc pins s σ H _ I h) λ d s1 ⟨H1,I1,q1⟩=>?_);cases d with
 | true=>exact ha pins s1 σ H1 Q I1 q1
 | false=>exact hb pins s1 σ H1 Q I1 q1
end
end L2
namespace L2
open PySem PySem.Spec PyProof.Rows
def aK (K:Frag) (H:Hp) (a:Addr) (xs:List V):Prop:=
 Rd H a (.lst xs)\/
  ∃(o:Obj) (its:Array Value) (n:Nat),K.lookup a=some o/\o.cls=.type "list"/\o.dict=none/\o.data=.seq its n/\its.size<=sizeLine/\aP xs its.toList
def cJ (K:Frag) (H:Hp) (a:Addr) (xs:List V):Prop:=
 Rd H a (.tup xs)\/
  ∃(o:Obj) (its:Array Value) (n:Nat),K.lookup a=some o/\o.cls=.type "tuple"/\o.data=.seq its n/\its.size<=sizeLine/\aP xs its.toList
def NT:Value->Option V
 | .none=>some .non
 | .bool b=>some (.bl b)
 | .int i _=>some (.int i)
 | .str x _=>some (.str x)
 | .bytes b _=>some (.byt b)
 | .float b _=>some (.flt b)
 | .ref a=>some (.ref a)
 | .type n=>some (.ty n)
 | _=>none
theorem aL.abs {x:V}{u:Value}(r:aL x u):NT u=some x:=by
 cases x with
 | non=>cases r;rfl
 | bl _=>cases r;rfl
 | int _=>obtain ⟨t,rfl⟩:=r;rfl
 | str _=>obtain ⟨t,rfl⟩:=r;rfl
 | byt _=>obtain ⟨t,rfl⟩:=r;rfl
 | flt _=>obtain ⟨t,rfl⟩:=r;rfl
 | ref _=>cases r;rfl
 | ty _=>cases r;rfl
theorem aL.inj {x y:V}{u:Value}(r:aL x u) (q:aL y u):x=y:=Option.some.inj (r.abs.symm.trans q.abs)
theorem aP.inj:∀{xs ys:List V}{us:List Value},aP xs us->aP ys us->xs=ys
 | _,_,_,.nil,.nil=>rfl
 | _,_,_,.cons r t,.cons r' t'=>by rw [r.inj r',aP.inj t t']
section
variable {X:Cx}{pins:List (Addr×Obj)}{σ:St}{H:Hp}{s:Shared}{a:Addr}{xs ys:List V}
theorem aK.of {K:Frag}(h:H a=some (.lst xs)):aK K H a xs:=.inl (.inl h)
theorem cJ.of {K:Frag}(h:H a=some (.tup xs)):cJ K H a xs:=.inl (.inl h)
theorem aH.list (I:aH X pins σ H s) (h:aK X.K H a xs):∃its:List Value,aP xs its/\PlainL s.heap a its.toArray/\xs.length<=sizeLine:=by
 rcases h with h | ⟨o,its,n,hk,hc,hd,hs,hz,r⟩
 ·obtain ⟨z,its,n,r,e⟩:=h.ok I.hok;exact ⟨its,r,⟨_,n,e,rfl,rfl,rfl⟩,z⟩
 ·refine ⟨its.toList,r,⟨o,n,I.kIn a o hk,hc,hd,by simpa using hs⟩,?_⟩;have e:=r.length;simp only [QB] at e;lia
theorem aH.tuple (I:aH X pins σ H s) (h:cJ X.K H a xs):∃its:List Value,aP xs its/\IsTup s.heap a its.toArray/\xs.length<=sizeLine:=by
 rcases h with h | ⟨o,its,n,hk,hc,hs,hz,r⟩
 ·obtain ⟨z,its,r,p⟩:=h.ok I.hok;exact ⟨its,r,p,z⟩
 ·refine ⟨its.toList,r,⟨o,I.kIn a o hk,hc,n,by simpa using hs⟩,?_⟩;have e:=r.length;simp only [QB] at e;lia
theorem aH.list_inj (I:aH X pins σ H s) (h:aK X.K H a xs) (h':aK X.K H a ys):xs=ys:=by
 obtain ⟨its,r,⟨o,n,e,_,_,d⟩,_⟩:=I.list h;obtain ⟨its',r',⟨o',n',e',_,_,d'⟩,_⟩:=I.list h';rw [e] at e';cases e';rw [d] at d';injection d' with d1 _;have:its=its':=by simpa using congrArg Array.toList d1
 subst this;exact r.inj r'
end
abbrev Cx.wish (X:Cx) (E:Value->Shared->Prop):Cx:={X with xe:=E}
abbrev Cx.nox (X:Cx):Cx:=X.wish λ _ _=>False
theorem Cx.Ok.wish {X:Cx}(ok:X.Ok) (E:Value->Shared->Prop):(X.wish E).Ok:=
 ⟨ok.mod,ok.kind,ok.glob,ok.blt,ok.above,ok.inj,ok.has,ok.cab,ok.hd,ok.frames,ok.stk,ok.exf,ok.bs,ok.bsz,ok.noex,ok.exfs,ok.funs,ok.frf⟩
theorem Cx.Ok.unwish {X:Cx}{E:Value->Shared->Prop}(ok:(X.wish E).Ok):X.Ok:=
 ⟨ok.mod,ok.kind,ok.glob,ok.blt,ok.above,ok.inj,ok.has,ok.cab,ok.hd,ok.frames,ok.stk,ok.exf,ok.bs,ok.bsz,ok.noex,ok.exfs,ok.funs,ok.frf⟩
section
variable {X:Cx}{pins:List (Addr×Obj)}{σ:St}{H:Hp}{s:Shared}{E:Value->Shared->Prop}
theorem aH.wish (I:aH X pins σ H s) (E:Value->Shared->Prop):aH (X.wish E) pins σ H s:=⟨I.ok.wish E,I.os,I.bare,I.base,I.loc,I.cell,I.free,I.freeC,I.pin,I.hok,I.len⟩
theorem aH.unwish (I:aH (X.wish E) pins σ H s):aH X pins σ H s:=⟨I.ok.unwish,I.os,I.bare,I.base,I.loc,I.cell,I.free,I.freeC,I.pin,I.hok,I.len⟩
theorem SP.unwish {D:dC}{f:Flow}{s':Shared}(h:SP (X.wish E) pins D f s'):SP X pins D f s':=by
 cases f with
 | next=>obtain ⟨σ',H',I,q⟩:=h;exact ⟨σ',H',I.unwish,q⟩
 | brk=>obtain ⟨σ',H',I,q⟩:=h;exact ⟨σ',H',I.unwish,q⟩
 | cont=>obtain ⟨σ',H',I,q⟩:=h;exact ⟨σ',H',I.unwish,q⟩
 | ret u=>obtain ⟨v,σ',H',I,r,q⟩:=h;exact ⟨v,σ',H',I.unwish,r,q⟩
theorem vy.nox {st:List Stmt}{t:TS}(h:vy X.nox st t):vy X st t:=λ pins s σ H D I hw=>
 wpAny_mono (h pins s σ H D (I.wish _) hw) (λ _ _ q=>q.unwish) λ _ _ z=>False.elim z
end
section
variable {X:Cx}{st:Stmt}{rest:List Stmt}{t u:TS}{e:Expr}{te:TE}{pos:Pos}
def pG:TS:=λ D σ H=>D.nx σ H
def ba (t u:TS):TS:=λ D σ H=>t {D with nx:=u D} σ H
theorem aD:vy X [] pG:=λ _ _ σ H _ I h=>wpAny_execs_nil ⟨σ,H,I,h⟩
theorem ae (h1:PS X st t) (h2:vy X rest u):vy X (st::rest) (ba t u):=by
 intro pins s σ H D I h;refine wpAny_execs_cons (bL (h1 pins s σ H {D with nx:=u D} I h) λ f s1 q=>?_);cases f with
 | next=>
   obtain ⟨σ',H',I',q⟩:=q;exact h2 pins s1 σ' H' D I' q
 | ret v=>exact q
 | brk=>exact q
 | cont=>exact q
theorem ah (h1:PS X st t):vy X [st] t:=by
 intro pins s σ H D I h;refine wpAny_execs_cons (bL (h1 pins s σ H D I h) λ f s1 q=>?_);cases f with
 | next=>exact wpAny_execs_nil q
 | ret v=>exact q
 | brk=>exact q
 | cont=>exact q
def Iq:TS:=λ D σ H=>D.bk σ H
theorem Aa:PS X (.Break pos) Iq:=λ _ _ σ H _ I h=>wpAny_Break ⟨σ,H,I,h⟩
theorem aH.quiet {pins:List (Addr×Obj)}{σ:St}{H:Hp}{s:Shared}(I:aH X pins σ H s):interactive X.env=false:=by simp [interactive,I.ok.kind]
def jY (te:TE):TS:=λ D σ H=>te σ H λ _ H1=>D.nx σ H1
theorem eJ (he:PE X e te) (hs:swapsWith e none pos.line X.env=pure false:=by rfl):PS X (.Expr e pos) (jY te):=by intro pins s σ H D I h;exact wpAny_Expr_any (bL (he pins s σ H _ I h) λ v s1 ⟨x,H1,I1,r1,q1⟩=>⟨σ,H1,I1,q1⟩) I.quiet hs
def ce (te:TE):TS:=λ D σ H=>te σ H D.rt
theorem aw (he:PE X e te):PS X (.Return (some e) pos) (ce te):=by intro pins s σ H D I h;exact wpAny_Return_some (bL (he pins s σ H _ I h) λ v s1 ⟨x,H1,I1,r1,q1⟩=>⟨x,σ,H1,I1,r1,q1⟩)
def na (c:TT) (t u:TS):TS:=λ D σ H=>c σ H λ b H1=>if b=true then t D σ H1 else u D σ H1
theorem aV {c:Expr}{a b:List Stmt}{tc:TT}(hc:PT X c tc) (ha:vy X a t) (hb:vy X b u):PS X (.If c a b pos) (na tc t u):=by
 intro pins s σ H D I h;refine wpAny_If (bL (hc pins s σ H _ I h) λ d s1 ⟨H1,I1,q1⟩=>?_);cases d with
 | true=>exact ha pins s1 σ H1 D I1 q1
 | false=>exact hb pins s1 σ H1 D I1 q1
def Ip:TS:=λ _ _ _=>False
theorem fg:PS X st Ip:=λ _ _ _ _ _ _ h=>h.elim
end
abbrev TG:=V->St->Hp->(St->Hp->Prop)->Prop
abbrev G3:=List V->St->Hp->(St->Hp->Prop)->Prop
def PG (X:Cx) (target:Expr) (t:TG):Prop:=
 ∀(pins:List (Addr×Obj)) (s:Shared) (σ:St) (H:Hp) (v:V) (u:Value) (Q:St->Hp->Prop),aH X pins σ H s->aL v u->t v σ H Q->
  wpAny (model X.prog X.w) X.A (assign target X.env u) (λ _ s'=> ∃σ' H',aH X pins σ' H' s'/\Q σ' H') X.xe s
def JY (X:Cx) (ts:List Expr) (t:G3):Prop:=
 ∀(pins:List (Addr×Obj)) (s:Shared) (σ:St) (H:Hp) (vs:List V) (us:List Value) (Q:St->Hp->Prop),aH X pins σ H s->aP vs us->t vs σ H Q->
  wpAny (model X.prog X.w) X.A (assignInOrder ((assignEach ts X.env).map (·.2)) us) (λ _ s'=> ∃σ' H',aH X pins σ' H' s'/\Q σ' H') X.xe s
abbrev JS:=V->V->V->Hp->(Hp->Prop)->Prop
def Nc (X:Cx) (t:JS):Prop:=
 ∀(pins:List (Addr×Obj)) (s:Shared) (σ:St) (H:Hp) (o i v:V) (ov iv u:Value) (Q:Hp->Prop),aH X pins σ H s->aL o ov->aL i iv->aL v u->t o i v H Q->
  wpAny (model X.prog X.w) X.A (setItem ov iv u) (λ _ s'=> ∃H',aH X pins σ H' s'/\Q H') X.xe s
section
variable {X:Cx}{pos:Pos}
def gName (i:Nat):TG:=λ v σ H Q=>Q (σ.set i (some v)) H
theorem bD {i:Nat}{x:Str}(hN:X.N.Nodup) (hi:X.N[i]? =some x) (hx:JZ X.env.scope x) (hf:X.fn x=true\/X.env.scope.names.lookup x=some .local:=by first | exact .inl rfl | exact .inr rfl | assumption):PG X (.Name x pos) (gName i):=by intro pins s σ H v u Q I r h;exact wpAny_assign_Name (pH I hN hi hx r (λ s' I'=>⟨_,H,I',h⟩) hf)
def wC:G3:=λ vs σ H Q=>vs=[]/\Q σ H
def gf (t:TG) (u:G3):G3:=λ vs σ H Q=> ∃v r,vs=v::r/\t v σ H λ σ' H'=>u r σ' H' Q
theorem iw:JY X [] wC:=by intro pins s σ H vs us Q I r h;obtain ⟨e,h⟩:=h;subst e;cases r;exact assignInOrder_nil ⟨σ,H,I,h⟩
theorem bO {e:Expr}{es:List Expr}{t:TG}{u:G3}(h1:PG X e t) (h2:JY X es u)
  (hs:(assignEach (e::es) X.env).map (·.2)=assign e X.env::(assignEach es X.env).map (·.2):=by rfl):JY X (e::es) (gf t u):=by
 intro pins s σ H vs us Q I r h;obtain ⟨v,vr,e1,h⟩:=h;subst e1;cases r with
 | cons r rr=>
   rw [hs];refine assignInOrder_cons (bL (h1 pins s σ H _ _ _ I r h) λ _ s1 ⟨σ1,H1,I1,q1⟩=>?_);exact h2 pins s1 σ1 H1 _ _ Q I1 rr q1
def tm (K:Frag) (n:Nat) (t:G3):TG:=λ v σ H Q=> ∃a xs,v=.ref a/\cJ K H a xs/\xs.length=n/\t xs σ H Q
theorem IM {es:List Expr}{k:Nat}{t:G3}{n:Nat}(hc:X.calm=true) (h:JY X es t)
  (hn:(assignEach es X.env).length=n:=by rfl) (hst:(assignEach es X.env).findIdx? (·.1)=none:=by rfl):PG X (.Tuple es k pos) (tm X.K n t):=by
 intro pins s σ H v u Q I r hw;obtain ⟨a,xs,e1,hq,hl,hw⟩:=hw;subst e1;cases r;obtain ⟨its,rv,ht,hz⟩:=I.tuple hq;refine assign_Tuple_tuple (I.ok.hd hc) ht (by simp [hn,<-hl,rv.length]) hst λ h' hx=>?_;have I1:aH X pins σ H {s with heap:=h'}:=I.kept (t':=s.toks) λ b o e=>hx b o (PH (Heap.lt_size e)) e;exact h pins _ σ H xs _ Q I1 (by simpa using rv) hw
def gSub (to ti:TE) (t:JS):TG:=λ v σ H Q=>to σ H λ o H1=>ti σ H1 λ i H2=>t o i v H2 λ H3=>Q σ H3
theorem nY {o i:Expr}{to ti:TE}{t:JS}(ho:PE X o to) (hi:PE X i ti) (hs:Nc X t)
  (ha:∀v,assign (.Subscript o i pos) X.env v=(do
   let ov<-holding [v] (eval o X.env)
   let iv<-holding [v,ov] (eval i X.env)
   standAt pos
   holding [v,ov,iv] (setItem ov iv v)
   release [v,ov,iv] []):=by intro _;rfl):PG X (.Subscript o i pos) (gSub to ti t):=by
 intro pins s σ H v u Q I r h;rw [ha];refine wpAny_bind (wpAny_holding (bL (ho pins s σ H _ I h) λ ov s1 ⟨x,H1,I1,r1,q1⟩=>?_));refine wpAny_bind (wpAny_holding (bL (hi pins s1 σ H1 _ I1 q1) λ iv s2 ⟨y,H2,I2,r2,q2⟩=>?_));refine wpAny_bind (wpAny_standAt (wpAny_bind (wpAny_holding (bL (hs pins s2 σ H2 x y v ov iv u _ I2 r1 r2 r q2) λ _ s3 ⟨H3,I3,q3⟩=>?_))));exact wpAny_release ⟨σ,H3,I3,q3⟩
def tAsg (te:TE) (g:TG):TS:=λ D σ H=>te σ H λ x H1=>g x σ H1 D.nx
theorem jG {tg e:Expr}{te:TE}{g:TG}(he:PE X e te) (hg:PG X tg g) (hs:swapsWithSole [tg] e pos.line X.env=pure false:=by rfl) (hw:swappedStores [tg] e X.env=pure none:=by rfl)
  (h1:(assignEach [tg] X.env).map (·.2)=[assign tg X.env]:=by rfl):PS X (.Assign [tg] e pos) (tAsg te g):=by
 intro pins s σ H D I h;refine wpAny_Assign_stores (bL (he pins s σ H _ I h) λ v s1 ⟨x,H1,I1,r1,q1⟩=>?_) hs hw;rw [h1];exact bL (hg pins s1 σ H1 x v _ I1 r1 q1) λ _ s2 q=>q
theorem ay {i:Nat}{x:Str}{e:Expr}{te:TE}{pos':Pos}(hN:X.N.Nodup) (hi:X.N[i]? =some x) (hx:JZ X.env.scope x) (he:PE X e te) (hs:swapsWith e (some (.Name x pos')) pos.line X.env=pure false:=by rfl) (hf:X.fn x=true\/X.env.scope.names.lookup x=some .local:=by first | exact .inl rfl | exact .inr rfl | assumption):
  PS X (.Assign [.Name x pos'] e pos) (tAsg te (gName i)):=by
 intro pins s σ H D I h;refine wpAny_Assign_Name (bL (he pins s σ H _ I h) λ v s1 ⟨y,H1,I1,r1,q1⟩=>?_) hs;exact pH I1 hN hi hx r1 (λ s2 I2=>⟨_,H1,I2,q1⟩) hf
end
section
variable {X:Cx}{pos:Pos}
def Io (c:TT) (tb:TS):TS:=λ D σ H=> ∃W:Nat->St->Hp->Prop,(∃m,W m σ H)/\∀m σ H,W m σ H->
 c σ H λ b H1=>if b=true then∃N:St->Hp->Prop,(∀σ' H',N σ' H'->∃m',m'<m/\W m' σ' H')/\tb {D with nx:=N,ct:=N,bk:=D.nx} σ H1 else D.nx σ H1
theorem zZ {c:Expr}{body:List Stmt}{tc:TT}{tb:TS}(hp:PassesOwn (model X.prog X.w) X.A X.env X.xe) (hc:PT X c tc) (hb:vy X body tb):PS X (.While c body [] pos) (Io tc tb):=by
 intro pins s σ H D I h;obtain ⟨W,⟨m0,w0⟩,turn⟩:=h;refine wpAny_While (codeAny_whileLoop (λ n s'=> ∃σ' H',aH X pins σ' H' s'/\W n σ' H') ?_ m0 ⟨σ,H,I,w0⟩);rintro n s1 ⟨σ1,H1,I1,w1⟩;refine wpAny_passesOwn hp (bL (hc pins s1 σ1 H1 _ I1 (turn n σ1 H1 w1)) λ b s2 ⟨H2,I2,q2⟩=>?_);cases b with
 | true=>
   obtain ⟨N,hN,q2⟩:=q2;rw [if_pos rfl];refine wpAny_passesOwn hp (bL (hb pins s2 σ1 H2 _ I2 q2) λ f s3 q3=>?_);cases f with
   | next=>
     obtain ⟨σ3,H3,I3,n3⟩:=q3;obtain ⟨m',hm,w3⟩:=hN σ3 H3 n3;exact ⟨m',hm,σ3,H3,I3,w3⟩
   | cont=>
     obtain ⟨σ3,H3,I3,n3⟩:=q3;obtain ⟨m',hm,w3⟩:=hN σ3 H3 n3;exact ⟨m',hm,σ3,H3,I3,w3⟩
   | brk=>exact q3
   | ret v=>exact q3
 | false=>
   rw [if_neg Qo];exact wpAny_execs_nil ⟨σ1,H2,I2,q2⟩
end
structure It where
 go:Nat->Hp->Prop
 yld:Nat->Hp->V->Hp->Prop
 stop:Nat->Hp->Prop
def ii (X:Cx) (pins:List (Addr×Obj)) (H:Hp) (b:Addr):Prop:=
 H b=none/\b≠X.env.locals/\b∉X.fs/\(b∈X.ex\/X.s₀.heap.objs.size<=b)/\(∀x c,X.env.cells.lookup x=some c->c≠b)/\∀p∈X.pn++pins,p.1≠b
theorem aH.fpOk {X:Cx}{pins:List (Addr×Obj)}{σ:St}{H H':Hp}{s:Shared}{b:Addr}(I:aH X pins σ H s) (hb:s.heap.objs.size<=b) (hn:H' b=none):ii X pins H' b:=by
 refine ⟨hn,PM (PL I.lt hb),I.nofs hb,.inr (PK I.sz hb),λ x c e z=>?_,λ p hp z=>?_⟩
 ·obtain ⟨v,q⟩:=I.cell x c e;exact absurd (PL q.lt (by rw [z];exact hb)) (PP _)
 ·exact absurd (PL (Heap.lt_size (I.pin p hp).1) (by rw [z];exact hb)) (PP _)
structure wV (P:Program) (w:World) (K:Frag) (tg:Expr) (J:It) (fp:List Addr) (it:Addr) (tn:Nat->Heap->Prop):Prop where
 mem:it∈fp
 obj:∀i h,tn i h->∀b∈fp,∃o,h.get? b=some o/\∀v,o.data≠.cell v
 keep:∀i h h',tn i h->(∀b∈fp,∀o,h.get? b=some o->h'.get? b=some o)->tn i h'
 item:∀(X:Cx),X.prog=P->X.w=w->X.K=K->X.calm=true->∀(i:Nat) (pins:List (Addr×Obj)) (s:Shared) (σ:St) (H:Hp) (E:Value->Shared->Prop),aH X pins σ H s->(∀b∈fp,ii X pins H b)->tn i s.heap->J.go i H->
  wpAny (model P w) X.A (pyNext (.ref it)) (λ r s1=> ∃u,r=some u/\
   wpAny (model P w) X.A (letOwnedTupleGo tg (.ref it) u) (λ _ s2=> ∃x H',aH X pins σ H' s2/\aL x u/\J.yld i H x H'/\tn (i+1) s2.heap/\∀b∈fp,H' b=none) E s1) E s
 done:∀(X:Cx),X.prog=P->X.w=w->X.K=K->X.calm=true->∀(i:Nat) (pins:List (Addr×Obj)) (s:Shared) (σ:St) (H:Hp) (E:Value->Shared->Prop),aH X pins σ H s->(∀b∈fp,ii X pins H b)->tn i s.heap->J.stop i H->
   wpAny (model P w) X.A (pyNext (.ref it)) (λ r s1=>r=none/\aH X pins σ H s1) E s
 self:∀(A:Around) (i:Nat) (s:Shared) (Q:Value->Shared->Prop) (E:Value->Shared->Prop),tn i s.heap->Q (.ref it) s->wpAny (model P w) A (pyIter (.ref it)) Q E s
abbrev TI:=St->Hp->(It->Hp->Prop)->Prop
def NW (X:Cx) (pins:List (Addr×Obj)) (σ:St) (tg:Expr) (R:It->Hp->Prop) (itv:Value) (s2:Shared):Prop:=
 ∃(it:Addr) (fp:List Addr) (tn:Nat->Heap->Prop) (J:It) (H':Hp),itv=.ref it/\aH X pins σ H' s2/\wV X.prog X.w X.K tg J fp it tn/\tn 0 s2.heap/\(∀b∈fp,ii X pins H' b)/\R J H'
def PI (X:Cx) (tg iter:Expr) (wi:TI):Prop:=
 ∀(pins:List (Addr×Obj)) (s:Shared) (σ:St) (H:Hp) (R:It->Hp->Prop),aH X pins σ H s->wi σ H R->
  wpAny (model X.prog X.w) X.A (eval iter X.env) (λ v s1=>wpAny (model X.prog X.w) X.A (pyIter v) (NW X pins σ tg R) X.xe s1) X.xe s
theorem GQ {M:Model}{A:Around}{E:Value->Shared->Prop}{s:Shared}{tg:Expr}{it:Addr}{u:Value}{o:Obj}{n:String}{vs:Array Value}{Q:Unit->Shared->Prop}(ho:s.heap.get? it=some o) (hc:o.cls=.type n) (hd:o.data=.fields vs)
  (hn:["enumerate","zip","dict_itemiterator","dict_reverseitemiterator","odict_iterator","itertools.zip_longest","itertools.pairwise"].contains n=false) (hQ:Q () s):wpAny M A (letOwnedTupleGo tg (.ref it) u) Q E s:=by
 unfold letOwnedTupleGo;cases tg<;>first
  | exact wpAny_pure hQ
  | (cases u<;>first
    | exact wpAny_pure hQ
    | (refine wpAny_bind (wpAny_load ho ?_)
       rw [hc,hd];show wpAny M A (if (["enumerate","zip","dict_itemiterator","dict_reverseitemiterator","odict_iterator","itertools.zip_longest","itertools.pairwise"].contains n&&vs[0]? == some (rawInt _))=true then _ else _) Q E s;rw [if_neg (by intro h;rw [hn,Bool.false_and] at h;cases h)];exact wpAny_pure hQ))
def Ha (K:Frag) (a:Addr):It:=
 ⟨λ i H=> ∃xs x,aK K H a xs/\xs[i]? =some x,λ i H x H'=>H'=H/\∀xs,aK K H a xs->xs[i]? =some x,λ i H=> ∃xs,aK K H a xs/\xs.length<=i⟩
def J0 (lo:Int) (n:Nat):It:=⟨λ i _=>i<n,λ i H x H'=>H'=H/\x=.int (lo+i),λ i _=>n<=i⟩
theorem vG {P:Program}{w:World}{K:Frag}{tg:Expr}(a it:Addr):wV P w K tg (Ha K a) [it] it (λ i h=>h.IsListIter it a i) where
 mem:=by simp
 obj:=λ i h st b hb=>by
  have e:b=it:=by simpa using hb
  subst e;obtain ⟨o,e,c,d⟩:=st;exact ⟨o,e,λ v z=>by rw [d] at z;cases z⟩
 keep:=λ i h h' st k=>st.at λ o e=>k it (by simp) o e
 item:=by intro X hP hw hK hc i pins s σ H E I hf st hg;subst hP hw hK;obtain ⟨xs,x,hq,hx⟩:=hg;obtain ⟨its,rv,p,hz⟩:=I.list hq;obtain ⟨u,hu,ru⟩:=rv.get hx;obtain ⟨f0,f1,f2,f3,f4,f5⟩:=hf it (by simp);refine wpAny_pyNext_list_item st p.isList (x:=u) (by simpa using hu) λ h' st' sb=>?_;have I1:aH X pins σ H {s with heap:=h'}:=I.turned (t':=s.toks) (λ b o hb e=>(sb.2 b hb).trans e) f0 f1 f3 f4 f5;obtain ⟨o,e,c,d⟩:=id st';exact ⟨u,rfl,GQ (s:={s with heap:=h'}) e c d (by decide) ⟨x,H,I1,ru,⟨rfl,λ ys hy=>by rw [I.list_inj hy hq];exact hx⟩,st',λ b hb=>(hf b hb).1⟩⟩
 done:=by intro X hP hw hK hc i pins s σ H E I hf st hg;subst hP hw hK;obtain ⟨xs,hq,hx⟩:=hg;obtain ⟨its,rv,p,hz⟩:=I.list hq;obtain ⟨f0,f1,f2,f3,f4,f5⟩:=hf it (by simp);have hl:=rv.length;exact wpAny_pyNext_list_end (I.ok.hd hc) st p.isList (by simp;lia) λ h' eb=>⟨rfl,I.turned (t':=s.toks) (λ b o hb e=>eb b o hb e) f0 f1 f3 f4 f5⟩
 self:=λ _ _ _ _ _ st h=>wpAny_pyIter_listiter st h
theorem rk {P:Program}{w:World}{K:Frag}{tg:Expr}(it:Addr) (lo:Int) (n:Nat):wV P w K tg (J0 lo n) [it] it (λ i h=>IsRangeIter h it (lo+(i:Nat)*1) ((n:Int) - (i:Nat)) 1) where
 mem:=by simp
 obj:=λ i h st b hb=>by
  have e:b=it:=by simpa using hb
  subst e;exact ⟨_,st,λ v z=>by
   have z':Data.fields _=Data.cell v:=z;cases z'⟩
 keep:=λ i h h' st k=>k it (by simp) _ st
 item:=by intro X hP hw hK hc i pins s σ H E I hf st hg;subst hP hw hK;obtain ⟨f0,f1,f2,f3,f4,f5⟩:=hf it (by simp);have W:=Walks.range (prog:=X.prog) (w:=X.w) (I.ok.hd hc) it lo 1 n;refine W.item i s _ _ hg st λ v h' tk hv st' kk=>?_;obtain ⟨t,rfl⟩:=hv;have I1:aH X pins σ H {s with heap:=h',toks:=tk}:=I.turned (λ b o hb e=>kk b o (by simpa using hb) e) f0 f1 f3 f4 f5;refine ⟨_,rfl,GQ (s:={s with heap:=h',toks:=tk}) (n:="range_iterator") st' rfl rfl (by decide) ⟨.int (lo+i),H,I1,⟨t,?_⟩,⟨rfl,rfl⟩,st',λ b hb=>(hf b hb).1⟩⟩;rw [Int.mul_one]
 done:=by intro X hP hw hK hc i pins s σ H E I hf st hg;subst hP hw hK;obtain ⟨f0,f1,f2,f3,f4,f5⟩:=hf it (by simp);exact wpAny_pyNext_range_end (I.ok.hd hc) st (by have:n<=i:=hg;lia) λ h' eb=>⟨rfl,I.turned (t':=s.toks) (λ b o hb e=>eb b o hb e) f0 f1 f3 f4 f5⟩
 self:=λ _ _ _ _ _ st h=>wpAny_pyIter_rangeiter st h
end L2
namespace L2
open PySem PySem.Spec PyProof.Rows
section
variable {X:Cx}{tg:Expr}
def qJ (K:Frag) (tl:TE):TI:=λ σ H R=>tl σ H λ x H1=> ∃a,x=.ref a/\(∃xs,aK K H1 a xs)/\R (Ha K a) H1
theorem B0 {l:Expr}{tl:TE}(hl:PE X l tl):PI X tg l (qJ X.K tl):=by
 intro pins s σ H R I h;refine bL (hl pins s σ H _ I h) λ v s1 ⟨x,H1,I1,r1,q1⟩=>?_;obtain ⟨a,e,⟨xs,hq⟩,q⟩:=q1;subst e;cases r1;obtain ⟨its,rv,p,hz⟩:=I1.list hq;refine wpAny_pyIter_list p.isList ?_;refine ⟨s1.heap.objs.size,[s1.heap.objs.size],_,_,H1,rfl,I1.kept (t':=s1.toks) λ b o e=>Heap.get?_push_of_some _ e,vG a _,⟨_,Heap.get?_push_size _ rfl,rfl,rfl⟩,λ b hb=>?_,q⟩;have e:b=s1.heap.objs.size:=by simpa using hb
 subst e;exact I1.fpOk (PF _) (I1.hok.fresh (PF _))
theorem zT {pins:List (Addr×Obj)}{σ:St}{H:Hp}{s:Shared}{R:It->Hp->Prop}{E:Value->Shared->Prop}{lo hi:Int}{t u v:Tok}{tk:Nat}(I:aH X pins σ H s) (h1: -(2 ^ 62)<=lo) (h2:lo<2 ^ 62) (h3: -(2 ^ 62)<=hi) (h4:hi<2 ^ 62)
  (q:R (J0 lo (hi - lo).toNat) H):wpAny (model X.prog X.w) X.A (pyIter (.ref s.heap.objs.size)) (NW X pins σ tg R) E {s with heap:=s.heap.push {cls:=.type "range",data:=.fields #[.int lo t,.int hi u,.int 1 v]},toks:=tk}:=by
 refine wpAny_pyIter_range (IsRange.new ..) (small_one h1 h2 h3 h4) ?_;have I1:aH X pins σ H {s with heap:=s.heap.push {cls:=.type "range",data:=.fields #[.int lo t,.int hi u,.int 1 v]},toks:=tk}:=I.kept λ b o e=>Heap.get?_push_of_some _ e;refine ⟨(s.heap.push {cls:=.type "range",data:=.fields #[.int lo t,.int hi u,.int 1 v]}).objs.size,[(s.heap.push {cls:=.type "range",data:=.fields #[.int lo t,.int hi u,.int 1 v]}).objs.size],_,_,H,rfl,
  I1.kept (t':=tk) λ b o e=>Heap.get?_push_of_some _ e,rk _ lo (hi - lo).toNat,?_,λ b hb=>?_,q⟩
 ·have e1:lo+((0:Nat):Int)*1=lo:=by simp
  have e2:(((hi - lo).toNat:Nat):Int) - ((0:Nat):Int)=Builtin.Range.rangeSize lo hi 1:=by rw [rangeSize_one];split<;>lia
  show IsRangeIter _ _ (lo+((0:Nat):Int)*1) ((((hi - lo).toNat:Nat):Int) - ((0:Nat):Int)) 1;rw [e1,e2];exact Heap.get?_push_size _ rfl
 ·have e:b=(s.heap.push {cls:=.type "range",data:=.fields #[.int lo t,.int hi u,.int 1 v]}).objs.size:=by simpa using hb
  subst e;exact I1.fpOk (PF _) (I1.hok.fresh (PF _))
def mT (ta:TA):TI:=λ σ H R=>ta σ H λ vs H1=> ∃j:Int,vs=[.int j]/\-(2 ^ 62)<=j/\j<2 ^ 62/\R (J0 0 j.toNat) H1
theorem v4 {a:Expr}{ta:TA}{p pos:Pos}(hg:Gl X "range") (hm:X.mg "range"=none) (ha:PA X [a] ta) (hs:starEach [a] X.env=[(false,eval a X.env)]:=by rfl):PI X tg (.Call (.Name "range" p) [a] [] pos) (mT ta):=by
 intro pins s σ H R I h;refine Call_ (iQ I hg hm boot_range (PyProof.Rows.callWith_type1 (bL (ha pos pins s σ H _ I h) λ us s1 ⟨vs,H1,I1,r1,q1⟩=>?_) hs rfl));obtain ⟨j,e,q1,q2,q⟩:=q1;subst e;cases r1 with
 | cons r rr=>
   cases rr;obtain ⟨t,rfl⟩:=r;exact call_range_1 (zT I1 (by lia) (by lia) q1 q2 (by simpa using q))
def tFor (wi:TI) (g:TG) (tb:TS):TS:=λ D σ H=>wi σ H λ J H1=> ∃W:Nat->Nat->St->Hp->Prop,(∃m,W 0 m σ H1)/\∀i m σ H,W i m σ H->
 (J.stop i H/\D.nx σ H)\/(J.go i H/\∃N:St->Hp->Prop,(∀σ' H',N σ' H'->∃m',m'<m/\W (i+1) m' σ' H')/\∀x H',J.yld i H x H'->g x σ H' λ σ2 H2=>tb {D with nx:=N,ct:=N,bk:=D.nx} σ2 H2)
def g9 (fp:List Addr) (h:Heap):List (Addr×Obj):=fp.filterMap λ b=>(h.get? b).map λ o=>(b,o)
theorem gr {fp:List Addr}{h:Heap}{b:Addr}{o:Obj}(hb:b∈fp) (e:h.get? b=some o):(b,o)∈g9 fp h:=OL.mpr ⟨b,hb,by rw [e];rfl⟩
theorem mI {fp:List Addr}{h:Heap}{p:Addr×Obj}(hp:p∈g9 fp h):p.1∈fp/\h.get? p.1=some p.2:=by
 obtain ⟨b,hb,e⟩:=OL.mp hp;cases q:h.get? b with
 | none=>rw [q] at e;cases e
 | some o=>
   rw [q] at e;have e':(b,o)=p:=Option.some.inj e;subst e';exact ⟨hb,q⟩
theorem aH.pinned {pins:List (Addr×Obj)}{σ:St}{H:Hp}{s:Shared}{fp:List Addr}(I:aH X pins σ H s) (hf:∀b∈fp,ii X pins H b) (ho:∀b∈fp,∃o,s.heap.get? b=some o/\∀v,o.data≠.cell v):aH X (pins++g9 fp s.heap) σ H s:=
 I.pins_of λ p hp=>(Oc.mp hp).elim (λ z=>I.pin p (Oi _ z)) λ z=>by obtain ⟨hb,e⟩:=mI z;obtain ⟨f0,f1,f2,_⟩:=hf p.1 hb;obtain ⟨o,e',d⟩:=ho p.1 hb;rw [e] at e';cases e';exact ⟨e,f0,f1,f2,d⟩
theorem aH.unpinned {pins pl:List (Addr×Obj)}{σ:St}{H:Hp}{s:Shared}(I:aH X (pins++pl) σ H s):aH X pins σ H s:=I.pins_of λ p hp=>I.pin p (Oi _ (Ox _ hp))
theorem fF {iter:Expr}{body:List Stmt}{wi:TI}{g:TG}{tb:TS}{pos:Pos}(hp:PassesOwn (model X.prog X.w) X.A X.env X.xe) (hc:X.calm=true) (hi:PI X tg iter wi) (hg:PG X tg g) (hb:vy X body tb)
  (hs:∀x,foldedSetIterable iter X.env x=pure x:=by intro _;rfl):PS X (.For tg iter body [] pos) (tFor wi g tb):=by
 intro pins s σ H D I h;refine wpAny_For (bL (hi pins s σ H _ I h) λ v s1 h1=>bL h1 λ itv s2 h2=>?_) hs;obtain ⟨it,fp,tn,J,H2,e,I2,T,st2,f2,W,⟨m0,w0⟩,turn⟩:=h2;subst e;have stat:∀{H':Hp},(∀b∈fp,H' b=none)->∀b∈fp,ii X pins H' b:=λ hn b hb=>⟨hn b hb,(f2 b hb).2⟩;refine codeAny_forLoop_any (λ n s'=> ∃i σ' H',aH X pins σ' H' s'/\tn i s'.heap/\(∀b∈fp,H' b=none)/\W i n σ' H') ?_ m0 ⟨0,σ,H2,I2,st2,λ b hb=>(f2 b hb).1,w0⟩;rintro n s3 ⟨i,σ3,H3,I3,st3,fr3,w3⟩
 rcases turn i n σ3 H3 w3 with ⟨stop,qn⟩ | ⟨go,N,hN,step⟩
 ·refine wpAny_passesOwn hp (bL (T.done X rfl rfl rfl hc i pins s3 σ3 H3 X.xe I3 (stat fr3) st3 stop) λ r s4 ⟨hr,I4⟩=>?_);subst hr;exact wpAny_execs_nil ⟨σ3,H3,I4,qn⟩
 ·refine wpAny_passesOwn hp (bL (T.item X rfl rfl rfl hc i pins s3 σ3 H3 X.xe I3 (stat fr3) st3 go) λ r s4 ⟨u,hr,h4⟩=>?_);subst hr;refine wpAny_passesOwn hp (bL h4 λ _ s5 ⟨x,H5,I5,r5,y5,st5,fr5⟩=>?_);have I5':=I5.pinned (stat fr5) (T.obj _ _ st5);refine wpAny_passesOwn hp (bL (hg _ s5 σ3 H5 x u _ I5' r5 (step x H5 y5)) λ _ s6 ⟨σ6,H6,I6,q6⟩=>?_);refine wpAny_passesOwn hp (bL (hb _ s6 σ6 H6 _ I6 q6) λ f s7 q7=>?_);have again:∀{σ7:St} {H7:Hp},aH X (pins++g9 fp s5.heap) σ7 H7 s7->N σ7 H7->∃m,m<n/\∃i σ' H',aH X pins σ' H' s7/\tn i s7.heap/\(∀b∈fp,H' b=none)/\W i m σ' H':=λ {σ7 H7} I7 n7=>by obtain ⟨m',hm,w7⟩:=hN σ7 H7 n7;refine ⟨m',hm,i+1,σ7,H7,I7.unpinned,T.keep _ _ _ st5 λ b hb o e=>(I7.pin (b,o) (Oi _ (Oi _ (gr hb e)))).1,λ b hb=>?_,w7⟩;obtain ⟨o,e,d⟩:=T.obj _ _ st5 b hb;exact (I7.pin (b,o) (Oi _ (Oi _ (gr hb e)))).2.1
  cases f with
  | next=>obtain ⟨σ7,H7,I7,n7⟩:=q7;exact again I7 n7
  | cont=>obtain ⟨σ7,H7,I7,n7⟩:=q7;exact again I7 n7
  | brk=>obtain ⟨σ7,H7,I7,q7⟩:=q7;exact ⟨σ7,H7,I7.unpinned,q7⟩
  | ret v=>obtain ⟨x7,σ7,H7,I7,r7,q7⟩:=q7;exact ⟨x7,σ7,H7,I7.unpinned,r7,q7⟩
end
theorem AW {K:Frag}{a:Addr}{xs:List V}{g:TG}{tb:TS}{D:dC}{σ:St}{H:Hp}(Pv:Nat->St->Hp->Prop) (h0:Pv 0 σ H) (hl:∀i σ H,i<=xs.length->Pv i σ H->aK K H a xs)
  (hs:∀i x σ H,xs[i]? =some x->Pv i σ H->g x σ H λ σ2 H2=>tb {D with nx:=Pv (i+1),ct:=Pv (i+1),bk:=D.nx} σ2 H2) (hd:∀σ H,Pv xs.length σ H->D.nx σ H):
  ∃W:Nat->Nat->St->Hp->Prop,(∃m,W 0 m σ H)/\∀i m σ H,W i m σ H->
   ((Ha K a).stop i H/\D.nx σ H)\/((Ha K a).go i H/\∃N:St->Hp->Prop,(∀σ' H',N σ' H'->∃m',m'<m/\W (i+1) m' σ' H')/\∀x H',(Ha K a).yld i H x H'->g x σ H' λ σ2 H2=>tb {D with nx:=N,ct:=N,bk:=D.nx} σ2 H2):=by
 refine ⟨λ i m σ H=>m=xs.length - i/\i<=xs.length/\Pv i σ H,⟨xs.length,by simp,PJ _,h0⟩,?_⟩;rintro i m σ H ⟨rfl,hi,p⟩;have q:=hl i σ H hi p
 by_cases hlt:i<xs.length
 ·refine .inr ⟨⟨xs,xs[i],q,by simp [hlt]⟩,Pv (i+1),λ σ' H' p'=>⟨xs.length - (i+1),by lia,rfl,hlt,p'⟩,λ x H' y=>?_⟩;obtain ⟨e,y⟩:=y;subst e;exact hs i x σ _ (y xs q) p
 ·have e:i=xs.length:=by lia
  subst e;exact .inl ⟨⟨xs,q,PF _⟩,hd σ H p⟩
theorem wF {lo:Int}{n:Nat}{g:TG}{tb:TS}{D:dC}{σ:St}{H:Hp}(Pv:Nat->St->Hp->Prop) (h0:Pv 0 σ H)
  (hs:∀i σ H,i<n->Pv i σ H->g (.int (lo+i)) σ H λ σ2 H2=>tb {D with nx:=Pv (i+1),ct:=Pv (i+1),bk:=D.nx} σ2 H2) (hd:∀σ H,Pv n σ H->D.nx σ H):
  ∃W:Nat->Nat->St->Hp->Prop,(∃m,W 0 m σ H)/\∀i m σ H,W i m σ H->
   ((J0 lo n).stop i H/\D.nx σ H)\/((J0 lo n).go i H/\∃N:St->Hp->Prop,(∀σ' H',N σ' H'->∃m',m'<m/\W (i+1) m' σ' H')/\∀x H',(J0 lo n).yld i H x H'->g x σ H' λ σ2 H2=>tb {D with nx:=N,ct:=N,bk:=D.nx} σ2 H2):=by
 refine ⟨λ i m σ H=>m=n - i/\i<=n/\Pv i σ H,⟨n,by simp,PJ _,h0⟩,?_⟩;rintro i m σ H ⟨rfl,hi,p⟩
 by_cases hlt:i<n
 ·refine .inr ⟨hlt,Pv (i+1),λ σ' H' p'=>⟨n - (i+1),by lia,rfl,hlt,p'⟩,λ x H' y=>?_⟩;obtain ⟨e,y⟩:=y;subst e y;exact hs i σ _ hlt p
 ·have e:i=n:=by lia
  subst e;exact .inl ⟨PF _,hd σ H p⟩
end L2
namespace L2
open PySem PySem.Spec PyProof.Rows
abbrev R2:=V->V->Hp->VK->Prop
def iJ (X:Cx) (f:Value->Value->Sem Value) (r:R2):Prop:=
 ∀(pins:List (Addr×Obj)) (s:Shared) (σ:St) (H:Hp) (x y:V) (v u:Value) (Q:VK),aH X pins σ H s->aL x v->aL y u->r x y H Q->
  wpAny (model X.prog X.w) X.A (f v u) (EP X pins σ Q) X.xe s
def NU (X:Cx) (f:Value->Sem Value) (r:V->Hp->VK->Prop):Prop:=
 ∀(pins:List (Addr×Obj)) (s:Shared) (σ:St) (H:Hp) (x:V) (v:Value) (Q:VK),aH X pins σ H s->aL x v->r x H Q->
  wpAny (model X.prog X.w) X.A (f v) (EP X pins σ Q) X.xe s
def aY (X:Cx) (f:Value) (r:List V->Hp->VK->Prop):Prop:=
 ∀(pins:List (Addr×Obj)) (s:Shared) (σ:St) (H:Hp) (xs:List V) (us:List Value) (Q:VK),aH X pins σ H s->aP xs us->r xs H Q->
  wpAny (model X.prog X.w) X.A (call f us) (EP X pins σ Q) X.xe s
def NV (X:Cx) (r:V->Hp->(Bool->Hp->Prop)->Prop):Prop:=
 ∀(pins:List (Addr×Obj)) (s:Shared) (σ:St) (H:Hp) (x:V) (v:Value) (Q:Bool->Hp->Prop),aH X pins σ H s->aL x v->r x H Q->
  wpAny (model X.prog X.w) X.A (truthy v) (TP X pins σ Q) X.xe s
def Nw (r:R2) (ta tb:TE):TE:=λ σ H Q=>ta σ H λ x H1=>tb σ H1 λ y H2=>r x y H2 Q
def rI (C:Int->Int->Prop) (g:Int->Int->V):R2:=λ x y H Q=> ∃i j,x=.int i/\y=.int j/\C i j/\Q (g i j) H
def GB (g:Int->Int->V):R2:=λ x y H Q=> ∃i j,x=.int i/\y=.int j/\Q (g i j) H
def rU (g:Int->V):V->Hp->VK->Prop:=λ x H Q=> ∃i,x=.int i/\Q (g i) H
section
variable {X:Cx}{a b c:Expr}{ta tb tc:TE}{pos:Pos}
theorem JK (ha:PE X a ta) (hb:PE X b tb) {pins:List (Addr×Obj)}{s:Shared}{σ:St}{H:Hp}{R:V->V->Hp->Prop}(I:aH X pins σ H s)
  (h:ta σ H λ x H1=>tb σ H1 λ y H2=>R x y H2) {Q:Value->Shared->Prop} {f:Value->Value->Sem Value}
  (hf:∀v u s2 x y H2,aH X pins σ H2 s2->aL x v->aL y u->R x y H2->wpAny (model X.prog X.w) X.A (f v u) Q X.xe s2):
  wpAny (model X.prog X.w) X.A (eval a X.env) (λ v s₁=>wpAny (model X.prog X.w) X.A (eval b X.env) (λ u s₂=>wpAny (model X.prog X.w) X.A (f v u) Q X.xe s₂) X.xe s₁) X.xe s:=by
 refine bL (ha pins s σ H _ I h) λ v s1 ⟨x,H1,I1,r1,q1⟩=>?_;refine bL (hb pins s1 σ H1 _ I1 q1) λ u s2 ⟨y,H2,I2,r2,q2⟩=>?_;exact hf v u s2 x y H2 I2 r1 r2 q2
theorem Mf {op:Operator}{r:R2}(ho:iJ X (binaryOp op) r) (ha:PE X a ta) (hb:PE X b tb):PE X (.BinOp a op b pos) (Nw r ta tb):=by intro pins s σ H Q I h;exact wpAny_BinOp (JK ha hb I h λ v u s2 x y H2 I2 rx ry q=>ho pins s2 σ H2 x y v u Q I2 rx ry q)
theorem Nm {f:Value->Value->Sem Value}{C:Int->Int->Prop}{g:Int->Int->Int}
  (rule:∀(i j:Int) (t u:Tok) (s:Shared) (Q:Value->Shared->Prop) (E:Value->Shared->Prop),C i j->Q (.int (g i j) s.toks) {s with toks:=s.toks+1}->wpAny (model X.prog X.w) X.A (f (.int i t) (.int j u)) Q E s):
  iJ X f (rI C λ i j=>.int (g i j)):=by
 intro pins s σ H x y v u Q I rx ry h;obtain ⟨i,j,rfl,rfl,hc,q⟩:=h;obtain ⟨t,rfl⟩:=rx;obtain ⟨t',rfl⟩:=ry;exact rule i j t t' s _ _ hc ⟨.int (g i j),H,I.tok _,⟨_,rfl⟩,q⟩
theorem Mp {f:Value->Value->Sem Value}{g:Int->Int->Int}
  (rule:∀(i j:Int) (t u:Tok) (s:Shared) (Q:Value->Shared->Prop) (E:Value->Shared->Prop),Q (.int (g i j) s.toks) {s with toks:=s.toks+1}->wpAny (model X.prog X.w) X.A (f (.int i t) (.int j u)) Q E s):
  iJ X f (GB λ i j=>.int (g i j)):=by
 intro pins s σ H x y v u Q I rx ry h;obtain ⟨i,j,rfl,rfl,q⟩:=h;obtain ⟨t,rfl⟩:=rx;obtain ⟨t',rfl⟩:=ry;exact rule i j t t' s _ _ ⟨.int (g i j),H,I.tok _,⟨_,rfl⟩,q⟩
theorem Cb {f:Value->Value->Sem Value}{g:Int->Int->Bool}
  (rule:∀(i j:Int) (t u:Tok) (s:Shared) (Q:Value->Shared->Prop) (E:Value->Shared->Prop),Q (.bool (g i j)) s->wpAny (model X.prog X.w) X.A (f (.int i t) (.int j u)) Q E s):
  iJ X f (GB λ i j=>.bl (g i j)):=by
 intro pins s σ H x y v u Q I rx ry h;obtain ⟨i,j,rfl,rfl,q⟩:=h;obtain ⟨t,rfl⟩:=rx;obtain ⟨t',rfl⟩:=ry;exact rule i j t t' s _ _ ⟨.bl (g i j),H,I,rfl,q⟩
def JV (i j:Int):Prop:=0<j/\j<1073741824
def Ni (i j:Int):Prop:=0<=j/\j<=1000000/\i.natAbs<2 ^ 64
def By (i j:Int):Prop:=(-(2 ^ 64)<i/\i<2 ^ 64)\/(-(2 ^ 64)<j/\j<2 ^ 64)
theorem By.ok {i j:Int}(h:By i j):IntMulOk i j:=by
 rcases h with ⟨h1,h2⟩ | ⟨h1,h2⟩
 ·exact .of_left (intBits_le_64 h1 h2)
 ·exact .of_right (intBits_le_64 h1 h2)
theorem IX:iJ X (binaryOp .Add) (GB λ i j=>.int (i+j)):=Mp λ _ _ _ _ _ _ _ q=>add_int q
theorem IO:iJ X (binaryOp .Sub) (GB λ i j=>.int (i - j)):=Mp λ _ _ _ _ _ _ _ q=>sub_int q
theorem IR:iJ X (binaryOp .Mult) (rI By λ i j=>.int (i*j)):=Nm λ _ _ _ _ _ _ _ hc q=>mul_int q hc.ok
theorem Ca:iJ X (binaryOp .FloorDiv) (rI JV λ i j=>.int (i / j)):=Nm λ i j _ _ _ _ _ hc q=>by have h1:(0:Int)<j:=hc.1;have h2:j<1073741824:=hc.2;exact floordiv_int (by lia) (by rw [Int.fdiv_eq_ediv_of_nonneg i (by lia)];exact q) (.inl (PyProof.noPylong_small (by lia)))
theorem IS:iJ X (binaryOp .Mod) (rI (λ _ j=>0<j) λ i j=>.int (i % j)):=Nm λ i j _ _ _ _ _ hc q=>by have h1:(0:Int)<j:=hc;exact mod_int' (by lia) (by rw [Int.fmod_eq_emod_of_nonneg i (by lia)];exact q)
theorem IP:iJ X (binaryOp .Pow) (rI Ni λ i j=>.int (i ^ j.toNat)):=Nm λ _ _ _ _ _ _ _ hc q=>pow_int_small hc.1 hc.2.1 hc.2.2 q
theorem unI {f:Value->Sem Value}{g:Int->Int}
  (rule:∀(i:Int) (t:Tok) (s:Shared) (Q:Value->Shared->Prop) (E:Value->Shared->Prop),Q (.int (g i) s.toks) {s with toks:=s.toks+1}->wpAny (model X.prog X.w) X.A (f (.int i t)) Q E s):
  NU X f (rU λ i=>.int (g i)):=by
 intro pins s σ H x v Q I rx h;obtain ⟨i,rfl,q⟩:=h;obtain ⟨t,rfl⟩:=rx;exact rule i t s _ _ ⟨.int (g i),H,I.tok _,⟨_,rfl⟩,q⟩
theorem Ih:NU X (unaryOp .USub) (rU λ i=>.int (-i)):=unI λ _ _ _ _ _ q=>neg_int q
end
def scal:V->V->Bool
 | .non,.non=>true | .non,.int _=>true | .int _,.non=>true | .non,.bl _=>true | .bl _,.non=>true | .non,.str _=>true | .str _,.non=>true
 | .int _,.int _=>true | .bl _,.bl _=>true | .str _,.str _=>true | .byt _,.byt _=>true
 | .int _,.str _=>true | .str _,.int _=>true | .bl _,.str _=>true | .str _,.bl _=>true
 | _,_=>false
def rEq:R2:=λ x y H Q=>scal x y=true/\Q (.bl (decide (x=y))) H
def rNe:R2:=λ x y H Q=>scal x y=true/\Q (.bl (!decide (x=y))) H
theorem vk {i j:Int}:decide (V.int i=V.int j)=(i == j):=by rw [Qq];simp
theorem dec_bl {i j:Bool}:decide (V.bl i=V.bl j)=(i == j):=by rw [Qq];simp
theorem vj {i j:Str}:decide (V.str i=V.str j)=(i == j):=by rw [Qq];simp
theorem vm {i j:Array UInt8}:decide (V.byt i=V.byt j)=(i.toList == j.toList):=by rw [Qq];cases i;cases j;simp
section
variable {X:Cx}{a b c:Expr}{ta tb tc:TE}{pos:Pos}
theorem fin_bl {pins:List (Addr×Obj)}{σ:St}{H:Hp}{s:Shared}{Q:VK}{k k':Bool}(I:aH X pins σ H s) (q:Q (.bl k) H) (e:k=k'):EP X pins σ Q (.bool k') s:=by subst e;exact ⟨.bl k,H,I,rfl,q⟩
theorem Mo:iJ X (compareOp .Eq) rEq:=by
 intro pins s σ H x y v u Q I rx ry h;obtain ⟨hs,q⟩:=h;cases x with
 | non=>
   cases rx;cases y with
   | non=>cases ry;exact PySem.EqNone.eq_none_none (fin_bl I q (by simp))
   | bl j=>cases ry;exact PySem.EqNone.eq_none_bool (fin_bl I q (by simp))
   | int j=>obtain ⟨t',rfl⟩:=ry;exact PySem.EqNone.eq_none_int (fin_bl I q (by simp))
   | str j=>obtain ⟨t',rfl⟩:=ry;exact PySem.EqNone.eq_none_str (fin_bl I q (by simp))
   | _=>exact absurd (show false=true from hs) Qo
 | bl i=>
   cases rx;cases y with
   | non=>cases ry;exact PySem.EqNone.eq_bool_none (fin_bl I q (by simp))
   | bl j=>cases ry;exact eq_bool (fin_bl I q dec_bl)
   | str j=>obtain ⟨t',rfl⟩:=ry;exact PySem.EqMixed.eq_bool_str (fin_bl I q (by simp))
   | _=>exact absurd (show false=true from hs) Qo
 | int i=>
   obtain ⟨t,rfl⟩:=rx;cases y with
   | non=>cases ry;exact PySem.EqNone.eq_int_none (fin_bl I q (by simp))
   | int j=>obtain ⟨t',rfl⟩:=ry;exact eq_int (fin_bl I q vk)
   | str j=>obtain ⟨t',rfl⟩:=ry;exact PySem.EqMixed.eq_int_str (fin_bl I q (by simp))
   | _=>exact absurd (show false=true from hs) Qo
 | str i=>
   obtain ⟨t,rfl⟩:=rx;cases y with
   | non=>cases ry;exact PySem.EqNone.eq_str_none (fin_bl I q (by simp))
   | bl j=>cases ry;exact PySem.EqMixed.eq_str_bool (fin_bl I q (by simp))
   | int j=>obtain ⟨t',rfl⟩:=ry;exact PySem.EqMixed.eq_str_int (fin_bl I q (by simp))
   | str j=>obtain ⟨t',rfl⟩:=ry;exact eq_str (fin_bl I q vj)
   | _=>exact absurd (show false=true from hs) Qo
 | byt i=>
   obtain ⟨t,rfl⟩:=rx;cases y with
   | byt j=>obtain ⟨t',rfl⟩:=ry;exact PySem.W.eq_bytes (fin_bl I q vm)
   | _=>exact absurd (show false=true from hs) Qo
 | _=>cases y<;>exact absurd (show false=true from hs) Qo
theorem Mi:iJ X (compareOp .NotEq) rNe:=by
 intro pins s σ H x y v u Q I rx ry h;obtain ⟨hs,q⟩:=h;cases x with
 | non=>
   cases rx;cases y with
   | non=>cases ry;exact PySem.EqNone.ne_none_none (fin_bl I q (by simp))
   | bl j=>cases ry;exact PySem.EqNone.ne_none_bool (fin_bl I q (by simp))
   | int j=>obtain ⟨t',rfl⟩:=ry;exact PySem.EqNone.ne_none_int (fin_bl I q (by simp))
   | str j=>obtain ⟨t',rfl⟩:=ry;exact PySem.EqNone.ne_none_str (fin_bl I q (by simp))
   | _=>exact absurd (show false=true from hs) Qo
 | bl i=>
   cases rx;cases y with
   | non=>cases ry;exact PySem.EqNone.ne_bool_none (fin_bl I q (by simp))
   | bl j=>cases ry;exact ne_bool (fin_bl I q (congrArg not dec_bl))
   | str j=>obtain ⟨t',rfl⟩:=ry;exact PySem.EqMixed.ne_bool_str (fin_bl I q (by simp))
   | _=>exact absurd (show false=true from hs) Qo
 | int i=>
   obtain ⟨t,rfl⟩:=rx;cases y with
   | non=>cases ry;exact PySem.EqNone.ne_int_none (fin_bl I q (by simp))
   | int j=>obtain ⟨t',rfl⟩:=ry;exact ne_int (fin_bl I q (congrArg not vk))
   | str j=>obtain ⟨t',rfl⟩:=ry;exact PySem.EqMixed.ne_int_str (fin_bl I q (by simp))
   | _=>exact absurd (show false=true from hs) Qo
 | str i=>
   obtain ⟨t,rfl⟩:=rx;cases y with
   | non=>cases ry;exact PySem.EqNone.ne_str_none (fin_bl I q (by simp))
   | bl j=>cases ry;exact PySem.EqMixed.ne_str_bool (fin_bl I q (by simp))
   | int j=>obtain ⟨t',rfl⟩:=ry;exact PySem.EqMixed.ne_str_int (fin_bl I q (by simp))
   | str j=>obtain ⟨t',rfl⟩:=ry;exact ne_str (fin_bl I q (congrArg not vj))
   | _=>exact absurd (show false=true from hs) Qo
 | byt i=>
   obtain ⟨t,rfl⟩:=rx;cases y with
   | byt j=>obtain ⟨t',rfl⟩:=ry;exact PySem.W.ne_bytes (fin_bl I q (congrArg not vm))
   | _=>exact absurd (show false=true from hs) Qo
 | _=>cases y<;>exact absurd (show false=true from hs) Qo
theorem Mj:iJ X (compareOp .Lt) (GB λ i j=>.bl (decide (i<j))):=Cb λ _ _ _ _ _ _ _ q=>lt_int q
theorem Ml:iJ X (compareOp .LtE) (GB λ i j=>.bl (decide (i<=j))):=Cb λ _ _ _ _ _ _ _ q=>le_int q
theorem Mm:iJ X (compareOp .Gt) (GB λ i j=>.bl (decide (j<i))):=Cb λ _ _ _ _ _ _ _ q=>gt_int q
theorem Mn:iJ X (compareOp .GtE) (GB λ i j=>.bl (decide (j<=i))):=Cb λ _ _ _ _ _ _ _ q=>ge_int q
theorem v7:iJ X (compareOp .Lt) (λ x y H Q=> ∃i j,x=.str i/\y=.str j/\Q (.bl (decide (i.cps.toList<j.cps.toList))) H):=by intro pins s σ H x y v u Q I rx ry h;obtain ⟨i,j,rfl,rfl,q⟩:=h;obtain ⟨t,rfl⟩:=rx;obtain ⟨t',rfl⟩:=ry;exact lt_str (fin_bl I q rfl)
theorem v9:iJ X (compareOp .In) (λ x y H Q=> ∃i j,x=.str i/\y=.str j/\Q (.bl (!(Builtin.Str.occurrences j i 0 j.length 1).isEmpty)) H):=by intro pins s σ H x y v u Q I rx ry h;obtain ⟨i,j,rfl,rfl,q⟩:=h;obtain ⟨t,rfl⟩:=rx;obtain ⟨t',rfl⟩:=ry;exact in_str (fin_bl I q rfl)
theorem IT:iJ X (compareOp .Is) (λ x y H Q=>y=.non/\Q (.bl (decide (x=.non))) H):=by
 intro pins s σ H x y v u Q I rx ry h;obtain ⟨rfl,q⟩:=h;cases ry;refine is_none_gen (fin_bl I q ?_);cases x<;>first
  | (cases rx;rfl)
  | (obtain ⟨t,rfl⟩:=rx;rfl)
theorem B9:iJ X (compareOp .IsNot) (λ x y H Q=>y=.non/\Q (.bl (!decide (x=.non))) H):=by
 intro pins s σ H x y v u Q I rx ry h;obtain ⟨rfl,q⟩:=h;cases ry;refine isnot_none_gen (fin_bl I q ?_);cases x<;>first
  | (cases rx;rfl)
  | (obtain ⟨t,rfl⟩:=rx;rfl)
theorem n4:iJ X (compareOp .NotIn) (λ x y H Q=> ∃i j,x=.str i/\y=.str j/\Q (.bl (!(!(Builtin.Str.occurrences j i 0 j.length 1).isEmpty))) H):=by intro pins s σ H x y v u Q I rx ry h;obtain ⟨i,j,rfl,rfl,q⟩:=h;obtain ⟨t,rfl⟩:=rx;obtain ⟨t',rfl⟩:=ry;exact notIn_str (fin_bl I q rfl)
theorem oE (b:Expr) {op:CmpOp}(h:op≠.In:=by decide) (h2:op≠.NotIn:=by decide):behindInMarks op b=false:=by
 have e1:(op == CmpOp.In)=false:=by cases op<;>first | rfl | exact absurd rfl h
 have e2:(op == CmpOp.NotIn)=false:=by cases op<;>first | rfl | exact absurd rfl h2
 cases b<;>simp [behindInMarks,e1,e2]
theorem B6 {op:CmpOp}{r:R2}(ho:iJ X (compareOp op) r) (ha:PE X a ta) (hb:PE X b tb) (hm:behindInMarks op b=false):PE X (.Compare a [op] [b] pos) (Nw r ta tb):=by intro pins s σ H Q I h;exact wpAny_Compare1 (JK ha hb I h λ v u s2 x y H2 I2 rx ry q=>ho pins s2 σ H2 x y v u Q I2 rx ry q) hm
def C2 (K:Frag) (x:V) (H:Hp) (k:Bool):Prop:=
 match x with
 | .non=>k=false
 | .bl b=>k=b
 | .int i=>k=(i != 0)
 | .str y=>y.length<=sizeLine/\k=((y.length:Int) != 0)
 | .byt y=>y.size<=sizeLine/\k=((y.size:Int) != 0)
 | .ref p=>(∃xs,aK K H p xs/\k= !xs.isEmpty)\/(∃xs,cJ K H p xs/\k= !xs.isEmpty)\/∃kvs,H p=some (.dK kvs)/\k= !kvs.isEmpty
 | _=>False
theorem sZ {κ:Type}{kvs:List (κ×V)}{vs:List (κ×Value)}(r:KV kvs vs):(!vs.isEmpty)= !kvs.isEmpty:=by cases r<;>rfl
theorem lH {xs:List V}{its:List Value}(r:aP xs its):(!its.toArray.isEmpty)= !xs.isEmpty:=by cases r<;>simp
theorem iP:(sizeLine:Nat)<2 ^ 63:=by rw [sizeLine_eq];decide
theorem Ij:NV X (λ x H Q=> ∃k,C2 X.K x H k/\Q k H):=by
 intro pins s σ H x v Q I rx h;obtain ⟨k,e,q⟩:=h;have hl:=iP;have hs:sizeLine=16777216:=sizeLine_eq;cases x with
 | non=>
   cases rx;have e':k=false:=e;subst e';exact truthy_none ⟨H,I,q⟩
 | bl b=>
   cases rx;have e':k=b:=e;subst e';exact wpAny_truthy_bool ⟨H,I,q⟩
 | int i=>
   obtain ⟨t,rfl⟩:=rx;have e':k=(i != 0):=e;subst e';exact PySem.P.truthy_int ⟨H,I,q⟩
 | str y=>
   obtain ⟨t,rfl⟩:=rx;obtain ⟨hy,e'⟩:y.length<=sizeLine/\k=((y.length:Int) != 0):=e;subst e';exact PySem.P.truthy_str (by lia) ⟨H,I.tok _,q⟩
 | byt y=>
   obtain ⟨t,rfl⟩:=rx;obtain ⟨hy,e'⟩:y.size<=sizeLine/\k=((y.size:Int) != 0):=e;subst e';exact PySem.W.truthy_bytes (by lia) ⟨H,I.tok _,q⟩
 | ref p=>
   cases rx;have e':(∃xs,aK X.K H p xs/\k= !xs.isEmpty)\/(∃xs,cJ X.K H p xs/\k= !xs.isEmpty)\/∃kvs,H p=some (.dK kvs)/\k= !kvs.isEmpty:=e
   rcases e' with ⟨xs,hx,e'⟩ | ⟨xs,hx,e'⟩ | ⟨kvs,hx,e'⟩
   ·subst e';obtain ⟨its,r,pl,hz⟩:=I.list hx;have hlen:=r.length;exact wpAny_truthy_list pl.isList (by simp only [N4];lia) ⟨H,I.tok _,by rw [lH r];exact q⟩
   ·subst e';obtain ⟨its,r,pl,hz⟩:=I.tuple hx;have hlen:=r.length;exact truthy_tuple pl (by simp only [N4];lia) ⟨H,I.tok _,by rw [lH r];exact q⟩
   ·subst e';obtain ⟨hz,hS,vs,r,m⟩:kvs.length<=sizeLine/\(p == sysModules)=false/\∃vs,KV kvs vs/\s.heap.DictOf (mixKind X.prog X.w) p vs:=I.hok p _ hx;have hlen:kvs.length=vs.length:=Paired.length r;exact wpAny_truthy_dict hS m (by lia) ⟨H,I.tok _,by rw [sZ r];exact q⟩
 | _=>exact (show False from e).elim
theorem zY (ha:PE X a ta) (he:∀whole,isTrue a X.env whole=(do let v<-whole;standAt a.pos;holding [v] (truthy v))):
  PT X a (λ σ H Q=>ta σ H λ x H'=> ∃k,C2 X.K x H' k/\Q k H'):=by
 intro pins s σ H Q I h;exact isTrue_plain (bL (ha pins s σ H _ I h) λ v s1 ⟨x,H1,I1,r1,q1⟩=>Ij pins s1 σ H1 x v Q I1 r1 q1) (he _)
theorem su:iJ X (binaryOp .Add) (λ x y H Q=> ∃i j,x=.str i/\y=.str j/\i.length+j.length<=sizeLine/\Q (.str (i++j)) H):=by intro pins s σ H x y v u Q I rx ry h;obtain ⟨i,j,rfl,rfl,hz,q⟩:=h;obtain ⟨t,rfl⟩:=rx;obtain ⟨t',rfl⟩:=ry;exact add_str (λ t' tk=>⟨.str (i++j),H,I.tok _,⟨_,rfl⟩,q⟩) hz
theorem dw {x:V}{us:List Value}(r:aP [x] us):∃u,us=[u]/\aL x u:=by
 cases r with
 | cons r1 r2=>cases r2;exact ⟨_,rfl,r1⟩
theorem Go {x y:V}{us:List Value}(r:aP [x,y] us):∃u w',us=[u,w']/\aL x u/\aL y w':=by
 cases r with
 | cons r1 r2=>
   cases r2 with
   | cons r3 r4=>cases r4;exact ⟨_,_,rfl,r1,r3⟩
theorem wQ:aY X (.type "int") (λ xs H Q=>(∃i,xs=[.int i]/\Q (.int i) H)\/∃k,xs=[.bl k]/\Q (.int (if k then 1 else 0)) H):=by
 intro pins s σ H xs us Q I r h
 rcases h with ⟨i,rfl,q⟩ | ⟨k,rfl,q⟩
 ·obtain ⟨u,rfl,t,rfl⟩:=dw r;exact call_int_int ⟨.int i,H,I,⟨_,rfl⟩,q⟩
 ·obtain ⟨u,rfl,r1⟩:=dw r;cases r1;exact call_int_bool ⟨.int (if k then 1 else 0),H,I.tok _,⟨_,rfl⟩,q⟩
end
end L2
namespace L2
open PySem PySem.Spec PyProof.Rows
structure ue (h:Heap) (x dx C:Addr) (mA:Str->Option Value):Prop where
 obj:h.get? x=some (QU C dx)
 ns:h.Ns1 dx mA
 ne:dx≠x
theorem wo {h:Heap}{dx:Addr}{mA:Str->Option Value}(n:h.Ns1 dx mA):∃od,h.get? dx=some od/\∀name,QX name od=some (mA name):=by
 obtain ⟨o,es,ep,ho,hd,hk,_,hm⟩:=n;refine ⟨o,ho,λ name=>?_⟩;have e:=hm name;unfold nsFind findBy at e;rw [<-Array.find?_toList] at e;unfold QX;rw [hd];dsimp only;split
 ·rename_i y q;rw [q] at e;exact congrArg some e
 ·rename_i q;rw [q] at e;have a:es.toList.any (·.refKey)=false:=by rw [OM];intro y hy;obtain ⟨z,t,hkey⟩:=hk y (Array.mem_toList_iff.mp hy);simp [DictEntry.refKey,hkey]
  have a':¬es.toList.any (·.refKey)=true:=by rw [a];exact Qo
  rw [if_neg a'];exact congrArg some e
theorem ue.look {h:Heap}{x dx C:Addr}{mA:Str->Option Value}(I:ue h x dx C mA):∃od,PySem.W.InstAt h x (QU C dx) C (some od)/\∀name,QX name od=some (mA name):=
 let ⟨od,ho,hl⟩:=wo I.ns
 ⟨od,⟨I.obj,rfl,rfl,ho⟩,hl⟩
section
variable {prog:Program}{w:World}{A:Around}{E:Value->Shared->Prop}{s:Shared}{K:Frag}{x dx C f:Addr}{mA:Str->Option Value}{name:Str}{v:Value}
theorem Cu {expr:Bool}{Q:Value->Shared->Prop}(X:K.In s.heap) (I:ue s.heap x dx C mA) (hg:QV K C name=true) (hh:QW K C=true)
  (ha:QL K (.ref C) name=some none) (hv:mA name=some v) (hv':Rb v=true) (h:Q v {s with toks:=s.toks+1}):
  wpAny (model prog w) A (getAttr (.ref x) name expr) Q E s:=by
 obtain ⟨od,J,hl⟩:=I.look;exact PySem.W.get_value X J (Q7 hg).1 (PySem.W.findObj_own hh ha rfl (by rw [hl,hv])) hv' h
theorem AS {pl:Sem Bool}{Q:Value×List Value->Shared->Prop}(X:K.In s.heap) (I:ue s.heap x dx C mA) (hg:QV K C name=true)
  (hf:QL K (.ref C) name=some (some (.ref f))) (ht:QQ K (.ref f)=true) (hv:mA name=none) (h:Q (.ref f,[.ref x]) s):
  wpAny (model prog w) A (getMethod (.ref x) name pl) Q E s:=by
 obtain ⟨od,J,hl⟩:=I.look;exact PySem.W.method_fn X J (Q7 hg).1 (Q7 hg).2 hf (beq_iff_eq.mp ht) (by show (QX name od).map (·.isSome)=some false;rw [hl,hv];rfl) h
theorem BV {ns:List Str}{Q:Unit->Shared->Prop}(X:K.In s.heap) (I:ue s.heap x dx C mA)
  (hs:QL K (.ref C) "__setattr__"=some (some (.builtin "object.__setattr__"))) (hp:QY K C=true) (ht:Q8 K C name=some none) (hh:QW K C=true)
  (hw:PySem.Within mA ns) (hsz:ns.length<=sizeLine)
  (h:∀h',ue h' x dx C (λ y=>if y=name then some v else mA y)->Heap.SameBut dx s.heap h'->Q () {s with heap:=h',toks:=s.toks+2}):
  wpAny (model prog w) A (setAttr (.ref x) name v) Q E s:=by
 obtain ⟨od,J,hl⟩:=I.look;refine PySem.W.set_plain X J hs (PySem.W.osa_open (s:={s with toks:=s.toks+1}) (r:=none) X J hp ht λ b=>?_);obtain ⟨cd,hc,hd'⟩:=PySem.W.any_some hh;have hx:s.heap.get? x=some ⟨.ref C,some dx,.plain,#[]⟩:=I.obj;refine wpAny_bind (wpAny_pure (wpAny_bind (wpAny_bind (wpAny_loadPart hx (wpAny_bind (PySem.W.Looks.here (s:={s with toks:=s.toks+1}) (PySem.W.looks_clsIn X hc) ?_))))));rw [hd'];refine wpAny_pure (a:=some dx) (wpAny_bind (wpAny_pure (wpAny_bind ?_)));refine wpAny_nsSet1 (s:={s with toks:=s.toks+1}) I.ns λ h' hn2 hs2=>?_;obtain ⟨oD,esD,epD,hoD,hdD,hcD⟩:=hn2.count (PySem.Within.cons name v hw);refine wpAny_bind (wpAny_lookBehind hoD (by rw [hdD];exact pastItsLine_dict (PK hcD (by rw [Oh];lia))) ?_);exact wpAny_pure (h _ ⟨(hs2.2 _ (Ne.symm I.ne)).trans I.obj,hn2,I.ne⟩ hs2)
theorem At {R:Result->Shared->Prop}{vs:List Value}{kw:List (Str×Value)}(X:K.In s.heap) (hm:QZ K C=true)
  (hi:QL K (.ref C) "__init__"=some (some (.ref f))) (hf:PySem.W.typeIn K (.ref f)=some (.type "function"))
  (h:codeAny (model prog w) (A.under (.builtin "type.__call__" ⟨.ref C::vs,kw⟩)) (.call (.ref f) ⟨.ref (s.heap.objs.size+1)::vs,kw⟩) (PySem.W.InitBack (s.heap.objs.size+1) R)
   {s with heap:=(s.heap.push QS).push (QU C s.heap.objs.size)}):
  codeAny (model prog w) A (.call (.ref C) ⟨vs,kw⟩) R s:=by
 obtain ⟨hh,g,d,t,os⟩:=s;exact PySem.W.make_core (PySem.W.makes_of X hm) (PySem.W.looks_findIn X hi) (λ self=>PySem.W.bind_fn X self hf) (.inl rfl) h
end
def putF (f:Str) (v:V):List (Str×V)->List (Str×V)
 | []=>[(f,v)]
 | (g,x)::r=>if g=f then (g,v)::r else (g,x)::putF f v r
theorem au (f g:Str) (v:V):∀fs:List (Str×V),(putF f v fs).lookup g=if g=f then some v else fs.lookup g
 | []=>by
   show List.lookup g [(f,v)]=_
   by_cases h:g=f
   ·have hb:(g == f)=true:=beq_iff_eq.mpr h;simp only [List.lookup,hb,if_pos h]
   ·have hb:(g == f)=false:=beq_eq_false_iff_ne.mpr h;simp only [List.lookup,hb,if_neg h]
 | (k,x)::r=>by
   have ih:=au f g v r;rw [show putF f v ((k,x)::r)=(if k=f then (k,v)::r else (k,x)::putF f v r) from rfl]
   by_cases hk:k=f
   ·rw [if_pos hk]
    by_cases h:g=k
    ·have hb:(g == k)=true:=beq_iff_eq.mpr h;simp only [List.lookup,hb,if_pos (h.trans hk)]
    ·have hb:(g == k)=false:=beq_eq_false_iff_ne.mpr h;simp only [List.lookup,hb,if_neg (λ e:g=f=>h (e.trans hk.symm))]
   ·rw [if_neg hk]
    by_cases h:g=k
    ·have hb:(g == k)=true:=beq_iff_eq.mpr h;simp only [List.lookup,hb,if_neg (λ e:g=f=>hk (h.symm.trans e))]
    ·have hb:(g == k)=false:=beq_eq_false_iff_ne.mpr h;simp only [List.lookup,hb];exact ih
theorem jO (f:Str) (v:V):∀fs:List (Str×V),f∈(putF f v fs).map (·.1)/\∀g,g∈fs.map (·.1)->g∈(putF f v fs).map (·.1)
 | []=>⟨by simp [putF],λ g h=>by simp at h⟩
 | (k,x)::r=>by
   obtain ⟨i1,i2⟩:=jO f v r;rw [show putF f v ((k,x)::r)=(if k=f then (k,v)::r else (k,x)::putF f v r) from rfl]
   by_cases hk:k=f
   ·rw [if_pos hk];subst hk;exact ⟨by simp,λ g h=>by simpa using h⟩
   ·rw [if_neg hk];refine ⟨?_,λ g h=>?_⟩
    ·rw [Oj];exact N6 _ i1
    ·rw [Oj] at h ⊢
     rcases N1.mp h with e | e
     ·exact N1.mpr (.inl e)
     ·exact N6 _ (i2 g e)
theorem bG (f:Str) (v:V):∀fs:List (Str×V),(putF f v fs).length<=fs.length+1
 | []=>by simp [putF]
 | (k,x)::r=>by
   have ih:=bG f v r;rw [show putF f v ((k,x)::r)=(if k=f then (k,v)::r else (k,x)::putF f v r) from rfl]
   by_cases hk:k=f
   ·rw [if_pos hk,Oh,Oh];lia
   ·rw [if_neg hk,Oh,Oh];lia
theorem jU.some_of {v:V}{o:Option Value}(r:jU (some v) o):∃u,o=some u/\aL v u:=by
 cases o with
 | none=>exact (show False from r).elim
 | some u=>exact ⟨u,rfl,r⟩
theorem jU.none_of {o:Option Value}(r:jU none o):o=none:=by
 cases o with
 | none=>rfl
 | some u=>exact (show False from r).elim
theorem wB {v:V}{u:Value}(r:aL v u):Rb u=true:=by
 cases v with
 | non=>cases (show u=Value.none from r);rfl
 | bl b=>cases (show u=Value.bool b from r);rfl
 | int i=>obtain ⟨t,e⟩:=(show∃t,u=Value.int i t from r);cases e;rfl
 | str x=>obtain ⟨t,e⟩:=(show∃t,u=Value.str x t from r);cases e;rfl
 | byt b=>obtain ⟨t,e⟩:=(show∃t,u=Value.bytes b t from r);cases e;rfl
 | flt b=>obtain ⟨t,e⟩:=(show∃t,u=Value.float b t from r);cases e;rfl
 | ref a=>cases (show u=Value.ref a from r);rfl
 | ty n=>cases (show u=Value.type n from r);rfl
section
variable {P:Program}{w:World}{H H':Hp}{h h':Heap}{a C dx:Addr}{fs fs':List (Str×V)}
theorem kI (hok:ju P w H h) (e:H a=some (.ins C dx fs)):∃mA,ue h a dx C mA/\(∀f,jU (fs.lookup f) (mA f))/\PySem.Within mA (fs.map (·.1))/\fs.length<=1000/\H dx=some (.own a):=by obtain ⟨d,z,ne,ob,mA,n,r,q⟩:=(show bw P w H h a (.ins C dx fs) from hok a _ e);exact ⟨mA,⟨ob,n,ne⟩,r,q,z,d⟩
end
structure rf (K:Frag) (C:Addr):Prop where
 pg:QV K C Str.empty=true
 hd:QW K C=true
 po:QY K C=true
 sa:QL K (.ref C) "__setattr__"=some (some (.builtin "object.__setattr__"))
theorem rf.get {K:Frag}{C:Addr}(c:rf K C) (f:Str):QV K C f=true:=c.pg
def bV (K:Frag) (C:Addr) (f:Str):Prop:=QL K (.ref C) f=some none
theorem bV.taker {K:Frag}{C:Addr}{f:Str}(n:bV K C f):Q8 K C f=some none:=by unfold Q8;rw [show QL K (.ref C) f=some none from n];rfl
structure Nf (K:Frag) (C:Addr) (m:Str) (f:Addr):Prop where
 at_:QL K (.ref C) m=some (some (.ref f))
 fn:QQ K (.ref f)=true
 kp:QT K (.ref f)=true
section
variable {X:Cx}{pins:List (Addr×Obj)}{σ:St}{H:Hp}{s:Shared}{a C dx:Addr}{fs:List (Str×V)}{f:Str}{v:V}{A:Around}{E:Value->Shared->Prop}
theorem tj {b:Bool}{Q:Value->Shared->Prop}(I:aH X pins σ H s) (e:H a=some (.ins C dx fs)) (c:rf X.K C) (n:bV X.K C f) (l:fs.lookup f=some v)
  (h:∀u s',aH X pins σ H s'->aL v u->Q u s'):wpAny (model X.prog X.w) A (getAttr (.ref a) f b) Q E s:=by
 obtain ⟨mA,O,r,_,_,_⟩:=kI I.hok e;obtain ⟨u,hu,ru⟩:=jU.some_of (v:=v) (o:=mA f) (by rw [<-l];exact r f);exact Cu I.kIn O (c.get f) c.hd n hu (wB ru) (h u _ (I.tok _) ru)
theorem tf {m:Str}{g:Addr}{pl:Sem Bool}{Q:Value×List Value->Shared->Prop}(I:aH X pins σ H s) (e:H a=some (.ins C dx fs)) (c:rf X.K C) (k:Nf X.K C m g) (l:fs.lookup m=none)
  (h:Q (.ref g,[.ref a]) s):wpAny (model X.prog X.w) A (getMethod (.ref a) m pl) Q E s:=by
 obtain ⟨mA,O,r,_,_,_⟩:=kI I.hok e;have hn:mA m=none:=jU.none_of (by rw [<-l];exact r m);exact AS I.kIn O (c.get m) k.at_ k.fn hn h
theorem rL {y:V}{u:Value}{Q:Unit->Shared->Prop}(I:aH X pins σ H s) (e:H a=some (.ins C dx fs)) (c:rf X.K C) (n:bV X.K C f) (hl:fs.length<1000) (ry:aL y u)
  (h:∀s',aH X pins σ (upd H a (.ins C dx (putF f y fs))) s'->Q () s'):wpAny (model X.prog X.w) A (setAttr (.ref a) f u) Q E s:=by
 obtain ⟨mA,O,r,wi,_,ho⟩:=kI I.hok e;have hz:(fs.map (·.1)).length<=sizeLine:=by rw [NZ,sizeLine_eq];lia
 refine BV I.kIn O c.sa c.po n.taker c.hd wi hz λ h' O' sb=>h _ ?_;have hd:∃o,h'.get? dx=some o:=let ⟨o,_,_,e',_⟩:=O'.ns;⟨o,e'⟩;refine I.write (x:=a) (e:=dx) (by rw [e];exact True.intro) (.inr ho) (λ b q hb z=>(sb.2 b hb).trans z) hd ?_;refine ⟨by rw [aq O.ne];exact ho,?_,O.ne,O'.obj,_,O'.ns,λ g=>?_,λ g hg=>?_⟩
 ·have:=bG f y fs;lia
 ·show jU ((putF f y fs).lookup g) (if g=f then some u else mA g);rw [au]
  by_cases q:g=f
  ·rw [if_pos q,if_pos q];exact ry
  ·rw [if_neg q,if_neg q];exact r g
 ·by_cases q:g=f
  ·rw [q];exact (jO f y fs).1
  ·refine (jO f y fs).2 g (wi g λ z=>hg ?_);show (if g=f then some u else mA g)=none;rw [if_neg q];exact z
theorem aH.made (I:aH X pins σ H s):aH X pins σ (upd (upd H s.heap.objs.size (.own (s.heap.objs.size+1))) (s.heap.objs.size+1) (.ins C s.heap.objs.size []))
  {s with heap:=(s.heap.push QS).push (QU C s.heap.objs.size)}:=by
 have e1:(s.heap.push QS).get? s.heap.objs.size=some QS:=Heap.get?_push_size s.heap rfl;have e2:((s.heap.push QS).push (QU C s.heap.objs.size)).get? (s.heap.objs.size+1)=some (QU C s.heap.objs.size):=by
  have:=Heap.get?_push_size (s.heap.push QS) (o:=QU C s.heap.objs.size) rfl
  rwa [Heap.size_push] at this
 have e3:(s.heap.push QS).Ns s.heap.objs.size (λ _=>none):=⟨QS,#[],_,e1,rfl,(λ e he=>absurd he (by simp)),λ _=>rfl⟩;have I1:=I.laid (a:=s.heap.objs.size) (o:=.own (s.heap.objs.size+1)) (h':=s.heap.push QS) (t':=s.toks) (λ b u q=>Heap.get?_push_of_some _ q) (PF _) ⟨_,e1⟩;refine I1.laid (a:=s.heap.objs.size+1) (o:=.ins C s.heap.objs.size []) (t':=s.toks) (λ b u q=>Heap.get?_push_of_some _ q) (PX (Heap.size_push _ _)) ?_;have ne:s.heap.objs.size≠s.heap.objs.size+1:=PH (P3 _);refine ⟨by rw [aq ne,ag],PJ _,ne,e2,λ _=>none,(Heap.Ns1.of_empty e3).at λ o q=>Heap.get?_push_of_some _ q,λ _=>True.intro,λ y hy=>absurd rfl hy⟩
theorem C1 {prog:Program}{w:World}{env:Env}{e:Expr}{f:Str}{pos:Pos}{s:Shared}{Q:Value->Shared->Prop}(hb:attributeBase e f env (eval e env)=eval e env)
  (h:wpAny (model prog w) A (eval e env) (λ o s₁=>wpAny (model prog w) A (getAttr o f true) Q E s₁) E s):wpAny (model prog w) A (eval (.Attribute e f pos) env) Q E s:=
 Attribute_any_ h (by rw [arm_eval_Attribute,hb])
end
def vR (K:Frag) (ta tv:TE) (f:Str):TS:=λ D σ H=>tv σ H λ y H1=>ta σ H1 λ x H2=> ∃a C dx fs,x=.ref a/\H2 a=some (.ins C dx fs)/\rf K C/\bV K C f/\fs.length<1000/\
 D.nx σ (upd H2 a (.ins C dx (putF f y fs)))
section
variable {X:Cx}{o e value:Expr}{f:Str}{pos pos' tpos:Pos}{ta tv:TE}
theorem IK (ha:PE X o ta) (hv:PE X value tv) (hs:swapsWith value (some (.Attribute o f pos')) pos.line X.env=pure false):PS X (.Assign [.Attribute o f pos'] value pos) (vR X.K ta tv f):=by intro pins s σ H D I h;refine plainObj_wpAny_Assign_Attribute (bL (hv pins s σ H _ I h) λ u s1 ⟨y,H1,I1,ry,q⟩=>bL (ha pins s1 σ H1 _ I1 q) λ ov s2 ⟨x,H2,I2,rx,a,C,dx,fs,ex,ea,c,n,l,q2⟩=>?_) hs;subst ex;obtain rfl:ov=Value.ref a:=rx;exact rL I2 ea c n l ry λ s3 I3=>⟨σ,_,I3,q2⟩
end
section
variable {X:Cx}{pins:List (Addr×Obj)}{σ:St}{H:Hp}{s:Shared}{A:Around}{E:Value->Shared->Prop}{Q:Value->Shared->Prop}{c:Value}{b:Bool}
inductive jT (K:Frag) (H:Hp):V->Value->Prop where
 | non:jT K H .non (.type "NoneType")
 | bl (x:Bool):jT K H (.bl x) (.type "bool")
 | int (i:Int):jT K H (.int i) (.type "int")
 | str (x:Str):jT K H (.str x) (.type "str")
 | flt (x:UInt64):jT K H (.flt x) (.type "float")
 | lst {a:Addr} {xs:List V} (e:H a=some (.lst xs)):jT K H (.ref a) (.type "list")
 | frz {a:Addr} {o:Obj} {xs:List V} (e:H a=some (.frz o (.lst xs))):jT K H (.ref a) (.type "list")
 | tup {a:Addr} {xs:List V} (e:H a=some (.tup xs)):jT K H (.ref a) (.type "tuple")
 | dK {a:Addr} {kvs:List (Key×V)} (e:H a=some (.dK kvs)):jT K H (.ref a) (.type "dict")
 | dT {a:Addr} {kvs:List (List Key×V)} (e:H a=some (.dT kvs)):jT K H (.ref a) (.type "dict")
 | ins {a C dx:Addr} {fs:List (Str×V)} (e:H a=some (.ins C dx fs)) (cl:rf K C) (ha:QL K (.ref C) "__class__"=some (some (.builtin "object.__class__")))
   (hn:PySem.W.specialIn K (.builtin "object.__class__") "__get__"=some (some (.builtin "getset_descriptor.__get__"))) (htk:PySem.W.takesIn K (.builtin "object.__class__")=some true)
   (hm:PySem.W.mroIn K C (.type "object")=some true):jT K H (.ref a) (.ref C)
theorem wy {x:V}{u t:Value}(I:aH X pins σ H s) (rx:aL x u) (ty:jT X.K H x t) (e:Q0 X.K t c=some b) (h:∀tk,Q (.bool b) {s with toks:=tk}):
  wpAny (model X.prog X.w) A (call (.builtin "isinstance") [u,c]) Q E s:=by
 cases ty with
 | non=>cases (show u=Value.none from rx);exact QP PySem.W.kitx_none I.kIn True.intro e (λ z=>nomatch z) h
 | bl y=>cases (show u=Value.bool y from rx);exact QP PySem.W.kitx_bool I.kIn True.intro e (λ z=>nomatch z) h
 | int i=>obtain ⟨t,q⟩:=(show∃t,u=Value.int i t from rx);cases q;exact QP PySem.W.kitx_int I.kIn True.intro e (λ z=>nomatch z) h
 | str y=>obtain ⟨t,q⟩:=(show∃t,u=Value.str y t from rx);cases q;exact QP PySem.W.kitx_str I.kIn True.intro e (λ z=>nomatch z) h
 | flt y=>obtain ⟨t,q⟩:=(show∃t,u=Value.float y t from rx);cases q;exact QP PySem.W.kitx_float I.kIn True.intro e (λ z=>nomatch z) h
 | @lst a xs ea=>
   cases (show u=Value.ref a from rx);obtain ⟨_,_,n,_,h1⟩:=(show bw X.prog X.w H s.heap a (.lst xs) from I.hok a _ ea);exact QP Rc I.kIn ⟨_,h1,rfl⟩ e (λ z=>nomatch z) h
 | @frz a ob xs ea=>
   cases (show u=Value.ref a from rx);obtain ⟨_,_,_,n,_,h1⟩:=(show bw X.prog X.w H s.heap a (.frz ob (.lst xs)) from I.hok a _ ea);exact QP Rc I.kIn ⟨_,h1,rfl⟩ e (λ z=>nomatch z) h
 | @tup a xs ea=>
   cases (show u=Value.ref a from rx);obtain ⟨_,_,_,p⟩:=(show bw X.prog X.w H s.heap a (.tup xs) from I.hok a _ ea);obtain ⟨o,h1,h2,_⟩:=p;exact QP PySem.W.kitx_tuple I.kIn ⟨o,h1,h2⟩ e (λ z=>nomatch z) h
 | @dK a kvs ea=>
   cases (show u=Value.ref a from rx);obtain ⟨_,_,vs,_,p⟩:=(show bw X.prog X.w H s.heap a (.dK kvs) from I.hok a _ ea);obtain ⟨o,es,ep,h1,h2,_⟩:=p;exact QP Re I.kIn ⟨o,h1,h2.1⟩ e (λ z=>nomatch z) h
 | @dT a kvs ea=>
   cases (show u=Value.ref a from rx);obtain ⟨_,_,xs,_,o,es,ep,h1,h2,_⟩:=(show bw X.prog X.w H s.heap a (.dT kvs) from I.hok a _ ea);exact QP Re I.kIn ⟨o,h1,h2.1⟩ e (λ z=>nomatch z) h
 | @ins a C dx fs ea cl ha hn htk hm=>
   cases (show u=Value.ref a from rx);obtain ⟨mA,O,_⟩:=kI I.hok ea;obtain ⟨od,J,_⟩:=O.look;exact QP (PySem.W.kitx_own (cl.get _) cl.hd ha hn htk hm) I.kIn J e (λ z=>nomatch z) h
end
end L2
namespace L2
open PySem PySem.Spec PyProof.Rows
structure cP (k:Nat) (A:Around):Prop where
 hd:A.handled=none
 dp:A.depth+3*k+5<recursionLimit
 un:A.units+16*k+200<cLine
theorem cP.mono {j k:Nat}{A:Around}(r:cP k A) (h:j<=k):cP j A:=⟨r.hd,by have:=r.dp;lia,by have:=r.un;lia⟩
theorem cP.deeper {k:Nat}{A:Around}(r:cP (k+1) A) (env:Env):cP k (A.deeper env):=
 ⟨r.hd,by have:=r.dp;show A.depth+1+3*k+5<_;lia,by have:=r.un;show A.units+3+16*k+200<_;lia⟩
theorem sR {A:Around}{C:Addr}{us:List Value}{kw:List (Str×Value)}:(A.under (.builtin "type.__call__" ⟨.ref C::us,kw⟩)).depth=A.depth+1:=by
 first | rfl | simp [Around.under,Code.weight,Code.isCreation,Code.isGuard,Code.isCaller,Code.frames,Code.isFrame,guardIds]
theorem sQ {A:Around}{C:Addr}{us:List Value}{kw:List (Str×Value)}:(A.under (.builtin "type.__call__" ⟨.ref C::us,kw⟩)).units=A.units+1:=by
 first | rfl | simp [Around.under,Code.cUnits,Code.frames,Code.isFrame]
theorem cP.make {k:Nat}{A:Around}(r:cP (k+1) A) (C:Addr) (us:List Value) (kw:List (Str×Value)):cP k (A.under (.builtin "type.__call__" ⟨.ref C::us,kw⟩)):=
 ⟨r.hd,by have:=r.dp;rw [sR];lia,by have:=r.un;rw [sQ];lia⟩
theorem cP.depth {k:Nat}{A:Around}(r:cP k A):A.depth<recursionLimit:=by have:=r.dp;lia
theorem cP.units {k:Nat}{A:Around}(r:cP k A):A.units+64<cLine:=by have:=r.un;lia
def cZ:TA:=λ _ H Q=>Q [] H
def bo (ta:TE) (tr:TA):TA:=λ σ H Q=>ta σ H λ x H1=>tr σ H1 λ xs H2=>Q (x::xs) H2
section
variable {X:Cx}{e:Expr}{es:List Expr}{te:TE}{t:TA}{pos:Pos}
theorem pa_nil:PA X [] cZ:=λ _ _ _ _ H Q I h=>Calls.spliced_nil ⟨[],H,I,.nil,h⟩
theorem pa_cons (ha:PE X e te) (hr:PA X es t) (hs:starEach (e::es) X.env=(false,eval e X.env)::starEach es X.env:=by rfl):PA X (e::es) (bo te t):=by intro pos pins s σ H Q I h;rw [hs];show wpAny _ _ (spliced ((false,eval e X.env)::backTo pos (starEach es X.env))) _ _ s;refine Calls.spliced_cons (bL (ha pins s σ H _ I h) λ u s1 ⟨x,H1,I1,r1,q1⟩=>?_);exact bL (hr pos pins s1 σ H1 _ I1 q1) λ us s2 ⟨xs,H2,I2,r2,q2⟩=>⟨x::xs,H2,I2,.cons r1 r2,q2⟩
def zx (t:TA):TE:=λ σ H Q=>t σ H λ xs H1=>xs.length<=sizeLine/\∀p,H1 p=none->Q (.ref p) (upd H1 p (.tup xs))
def vH (t:TA):TE:=λ σ H Q=>t σ H λ xs H1=>xs.length<=sizeLine/\∀p,H1 p=none->Q (.ref p) (upd H1 p (.lst xs))
theorem dg {x1}(h:PA X es t):PE X (.Tuple es x1 pos) (zx t):=by intro pins s σ H Q I hq;refine wpAny_Tuple_spliced (bL (h pos pins s σ H _ I hq) λ us s1 ⟨xs,H1,I1,r,z,q⟩=>⟨by rw [<-r.length];exact z,?_⟩);have hf:H1 s1.heap.objs.size=none:=I1.hok.fresh (PF _);refine ⟨.ref s1.heap.objs.size,upd H1 s1.heap.objs.size (.tup xs),I1.laid (t':=s1.toks) (λ b u e=>Heap.get?_push_of_some _ e) (PF _) ?_,rfl,q _ hf⟩;exact ⟨z,us,r,⟨_,Heap.get?_push_size _ rfl,rfl,_,rfl⟩⟩
theorem bg (h:PA X es t):PE X (.List es pos) (vH t):=by intro pins s σ H Q I hq;refine wpAny_List_spliced (bL (h pos pins s σ H _ I hq) λ us s1 ⟨xs,H1,I1,r,z,q⟩=>⟨by rw [<-r.length];exact z,?_⟩);have hf:H1 s1.heap.objs.size=none:=I1.hok.fresh (PF _);refine ⟨.ref s1.heap.objs.size,upd H1 s1.heap.objs.size (.lst xs),I1.laid (t':=s1.toks) (λ b u e=>Heap.get?_push_of_some _ e) (PF _) ?_,rfl,q _ hf⟩;exact ⟨z,us,0,r,Heap.get?_push_size _ rfl⟩
end
abbrev Sp:=List V->Hp->VK->XK->Prop
abbrev w4:=List Env->Hp->Shared->XK->Value->Shared->Prop
structure ug (P:Program) (w:World) (K:Frag) (mg:Str->Option Value) (base:Heap) (A:Around) (outer:List Env) (s:Shared) (H:Hp):Prop where
 frames:A.frames=some outer
 mod:Mod K mg base
 bs:∀b o,base.get? b=some o->s.heap.get? b=some o/\H b=none
 bsz:base.objs.size<=s.heap.objs.size
 funs:s.heap.FunFrames base outer
 frf:∀b∈vb outer,H b=none
 hok:ju P w H s.heap
 bare:AllBare s.gens
def CE (outer:List Env) (P:Program) (w:World) (H:Hp) (s:Shared) (Q:VK) (u:Value) (s':Shared):Prop:=
 ∃v H',s'.os=s.os/\AllBare s'.gens/\Un (vb outer) [] H H' s.heap s'.heap/\ju P w H' s'.heap/\aL v u/\Q v H'
def CR (CX:w4) (outer:List Env) (P:Program) (w:World) (H:Hp) (s:Shared) (Q:VK) (E:XK) (r:Result) (s':Shared):Prop:=
 match r with
 | .ok (.ret u)=>CE outer P w H s Q u s'
 | .ok _=>False
 | .error e=>CX outer H s E e s'
structure aQ (P:Program) (w:World) (K:Frag) (mg:Str->Option Value) (base:Heap) (CX:w4) (k:Nat) (f:Addr) (fd:FuncData) (ps:List Str) (sp:Sp):Prop where
 len:∀vs H Q E,sp vs H Q E->vs.length=ps.length
 run:∀(A:Around) (outer:List Env) (s:Shared) (H:Hp) (args:Args) (us:List Value) (vs:List V) (Q:VK) (E:XK),cP k A->ug P w K mg base A outer s H->BindsTo s fd args (ps.zip us)->aP vs us->sp vs H Q E->
  codeAny (model P w) A (.call (.ref f) args) (CR CX outer P w H s Q E) s
theorem aQ.imp {P:Program}{w:World}{K:Frag}{mg:Str->Option Value}{base:Heap}{CX:w4}{k:Nat}{f:Addr}{fd:FuncData}{ps:List Str}{sp sp':Sp}(F:aQ P w K mg base CX k f fd ps sp)
  (h:∀vs H Q E,sp' vs H Q E->sp vs H Q E):aQ P w K mg base CX k f fd ps sp':=
 ⟨λ vs H Q E q=>F.len vs H Q E (h _ _ _ _ q),λ A outer s H args us vs Q E hr he hb hv hs=>F.run A outer s H args us vs Q E hr he hb hv (h _ _ _ _ hs)⟩
theorem ug.make {P:Program}{w:World}{K:Frag}{mg:Str->Option Value}{base:Heap}{A:Around}{outer:List Env}{s:Shared}{H:Hp}(e:ug P w K mg base A outer s H) (C:Addr) (us:List Value) (kw:List (Str×Value)):
  ug P w K mg base (A.under (.builtin "type.__call__" ⟨.ref C::us,kw⟩)) outer s H:=⟨by first | exact e.frames | (simpa [Around.under,Code.envs,Code.isFrame,pushEnvs] using e.frames),e.mod,e.bs,e.bsz,e.funs,e.frf,e.hok,e.bare⟩
section
variable {X:Cx}{pins:List (Addr×Obj)}{σ:St}{H:Hp}{s s':Shared}
theorem aH.env0 (I:aH X pins σ H s):ug X.prog X.w X.K X.mg X.base X.A X.stack s H:=
 ⟨I.ok.frames,I.ok.mod,I.bs,PK I.ok.bsz I.sz,I.stack,I.stkFree,I.hok,I.bare⟩
theorem aH.after {Q:VK}{u:Value}(I:aH X pins σ H s) (h:CE X.stack X.prog X.w H s Q u s'):EP X pins σ Q u s':=by obtain ⟨v,H',os,bare,un,hok,r,q⟩:=h;obtain ⟨hh,g,d,t,os'⟩:=s';obtain rfl:os'=s.os:=os;exact ⟨v,H',I.call (h':=hh) (g':=g) (d':=d) (t':=t) (ch:=[]) un hok bare (λ b z=>absurd z (by simp)),r,q⟩
end
def zB (sp:Sp) (dvs:List V) (E:XK) (t:TA):TE:=λ σ H Q=>t σ H λ vs H1=>sp (vs++dvs) H1 Q E
def zA (C:Addr) (sp:Sp) (dvs:List V) (E:XK) (t:TA):TE:=λ σ H Q=>t σ H λ vs H1=> ∀x dx,H1 x=none->H1 dx=none->dx≠x->
 sp (.ref x::(vs++dvs)) (upd (upd H1 dx (.own x)) x (.ins C dx [])) (λ v H2=>v=.non/\Q (.ref x) H2) E
def ik (K:Frag) (fd:FuncData) (ps:List Str) (ds:List Value):Prop:=
 ∀(s:Shared) (us:List Value),K.In s.heap->(us++ds).length=ps.length->BindsTo s fd ⟨us,[]⟩ (ps.zip (us++ds))
theorem ik.all {K:Frag}{fd:FuncData}{ps:List Str}(h:∀us:List Value,us.length=ps.length->bindArgs fd ⟨us,[]⟩=pure (ps.zip us)):ik K fd ps []:=λ s us _ hl=>by rw [Os] at hl ⊢;exact .of_eq (h us hl)
def lY (CX:w4) (X:Cx) (E:XK):Prop:= ∀(pins:List (Addr×Obj)) (σ:St) (H:Hp) (s:Shared) (e:Value) (s':Shared),aH X pins σ H s->CX X.stack H s E e s'->X.xe e s'
section
variable {X:Cx}{CX:w4}{k:Nat}{f C:Addr}{fd:FuncData}{ps:List Str}{sp:Sp}{dvs:List V}{ds:List Value}{E:XK}{x m:Str}{p pos apos:Pos}{e o:Expr}{es:List Expr}{ta:TE}{t:TA}
theorem zS {pins:List (Addr×Obj)}{σ:St}{H:Hp}{s:Shared}{Q:VK}{us:List Value}{vs:List V}(F:aQ X.prog X.w X.K X.mg X.base CX k f fd ps sp) (hr:cP k X.A) (hb:ik X.K fd ps ds) (hd:aP dvs ds) (hx:lY CX X E)
  (I:aH X pins σ H s) (r:aP vs us) (h:sp (vs++dvs) H Q E):wpAny (model X.prog X.w) X.A (call (.ref f) us) (EP X pins σ Q) X.xe s:=by
 have r2:aP (vs++dvs) (us++ds):=r.append hd;have hl:(us++ds).length=ps.length:=by rw [<-r2.length];exact F.len _ _ _ _ h
 refine wpAny_call (codeAny_mono (F.run X.A X.stack s H ⟨us,[]⟩ (us++ds) (vs++dvs) Q E hr I.env0 (hb s us I.kIn hl) r2 h) λ r s' hq=>?_);cases r with
 | error e=>exact hx pins σ H s e s' I hq
 | ok fl=>
   cases fl with
   | ret u=>exact I.after hq
   | next=>exact False.elim hq
   | brk=>exact False.elim hq
   | cont=>exact False.elim hq
theorem B7 (F:aQ X.prog X.w X.K X.mg X.base CX k f fd ps sp) (hr:cP k X.A) (hg:Gl X x) (hm:X.mg x=some (.ref f)) (hk:QT X.K (.ref f)=true) (hb:ik X.K fd ps ds) (hd:aP dvs ds) (hx:lY CX X E)
  (ha:PA X (e::es) t) (hdb:(x == ("__debug__":Str))=false:=by decide) (he:starEach (e::es) X.env=(false,eval e X.env)::starEach es X.env:=by rfl) (hpl:(backTo pos (starEach es X.env)).any (·.1)=false:=by rfl):
  PE X (.Call (.Name x p) (e::es) [] pos) (zB sp dvs E t):=by
 intro pins s σ H Q I h;refine wpAny_Call_Name_kw (oH I hg hm ?_ hdb);refine Q9 (h₀:=X.base) I.ok.mod.kin hk (bL (ha pos pins s σ H _ I h) λ us s1 ⟨vs,H1,I1,r,q⟩=>⟨I1.kIn,?_⟩) he hpl;exact zS F hr hb hd hx I1 r q
structure Mk (K:Frag) (C f:Addr):Prop where
 makes:QZ K C=true
 init:QL K (.ref C) "__init__"=some (some (.ref f))
 fn:QQ K (.ref f)=true
 kp:QT K (.ref C)=true
theorem zR {pins:List (Addr×Obj)}{σ:St}{H:Hp}{s:Shared}{Q:VK}{us:List Value}{vs:List V}(M:Mk X.K C f) (F:aQ X.prog X.w X.K X.mg X.base CX k f fd ps sp) (hr:cP (k+1) X.A) (hb:ik X.K fd ps ds) (hd:aP dvs ds)
  (hx:lY CX X E) (I:aH X pins σ H s) (r:aP vs us)
  (h:∀x dx,H x=none->H dx=none->dx≠x->sp (.ref x::(vs++dvs)) (upd (upd H dx (.own x)) x (.ins C dx [])) (λ v H2=>v=.non/\Q (.ref x) H2) E):
  wpAny (model X.prog X.w) X.A (call (.ref C) us) (EP X pins σ Q) X.xe s:=by
 have hq:=h (s.heap.objs.size+1) s.heap.objs.size (I.hok.fresh (PN _)) (I.hok.fresh (PF _)) (PH (P3 _));have I2:=aH.made (C:=C) I;have r2:aP (V.ref (s.heap.objs.size+1)::(vs++dvs)) (Value.ref (s.heap.objs.size+1)::(us++ds)):=.cons rfl (r.append hd);have hl:(Value.ref (s.heap.objs.size+1)::us++ds).length=ps.length:=by have e:=r2.length;rw [F.len _ _ _ _ hq] at e;exact e.symm
 refine wpAny_call (At (f:=f) I.kIn M.makes M.init (beq_iff_eq.mp M.fn) (codeAny_mono (F.run _ X.stack _ _ ⟨Value.ref (s.heap.objs.size+1)::us,[]⟩ (Value.ref (s.heap.objs.size+1)::(us++ds)) _ _ E (hr.make C us [])
  (I2.env0.make C us []) (hb _ (Value.ref (s.heap.objs.size+1)::us) I2.kIn hl) r2 hq) λ r s' hq'=>?_))
 cases r with
 | error e=>exact hx pins σ _ _ e s' I2 hq'
 | ok fl=>
   cases fl with
   | ret u=>
     obtain ⟨v,H',I3,rv,ev,q3⟩:=I2.after hq';subst ev;exact ⟨rv,⟨V.ref (s.heap.objs.size+1),H',I3,rfl,q3⟩⟩
   | next=>exact False.elim hq'
   | brk=>exact False.elim hq'
   | cont=>exact False.elim hq'
theorem B3 (M:Mk X.K C f) (F:aQ X.prog X.w X.K X.mg X.base CX k f fd ps sp) (hr:cP (k+1) X.A) (hg:Gl X x) (hm:X.mg x=some (.ref C)) (hb:ik X.K fd ps ds) (hd:aP dvs ds) (hx:lY CX X E)
  (ha:PA X (e::es) t) (hdb:(x == ("__debug__":Str))=false:=by decide) (he:starEach (e::es) X.env=(false,eval e X.env)::starEach es X.env:=by rfl) (hpl:(backTo pos (starEach es X.env)).any (·.1)=false:=by rfl):
  PE X (.Call (.Name x p) (e::es) [] pos) (zA C sp dvs E t):=by
 intro pins s σ H Q I h;refine wpAny_Call_Name_kw (oH I hg hm ?_ hdb);refine Q9 (h₀:=X.base) I.ok.mod.kin M.kp (bL (ha pos pins s σ H _ I h) λ us s1 ⟨vs,H1,I1,r,q⟩=>⟨I1.kIn,?_⟩) he hpl;exact zR M F hr hb hd hx I1 r q
end
section
variable {X:Cx}{CX:w4}{k:Nat}{f C:Addr}{fd:FuncData}{ps ks:List Str}{sp:Sp}{E:XK}{x m:Str}{p pos apos kpos:Pos}{e o:Expr}{es:List Expr}{kws:List Keyword}{te ta:TE}{t tk:TA}{nm:Option Str}
variable {g:List Value->List Value->List Value}{gV:List V->List V->List V}
end
structure az (N P:List Str) (sc:Scope):Prop where
 kind:sc.kind=.function
 co:sc.isCoroutine=false
 gen:sc.isGenerator=false
 nd:N.Nodup
 pre:N.take P.length=P
 par:∀x∈P,sc.names.lookup x=some .local\/sc.names.lookup x=some .cell
 nofree:∀y∈sc.names,y.2≠.free
theorem m5 {kindOf:Str->Option NameKind}{x:Str}:∀{binds:List (Str×Value)}{m:Str->Option Value},(∀v,(x,v)∉binds)->bindL kindOf binds m x=m x
 | [],_,_=>rfl
 | (n,v)::r,m,h=>by
   unfold bindL;rw [m5 λ w hw=>h w (N6 _ hw)];split
   ·have:x≠n:=by rintro rfl;exact h v N9
    simp [this]
   ·rfl
theorem m7 {kindOf:Str->Option NameKind}{x:Str}:∀{binds:List (Str×Value)}{m:Str->Option Value},(∀v,(x,v)∉binds)->bindC kindOf binds m x=m x
 | [],_,_=>rfl
 | (n,v)::r,m,h=>by
   unfold bindC;rw [m7 λ w hw=>h w (N6 _ hw)];split
   ·rfl
   ·have:x≠n:=by rintro rfl;exact h v N9
    simp [this]
theorem m6 {kindOf:Str->Option NameKind}{x:Str}{v:Value}:∀{P:List Str}{vs:List Value}{i:Nat}{m:Str->Option Value},P.Nodup->P[i]? =some x->vs[i]? =some v->kindOf x=some .local->
  bindL kindOf (P.zip vs) m x=some v
 | [],_,_,_,_,h,_,_=>by simp at h
 | _::_,[],_,_,_,_,h,_=>by simp at h
 | p::P,w::vs,0,m,nd,h1,h2,hk=>by simp at h1 h2;subst h1;subst h2;show bindL kindOf ((p,w)::P.zip vs) m p=_;unfold bindL;rw [m5 λ v hv=>(OA.mp nd).1 (O7 hv).1,if_pos hk];simp
 | p::P,w::vs,i+1,m,nd,h1,h2,hk=>by show bindL kindOf ((p,w)::P.zip vs) m x=_;unfold bindL;exact m6 (i:=i) (OA.mp nd).2 (by simpa using h1) (by simpa using h2) hk
theorem m8 {kindOf:Str->Option NameKind}{x:Str}{v:Value}:∀{P:List Str}{vs:List Value}{i:Nat}{m:Str->Option Value},P.Nodup->P[i]? =some x->vs[i]? =some v->kindOf x≠some .local->
  bindC kindOf (P.zip vs) m x=some v
 | [],_,_,_,_,h,_,_=>by simp at h
 | _::_,[],_,_,_,_,h,_=>by simp at h
 | p::P,w::vs,0,m,nd,h1,h2,hk=>by simp at h1 h2;subst h1;subst h2;show bindC kindOf ((p,w)::P.zip vs) m p=_;unfold bindC;rw [m7 λ v hv=>(OA.mp nd).1 (O7 hv).1,if_neg hk];simp
 | p::P,w::vs,i+1,m,nd,h1,h2,hk=>by show bindC kindOf ((p,w)::P.zip vs) m x=_;unfold bindC;exact m8 (i:=i) (OA.mp nd).2 (by simpa using h1) (by simpa using h2) hk
def start (N:List Str) (vs:List V):St:=vs.map some++List.replicate (N.length - vs.length) none
def wI (CX:w4) (P:Program) (w:World) (K:Frag) (mg:Str->Option Value) (base:Heap) (N:List Str) (qual:Str) (scope:Scope) (f:Addr) (cd:Value) (A:Around) (outer:List Env) (s:Shared) (H:Hp) (E:XK):Cx where
 prog:=P
 w:=w
 K:=K
 mg:=mg
 base:=base
 A:=A.deeper (envOfC qual scope s.heap.objs.size f cd)
 N:=N
 s₀:=s
 H₀:=H
 env:=envOfC qual scope s.heap.objs.size f cd
 outer:=outer
 stack:=envOfC qual scope s.heap.objs.size f cd::outer
 ex:=[]
 calm:=true
 fn:=λ _=>true
 pn:=[]
 xe:=λ e s'=>wpAny (model P w) (A.deeper (envOfC qual scope s.heap.objs.size f cd)) (leaving (envOfC qual scope s.heap.objs.size f cd) e) (λ _ s''=>CX outer H s E e s'') (λ e' s''=>CX outer H s E e' s'') s'
theorem qS {sc:Scope}{n:Nat}{x:Str}(h:sc.names.lookup x=some .cell):∃c,(cellsFrom n sc.names []).lookup x=some c:=by have q:=Rf sc.names n [] (.inl h);exact Option.isSome_iff_exists.mp q
theorem wz {CX:w4}{P:Program}{w:World}{K:Frag}{mg:Str->Option Value}{base:Heap}{N ps:List Str}{qual:Str}{scope:Scope}{f:Addr}{cd:Value}{A:Around}{outer:List Env}{s s1:Shared}{H:Hp}{E:XK}{us:List Value}{vs:List V}
  (S:az N ps scope) (hd:A.handled=none) (e0:ug P w K mg base A outer s H) (hl:vs.length=ps.length) (r:aP vs us)
  (x:InCallC s s.heap.objs.size (bindL (envOfC qual scope s.heap.objs.size f cd).kindOf (ps.zip us) λ _=>none) (cellsFrom (s.heap.objs.size+1) scope.names []) (bindC (envOfC qual scope s.heap.objs.size f cd).kindOf (ps.zip us) λ _=>none) s1):
  aH (wI CX P w K mg base N qual scope f cd A outer s H E) [] (start N vs) H s1:=by
 have hpl:ps.length<=N.length:=by have:=congrArg List.length S.pre;rw [Ol] at this;lia
 obtain ⟨h1,tk,rfl,hk⟩:=x.done;have noA:∀b:Addr,b∉(wI CX P w K mg base N qual scope f cd A outer s H E).ex:=λ b z=>absurd (show b∈([]:List Addr) from z) (by simp);refine ⟨⟨e0.mod,S.kind,rfl,rfl,PF _,λ y z c h1 h2=>?_,λ y hy=>?_,λ y c _ h=>?_,λ _=>hd,Around.frames_deeper e0.frames,.inr ⟨rfl,rfl⟩,λ b z=>absurd z (noA b),e0.bs,e0.bsz,λ b _ _=>noA b,λ b z=>absurd z (noA b),e0.funs,e0.frf⟩,
  rfl,e0.bare,Un.kept hk,⟨_,x.toInCall.ns,λ i y v h1 h2 h3=>?_⟩,λ y c h=>⟨_,x.cell y c h⟩,e0.hok.fresh (PF _),λ y c h=>?_,λ p hp=>absurd (show p∈([]:List (Addr×Obj)) from hp) (by simp),e0.hok.kept hk,?_⟩
 ·exact name_of_addr x.apart (PySem.mem_of_lookup h1) (PySem.mem_of_lookup h2)
 ·have hy:scope.names.lookup y=some .cell\/scope.names.lookup y=some .free:=hy
  rcases hy with hy | hy
  ·exact qS hy
  ·exact absurd rfl (S.nofree _ (PySem.mem_of_lookup hy))
 ·exact PZ (x.above y c (PySem.mem_of_lookup h))
 ·have hi:i<vs.length:=by
   unfold start at h2
   by_cases hi:i<vs.length
   ·exact hi
   ·rw [OT (by simpa using hi)] at h2;rw [List.getElem?_replicate] at h2;split at h2<;>cases h2
  have ha:vs[i]? =some v:=by
   unfold start at h2;rw [ON (by simpa using hi),N3] at h2;cases e:vs[i]? with
   | none=>rw [e] at h2;cases h2
   | some a=>rw [e] at h2;cases h2;rfl
  obtain ⟨u,hu,rv⟩:=r.get ha;have hp:ps[i]? =some y:=by rw [<-S.pre,O8 (by lia)];exact h1
  have ndP:ps.Nodup:=by rw [<-S.pre];exact S.nd.sublist (Pp _ _)
  refine ⟨u,rv,?_⟩
  rcases S.par y (Om hp) with k | k
  ·exact .inl ⟨k,m6 ndP hp hu k⟩
  ·obtain ⟨c,e⟩:=qS (n:=s.heap.objs.size+1) k;refine .inr ⟨.inl k,c,e,?_⟩;have q:=x.cell y c e;rw [m8 ndP hp hu (by show scope.names.lookup y≠_;rw [k];decide)] at q;exact q
 ·exact e0.hok.fresh (PZ (x.above y c (PySem.mem_of_lookup h)))
 ·unfold start;show _=N.length;rw [Oa,NZ,List.length_replicate];lia
theorem MM {CX:w4}{P:Program}{w:World}{K:Frag}{mg:Str->Option Value}{base:Heap}{k:Nat}{f:Addr}{name qual:Str}{params:Arguments}{body:List Stmt}{scope:Scope}{dV kV doc pm cdv ct oc:Value}{an od:Option Addr}
  {osl:Array (Option Value)} {N ps:List Str} {sp:Sp} (lk:K.lookup f=some ⟨oc,od,.func (QR name qual params body scope dV kV doc pm an cdv ct),osl⟩) (hcd:Q3 K cdv qual=true) (S:az N ps scope)
  (len:∀vs H Q E,sp vs H Q E->vs.length=ps.length)
  (hbody:∀(A:Around) (outer:List Env) (s:Shared) (H:Hp) (vs:List V) (Q:VK) (E:XK),cP k (A.deeper (envOfC qual scope s.heap.objs.size f cdv))->sp vs H Q E->
   ∃t,vy (wI CX P w K mg base N qual scope f cdv A outer s H E) body t/\t {nx:=λ _ H'=>Q .non H',rt:=Q} (start N vs) H):
  aQ P w K mg base CX (k+1) f (QR name qual params body scope dV kV doc pm an cdv ct) ps sp:=by
 refine ⟨len,λ A outer s H args us vs Q E hr e0 hb r hsp=>?_⟩;have hl:=len _ _ _ _ hsp;have KX:K.In s.heap:=e0.mod.kin.keeps λ b o e=>(e0.bs b o e).1;have lim:s.heap.NoLimit:=e0.mod.nolimit.keeps λ b o e=>(e0.bs b o e).1;have hkind:∀y∈ps.zip us,scope.names.lookup y.1=some .local\/(scope.names.lookup y.1=some .cell/\((cellsFrom (s.heap.objs.size+1) scope.names []).lookup y.1).isSome=true):=λ ⟨n,v⟩ hy=>by
  rcases S.par n (O7 hy).1 with q | q
  ·exact .inl q
  ·exact .inr ⟨q,Rf _ _ _ (.inl q)⟩
 refine codeAny_call_function hr.depth (KX _ _ lk) rfl S.co S.gen rfl (PySem.W.codeRec_of KX hcd) (hb _ _ _ _ ?_);refine wpAny_newFunctionEnv_cells S.kind hkind λ env he s1 x=>?_;subst he;refine ⟨lim.keeps x.toInCall.keep,codeAny_func ?_⟩;obtain ⟨t,ht,hq⟩:=hbody A outer s H vs Q E (hr.deeper _) hsp;have I:aH (wI CX P w K mg base N qual scope f cdv A outer s H E) [] (start N vs) H s1:=wz S hr.hd e0 hl r x;refine wpAny_mono (ht [] s1 (start N vs) H _ I hq) (λ fl s' hs=>?_) λ e s' hs=>hs;have fin:∀{σ':St} {H':Hp} {v:V} {u:Value},aH (wI CX P w K mg base N qual scope f cdv A outer s H E) [] σ' H' s'->aL v u->Q v H'->CE outer P w H s Q u s':=
  λ {σ' H' v u} J rv q=>⟨v,H',J.os,J.bare,J.base,J.hok,rv,q⟩
 cases fl with
 | ret u=>
   obtain ⟨v,σ',H',J,rv,q⟩:=hs;exact fin J rv q
 | next=>
   obtain ⟨σ',H',J,q⟩:=hs;exact fin (v:=V.non) (u:=Value.none) J rfl q
 | brk=>
   obtain ⟨_,_,_,q⟩:=hs;exact False.elim q
 | cont=>
   obtain ⟨_,_,_,q⟩:=hs;exact False.elim q
end L2
namespace L2
open PySem PySem.Spec PyProof.Rows
section
variable {X:Cx}{x:Str}{p pos:Pos}{e:Expr}{es:List Expr}{t:TA}{id T:String}{r:List V->Hp->VK->Prop}
def tCB (r:List V->Hp->VK->Prop) (t:TA):TE:=λ σ H Q=>t σ H λ vs H1=>r vs H1 Q
theorem Aj (hc:aY X (.builtin id) r) (hg:Gl X x) (hm:X.mg x=none) (hv:bootBuiltins x=some (.builtin id)) (ha:PA X (e::es) t) (hn:x≠"__name__":=by decide) (hdb:(x == ("__debug__":Str))=false:=by decide)
  (he:starEach (e::es) X.env=(false,eval e X.env)::starEach es X.env:=by rfl) (hpl:(backTo pos (starEach es X.env)).any (·.1)=false:=by rfl):PE X (.Call (.Name x p) (e::es) [] pos) (tCB r t):=by
 intro pins s σ H Q I h;refine wpAny_Call_Name_kw (iQ I hg hm hv ?_ hn hdb);exact PyProof.Rows.callWith_builtin1 (bL (ha pos pins s σ H _ I h) λ us s1 ⟨vs,H1,I1,r1,q1⟩=>hc pins s1 σ H1 vs us Q I1 r1 q1) he hpl
theorem v5 (hc:aY X (.type T) r) (hg:Gl X x) (hm:X.mg x=none) (hv:bootBuiltins x=some (.type T)) (ha:PA X (e::es) t) (hn:x≠"__name__":=by decide) (hdb:(x == ("__debug__":Str))=false:=by decide)
  (he:starEach (e::es) X.env=(false,eval e X.env)::starEach es X.env:=by rfl) (hpl:(backTo pos (starEach es X.env)).any (·.1)=false:=by rfl):PE X (.Call (.Name x p) (e::es) [] pos) (tCB r t):=by
 intro pins s σ H Q I h;refine wpAny_Call_Name_kw (iQ I hg hm hv ?_ hn hdb);exact PyProof.Rows.callWith_type1 (bL (ha pos pins s σ H _ I h) λ us s1 ⟨vs,H1,I1,r1,q1⟩=>hc pins s1 σ H1 vs us Q I1 r1 q1) he hpl
end
end L2
namespace HT
open PySem PyProof.Rows
section
open PySem.SeqAt
open PySem.AutoSeq1 (wpAny_loadPart')
open PySem.MeetsSeq PySem.MeetsSeq2 PySem.MeetsSeq3
end
section
variable {prog:Program}{w:World}{A:Around}{E:Value->Shared->Prop}{s:Shared}
def sIx (n d:Nat):Option Int->Nat
 | none=>d
 | some v=>if v<0 then (v+(n:Int)).toNat else min v.toNat n
theorem sIx_none (n d:Nat):sIx n d none=d:=rfl
theorem sIx_nat (n d k:Nat):sIx n d (some (k:Int))=min k n:=by show (if (k:Int)<0 then ((k:Int)+(n:Int)).toNat else min (k:Int).toNat n)=min k n;rw [if_neg (by lia),Qd]
theorem sIx_le (n d:Nat) (hd:d<=n) (o:Option Int):sIx n d o<=n:=by
 cases o with
 | none=>exact hd
 | some v=>
   show (if v<0 then (v+(n:Int)).toNat else min v.toNat n)<=n
   by_cases hv:v<0
   ·rw [if_pos hv];lia
   ·rw [if_neg hv];exact Nat.min_le_right _ _
end
end HT
namespace L2
open PySem PySem.Spec PyProof.Rows
abbrev TO:=St->Hp->(Option Int->Hp->Prop)->Prop
def PO (X:Cx) (e:Option Expr) (t:TO):Prop:=
 ∀(pins:List (Addr×Obj)) (s:Shared) (σ:St) (H:Hp) (Q:Option Int->Hp->Prop),aH X pins σ H s->t σ H Q->
  wpAny (model X.prog X.w) X.A (evalPart e X.env) (λ u s'=> ∃o H',aH X pins σ H' s'/\IsPart u o/\Q o H') X.xe s
def uk:TO:=λ _ H Q=>Q none H
theorem lI {ns:List Int}:∀{us:List Value},aP (ns.map V.int) us->IntsAre us ns:=by
 induction ns with
 | nil=>intro us r;rw [O9] at r;cases r;exact .nil
 | cons n ns ih=>
   intro us r;rw [Oj] at r;cases r with
   | cons r1 r2=>
     obtain ⟨t,e⟩:=r1;subst e;exact .cons n t (ih r2)
section
variable {X:Cx}{e:Expr}{te:TE}{lo hi:Option Expr}{tl th:TO}{pos p2:Pos}
theorem ir:PO X none uk:=by intro pins s σ H Q I h;rw [evalPart_none];exact wpAny_pure ⟨none,H,I,.none,h⟩
def wZ (X:Cx) (r:V->Option Int->Option Int->Hp->VK->Prop):Prop:=
 ∀(pins:List (Addr×Obj)) (s:Shared) (σ:St) (H:Hp) (x:V) (v vl vu:Value) (lo hi:Option Int) (sl:Addr) (Q:VK),aH X pins σ H s->aL x v->s.heap.IsSliceOf sl vl vu .none->IsPart vl lo->IsPart vu hi->r x lo hi H Q->
  ∃T id,typeLookup (.type T) "__getitem__"=pure (some (.builtin id))/\s.TypeIs v T/\wpAny (model X.prog X.w) X.A (getItem v (.ref sl)) (EP X pins σ Q) X.xe s
theorem wZ.or {r r':V->Option Int->Option Int->Hp->VK->Prop}(h:wZ X r) (h':wZ X r'):wZ X (λ x lo hi H Q=>r x lo hi H Q\/r' x lo hi H Q):=by
 intro pins s σ H x v vl vu lo hi sl Q I rx hs pl pu q
 rcases q with q | q
 ·exact h pins s σ H x v vl vu lo hi sl Q I rx hs pl pu q
 ·exact h' pins s σ H x v vl vu lo hi sl Q I rx hs pl pu q
def tSl (r:V->Option Int->Option Int->Hp->VK->Prop) (te:TE) (tl th:TO):TE:=λ σ H Q=>te σ H λ x H1=>tl σ H1 λ l H2=>th σ H2 λ u H3=>r x l u H3 Q
theorem Ah {r:V->Option Int->Option Int->Hp->VK->Prop}(hr:wZ X r) (he:PE X e te) (hl:PO X lo tl) (hu:PO X hi th):PE X (.Subscript e (.Slice lo hi none p2) pos) (tSl r te tl th):=by intro pins s σ H Q I h;refine Subscript_ (bL (he pins s σ H _ I h) λ v s1 ⟨x,H1,I1,r1,q1⟩=>?_);refine wpAny_Slice (bL (hl pins s1 σ H1 _ I1 q1) λ vl s2 ⟨l,H2,I2,pl,q2⟩=>bL (hu pins s2 σ H2 _ I2 q2) λ vu s3 ⟨u,H3,I3,pu,q3⟩=>?_);rw [evalPart_none];refine wpAny_pure ?_;have I4:aH X pins σ H3 {s3 with heap:=s3.heap.push {cls:=.type "slice",data:=.fields #[vl,vu,.none]}}:=I3.kept (t':=s3.toks) λ b ob q=>Heap.get?_push_of_some _ q;obtain ⟨T,id,hT,ht,hg⟩:=hr pins {s3 with heap:=s3.heap.push {cls:=.type "slice",data:=.fields #[vl,vu,.none]}} σ H3 x v vl vu l u s3.heap.objs.size Q I4 r1 (Heap.IsSliceOf.new ..) pl pu q3;show wpAny (model X.prog X.w) X.A (subscriptTail e (.Slice lo hi none p2) v (.ref s3.heap.objs.size)) (EP X pins σ Q) X.xe {s3 with heap:=s3.heap.push {cls:=.type "slice",data:=.fields #[vl,vu,.none]}};exact tail_any (ops:=[.ref s3.heap.objs.size,v]) ht hT hg (by with_unfolding_all rfl)
def gk (xs:List V) (lo hi:Option Int):List V:=(xs.drop (HT.sIx xs.length 0 lo)).take (HT.sIx xs.length xs.length hi - HT.sIx xs.length 0 lo)
theorem kb (xs:List V) (lo hi:Option Int):(gk xs lo hi).length<=xs.length:=by unfold gk;rw [Ol,OO];lia
end
end L2
namespace L2
open PySem PySem.Spec PyProof.Rows
def ixN (n:Nat) (i:Int):Option Nat:=if 0<=i then (if i<n then some i.toNat else none) else if -(n:Int)<=i then some (i+n).toNat else none
def ke {α:Type}(xs:List α) (i:Int):Option α:=(ixN xs.length i).bind λ j=>xs[j]?
theorem uV {n:Nat}{i:Int}{j:Nat}(h:ixN n i=some j):seqIndex? i n=some j/\j<n/\-(n:Int)<=i/\i<n:=by
 unfold ixN at h
 by_cases h0:0<=i
 ·rw [if_pos h0] at h
  by_cases h1:i<n
  ·rw [if_pos h1] at h;have e:i.toNat=j:=Option.some.inj h;exact ⟨by rw [seqIndex_of h0 h1,e],by lia,by lia,h1⟩
  ·rw [if_neg h1] at h;cases h
 ·rw [if_neg h0] at h
  by_cases h1: -(n:Int)<=i
  ·rw [if_pos h1] at h;have e:(i+n).toNat=j:=Option.some.inj h;exact ⟨by rw [seqIndex_neg (by lia) h1,e],by lia,h1,by lia⟩
  ·rw [if_neg h1] at h;cases h
theorem px {α:Type}{xs:List α}{i:Int}{v:α}(h:ke xs i=some v):∃j,seqIndex? i xs.length=some j/\xs[j]? =some v/\j<xs.length/\-(xs.length:Int)<=i/\i<xs.length:=by
 unfold ke at h;cases e:ixN xs.length i with
 | none=>rw [e] at h;cases h
 | some j=>
   rw [e] at h;obtain ⟨h1,h2,h3,h4⟩:=uV e;exact ⟨j,h1,h,h2,h3,h4⟩
theorem bn {α:Type}{xs:List α}{j:Nat}{v:α}(h:xs[j]? =some v):ke xs (j:Int)=some v:=by
 have hj:j<xs.length:=(Oe.mp h).1;have e:ixN xs.length (j:Int)=some j:=by unfold ixN;rw [if_pos (by lia),if_pos (by lia)];simp
 unfold ke;rw [e];exact h
def pA (b:Expr):Prop:= ∀o i,subscripted b false o i=operate [o,i] (getItem o i)
def vz (X:Cx) (r:R2):Prop:=
 ∀(value slice:Expr) (pins:List (Addr×Obj)) (s:Shared) (σ:St) (H:Hp) (x y:V) (v u:Value) (Q:VK),aH X pins σ H s->aL x v->aL y u->r x y H Q->
  subscripted slice false v u=operate [v,u] (getItem v u)->wpAny (model X.prog X.w) X.A (subscriptTail value slice v u) (EP X pins σ Q) X.xe s
def pC (X:Cx) (id:String) (r:V->List V->Hp->VK->Prop):Prop:=
 ∀(pins:List (Addr×Obj)) (s:Shared) (σ:St) (H:Hp) (x:V) (xs:List V) (v:Value) (us:List Value) (Q:VK),aH X pins σ H s->aL x v->aP xs us->r x xs H Q->
  wpAny (model X.prog X.w) X.A (call (.builtin id) (v::us)) (EP X pins σ Q) X.xe s
section
variable {X:Cx}{a b:Expr}{ta tb:TE}{pos:Pos}
theorem vz.or {r r':R2}(h:vz X r) (h':vz X r'):vz X (λ x y H Q=>r x y H Q\/r' x y H Q):=by
 intro value slice pins s σ H x y v u Q I rx ry q hs
 rcases q with q | q
 ·exact h value slice pins s σ H x y v u Q I rx ry q hs
 ·exact h' value slice pins s σ H x y v u Q I rx ry q hs
theorem Mg {r:R2}(hr:vz X r) (ha:PE X a ta) (hb:PE X b tb) (hs:pA b):PE X (.Subscript a b pos) (Nw r ta tb):=by intro pins s σ H Q I h;exact Subscript_ (JK ha hb I h λ v u s2 x y H2 I2 rx ry q=>hr a b pins s2 σ H2 x y v u Q I2 rx ry q (hs _ _))
def Md (K:Frag):R2:=λ x y H Q=> ∃p xs i v,x=.ref p/\y=.int i/\aK K H p xs/\ke xs i=some v/\Q v H
def Mb (K:Frag):R2:=λ x y H Q=> ∃p xs i v,x=.ref p/\y=.int i/\cJ K H p xs/\ke xs i=some v/\Q v H
def Mc:R2:=λ x y H Q=> ∃z i c,x=.str z/\y=.int i/\z.length<=sizeLine/\ke z.cps.toList i=some c/\Q (.str ⟨#[c]⟩) H
theorem Cm:vz X (Md X.K):=by
 intro value slice pins s σ H x y v u Q I rx ry h hs;obtain ⟨p,xs,i,z,rfl,rfl,hq,he,q⟩:=h;cases rx;obtain ⟨t,rfl⟩:=ry;obtain ⟨its,r,pl,hz⟩:=I.list hq;obtain ⟨j,h1,h2,h3,h4,h5⟩:=px he;obtain ⟨w,ew,rw'⟩:=r.get h2;have hl:=r.length;have hn:=iP;have fin:EP X pins σ Q w s:=⟨z,H,I,rw',q⟩
 by_cases h0:0<=i
 ·have hj:i.toNat=j:=by rw [seqIndex_of h0 h5] at h1;exact Option.some.inj h1
  exact item_listR pl.isList h0 (by lia) (by rw [hj];simpa using ew) fin hs
 ·have hj:(i+(its.toArray.size:Int)).toNat=j:=by rw [seqIndex_neg (by lia) h4] at h1;rw [N4,<-hl];exact Option.some.inj h1
  exact subscriptTail_builtinR (x:=w) pl.isList.typeIs slot_list_getitem.lookup
   (wpAny_getItem_list_neg (Q:=λ r s'=>r=w/\EP X pins σ Q r s') pl.isList (by lia) (by rw [N4]<;>lia) (by lia) (by rw [hj];simpa using ew) ⟨rfl,fin⟩) hs
theorem Jl:vz X (Mb X.K):=by
 intro value slice pins s σ H x y v u Q I rx ry h hs;obtain ⟨p,xs,i,z,rfl,rfl,hq,he,q⟩:=h;cases rx;obtain ⟨t,rfl⟩:=ry;obtain ⟨its,r,pl,hz⟩:=I.tuple hq;obtain ⟨j,h1,h2,h3,h4,h5⟩:=px he;obtain ⟨w,ew,rw'⟩:=r.get h2;have hl:=r.length;have hn:=iP;have fin:EP X pins σ Q w s:=⟨z,H,I,rw',q⟩;exact subscriptTail_builtinR (x:=w) pl.typeIs slot_tuple_getitem.lookup
  (getItem_tuple (j:=j) (Q:=λ r s'=>r=w/\EP X pins σ Q r s') pl (by lia) (by lia) (by rw [N4,<-hl];exact h1) (by simpa using ew) ⟨rfl,fin⟩) hs
theorem Jm:vz X Mc:=by
 intro value slice pins s σ H x y v u Q I rx ry h hs;obtain ⟨z,i,c,rfl,rfl,hz,he,q⟩:=h;obtain ⟨t,rfl⟩:=rx;obtain ⟨t',rfl⟩:=ry;obtain ⟨j,h1,h2,h3,h4,h5⟩:=px he;have hl:z.cps.toList.length=z.length:=by simp [Str.length]
 rw [hl] at h1 h4 h5;have hn:=iP;exact tail_any (typeIs_str s z t) slot_str_getitem.lookup (getItem_str (c:=c) (by
  have e1:decide (i< -(2 ^ 63:Int))=false:=decide_eq_false (by lia);have e2:decide (i≥2 ^ 63)=false:=decide_eq_false (by lia);rw [e1,e2,Qv]) (by rw [h1];simpa using h2) ⟨.str ⟨#[c]⟩,H,I.tok _,⟨_,rfl⟩,q⟩) hs
def rIx (K:Frag):R2:=λ x y H Q=>Md K x y H Q\/Mb K x y H Q\/Mc x y H Q
theorem Jn:vz X (rIx X.K):=Cm.or (Jl.or Jm)
theorem sP (its:List Value) (n j:Nat) (u:Value):Obj.mapSeq (·.setIfInBounds j u) {cls:=.type "list",data:=.seq its.toArray n}={cls:=.type "list",data:=.seq (its.set j u).toArray n}:=by simp [Obj.mapSeq]
theorem aH.lst {pins:List (Addr×Obj)}{σ:St}{H:Hp}{s:Shared}{p:Addr}{xs:List V}(I:aH X pins σ H s) (h:H p=some (.lst xs)):
  ∃(its:List Value) (n:Nat),aP xs its/\s.heap.get? p=some {cls:=.type "list",data:=.seq its.toArray n}/\xs.length<=sizeLine:=by
 obtain ⟨z,its,n,r,e⟩:=I.hok p _ h;exact ⟨its,n,r,e,z⟩
theorem aH.lstUpd {pins:List (Addr×Obj)}{σ:St}{H:Hp}{s:Shared}{p:Addr}{xs ys:List V}{its its':List Value}{n n':Nat}{f:Obj->Obj}(I:aH X pins σ H s) (h:H p=some (.lst xs))
  (ho:s.heap.get? p=some {cls:=.type "list",data:=.seq its.toArray n}) (hf:f {cls:=.type "list",data:=.seq its.toArray n}={cls:=.type "list",data:=.seq its'.toArray n'}) (r:aP ys its') (hz:ys.length<=sizeLine) (t:Nat):
  aH X pins σ (upd H p (.lst ys)) {s with heap:=s.heap.update p f,toks:=t}:=by
 have e:(s.heap.update p f).get? p=some {cls:=.type "list",data:=.seq its'.toArray n'}:=by rw [Heap.get?_update_self f ho (by rw [hf]<;>rfl),hf]
 refine I.write (x:=p) (e:=p) (by rw [h];trivial) (.inl rfl) (λ b u hb q=>(Heap.get?_update_other _ _ (Ne.symm hb)).trans q) ⟨_,e⟩ ?_;exact ⟨hz,its',n',r,e⟩
def GA:V->V->V->Hp->(Hp->Prop)->Prop:=λ o i v H Q=> ∃p xs k j,o=.ref p/\i=.int k/\H p=some (.lst xs)/\ixN xs.length k=some j/\Q (upd H p (.lst (xs.set j v)))
theorem iZ:Nc X GA:=by
 intro pins s σ H o i v ov iv u Q I ro ri rv h;obtain ⟨p,xs,k,j,rfl,rfl,hp,hj,q⟩:=h;cases ro;obtain ⟨t,rfl⟩:=ri;obtain ⟨its,n,r,ho,hz⟩:=I.lst hp;obtain ⟨h1,h2,h3,h4⟩:=uV hj;have hl:=r.length;have hn:=iP;have I':aH X pins σ (upd H p (.lst (xs.set j v))) {s with heap:=s.heap.update p (Obj.mapSeq (·.setIfInBounds j u))}:=
  I.lstUpd hp ho (sP its n j u) (r.set rv j) (by rw [OB];exact hz) s.toks
 by_cases h0:0<=k
 ·have hk:k.toNat=j:=by rw [seqIndex_of h0 h4] at h1;exact Option.some.inj h1
  exact PySem.W.ki_setAt ho h0 (by lia) (by rw [N4,<-hl];exact h4) (by rw [hk];exact ⟨_,I',q⟩)
 ·have hk:(k+(its.toArray.size:Int)).toNat=j:=by rw [seqIndex_neg (by lia) h3] at h1;rw [N4,<-hl];exact Option.some.inj h1
  exact PySem.W.ki_setBack ho (by lia) (by rw [N4,<-hl];exact h3) (by lia) (by rw [hk];exact ⟨_,I',q⟩)
theorem nB (lo hi:Option Int) (n:Nat):(sliceBounds lo hi none n).1=((HT.sIx n 0 lo:Nat):Int)/\(sliceBounds lo hi none n).2.1=((HT.sIx n n hi:Nat):Int)/\(sliceBounds lo hi none n).2.2=1:=by
 refine ⟨?_,?_,rfl⟩
 ·cases lo with
  | none=>simp [sliceBounds,HT.sIx]
  | some i=>
    simp only [sliceBounds,HT.sIx,QJ,show (1:Int) > 0 by decide,if_true]
    by_cases h:i<0
    ·simp only [h,if_true]<;>lia
    ·simp only [h,if_false]<;>lia
 ·cases hi with
  | none=>simp [sliceBounds,HT.sIx]
  | some i=>
    simp only [sliceBounds,HT.sIx,QJ,show (1:Int) > 0 by decide,if_true]
    by_cases h:i<0
    ·simp only [h,if_true]<;>lia
    ·simp only [h,if_false]<;>lia
theorem l5 (its:List Value) (lo hi:Option Int):slicePick its.toArray lo hi none=((its.drop (HT.sIx its.length 0 lo)).take (HT.sIx its.length its.length hi - HT.sIx its.length 0 lo)).toArray:=by obtain ⟨h1,h2,h3⟩:=nB lo hi its.toArray.size;unfold slicePick;rw [h1,h2,h3];simp only [sliceRange_one,pick_run,N4]<;>rfl
def ND (K:Frag):V->Option Int->Option Int->Hp->VK->Prop:=λ x lo hi H Q=> ∃a xs,x=.ref a/\aK K H a xs/\∀p,H p=none->Q (.ref p) (upd H p (.lst (gk xs lo hi)))
theorem BR:wZ X (ND X.K):=by intro pins s σ H x v vl vu lo hi sl Q I rx hs pl pu h;obtain ⟨a,xs,rfl,hx,q⟩:=h;cases rx;obtain ⟨its,r,ht,hz⟩:=I.list hx;have hlen:=r.length;refine ⟨"list",_,slot_list_getitem.lookup,ht.isList.typeIs,?_⟩;refine wpAny_getItem_list_slice ht.isList hs pl pu .none (by simp) ?_ (by rw [N4]<;>lia);rw [l5,<-hlen];refine ⟨.ref s.heap.objs.size,_,I.laid (t':=s.toks) (o:=.lst (gk xs lo hi)) (λ b ob q=>Heap.get?_push_of_some _ q) (PF _) ?_,rfl,q _ (I.hok.fresh (PF _))⟩;exact ⟨PK (kb xs lo hi) hz,_,0,(r.drop (HT.sIx xs.length 0 lo)).take (HT.sIx xs.length xs.length hi - HT.sIx xs.length 0 lo),Heap.get?_push_size _ rfl⟩
def dl:V->Bool
 | .non=>true
 | .bl _=>true
 | .int _=>true
 | .str _=>true
 | _=>false
def jQ:V->V->Bool
 | .non,.non=>true
 | .bl a,.bl b=>a == b
 | .bl a,.int b=>(if a then 1 else 0) == b
 | .int a,.bl b=>a == (if b then 1 else 0)
 | .int a,.int b=>a == b
 | .str a,.str b=>a == b
 | _,_=>false
theorem A5 {A:Around}{s:Shared}{y x:V}{u v:Value}(ry:aL y u) (rx:aL x v) (fy:dl y=true) (fx:dl x=true):SeqAt.EqAt A s u v (jQ y x):=by
 cases y with
 | non=>
   cases ry;cases x with
   | non=>cases rx;exact SeqAt.EqAt.same _
   | bl b=>cases rx;exact SeqAt.EqAt.none_bool b
   | int b=>obtain ⟨t,rfl⟩:=rx;exact SeqAt.EqAt.none_int b t
   | str b=>obtain ⟨t,rfl⟩:=rx;exact SeqAt.EqAt.none_str b t
   | _=>exact absurd (show false=true from fx) Qo
 | bl a=>
   cases ry;cases x with
   | non=>cases rx;exact SeqAt.EqAt.bool_none a
   | bl b=>cases rx;exact SeqAt.EqAt.bool_bool a b
   | int b=>obtain ⟨t,rfl⟩:=rx;exact SeqAt.EqAt.bool_int a b t
   | str b=>obtain ⟨t,rfl⟩:=rx;exact SeqAt.EqAt.bool_str a b t
   | _=>exact absurd (show false=true from fx) Qo
 | int a=>
   obtain ⟨t',rfl⟩:=ry;cases x with
   | non=>cases rx;exact SeqAt.EqAt.int_none a t'
   | bl b=>cases rx;exact SeqAt.EqAt.int_bool a t' b
   | int b=>obtain ⟨t,rfl⟩:=rx;exact SeqAt.EqAt.int_int a t' b t
   | str b=>obtain ⟨t,rfl⟩:=rx;exact SeqAt.EqAt.int_str a t' b t
   | _=>exact absurd (show false=true from fx) Qo
 | str a=>
   obtain ⟨t',rfl⟩:=ry;cases x with
   | non=>cases rx;exact SeqAt.EqAt.str_none a t'
   | bl b=>cases rx;exact SeqAt.EqAt.str_bool a t' b
   | int b=>obtain ⟨t,rfl⟩:=rx;exact SeqAt.EqAt.str_int a t' b t
   | str b=>obtain ⟨t,rfl⟩:=rx;exact SeqAt.EqAt.str_str a t' b t
   | _=>exact absurd (show false=true from fx) Qo
 | _=>exact absurd (show false=true from fy) Qo
def tI (x:V) (u:Value):Bool:=match u with
 | .none=>jQ .non x
 | .bool b=>jQ (.bl b) x
 | .int i _=>jQ (.int i) x
 | .str z _=>jQ (.str z) x
 | _=>false
theorem A3 {x y:V}{u:Value}(r:aL y u) (f:dl y=true):tI x u=jQ y x:=by
 cases y with
 | non=>cases r;rfl
 | bl b=>cases r;rfl
 | int i=>obtain ⟨t,rfl⟩:=r;rfl
 | str z=>obtain ⟨t,rfl⟩:=r;rfl
 | _=>exact absurd (show false=true from f) Qo
theorem jo {x:V}:∀{xs:List V}{us:List Value},aP xs us->xs.all dl=true->us.any (tI x)=xs.any λ y=>jQ y x
 | _,_,.nil,_=>rfl
 | y::xs,u::us,.cons r t,f=>by rw [Op,Qp] at f;rw [OH,OH,A3 r f.1,jo t f.2]
theorem hU {A:Around}{s:Shared}{x:V}{v:Value}(rx:aL x v) (fx:dl x=true):∀{xs:List V}{us:List Value},aP xs us->xs.all dl=true->∀u∈us,SeqAt.EqAt A s u v (tI x u)
 | _,_,.nil,_=>λ u hu=>by cases hu
 | y::xs,u::us,.cons r t,f=>λ u' hu=>by
   rw [Op,Qp] at f
   rcases N1.mp hu with rfl | hu
   ·rw [A3 r f.1];exact A5 r rx f.1 fx
   ·exact hU rx fx t f.2 u' hu
def Cp (x:V) (xs:List V):Bool:=xs.any λ y=>jQ y x
def II (K:Frag) (neg:Bool):R2:=λ x y H Q=> ∃p xs,y=.ref p/\(aK K H p xs\/cJ K H p xs)/\dl x=true/\xs.all dl=true/\Q (.bl (if neg then !Cp x xs else Cp x xs)) H
theorem wa:iJ X (compareOp .In) (II X.K false):=by
 intro pins s σ H x y v u Q I rx ry h;obtain ⟨p,xs,rfl,hq,fx,fs,q⟩:=h;cases ry
 rcases hq with hq | hq
 ·obtain ⟨its,r,pl,hz⟩:=I.list hq;refine SeqAt.in_listAt (tI x) pl.isList (λ w hw=>hU rx fx r fs w (by simpa using hw)) ⟨.bl _,H,I,rfl,?_⟩;rw [show its.toArray.any (tI x)=its.any (tI x) by simp,jo r fs];exact q
 ·obtain ⟨its,r,pl,hz⟩:=I.tuple hq;refine SeqAt.in_tupleAt (tI x) pl (λ w hw=>hU rx fx r fs w (by simpa using hw)) ⟨.bl _,H,I,rfl,?_⟩;rw [show its.toArray.any (tI x)=its.any (tI x) by simp,jo r fs];exact q
theorem n6:iJ X (compareOp .NotIn) (II X.K true):=by
 intro pins s σ H x y v u Q I rx ry h;obtain ⟨p,xs,rfl,hq,fx,fs,q⟩:=h;cases ry
 rcases hq with hq | hq
 ·obtain ⟨its,r,pl,hz⟩:=I.list hq;refine SeqAt.notIn_listAt (tI x) pl.isList (λ w hw=>hU rx fx r fs w (by simpa using hw)) ⟨.bl _,H,I,rfl,?_⟩;rw [show its.toArray.any (tI x)=its.any (tI x) by simp,jo r fs];exact q
 ·obtain ⟨its,r,pl,hz⟩:=I.tuple hq;refine SeqAt.notIn_tupleAt (tI x) pl (λ w hw=>hU rx fx r fs w (by simpa using hw)) ⟨.bl _,H,I,rfl,?_⟩;rw [show its.toArray.any (tI x)=its.any (tI x) by simp,jo r fs];exact q
theorem oZ:aY X (.builtin "len") (λ xs H Q=> ∃p ys,xs=[.ref p]/\(aK X.K H p ys\/cJ X.K H p ys)/\Q (.int ys.length) H):=by
 intro pins s σ H xs us Q I r h;obtain ⟨p,ys,rfl,hq,q⟩:=h;obtain ⟨u,rfl,rx⟩:=dw r;cases rx;have hn:=iP
 rcases hq with hq | hq
 ·obtain ⟨its,r',pl,hz⟩:=I.list hq;have hlen:=r'.length;exact Calls.call_len_list pl.isList (by simp only [N4]<;>lia) ⟨.int ys.length,H,I.tok _,⟨s.toks+1,by rw [N4,hlen]⟩,q⟩
 ·obtain ⟨its,r',pl,hz⟩:=I.tuple hq;have hlen:=r'.length;exact len_tuple pl (by simp only [N4]<;>lia) ⟨.int ys.length,H,I.tok _,⟨s.toks+1,by rw [N4,hlen]⟩,q⟩
theorem oY:aY X (.builtin "len") (λ xs H Q=> ∃z,xs=[.str z]/\z.length<=sizeLine/\Q (.int z.length) H):=by intro pins s σ H xs us Q I r h;obtain ⟨z,rfl,hz,q⟩:=h;obtain ⟨u,rfl,t,rfl⟩:=dw r;have hn:=iP;exact len_str (by lia) ⟨.int z.length,H,I.tok _,⟨_,rfl⟩,q⟩
theorem aY.or {f:Value}{r r':List V->Hp->VK->Prop}(h:aY X f r) (h':aY X f r'):aY X f (λ xs H Q=>r xs H Q\/r' xs H Q):=by
 intro pins s σ H xs us Q I rs q
 rcases q with q | q
 ·exact h pins s σ H xs us Q I rs q
 ·exact h' pins s σ H xs us Q I rs q
theorem oX:aY X (.type "list") (λ xs H Q=> ∃p ys,xs=[.ref p]/\(aK X.K H p ys\/cJ X.K H p ys)/\∀l,H l=none->Q (.ref l) (upd H l (.lst ys))):=by
 intro pins s σ H xs us Q I r h;obtain ⟨p,ys,rfl,hq,q⟩:=h;obtain ⟨u,rfl,rx⟩:=dw r;cases rx;have fin:∀(its:List Value),aP ys its->ys.length<=sizeLine->∀(h':Heap) (c':Nat),(∀b o',s.heap.get? b=some o'->h'.get? b=some o')->
   h'.get? s.heap.objs.size=some {cls:=.type "list",dict:=none,data:=.seq its.toArray c',slots:= #[]}->EP X pins σ Q (.ref s.heap.objs.size) {s with heap:=h'}:=λ its r' hz h' c' kp e=>
  ⟨.ref s.heap.objs.size,_,I.laid (t':=s.toks) kp (PF _) (show bw X.prog X.w _ h' _ (.lst ys) from ⟨hz,its,c',r',e⟩),rfl,q _ (I.hok.fresh (PF _))⟩
 rcases hq with hq | hq
 ·obtain ⟨its,r',pl,hz⟩:=I.list hq;have hlen:=r'.length;obtain ⟨o,ho,hc,n,hd⟩:=pl.isList;exact call_list_seq p (.inl rfl) ho hc hd (λ h' c' kp e=>fin its r' hz h' c' kp e) (by simp only [N4]<;>lia)
 ·obtain ⟨its,r',pl,hz⟩:=I.tuple hq;have hlen:=r'.length;obtain ⟨o,ho,hc,n,hd⟩:=pl;exact call_list_seq p (.inr rfl) ho hc hd (λ h' c' kp e=>fin its r' hz h' c' kp e) (by simp only [N4]<;>lia)
def JW (K:Frag) (T:String) (x:V) (H:Hp):Prop:=match x with
 | .str _=>T="str"
 | .int _=>T="int"
 | .ref p=>(T="list"/\∃xs,aK K H p xs)\/(T="tuple"/\∃o,K.lookup p=some o/\o.cls=.type "tuple"/\o.dict=none)\/
   (T="dict"/\((∃kvs,H p=some (.dK kvs))\/∃kvs,H p=some (.dT kvs)))\/(T="set"/\∃S n,H p=some (.set S n))
 | _=>False
theorem kN {pins:List (Addr×Obj)}{σ:St}{H:Hp}{s:Shared}{T:String}{x:V}{v:Value}(I:aH X pins σ H s) (r:aL x v) (ty:JW X.K T x H):
  s.TypeIs v T/\∀a,v=.ref a->∃ob,s.heap.get? a=some ob/\ob.dict=none:=by
 cases x with
 | str z=>
   obtain ⟨t,rfl⟩:=r;cases (show T="str" from ty);exact ⟨typeIs_str s z t,λ _ e=>nomatch e⟩
 | int i=>
   obtain ⟨t,rfl⟩:=r;cases (show T="int" from ty);exact ⟨typeIs_int s i t,λ _ e=>nomatch e⟩
 | ref p=>
   cases r
   rcases ty with ⟨rfl,xs,hq⟩ | ⟨rfl,o,hk,hc,hd⟩ | ⟨rfl,hk⟩ | ⟨rfl,S,n,hk⟩
   ·obtain ⟨its,_,pl,_⟩:=I.list hq;refine ⟨pl.isList.typeIs,λ a e=>?_⟩;cases e;obtain ⟨o,n,e,c,hd,_⟩:=pl;exact ⟨o,e,hd⟩
   ·refine ⟨⟨o,I.kIn p o hk,hc⟩,λ a e=>?_⟩;cases e;exact ⟨o,I.kIn _ o hk,hd⟩
   ·have z:∃o,s.heap.get? p=some o/\o.ExactDict:=by
     rcases hk with ⟨kvs,hk⟩ | ⟨kvs,hk⟩
     ·obtain ⟨_,_,_,_,o,_,_,e,ex,_⟩:=I.hok p _ hk;exact ⟨o,e,ex⟩
     ·obtain ⟨_,_,_,_,o,_,_,e,ex,_⟩:=I.hok p _ hk;exact ⟨o,e,ex⟩
    obtain ⟨o,e,ex⟩:=z;refine ⟨⟨o,e,ex.1⟩,λ a e2=>?_⟩;cases e2;exact ⟨o,e,ex.2.1⟩
   ·obtain ⟨o,_,_,_,e,ex,_⟩:=I.hok p _ hk;refine ⟨⟨o,e,ex.1⟩,λ a e2=>?_⟩;cases e2;exact ⟨o,e,ex.2.1⟩
 | _=>exact False.elim ty
def Nx (K:Frag) (T:String) (r:V->List V->Hp->VK->Prop) (to:TE) (t:TA):TE:=λ σ H Q=>to σ H λ x H1=>JW K T x H1/\t σ H1 λ xs H2=>r x xs H2 Q
variable {o e:Expr}{es:List Expr}{to:TE}{t:TA}{name:Str}{apos cpos:Pos}{T id:String}{r:V->List V->Hp->VK->Prop}
theorem Mh (pa:PlainAttrs T) (slot:Slot T name id) (hty:typeOf (.builtin id)=pure (.type "method_descriptor")) (hm:pC X id r) (ho:PE X o to) (ha:PA X (e::es) t)
  (hbase:attributeBase o name X.env (eval o X.env)=eval o X.env:=by rfl)
  (hfew:((backTo cpos (starEach (e::es) X.env)).all (λ x=> !x.1)&&(backToKw cpos (keywordEach [] X.env)).all (λ x=>x.1.isSome)
   &&decide ((e::es).length+([]:List Keyword).length+(if ([]:List Keyword).isEmpty then 0 else 1)<30))=true:=by rfl)
  (hline:(apos.endLine == cpos.line)=true:=by rfl) (hs:starEach (e::es) X.env=(false,eval e X.env)::starEach es X.env:=by rfl) (hplain:(backTo cpos (starEach es X.env)).any (·.1)=false:=by rfl):
  PE X (.Call (.Attribute o name apos) (e::es) [] cpos) (Nx X.K T r to t):=by
 intro pins s σ H Q I h;refine wpAny_Call_method_late hbase hfew hline rfl (bL (ho pins s σ H _ I h) λ v s1 ⟨x,H1,I1,r1,ty,q1⟩=>?_);obtain ⟨h1,h2⟩:=kN I1 r1 ty;refine ⟨T,id,pa,slot,hty,h1,h2,?_⟩;have hA:=ha cpos pins s1 σ H1 _ I1 q1;rw [hs] at hA ⊢;refine Calls.callWith_builtin (by show (false||(backTo cpos (starEach es X.env)).any (·.1))=false;rw [hplain]<;>rfl) (Calls.evalArgs_plain ?_)
 exact bL hA λ us s2 ⟨vs,H2,I2,r2,q2⟩=>hm pins s2 σ H2 x vs v us Q I2 r1 r2 q2
end
end L2
namespace L2
open PySem PySem.Spec PyProof.Rows
def MtM (X:Cx) (id:String) (r:V->List V->Hp->VK->Prop):Prop:=
 ∀(pins:List (Addr×Obj)) (s:Shared) (σ:St) (H:Hp) (x:V) (xs:List V) (v:Value) (us:List Value) (Q:VK),aH X pins σ H s->aL x v->aP xs us->r x xs H Q->
  wpAny (model X.prog X.w) X.A (call (.builtin id) (v::us)) (EP X pins σ Q) X.xe s
theorem aP.one:∀{x:V}{us:List Value},aP [x] us->∃u,us=[u]/\aL x u
 | _,_,.cons r .nil=>⟨_,rfl,r⟩
section
variable {X:Cx}{pins:List (Addr×Obj)}{σ:St}{H:Hp}{s:Shared}{l b:Addr}{xs ys zs:List V}
theorem aH.lset {its its':List Value}{n:Nat}{f:Array Value->Array Value}{t':Nat}(I:aH X pins σ H s) (hH:H l=some (.lst xs))
  (e:s.heap.get? l=some {cls:=.type "list",data:=.seq its.toArray n}) (hf:f its.toArray=its'.toArray) (hv:aP ys its') (hz:ys.length<=sizeLine):
  aH X pins σ (upd H l (.lst ys)) {s with heap:=s.heap.update l (Obj.mapSeq f),toks:=t'}:=by
 have q:=PySem.IsL.update e f;rw [hf] at q;refine I.write (x:=l) (e:=l) (by rw [hH];exact trivial) (.inl rfl) (λ b' u hb hu=>(Heap.get?_update_other s.heap (Obj.mapSeq f) (Ne.symm hb)).trans hu) ⟨_,q⟩ ?_;exact ⟨hz,its',_,hv,q⟩
theorem aH.lnew {its:List Value}{t':Nat}(I:aH X pins σ H s) (hv:aP ys its) (hz:ys.length<=sizeLine):
  aH X pins σ (upd H s.heap.objs.size (.lst ys)) {s with heap:=s.heap.push {cls:=.type "list",data:=.seq its.toArray},toks:=t'}:=
 I.laid (λ _ _ q=>Heap.get?_push_of_some _ q) (PF _) ⟨hz,its,0,hv,Heap.get?_push_size _ rfl⟩
theorem aH.fresh (I:aH X pins σ H s):H s.heap.objs.size=none:=I.hok.fresh (PF _)
theorem aH.lstM (I:aH X pins σ H s) (hH:H l=some (.lst xs)):xs.length<=sizeLine/\∃(its:List Value) (n:Nat),aP xs its/\xs.length=its.length/\s.heap.get? l=some {cls:=.type "list",data:=.seq its.toArray n}:=by obtain ⟨z,its,n,r,e⟩:=I.hok l _ hH;exact ⟨z,its,n,r,r.length,e⟩
theorem lx {n:Nat}(h:n<=sizeLine):Builtin.List.listTooLong n=false:=by unfold Builtin.List.listTooLong;exact decide_eq_false (by lia)
end
section
variable {X:Cx}
def BZ:V->List V->Hp->VK->Prop:=λ x vs H Q=> ∃l xs y,x=.ref l/\vs=[y]/\H l=some (.lst xs)/\xs.length<sizeLine/\Q .non (upd H l (.lst (xs++[y])))
theorem wn:MtM X "list.append" BZ:=by intro pins s σ H x vs v us Q I rx rv h;obtain ⟨l,xs,y,rfl,rfl,hH,hz,q⟩:=h;cases rx;obtain ⟨u,rfl,ru⟩:=rv.one;obtain ⟨z,its,n,r,hl,e⟩:=I.lstM hH;refine call_meets F.slot_list_append ⟨_,e,rfl⟩ F.entry_list_append (F.args_list_append_2 _ _) (PySem.list_append l its.toArray n u (by rw [N4];lia)) ⟨e,?_⟩;refine ⟨.non,_,I.lset (its':=its++[u]) hH e (by simp) (r.append (.cons ru .nil)) ?_,rfl,q⟩;rw [Oa,Pa];lia
def kG:V->List V->Hp->VK->Prop:=λ x vs H Q=> ∃l b xs zs,x=.ref l/\vs=[.ref b]/\H l=some (.lst xs)/\H b=some (.lst zs)/\xs.length+zs.length<=sizeLine/\Q .non (upd H l (.lst (xs++zs)))
theorem wm:MtM X "list.extend" kG:=by
 intro pins s σ H x vs v us Q I rx rv h;obtain ⟨l,b,xs,zs,rfl,rfl,hH,hB,hz,q⟩:=h;cases rx;obtain ⟨u,rfl,ru⟩:=rv.one;cases ru;obtain ⟨z,its,n,r,hl,e⟩:=I.lstM hH;obtain ⟨z2,its2,n2,r2,hl2,e2⟩:=I.lstM hB;have hsz:its.toArray.size+its2.toArray.size<=sizeLine:=by rw [N4,N4];lia
 have hlong:¬(!its.toArray.isEmpty&&Builtin.List.listTooLong (its.toArray.size+its2.toArray.size))=true:=by rw [lx hsz,Bool.and_false];exact Qo
 refine call_meets F.slot_list_extend ⟨_,e,rfl⟩ F.entry_list_extend (F.args_list_extend_2 _ _)
  (AutoSeq1.list_extend_list_list_0 l its.toArray n b its2.toArray n2 hlong (by rw [N4];lia) (by lia)) ⟨e,e2,?_⟩
 refine ⟨.non,_,I.lset (its':=its++its2) hH e (by simp) (r.append r2) ?_,rfl,q⟩;rw [Oa];lia
def IJ:R2:=λ x y H Q=> ∃l b xs zs,x=.ref l/\y=.ref b/\H l=some (.lst xs)/\H b=some (.lst zs)/\xs.length+zs.length<=sizeLine/\∀p,H p=none->Q (.ref p) (upd H p (.lst (xs++zs)))
theorem IV:iJ X (binaryOp .Add) IJ:=by
 intro pins s σ H x y v u Q I rx ry h;obtain ⟨l,b,xs,zs,rfl,rfl,hH,hB,hz,q⟩:=h;cases rx;cases ry;obtain ⟨z,its,n,r,hl,e⟩:=I.lstM hH;obtain ⟨z2,its2,n2,r2,hl2,e2⟩:=I.lstM hB;refine PySem.P.add_list e e2 ?_ (by rw [N4,N4];lia);have ea:its.toArray++its2.toArray=(its++its2).toArray:=by simp
 rw [ea];exact ⟨.ref _,_,I.lnew (t':=s.toks) (r.append r2) (by rw [Oa];lia),rfl,q _ I.fresh⟩
end
section
variable {prog:Program}{w:World}{A:Around}{E:Value->Shared->Prop}{s:Shared}
theorem tZ {a c n:Nat}(hac:a<=c) (hc:c<=n):sliceBounds (some (a:Int)) (some (c:Int)) none n=((a:Int),(c:Int),1):=by
 simp only [sliceBounds,QJ];have h1:¬((a:Int)<0):=by lia
 have h2:¬((c:Int)<0):=by lia
 simp only [h1,h2,if_false,show (1:Int) > 0 by decide,if_true];congr 1
 ·lia
 ·congr 1;lia
set_option maxRecDepth 100000 in
theorem Bz {l b sl:Addr}{items new:Array Value}{n n2:Nat}{vl vu:Value}{a c:Nat}{Q:Unit->Shared->Prop}
  (e:s.heap.get? l=some {cls:=.type "list",data:=.seq items n}) (e2:s.heap.get? b=some {cls:=.type "list",data:=.seq new n2}) (hne:l≠b)
  (hs:s.heap.IsSliceOf sl vl vu .none) (pl:IsPart vl (some (a:Int))) (pu:IsPart vu (some (c:Int))) (hac:a<=c) (hc:c<=items.size)
  (hsz:items.size+new.size<=sizeLine) (h:Q () {s with heap:=s.heap.update l (Obj.mapSeq λ xs=>xs.extract 0 a++new++xs.extract c xs.size)}):
  wpAny (model prog w) A (setItem (.ref l) (.ref sl) (.ref b)) Q E s:=by
 have hl:s.heap.IsList l items:=PySem.IsL.isList e;have hb:s.heap.IsList b new:=PySem.IsL.isList e2;obtain ⟨os,hos,hcs,hds⟩:=id hs;have hTs:s.TypeIs (.ref sl) "slice":=⟨os,hos,hcs⟩;have hstep:¬((rawPart none == rawInt 0)=true):=Qo;have hsame:Builtin.List.listSameRef (.ref l) (.ref b)=false:=by unfold Builtin.List.listSameRef;exact beq_eq_false_iff_ne.mpr hne
 have hmax:(max (a:Int) (c:Int)).toNat=c:=by lia
 have hz':((λ xs:Array Value=>xs.extract 0 a++new++xs.extract c xs.size) items).size<=sizeLine+1:=by simp only [Array.size_append,Array.size_extract];lia
 unfold setItem
 try with_reducible refine wpAny_holding ?_
 first | refine wpAny_bind (wpAny_pure ?_) | skip
 refine wpAny_bind (wpAny_sequenceKey hl.typeIs (by decide) ?_);refine wpAny_bind (wpAny_callSpecial?_slot (name:=Str.ofString "__setitem__") hl.typeIs slot_list_setitem
  (wpAny_call_entry slot_list_setitem hl.typeIs entry_list_setitem ?_ (args_list_setitem _ _ _)))
 show wpAny _ _ (Builtin.List.listSubscript? (.ref sl) >>= _) _ _ s;refine wpAny_bind ?_;unfold Builtin.List.listSubscript?;refine wpAny_bind (wpAny_specialOf hTs slice_no_index ?_);simp only [Option.isNone_none,if_true];refine wpAny_pure ?_;show wpAny _ _ (typeOf (.ref sl) >>= _) _ _ s;refine wpAny_bind (wpAny_typeOf hTs ?_)
 first
  | rw [if_neg (by decide)]
  | refine PySem.W.KFB.if_not (by decide) ?_
 rw [listSliceParts_eq];refine wpAny_bind (wpAny_bind (wpAny_field hos hds (x:=.none) rfl (wpAny_bind (wpAny_listPart .none ?_))));rw [if_neg hstep];refine wpAny_bind (wpAny_field hos hds (x:=vl) rfl (wpAny_bind (wpAny_listPart pl ?_)));refine wpAny_bind (wpAny_field hos hds (x:=vu) rfl (wpAny_bind (wpAny_listPart pu (wpAny_pure ?_))))
 first
  | simp only [hsame,Qr,if_false]
  | refine PySem.W.KFB.if_not hsame ?_
  | (dsimp only
     rw [if_neg (by rw [hsame];exact Qo)])
 refine wpAny_bind (m:=Builtin.List.listAllItems (.ref b) "must assign iterable to extended slice") ?_;unfold Builtin.List.listAllItems;refine wpAny_bind (wpAny_typeOf hb.typeIs ?_)
 first
  | refine PySem.W.KFB.if_so (by decide) ?_
  | rw [if_pos (by decide)]
  | simp only [beq_self_eq_true,Bool.true_or,if_true]
 unfold Builtin.List.listItems;refine wpAny_bind (wpAny_seqItems e2 rfl (wpAny_pure ?_));refine wpAny_bind (wpAny_bind (wpAny_seqItems e rfl (wpAny_pure ?_)));refine wpAny_bind (wpAny_of_eq ((sliceIndices_raw (some (a:Int)) (some (c:Int)) none items.size (by simp)).trans (congrArg (pure:Int×Int×Int->Sem (Int×Int×Int)) (tZ hac hc))) ?_);show wpAny _ _ (if ((1:Int) == 1)=true then _ else _) _ _ s;rw [if_pos (by decide)];refine wpAny_bind (wpAny_rule ?_)
 first
  | simp only [lx hsz,Qr,if_false]
  | refine PySem.W.KFB.if_not (lx hsz) ?_
 first | refine wpAny_bind (wpAny_pure ?_) | skip
 show wpAny _ _ (updateSeq l (λ xs=>xs.extract 0 ((a:Int)).toNat++new++xs.extract (max (a:Int) (c:Int)).toNat xs.size) >>= _) _ _ s;rw [hmax,Qd];refine wpAny_bind (wpAny_updateSeq (hz:=PK (PU _ _) hsz) (_hz':=hz') e rfl ?_);refine wpAny_bind (wpAny_letGo ?_)
 first
  | exact wpAny_bind (wpAny_pure (wpAny_pure ⟨.none,rfl,wpAny_pure h⟩))
  | exact wpAny_pure ⟨.none,rfl,wpAny_pure h⟩
end
section
variable {X:Cx}
end
end L2
namespace L2
open PySem PySem.Spec PyProof.Rows
section
variable {κ:Type} [DecidableEq κ]
def valV (kvs:List (κ×V)) (k:κ):Option V:=(kvs.find? λ kv=>decide (kv.1=k)).map (·.2)
def nU (kvs:List (κ×V)) (k:κ) (v:V):List (κ×V):=
 if (kvs.any λ kv=>decide (kv.1=k))=true then kvs.map (λ kv=>if kv.1=k then (kv.1,v) else kv) else kvs++[(k,v)]
theorem zq {p:κ×V}{r:List (κ×V)}{k:κ}(e:p.1=k):valV (p::r) k=some p.2:=by simp [valV,OU,e]
theorem zr {p:κ×V}{r:List (κ×V)}{k:κ}(e:¬p.1=k):valV (p::r) k=valV r k:=by simp [valV,OU,e]
theorem qC (kvs:List (κ×V)) (k:κ) (v:V):(nU kvs k v).length<=kvs.length+1:=by
 unfold nU;split
 ·rw [NZ];lia
 ·rw [Oa,Oh,List.length_nil];lia
theorem jU.getD {o:Option V}{u:Option Value}{d:V}{d':Value}(r:jU o u) (rd:aL d d'):aL (o.getD d) (u.getD d'):=by
 cases o with
 | none=>cases u with
   | none=>exact rd
   | some _=>exact (show False from r).elim
 | some _=>cases u with
   | none=>exact (show False from r).elim
   | some _=>exact r
theorem KV.val {kvs:List (κ×V)}{vs:List (κ×Value)}(r:KV kvs vs) (k:κ):jU (valV kvs k) (valueAt vs k):=by
 unfold KV at r
 induction r with
 | nil=>exact True.intro
 | @cons p q ps qs h t ih=>
   obtain ⟨h1,h2⟩:=h
   by_cases e:p.1=k
   ·have e':q.1=k:=h1.symm.trans e;have b:valueAt (q::qs) k=some q.2:=by simp [valueAt,OU,e']
    rw [zq e,b];exact h2
   ·have e':¬q.1=k:=λ z=>e (h1.trans z);have b:valueAt (q::qs) k=valueAt qs k:=by simp [valueAt,OU,e']
    rw [zr e,b];exact ih
theorem KV.any {kvs:List (κ×V)}{vs:List (κ×Value)}(r:KV kvs vs) (k:κ):(kvs.any λ kv=>decide (kv.1=k))=vs.any λ kv=>decide (kv.1=k):=by
 unfold KV at r
 induction r with
 | nil=>rfl
 | cons h t ih=>rw [OH,OH,ih,h.1]
theorem KV.repl {kvs:List (κ×V)}{vs:List (κ×Value)}(r:KV kvs vs) (k:κ) {y:V}{u:Value}(ry:aL y u):
  KV (kvs.map λ kv=>if kv.1=k then (kv.1,y) else kv) (vs.map λ kv=>if kv.1=k then (kv.1,u) else kv):=by
 unfold KV at r ⊢
 induction r with
 | nil=>exact .nil
 | @cons p q ps qs h t ih=>
   rw [Oj,Oj];refine .cons ?_ ih;obtain ⟨h1,h2⟩:=h
   by_cases e:p.1=k
   ·rw [if_pos e,if_pos (h1.symm.trans e)];exact ⟨h1,ry⟩
   ·rw [if_neg e,if_neg (λ z=>e (h1.trans z))];exact ⟨h1,h2⟩
theorem KV.put {kvs:List (κ×V)}{vs:List (κ×Value)}(r:KV kvs vs) (k:κ) {y:V}{u:Value}(ry:aL y u):KV (nU kvs k y) (stored vs k u):=by
 unfold nU stored;rw [r.any k]
 by_cases e:(vs.any λ kv=>decide (kv.1=k))=true
 ·rw [if_pos e,if_pos e];exact r.repl k ry
 ·rw [if_neg e,if_neg e];exact Paired.snoc r ⟨rfl,ry⟩
end
theorem GN {P:Program}{w:World}{k:Key}{u:Value}(r:aL (kV k) u):(mixKind P w).is k u=true:=by
 cases k with
 | inl i=>obtain ⟨t,e⟩:=(show∃t,u=Value.int i t from r);subst e;exact qy P w i t
 | inr x=>obtain ⟨t,e⟩:=(show∃t,u=Value.str x t from r);subst e;exact qx P w x t
section
variable {P:Program}{w:World}{H:Hp}{h:Heap}{a:Addr}
theorem Ma {u:HO}(ok:ju P w H h) (e:Rd H a u):bw P w H h a u:=e.ok ok
theorem MS {kvs:List (Key×V)}(ok:ju P w H h) (e:Rd H a (.dK kvs)):kvs.length<=sizeLine/\(a == sysModules)=false/\∃vs,KV kvs vs/\h.DictOf (mixKind P w) a vs:=
 show bw P w H h a (.dK kvs) from Ma ok e
theorem MT {kvs:List (Key×V)}(ok:ju P w H h) (e:H a=some (.dK kvs)):kvs.length<=sizeLine/\(a == sysModules)=false/\∃vs,KV kvs vs/\h.DictOf (mixKind P w) a vs:=MS ok (.inl e)
end
section
variable {X:Cx}{pins:List (Addr×Obj)}{σ:St}{H:Hp}{s:Shared}{a:Addr}{y v:V}{u r:Value}{o:Option V}{A:Around}{E:Value->Shared->Prop}
theorem aH.big (I:aH X pins σ H s):sysModules<s.heap.objs.size:=by have h:mainGlobals<s.heap.objs.size:=(I.mod.glob.keeps I.bk).lt;exact PQ (by decide) h
theorem JE {P:Program}{w:World}{H':Hp}{h':Heap}{kvs:List (Key×V)}{vs:List (Key×Value)}(z:kvs.length<=sizeLine) (hd:(a == sysModules)=false) (rel:KV kvs vs) (dd:h'.DictOf (mixKind P w) a vs):
  bw P w H' h' a (.dK kvs):=⟨z,hd,vs,rel,dd⟩
end
section
variable {X:Cx}{pins:List (Addr×Obj)}{σ:St}{H:Hp}{s:Shared}{a:Addr}{kvs:List (Key×V)}{k:Key}{u:Value}{A:Around}{E:Value->Shared->Prop}
end
section
variable {X:Cx}{o i e value:Expr}{pos pos' tpos:Pos}{td ty tv:TE}
end
section
variable {X:Cx}{pos:Pos}
end
section
variable {X:Cx}{pins:List (Addr×Obj)}{σ:St}{H:Hp}{s:Shared}{a:Addr}{y d:V}{u r:Value}{o:Option V}{A:Around}{E:Value->Shared->Prop}
end
section
variable {X:Cx}{o e f:Expr}{apos cpos:Pos}{td ty tx:TE}
end
section
variable {X:Cx}{pins:List (Addr×Obj)}{σ:St}{H:Hp}{s:Shared}{a:Addr}{kvs:List (Key×V)}{A:Around}{E:Value->Shared->Prop}
end
section
variable {X:Cx}{pins:List (Addr×Obj)}{σ:St}{H:Hp}{s:Shared}{a:Addr}{y:V}{u:Value}{A:Around}{E:Value->Shared->Prop}
end
end L2
namespace Att
open PySem PySem.W PySem.Calls PyProof.Rows
theorem kn {P:Params}{h:Heap}:∀(ns:List Int) (vs:List Value),WellAll P h vs (ns.map WData.int)->IntsAre vs ns:=by
 intro ns
 induction ns with
 | nil=>
   intro vs w;rw [O9] at w;cases w;exact .nil
 | cons n ns ih=>
   intro vs w;rw [Oj] at w;cases w with
   | cons a b=>
     cases a;exact .cons _ _ (ih _ b)
theorem vO {l:OpenLaw}{n:Nat}(hn:l.most=some n) {P:Params}{h:Heap}{args:List WData}{vals:List Value}
  (hpre:l.row.toRowW.claim.pre args=true) (hwl:WellAll P h vals args):
  ∃a vs ns,vals=[Value.ref a]/\args=[WData.list (ns.map WData.int)]/\h.get? a=some {cls:=.type "list",data:=.seq vs.toArray}/\IntsAre vs ns/\ns.length<=n:=by
 have hsh:WShape.hasAll [] args [.list .int]=true:=(pre_splitW hpre).1;have hc:l.pre.holds [] {args:=args}=true:=(pre_splitW hpre).2;obtain ⟨d,r,rfl,h1,h2⟩:=hasAllW_cons hsh;obtain rfl:=hasAllW_nil h2;obtain ⟨xs,rfl,h3⟩:=hasW_list h1;obtain ⟨ns,rfl⟩:=items_int h3;have hlen:ns.length<=n:=by
  unfold OpenLaw.pre at hc;have h4:(WTm.not (.lt (.lit (.int (n:Int))) (.len (.arg 0)))).holds [] {args:=[.list (ns.map .int)]}=true:=by have h4:=(holds_andW hc).1;rw [hn] at h4;exact h4
  have h5:=condW_of h4 (w_not (w_lt w_lit (w_len_list (w_arg rfl))));rw [NZ] at h5;refine Nat.le_of_not_lt λ q=>?_;have q':(n:Int)<((ns.length:Nat):Int):=by lia
  first
   | (rw [decide_eq_true q'] at h5;exact absurd h5 (by decide))
   | (simp at h5;lia)
 cases hwl with
 | cons w1 w2=>
   cases w2;cases w1 with
   | list ho hall=>exact ⟨_,_,ns,rfl,rfl,ho,kn ns _ hall,hlen⟩
theorem vY (l:OpenLaw) (args:List WData):l.row.toRowW.claim.post args (.bool true) args=true:=
 postW_of (r:=l.row.toRowW) (X:=(true == true))
  (show WShape.has [] (.bool true) .bool=true by first | rfl | decide | simp [WShape.has,WShape.arms,WShape.armsAll])
  (show (WTm.eq .res (.lit (.bool true))).value [] {args:=args,res:=some (.bool true),after:=args}=some (.bool (true == true)) from w_eq_bool (w_res rfl) w_lit) rfl
theorem attach_call {l:OpenLaw}{n:Nat}{q:Program}{loose:List Str}{XP:(Str->Option Value)->Heap->Prop}{YP:World->Heap->Prop}{d:DefRec}
  (hn:l.most=some n) (hdf:d.params.defaults=[])
  (call:∀(w:World) (s₀ s₁:Shared) (mg mb:Str->Option Value) (fa:Addr) (o:Obj) (pm cd doc:Value) (a:Addr) (vs:List Value) (ns:List Int),
   Ground q loose [] XP w s₀ mg mb s₁.heap->YP w s₁.heap->
   s₁.heap.get? fa=some o->o.data=.func (docDef d.name d.params d.body d.scope pm cd doc)->s₁.heap.CodeRec cd d.name->mg d.name=some (.ref fa)->
   s₁.heap.get? a=some {cls:=.type "list",data:=.seq vs.toArray}->IntsAre vs ns->ns.length<=n->s₁.gens= #[]->
   codeAny (model l.prog w) callerA (.call (.ref fa) ⟨[.ref a],[]⟩) (λ r s'=>r=.ok (.ret (.bool true))/\OldK s₁.heap s'.heap/\s'.os=s₁.os/\AllBare s'.gens) s₁):
  WalkO q loose XP YP l.row.toRowW d [] (λ f vs=>PySem.call f vs):=by
 intro w s₀ s₁ mg mb G Y fa o pm cd doc dV kV ho hd hcd hD hmg hg args vals as hpre hlay hrd hwl hlo;obtain rfl:dV=.none:=Dflts.none hD hdf;obtain rfl:kV=.none:=Dflts.noKw hD;obtain ⟨a,vs,ns,rfl,rfl,hobj,hints,hlen⟩:=vO hn hpre hwl;refine enter_call (codeAny_mono (call w s₀ s₁ mg mb fa o pm cd doc a vs ns G Y ho (fd_plain hd) hcd hmg hobj hints hlen hg) λ r s' hq=>?_);obtain ⟨rfl,h2,h3,h4⟩:=hq;exact ⟨.inl ⟨.bool true,.bool true,[],rfl,λ _=>rfl,.bool true,vY l _,λ _=>⟨List.Pairwise.nil,λ _ hm=>(nomatch hm)⟩⟩,h2,h3,h4⟩
section
variable {prog:Program}{w:World}{A:Around}{E:Value->Shared->Prop}{s:Shared}{K:Frag}
end
end Att
namespace L2
open PySem PySem.Spec PyProof.Rows
theorem jv:∀{vs:List Value}{ns:List Int},IntsAre vs ns->aP (ns.map V.int) vs
 | _,_,.nil=>.nil
 | _,_,.cons n t h=>.cons ⟨t,rfl⟩ (jv h)
def JT (H:Hp):Prop:= ∀b,H b=none\/∃o xs,H b=some (.frz o (.lst xs))
theorem Az {P:Program}{w:World}{K:Frag}{mg mb:Str->Option Value}{CX:w4}{k:Nat}{fa a:Addr}{fd:FuncData}{x:Str}{sp:Sp}{s₁:Shared}{vs:List Value}{ns:List Int}
  (KX:K.In s₁.heap) (hns:s₁.heap.Ns mainGlobals mg) (hb:s₁.heap.Ns builtinsNs mb) (hbb:∀x:Str,x≠"__name__"->mb x=bootBuiltins x) (hlim:s₁.heap.NoLimit) (hg:s₁.gens= #[])
  (ha:s₁.heap.get? a=some {cls:=.type "list",data:=.seq vs.toArray}) (hi:IntsAre vs ns) (hl:ns.length<=sizeLine) (hr:cP k callerA)
  (F:∀base:Heap,K.In base->base.Ns mainGlobals mg->aQ P w K mg base CX k fa fd [x] sp) (hbind:∀(s:Shared) (u:Value),BindsTo s fd ⟨[u],[]⟩ [(x,u)])
  (hsp:∀H:Hp,JT H->aK K H a (ns.map V.int)->sp [.ref a] H (λ v _=>v=.bl true) λ _ _ _=>False)
  (hCX:∀H e s',CX [] H s₁ (λ _ _ _=>False) e s'->False):
  codeAny (model P w) callerA (.call (.ref fa) ⟨[.ref a],[]⟩) (λ r s'=>r=.ok (.ret (.bool true))/\OldK s₁.heap s'.heap/\s'.os=s₁.os/\AllBare s'.gens) s₁:=by
 have rv:=jv hi;have lenV:=hi.length;have core:∀H:Hp,JT H->aK K H a (ns.map V.int)->ju P w H s₁.heap->(∀b,H b≠none->b=a)->(H a≠none->K.lookup a=none)->
   codeAny (model P w) callerA (.call (.ref fa) ⟨[.ref a],[]⟩) (λ r s'=>r=.ok (.ret (.bool true))/\OldK s₁.heap s'.heap/\s'.os=s₁.os/\AllBare s'.gens) s₁:=by
  intro H hO hS hok hA hK;have base_of:∀{b:Addr} {o:Obj},s₁.heap.get? b=some o->H b=none->(oM s₁.heap H).get? b=some o:=λ e n=>AJ e n;have noA:∀{b:Addr} {o:Obj} {es:Array DictEntry} {ep:Nat},s₁.heap.get? b=some o->o.data=.dict es ep->H b=none:=λ {b o es ep} e d=>by
   cases q:H b with
   | none=>rfl
   | some u=>
     have e':b=a:=hA b (by rw [q];simp);subst e';rw [ha] at e;cases e;have d':Data.seq vs.toArray _=Data.dict es ep:=d;cases d'
  have nsK:∀{b:Addr} {m:Str->Option Value},s₁.heap.Ns b m->(oM s₁.heap H).Ns b m:=λ {b m} ⟨o,es,ep,e,d,r⟩=>⟨o,es,ep,base_of e (noA e d),d,r⟩;have hKb:K.In (oM s₁.heap H):=λ b o e=>base_of (KX b o e) (by
   cases q:H b with
   | none=>rfl
   | some u=>
     have e':b=a:=hA b (by rw [q];simp);subst e';rw [hK (by rw [q];simp)] at e;cases e)
  have hM:Mod K mg (oM s₁.heap H):=⟨hKb,nsK hns,⟨mb,nsK hb,hbb⟩,let ⟨mc,h1,h2⟩:=hlim;⟨mc,nsK h1,h2⟩⟩;have e0:ug P w K mg (oM s₁.heap H) callerA [] s₁ H:=⟨rfl,hM,λ b o e=>Cd e,PX (wA _ _),trivial,λ b hb=>absurd (show b∈([]:List Addr) from hb) (by simp),hok,.of_eq hg⟩;refine codeAny_mono ((F _ hKb (nsK hns)).run callerA [] s₁ H ⟨[.ref a],[]⟩ [.ref a] [.ref a] _ _ hr e0 (hbind s₁ (.ref a)) (.cons rfl .nil) (hsp H hO hS)) λ r s' h=>?_;cases r with
  | error e=>exact (hCX H e s' h).elim
  | ok fl=>
    cases fl with
    | next=>exact False.elim h
    | brk=>exact False.elim h
    | cont=>exact False.elim h
    | ret u=>
      obtain ⟨v,H',os,bare,un,hok',r',q⟩:=h;have q':v=.bl true:=q;subst q';obtain rfl:u=Value.bool true:=r';refine ⟨rfl,OldK.of_keep λ b o e=>?_,os,bare⟩;cases q:H b with
      | none=>exact un.keep b o e q (by intro z;exact absurd (show b∈([]:List Addr) from z) (by simp)) (by simp)
      | some u=>
        rcases hO b with z | ⟨ob,xs,z⟩
        ·rw [q] at z;cases z
        ·have z2:=un.frzs b ob _ z;obtain ⟨e1,_⟩:=hok b _ z;obtain ⟨e2,_⟩:=hok' b _ z2;rw [e] at e1;cases e1;exact e2
 cases hk:K.lookup a with
 | some o=>
   have e:=KX a o hk;rw [ha] at e;cases e;refine core (λ _=>none) (λ _=>.inl rfl) (.inr ⟨_,vs.toArray,_,hk,rfl,rfl,rfl,by rw [N4,lenV];exact hl,by simpa using rv⟩) (λ b u z=>by have z':(none:Option HO)=some u:=z;cases z') (λ b z=>absurd rfl z) λ z=>absurd rfl z
 | none=>
   refine core (λ b=>if b=a then some (.frz {cls:=.type "list",data:=.seq vs.toArray} (.lst (ns.map V.int))) else none) (λ b=>?_) (.inl (.inr ⟨{cls:=.type "list",data:=.seq vs.toArray},if_pos rfl⟩)) (λ b u z=>?_) (λ b z=>?_) λ _=>hk
   ·by_cases hb:b=a
    ·exact .inr ⟨_,_,if_pos hb⟩
    ·exact .inl (if_neg hb)
   ·by_cases hb:b=a
    ·have z':=(if_pos hb).symm.trans z;cases z';subst hb;exact ⟨ha,by rw [NZ];exact hl,vs,_,rv,ha⟩
    ·have z':=(if_neg hb).symm.trans z;cases z'
   ·by_cases hb:b=a
    ·exact hb
    ·exact absurd (if_neg hb) z
end L2
namespace L2
open PySem PySem.Spec PyProof.Rows
theorem BK {l:PySem.W.OpenLaw}{n k:Nat}{q:Program}{loose:List Str}{XP:(Str->Option Value)->Heap->Prop}{YP:World->Heap->Prop}{d:DefRec}{K:Params->Frag}{CX:World->w4}{sp:World->Sp}{x:Str}
  (hn:l.most=some n) (hn2:n<=sizeLine) (hdf:d.params.defaults=[]) (hr:cP k callerA)
  (hY:∀(w:World) (h:Heap),YP w h->(K w.params).In h)
  (F:∀(w:World) (mg:Str->Option Value) (fa:Addr) (h:Heap),(K w.params).In h->h.Ns mainGlobals mg->mg d.name=some (.ref fa)->
   ∃fd:FuncData,(∀(s:Shared) (u:Value),BindsTo s fd ⟨[u],[]⟩ [(x,u)])/\
    ∀base:Heap,(K w.params).In base->base.Ns mainGlobals mg->aQ l.prog w (K w.params) mg base (CX w) k fa fd [x] (sp w))
  (hsp:∀(w:World) (H:Hp) (a:Addr) (ns:List Int),ns.length<=n->JT H->aK (K w.params) H a (ns.map V.int)->sp w [.ref a] H (λ v _=>v=.bl true) λ _ _ _=>False)
  (hCX:∀(w:World) (H:Hp) (s:Shared) (e:Value) (s':Shared),CX w [] H s (λ _ _ _=>False) e s'->False):
  PySem.W.WalkO q loose XP YP l.row.toRowW d [] (λ f vs=>PySem.call f vs):=by
 refine Att.attach_call hn hdf λ w s₀ s₁ mg mb fa o pm cd doc a vs ns G Y ho hd hcd hmg hobj hints hlen hg=>?_;have KX:=hY w _ Y;obtain ⟨fd,hb,hF⟩:=F w mg fa _ KX G.T.g hmg;exact Az KX G.T.g G.T.b G.T.builtins G.T.nolimit hg hobj hints (PK hlen hn2) hr hF hb (λ H hO hS=>hsp w H a ns hlen hO hS) λ H e s'=>hCX w H s₁ e s'
end L2
namespace L2
open PySem PySem.Spec PyProof.Rows
def fB (s:Stmt) (j:Nat):Stmt:=match s with
 | .ClassDef _ _ _ body _ _ _ _ _ _ _=>body.getD j (.Pass ⟨0,0,0,0⟩)
 | _=>.Pass ⟨0,0,0,0⟩
def eK (s:Stmt):Arguments:=match s with
 | .FunctionDef _ a _ _ _ _ _ _ _ _=>a
 | _=>{posonlyargs:=[],args:=[],vararg:=none,kwonlyargs:=[],kw_defaults:=[],kwarg:=none,defaults:=[]}
def dE (s:Stmt):List Stmt:=match s with
 | .FunctionDef _ _ b _ _ _ _ _ _ _=>b
 | _=>[]
def ak (s:Stmt):Scope:=match s with
 | .FunctionDef _ _ _ _ _ _ sc _ _ _=>sc
 | _=>{kind:=.function,names:=[],isGenerator:=false,isCoroutine:=false}
abbrev cE:w4:=λ _ _ _ _ _ _=>False
abbrev E0:XK:=λ _ _ _=>False
theorem Ak {X:Cx}:lY cE X E0:=λ _ _ _ _ _ _ _ h=>h.elim
structure bi (K:Frag) (x qual:Str) (st:Stmt) (f:Addr) (fd:FuncData):Prop where
 ex:∃(oc:Value) (od:Option Addr) (kV doc pm:Value) (an:Option Addr) (cdv ct:Value) (osl:Array (Option Value)),
  fd=QR x qual (eK st) (dE st) (ak st) .none kV doc pm an cdv ct/\K.lookup f=some ⟨oc,od,.func fd,osl⟩/\Q3 K cdv qual=true
 kp:QT K (.ref f)=true
section
variable {P:Program}{w:World}{K:Frag}{mg:Str->Option Value}{base:Heap}
theorem bi.ok {x qual:Str}{st:Stmt}{f:Addr}{fd:FuncData}{N ps:List Str}{k:Nat}{sp:Sp}(F:bi K x qual st f fd) (S:az N ps (ak st)) (len:∀vs H Q E,sp vs H Q E->vs.length=ps.length)
  (hbody:∀(cdv:Value) (A:Around) (outer:List Env) (s:Shared) (H:Hp) (vs:List V) (Q:VK) (E:XK),cP k (A.deeper (envOfC qual (ak st) s.heap.objs.size f cdv))->sp vs H Q E->
   ∃t,vy (wI cE P w K mg base N qual (ak st) f cdv A outer s H E).nox (dE st) t/\t {nx:=λ _ H'=>Q .non H',rt:=Q} (start N vs) H):aQ P w K mg base cE (k+1) f fd ps sp:=by
 obtain ⟨oc,od,kV,doc,pm,an,cdv,ct,osl,rfl,lk,hcd⟩:=F.ex;refine MM lk hcd S len λ A outer s H vs Q E hr hsp=>?_;obtain ⟨t,h,q⟩:=hbody cdv A outer s H vs Q E hr hsp;exact ⟨t,h.nox,q⟩
theorem bi.binds {x qual:Str}{st:Stmt}{f:Addr}{fd:FuncData}{ps:List Str}(F:bi K x qual st f fd)
  (h:∀(kV doc pm:Value) (an:Option Addr) (cdv ct:Value) (us:List Value),us.length=ps.length->bindArgs (QR x qual (eK st) (dE st) (ak st) .none kV doc pm an cdv ct) ⟨us,[]⟩=pure (ps.zip us)):ik K fd ps []:=by
 obtain ⟨oc,od,kV,doc,pm,an,cdv,ct,osl,rfl,lk,hcd⟩:=F.ex;exact .all (h kV doc pm an cdv ct)
theorem aF {x qual:Str}{st:Stmt}{f:Addr}{oc:Value}{od an:Option Addr}{osl:Array (Option Value)}{kV doc pm cdv ct:Value}(l:K.lookup f=some ⟨oc,od,.func (QR x qual (eK st) (dE st) (ak st) .none kV doc pm an cdv ct),osl⟩)
  (c:Q3 K cdv qual=true) (k:QT K (.ref f)=true):bi K x qual st f (QR x qual (eK st) (dE st) (ak st) .none kV doc pm an cdv ct):=⟨⟨oc,od,kV,doc,pm,an,cdv,ct,osl,rfl,l,c⟩,k⟩
end
section
variable {X:Cx}
end
theorem iB {A B:Prop}(h:B):if false=true then A else B:=by rw [if_neg Qo];exact h
theorem hV {A B:Prop}(h:A):if true=true then A else B:=by rw [if_pos rfl];exact h
def aj (H H':Hp):Prop:= ∀b o,H b=some o->H' b=some o
theorem aj.refl (H:Hp):aj H H:=λ _ _ h=>h
theorem aj.trans {H H1 H2:Hp}(a:aj H H1) (b:aj H1 H2):aj H H2:=λ c o h=>b c o (a c o h)
theorem aj.free {H H':Hp}(e:aj H H') {l:Addr}(h:H' l=Option.none):H l=Option.none:=by
 cases q:H l with
 | none=>rfl
 | some o=>
   rw [e l o q] at h;cases h
theorem aj.seq {K:Frag}{H H':Hp}{a:Addr}{xs:List V}(e:aj H H') (h:aK K H a xs):aK K H' a xs:=by
 rcases h with (h | ⟨o,h⟩) | h
 ·exact .inl (.inl (e _ _ h))
 ·exact .inl (.inr ⟨o,e _ _ h⟩)
 ·exact .inr h
section
variable {κ:Type} [DecidableEq κ]
end
end L2
namespace L2
open PySem PySem.Spec PyProof.Rows
def jl (env:Env):List (Str×NameKind)->List (Str×Addr)->List (Str×Addr)
 | [],cs=>cs
 | (n,k)::r,cs=>jl env r (if k == .free then (match env.cells.lookup n with | some a=>(n,a)::cs | none=>cs) else cs)
theorem fJ (env:Env):∀(l:List (Str×NameKind)) (cs:List (Str×Addr)),(∀x∈l,x.2=.free->∃c,env.cells.lookup x.1=some c)->
  (forIn l cs λ (x:Str×NameKind) r=>if (x.2 == NameKind.free)=true then do let a<-cellOf env x.1;pure (ForInStep.yield ((x.1,a)::r)) else pure (ForInStep.yield r):Sem (List (Str×Addr)))=pure (jl env l cs)
 | [],cs,_=>rfl
 | (n,k)::r,cs,h=>by
   have hr:∀x∈r,x.2=.free->∃c,env.cells.lookup x.1=some c:=λ x hx=>h x (N6 _ hx);rw [Pb,jl]
   by_cases hk:(k == NameKind.free)=true
   ·obtain ⟨c,hc⟩:=h (n,k) N9 (by simpa using hk);have hc':env.cells.lookup n=some c:=hc;have e:cellOf env n=pure c:=by unfold cellOf;rw [hc']
    simp only [hk,if_true,e,pure_bind,hc'];exact fJ env r _ hr
   ·simp only [hk,if_false,pure_bind];exact fJ env r _ hr
theorem iH {scope:Scope}{env:Env}(h:∀x∈scope.names,x.2=.free->∃c,env.cells.lookup x.1=some c):closureFor scope env=pure (jl env scope.names []):=by have e:=fJ env scope.names [] h;unfold closureFor;show (forIn scope.names ([]:List (Str×Addr)) _ >>= λ r=>pure r:Sem (List (Str×Addr)))=_;rw [bind_pure];exact e
theorem qR (env:Env):∀(l:List (Str×NameKind)) (cs:List (Str×Addr)) (x:Str) (c:Addr),cs.lookup x=some c->env.cells.lookup x=some c->(jl env l cs).lookup x=some c
 | [],_,_,_,h,_=>h
 | (n,k)::r,cs,x,c,h,e=>by
   rw [jl];refine qR env r _ x c ?_ e;split
   ·cases q:env.cells.lookup n with
    | none=>exact h
    | some a=>
      show List.lookup x ((n,a)::cs)=some c;rw [Oy];cases hx:x == n with
      | false=>exact h
      | true=>
        have:x=n:=by simpa using hx
        subst this;rw [q] at e;exact e
   ·exact h
theorem lS (env:Env):∀(l:List (Str×NameKind)) (cs:List (Str×Addr)) (x:Str) (c:Addr),(∀y d,cs.lookup y=some d->env.cells.lookup y=some d)->(jl env l cs).lookup x=some c->env.cells.lookup x=some c
 | [],cs,x,c,h,e=>h x c e
 | (n,k)::r,cs,x,c,h,e=>by
   rw [jl] at e;refine lS env r _ x c ?_ e;intro y d q;split at q
   ·cases z:env.cells.lookup n with
    | none=>rw [z] at q;exact h y d q
    | some a=>
      rw [z] at q;have q2:List.lookup y ((n,a)::cs)=some d:=q;rw [Oy] at q2;cases hx:y == n with
      | false=>rw [hx] at q2;exact h y d q2
      | true=>
        rw [hx] at q2;have hyn:y=n:=by simpa using hx
        rw [hyn,z];exact q2
   ·exact h y d q
theorem lT (env:Env):∀(l:List (Str×NameKind)) (cs:List (Str×Addr)) (x:Str) (c:Addr),(x,NameKind.free)∈l->env.cells.lookup x=some c->(jl env l cs).lookup x=some c
 | [],_,_,_,h,_=>by simp at h
 | (n,k)::r,cs,x,c,h,e=>by
   rw [jl]
   rcases N1.mp h with h | h
   ·have h1:n=x:=(congrArg Prod.fst h).symm;have h2:k=NameKind.free:=(congrArg Prod.snd h).symm;subst h1 h2;refine qR env r _ n c ?_ e;rw [e];show List.lookup n (if (NameKind.free == NameKind.free)=true then (n,c)::cs else cs)=some c;rw [if_pos (by decide),Oy];simp
   ·exact lT env r _ x c h e
theorem ja (scope:Scope) (env:Env) (x:Str):(relabel scope env).names.lookup x=
  (scope.names.lookup x).map λ k=>if (k == .free&&env.scope.kind == .function&&env.kindOf x == some .cell)=true then NameKind.cell else k:=by
 show (scope.names.map λ (p:Str×NameKind)=>if (p.2 == .free&&env.scope.kind == .function&&env.kindOf p.1 == some .cell)=true then (p.1,NameKind.cell) else (p.1,p.2)).lookup x=_
 induction scope.names with
 | nil=>rfl
 | cons p r ih=>
   obtain ⟨n,k⟩:=p;rw [Oj];show List.lookup x ((if (k == .free&&env.scope.kind == .function&&env.kindOf n == some .cell)=true then (n,NameKind.cell) else (n,k))::_)=_;cases hx:x == n with
   | false=>
     have e1:List.lookup x ((n,k)::r)=List.lookup x r:=by rw [Oy,hx]
     rw [e1];split<;>(rw [Oy,hx];exact ih)
   | true=>
     have:x=n:=by simpa using hx
     subst this;have e1:List.lookup x ((x,k)::r)=some k:=by rw [Oy,hx]
     rw [e1];show _=some _;split
     ·rename_i hc;rw [Oy,hx];show some NameKind.cell=some (if _ then _ else _);rw [if_pos hc]
     ·rename_i hc;rw [Oy,hx];show some k=some (if _ then _ else _);rw [if_neg hc]
structure bW (X:Cx) (N:List Str) (src:List (Option Nat)) (scope:Scope):Prop where
 kind:scope.kind=.function
 nocell:∀y∈scope.names,y.2≠.cell
 names:∀y∈scope.names,y.2=.local->scope.names.lookup y.1=some .local
 fre:∀y∈scope.names,y.2=.free->X.env.kindOf y.1=some .cell\/X.env.kindOf y.1=some .free
 len:src.length=N.length
 nd:N.Nodup
 src:∀(j i:Nat) (x:Str),N[j]? =some x->src[j]? =some (some i)->X.N[i]? =some x/\scope.names.lookup x=some .free
def tN (dsc:Scope) (XN N:List Str) (src:List (Option Nat)) (scope:Scope):Bool:=
 decide (scope.kind=.function)&&scope.names.all (λ y=>decide (y.2≠.cell))&&scope.names.all (λ y=> !decide (y.2=.local)||decide (scope.names.lookup y.1=some .local))&&
 scope.names.all (λ y=> !decide (y.2=.free)||decide (dsc.names.lookup y.1=some .cell)||decide (dsc.names.lookup y.1=some .free))&&decide (src.length=N.length)&&decide N.Nodup&&
 (N.zip src).all λ p=>match p.2 with
  | none=>true
  | some i=>decide (XN[i]? =some p.1)&&decide (scope.names.lookup p.1=some .free)
theorem bW.of {X:Cx}{dsc:Scope}{XN N:List Str}{src:List (Option Nat)}{scope:Scope}(he:X.env.scope=dsc) (hN:X.N=XN) (h:tN dsc XN N src scope=true):bW X N src scope:=by
 subst he hN;unfold tN at h;simp only [Qp,decide_eq_true_eq,On,Qw,Qs,decide_eq_false_iff_not] at h;obtain ⟨⟨⟨⟨⟨⟨h1,h2⟩,h3⟩,h4⟩,h5⟩,h6⟩,h7⟩:=h;refine ⟨h1,h2,λ y hy e=>?_,λ y hy e=>?_,h5,h6,λ j i x e1 e2=>?_⟩
 ·rcases h3 y hy with q | q
  ·exact absurd e q
  ·exact q
 ·rcases h4 y hy with (q | q) | q
  ·exact absurd e q
  ·exact .inl q
  ·exact .inr q
 ·have hm:(x,some i)∈N.zip src:=by
   have:(N.zip src)[j]? =some (x,some i):=by rw [List.getElem?_zip_eq_some];exact ⟨e1,e2⟩
   exact Om this
  have q:=h7 _ hm;simpa using q
def cxC (X:Cx) (scope:Scope) (N:List Str) (s:Shared) (H:Hp) (ex:List Addr):Cx:=
 {X with
  N:=N
  s₀:=s
  H₀:=H
  env:=compEnvC scope (jl X.env scope.names []) s.heap.objs.size X.env
  outer:=X.stack
  ex:=ex
  fn:=λ _=>false
  pn:=[]
  xe:=λ _ _=>False}
def dG (src:List (Option Nat)) (σ:St):St:=src.map λ o=>match o with | none=>none | some i=>(σ[i]?).join
section
variable {X:Cx}{pins:List (Addr×Obj)}{σ:St}{H:Hp}{s:Shared}{N:List Str}{src:List (Option Nat)}{scope:Scope}{ex:List Addr}
theorem bW.cells (S:bW X N src scope) (ok:X.Ok):∀x∈scope.names,x.2=.free->∃c,X.env.cells.lookup x.1=some c:=λ x hx e=>ok.has _ (S.fre x hx e)
theorem aH.enterC (I:aH X pins σ H s) (S:bW X N src scope) (hf:∀b∈ex,ii X pins H b) (hlt:∀b∈ex,b<s.heap.objs.size) {h1:Heap}{m:Str->Option Value}{tk:Nat}
  (hns:h1.Ns s.heap.objs.size m) (hk:∀b o,s.heap.get? b=some o->h1.get? b=some o):aH (cxC X scope N s H ex) [] (dG src σ) H {s with heap:=h1,toks:=tk}:=by
 have neC:∀b o,s.heap.get? b=some o->b≠s.heap.objs.size:=λ b o e=>PH (Heap.lt_size e);have sub:∀x c,(jl X.env scope.names []).lookup x=some c->X.env.cells.lookup x=some c:=λ x c e=>lS X.env _ _ x c (λ y d z=>by simp at z) e;refine ⟨⟨I.ok.mod,S.kind,I.ok.glob,I.ok.blt,PF _,λ x y c e1 e2=>I.ok.inj x y c (sub x c e1) (sub y c e2),λ x hx=>?_,λ x c z=>absurd z (by simp [cxC]),I.ok.hd,I.ok.frames,.inl rfl,λ b hb=>?_,I.bs,PK I.ok.bsz I.sz,λ b o e hb=>?_,λ b hb hz=>?_,I.stack,I.stkFree⟩,
  rfl,I.bare,Un.kept hk,⟨m,hns,λ j x v e1 e2 e3=>?_⟩,λ x c e=>?_,I.hok.fresh (PF _),λ x c e=>I.freeC x c (sub x c e),λ p hp=>absurd (show p∈([]:List (Addr×Obj)) from hp) (by simp),I.hok.kept hk,?_⟩
 ·have hx:(relabel scope X.env).names.lookup x=some .cell\/(relabel scope X.env).names.lookup x=some .free:=hx;have hm:(x,NameKind.free)∈scope.names:=by
   rw [ja] at hx;cases q:scope.names.lookup x with
   | none=>rw [q] at hx;simp at hx
   | some k=>
     have hm:=PySem.mem_of_lookup q;cases k with
     | free=>exact hm
     | cell=>exact absurd rfl (S.nocell _ hm)
     | _=>rw [q] at hx;simp at hx
  obtain ⟨c,hc⟩:=S.cells I.ok _ hm rfl;exact ⟨c,lT X.env _ _ x c hm hc⟩
 ·obtain ⟨f0,f1,f2,f3,f4,f5⟩:=hf b hb;exact ⟨PH (hlt b hb),λ x c e=>f4 x c (sub x c e)⟩
 ·obtain ⟨f0,f1,f2,f3,f4,f5⟩:=hf b hb
  rcases f3 with z | z
  ·exact I.ok.noex b o e z
  ·exact absurd (PL (Heap.lt_size (I.ok.bs b o e).1) z) (PP _)
 ·obtain ⟨f0,f1,f2,f3,f4,f5⟩:=hf b hb
  rcases N1.mp (I.stkSub b hz) with z | z
  ·exact f1 z
  ·exact f2 z
 ·have e2:(dG src σ)[j]? =some (some v):=e2;unfold dG at e2;rw [N3] at e2;cases q:src[j]? with
  | none=>rw [q] at e2;simp at e2
  | some o=>
    rw [q] at e2;cases o with
    | none=>simp at e2
    | some i=>
      have e2:(σ[i]?).join=some v:=by simpa using e2
      have e2:σ[i]? =some (some v):=by
       cases z:σ[i]? with
       | none=>rw [z] at e2;simp at e2
       | some w=>rw [z] at e2;simp at e2;rw [e2]
      obtain ⟨hX,hfr⟩:=S.src j i x e1 q;have hm:=PySem.mem_of_lookup hfr;have hk2:=S.fre _ hm rfl;obtain ⟨mX,hnX,hl⟩:=I.loc;have hvis:Nr X.env.scope x:=.inr hk2;obtain ⟨u,r,l⟩:=hl i x v hX e2 hvis;refine ⟨u,r,?_⟩
      rcases l with ⟨l1,_⟩ | ⟨_,c,hc,hcell⟩
      ·rcases hk2 with z | z
       ·have:X.env.kindOf x=some .cell:=z;rw [l1] at this;cases this
       ·have:X.env.kindOf x=some .free:=z;rw [l1] at this;cases this
      ·refine .inr ⟨?_,c,lT X.env _ _ x c hm hc,?_⟩
       ·show (relabel scope X.env).names.lookup x=some .cell\/(relabel scope X.env).names.lookup x=some .free;rw [ja,hfr]
        by_cases hcc:(NameKind.free == .free&&X.env.scope.kind == .function&&X.env.kindOf x == some .cell)=true
        ·left
         show some (if _ then _ else _)=_;rw [if_pos hcc]
        ·right
         show some (if _ then _ else _)=_;rw [if_neg hcc]
       ·exact hcell.keeps hk
 ·obtain ⟨v,z⟩:=I.cell x c (sub x c e);exact ⟨v,z.keeps hk⟩
 ·show (dG src σ).length=N.length;unfold dG;rw [NZ];exact S.len
end
def rc (X:Cx) (ifs:List Expr) (t:TT):Prop:=
 ∀(pins:List (Addr×Obj)) (s:Shared) (σ:St) (H:Hp) (Q:Bool->Hp->Prop),aH X pins σ H s->t σ H Q->
  wpAny (model X.prog X.w) X.A (forIn ifs true λ c r=>if r=true then do let ok<-isTrue c X.env (eval c X.env);pure (ForInStep.yield ok) else pure (ForInStep.yield r)) (TP X pins σ Q) X.xe s
def iC:TT:=λ _ H Q=>Q true H
theorem bu {X:Cx}:rc X [] iC:=λ _ _ _ H _ I h=>wpAny_tests_nil ⟨H,I,h⟩
theorem lh {X:Cx}{c:Expr}{t:TT}(h:PT X c t):rc X [c] t:=λ pins s σ H Q I hw=>wpAny_tests_one (h pins s σ H Q I hw)
def dn (g:TG) (tt:TT) (te:TE) (src:List (Option Nat)) (σ:St) (Q:VK) (J:It) (H1:Hp):Prop:=
 ∃W:Nat->Nat->List V->St->Hp->Prop,(∃m,W 0 m [] (dG src σ) H1)/\∀i m ys σ' H',W i m ys σ' H'->
  (J.stop i H'/\∀p,H' p=none->Q (.ref p) (upd H' p (.lst ys)))\/
  (J.go i H'/\ys.length<sizeLine/\∀x H2,J.yld i H' x H2->g x σ' H2 λ σ3 H3=>tt σ3 H3 λ b H4=>
   if b=true then te σ3 H4 λ v H5=> ∃m',m'<m/\W (i+1) m' (ys++[v]) σ3 H5 else∃m',m'<m/\W (i+1) m' ys σ3 H4)
def tComp (wi:TI) (g:TG) (tt:TT) (te:TE) (src:List (Option Nat)):TE:=λ σ H Q=>wi σ H (dn g tt te src σ Q)
def vB (X:Cx) (pins:List (Addr×Obj)) (σ:St) (Q:VK) (acc:Value) (C:Addr) (r:Result) (s':Shared):Prop:=
 (∃f,r=.ok f)/\∃D H',acc=.ref D/\aH X pins σ H' s'/\(∃m,s'.heap.Ns C m)/\ii X pins H' C/\Q (.ref D) H'
theorem oV {prog:Program}{w:World}{A:Around}{R:Result->Shared->Prop}{s:Shared}{elt target iter:Expr}{ifs:List Expr}{scope:Scope}{pos:Pos}{it acc:Value}{env:Env}(I:Nat->Shared->Prop)
  (turn:∀n s,I n s->wpAny (model prog w) A (pyNext it) (λ r s₁=>match r with
   | none=>R (.ok .next) s₁
   | some v=>wpAny (model prog w) A (letOwnedTupleGo target it v) (λ _ s₂=>wpAny (model prog w) A (assign target env v) (λ _ s₃=>
     wpAny (model prog w) A (forIn ifs true λ c r=>if r=true then do let ok<-isTrue c env (eval c env);pure (ForInStep.yield ok) else pure (ForInStep.yield r)) (λ ok s₄=>
      if ok=true then wpAny (model prog w) A (eval elt env) (λ x s₅=>wpAny (model prog w) A (call (.builtin "list.append") [acc,x]) (λ _ s₆=> ∃m,m<n/\I m s₆) (λ _ _=>False) s₅) (λ _ _=>False) s₄
      else∃m,m<n/\I m s₄) (λ _ _=>False) s₃) (λ _ _=>False) s₂) (λ _ _=>False) s₁) (λ _ _=>False) s)
  (n:Nat) (h:I n s):codeAny (model prog w) A (.compLoop (.ListComp elt [⟨target,iter,ifs,0⟩] scope pos) 0 it acc env) R s:=by
 refine codeAny_loop rfl I (λ n s hI=>?_) n h;show wpAny _ A ((compTurn (.ListComp elt [⟨target,iter,ifs,0⟩] scope pos) 0 it acc env).onRaise (λ x=>do noteFrame x env;theTreesLotGoes x)) _ _ s;refine wpAny_noted ?_;rw [compTurn_list];refine wpAny_bind (wpAny_standAt (wpAny_bind (wpAny_mono (turn n s hI) (λ r s₁ h₁=>?_) λ _ _ f=>f.elim)));cases r with
 | none=>exact wpAny_pure h₁
 | some v=>
   refine wpAny_bind (wpAny_mono h₁ (λ _ s₂ h₂=>?_) λ _ _ f=>f.elim);refine wpAny_bind (wpAny_mono h₂ (λ _ s₃ h₃=>wpAny_bind (wpAny_mono h₃ (λ ok s₄ h₄=>?_) λ _ _ f=>f.elim)) λ _ _ f=>f.elim);cases ok with
   | false=>exact wpAny_pure ⟨rfl,h₄⟩
   | true=>
     exact wpAny_bind (wpAny_bind (wpAny_mono h₄ (λ x s₅ h₅=>wpAny_bind (wpAny_mono h₅ (λ _ s₆ h₆=>wpAny_pure (wpAny_pure ⟨rfl,h₆⟩)) λ _ _ f=>f.elim)) λ _ _ f=>f.elim))
abbrev iz (us:List Value) (k:Nat):Obj:={cls:=.type "list",data:=.seq us.toArray k}
section
variable {X:Cx}{N:List Str}{src:List (Option Nat)}{scope:Scope}{elt tg iter:Expr}{ifs:List Expr}{pos:Pos}{wi:TI}{g:TG}{tt:TT}{te:TE}
theorem qP (hc:X.calm=true) (S:bW X N src scope) (hg:∀s H ex,PG (cxC X scope N s H ex) tg g) (ht:∀s H ex,rc (cxC X scope N s H ex) ifs tt) (he:∀s H ex,PE (cxC X scope N s H ex) elt te)
  {pins:List (Addr×Obj)} {σ:St} {Q:VK} {itv:Value} {s2:Shared} {E:Value->Shared->Prop} (h:NW X pins σ tg (dn g tt te src σ Q) itv s2):
  wpAny (model X.prog X.w) X.A (newList []) (λ acc s₃=>wpAny (model X.prog X.w) X.A (newFunctionEnv scope X.env.globals (jl X.env scope.names []) [] X.env.qual none .none (some X.env)) (λ cenv s₄=>
   codeAny (model X.prog X.w) X.A (.compStart (.ListComp elt [⟨tg,iter,ifs,0⟩] scope pos) 0 itv acc {cenv with scope:=relabel scope X.env}) (vB X pins σ Q acc cenv.locals) s₄) E s₃) E s2:=by
 obtain ⟨it,fp,tn,J,H1,e,I2,T,st2,f2,W,⟨m0,w0⟩,turn⟩:=h;subst e;refine wpAny_newObj_type (wpAny_newFunctionEnv S.nocell (by intro y hy;simp at hy) (λ h₁ hns₁ hsb₁=>?_) S.kind);dsimp only at hns₁ hsb₁ ⊢;generalize hH2:s2.heap.push {cls:=.type "list",dict:=none,data:=.seq ([]:List Value).toArray}=H2 at hns₁ hsb₁ ⊢;have hC:H2.objs.size=s2.heap.objs.size+1:=by rw [<-hH2,Heap.size_push]
 have push:∀b o,s2.heap.get? b=some o->H2.get? b=some o:=λ b o e=>hH2▸Heap.get?_push_of_some _ e;have hD2:H2.get? s2.heap.objs.size=some (iz [] 0):=hH2▸Heap.get?_push_size _ rfl;have hk:∀b o,H2.get? b=some o->h₁.get? b=some o:=λ b o e=>hsb₁.extBut b o (PH (Heap.lt_size e)) (Heap.get?_push_of_some _ e);generalize hD:s2.heap.objs.size=D at*;have I3:aH X pins σ H1 {s2 with heap:=H2}:=I2.kept (t':=s2.toks) push;have fD:ii X pins H1 D:=I2.fpOk (PX hD) (I2.hok.fresh (PX hD));have fpl:∀b∈fp,b<D:=λ b hb=>by obtain ⟨o,e,_⟩:=T.obj _ _ st2 b hb;rw [<-hD];exact Heap.lt_size e
 have fex:∀b∈D::fp,ii X pins H1 b:=λ b hb=>by
  rcases N1.mp hb with z | z
  ·rw [z];exact fD
  ·exact f2 b z
 have lex:∀b∈D::fp,b<({s2 with heap:=H2}:Shared).heap.objs.size:=λ b hb=>by
  show b<H2.objs.size
  rcases N1.mp hb with z | z
  ·rw [z,hC];exact P3 _
  ·rw [hC];exact PY (fpl b z)
 have I4:=I3.enterC (N:=N) S fex lex (h1:=h₁) (tk:=s2.toks+([]:List (Str×Value)).length) hns₁ hk;generalize hY:cxC X scope N {s2 with heap:=H2} H1 (D::fp)=Y at*;have yP:Y.prog=X.prog:=by rw [<-hY];rfl
 have yw:Y.w=X.w:=by rw [<-hY];rfl
 have yA:Y.A=X.A:=by rw [<-hY];rfl
 have yC:Y.env.locals=H2.objs.size:=by rw [<-hY];rfl
 have yK:Y.K=X.K:=by rw [<-hY];rfl
 have yc:Y.calm=true:=by rw [<-hY];exact hc
 have yfs:Y.fs=vb X.stack:=by rw [<-hY];rfl
 have yex:Y.ex=D::fp:=by rw [<-hY];rfl
 have ypn:Y.pn=[]:=by rw [<-hY];rfl
 have yxe:Y.xe=λ _ _=>False:=by rw [<-hY];rfl
 have ycl:∀x c,Y.env.cells.lookup x=some c->X.env.cells.lookup x=some c:=by rw [<-hY];exact λ x c e=>lS X.env _ _ x c (λ y d z=>by simp at z) e
 have ye:Y.env=compEnvC scope (jl X.env scope.names []) H2.objs.size X.env:=by rw [<-hY];rfl
 have ys0:Y.s₀={s2 with heap:=H2}:=by rw [<-hY];rfl
 have yH0:Y.H₀=H1:=by rw [<-hY];rfl
 have hgY:PG Y tg g:=by rw [<-hY];exact hg _ _ _
 have htY:rc Y ifs tt:=by rw [<-hY];exact ht _ _ _
 have heY:PE Y elt te:=by rw [<-hY];exact he _ _ _
 have nfs:∀b∈D::fp,b∉Y.fs:=λ b hb z=>by
  rw [yfs] at z;obtain ⟨f0,f1,f2',_⟩:=fex b hb
  rcases N1.mp (I2.stkSub b z) with q | q
  ·exact f1 q
  ·exact f2' q
 have ncl:∀b∈D::fp,∀x c,Y.env.cells.lookup x=some c->c≠b:=λ b hb x c e=>(fex b hb).2.2.2.2.1 x c (ycl x c e);have nC:∀b∈D::fp,b≠Y.env.locals:=λ b hb=>by rw [yC];exact PH (lex b hb)
 have stat:∀{H':Hp} {us:List Value} {k:Nat},(∀b∈fp,H' b=none)->∀b∈fp,ii Y [(D,iz us k)] H' b:=λ {H' us k} hn b hb=>
  ⟨hn b hb,nC b (N6 _ hb),nfs b (N6 _ hb),.inl (by rw [yex];exact N6 _ hb),ncl b (N6 _ hb),λ p hp=>by
   rw [ypn] at hp;have hp1:p=(D,iz us k):=by simpa using hp
   rw [hp1];exact PM (fpl b hb)⟩
 have pinD:∀{σ':St} {H':Hp} {s':Shared} {pl:List (Addr×Obj)} {us:List Value} {k:Nat},aH Y pl σ' H' s'->s'.heap.get? D=some (iz us k)->H' D=none->aH Y [(D,iz us k)] σ' H' s':=λ {σ' H' s' pl us k} I' e n=>
  I'.pins_of λ p hp=>by
   have hp1:p=(D,iz us k):=by simpa using hp
   subst hp1;exact ⟨e,n,nC D N9,nfs D N9,λ v z=>by cases z⟩
 have I4':aH Y [(D,iz [] 0)] (dG src σ) H1 {s2 with heap:=h₁,toks:=s2.toks+([]:List (Str×Value)).length}:=pinD I4 (hk _ _ hD2) fD.1;have loop:codeAny (model X.prog X.w) X.A (.compLoop (.ListComp elt [⟨tg,iter,ifs,0⟩] scope pos) 0 (.ref it) (.ref D) Y.env) (vB X pins σ Q (.ref D) H2.objs.size) {s2 with heap:=h₁,toks:=s2.toks+([]:List (Str×Value)).length}:=by
  refine oV (λ n s'=> ∃i ys us k σ' H',aH Y [(D,iz us k)] σ' H' s'/\tn i s'.heap/\(∀b∈fp,H' b=none)/\aP ys us/\ys.length<=sizeLine/\W i n ys σ' H') ?_ m0
   ⟨0,[],[],0,_,H1,I4',T.keep _ _ _ st2 λ b hb o e=>hk _ _ (push b o e),λ b hb=>(f2 b hb).1,.nil,PJ _,w0⟩
  rintro n s3 ⟨i,ys,us,k,σ3,H3,I3',st3,fr3,rv,hz,w3⟩
  rcases turn i n ys σ3 H3 w3 with ⟨stop,q⟩ | ⟨go,hlen,step⟩
  ·have hd:=T.done Y yP yw yK yc i _ s3 σ3 H3 (λ _ _=>False) I3' (stat fr3) st3 stop;rw [yA] at hd;refine bL hd λ r s4 ⟨hr,I4⟩=>?_;subst hr;obtain ⟨eD,nD,_⟩:=I4.pin (D,iz us k) (by simp);have eD:s4.heap.get? D=some (iz us k):=eD;have nD:H3 D=none:=nD;have base:Un (vb X.stack) (D::fp) H1 H3 H2 s4.heap:=by have b:=I4.base;rw [yex,yH0,ys0,yfs] at b;exact b
   have hnD:∀b o,s2.heap.get? b=some o->b≠D:=λ b o e=>by rw [<-hD];exact PH (Heap.lt_size e)
   have nx:∀b o,s2.heap.get? b=some o->b∉fp->b∉D::fp:=λ b o e hb z=>(N1.mp z).elim (hnD b o e) hb;have un:Un (vb X.stack) fp H1 (upd H3 D (.lst ys)) s2.heap s4.heap:=
    ⟨λ b o e n hb hx=>base.keep b o (push b o e) n hb (nx b o e hx),λ b o e n hb hx=>base.slot b o (push b o e) n hb (nx b o e hx),λ b o e n hx=>by rw [aq (hnD b o e)];exact base.free b o (push b o e) n (nx b o e hx),
     λ b o e hx=>base.there b o (push b o e) (nx b o e hx),λ b xs e=>by rw [aq (ar e fD.1)];exact base.tups b xs e,λ b o u e=>by rw [aq (ar e fD.1)];exact base.frzs b o u e,
     λ b ps e=>by rw [aq (ar e fD.1)];exact base.tbls b ps e⟩
   have hok:ju X.prog X.w (upd H3 D (.lst ys)) s4.heap:=λ b u e=>by
    by_cases hb:b=D
    ·subst hb;rw [ag] at e;cases e;exact ⟨hz,us,k,rv,eD⟩
    ·rw [aq hb] at e;have x:=I4.hok b u e;rw [yP,yw] at x;exact x.stay (λ c v _ z=>z) (λ c z=>by rw [aq (ar z nD)];exact z) λ c xs z=>by rw [aq (ar z nD)];exact z
   have ho:s4.os=s2.os:=by rw [I4.os,ys0]
   have J':aH X pins σ (upd H3 D (.lst ys)) s4:=I2.call' (ch:=fp) ho un hok I4.bare λ b hb=>⟨(f2 b hb).2.2.2.1,(f2 b hb).2.1,(f2 b hb).2.2.2.2.1,(f2 b hb).2.2.2.2.2⟩;refine ⟨⟨_,rfl⟩,D,_,rfl,J',?_,?_,q D nD⟩
   ·obtain ⟨m,hm,_⟩:=I4.loc;rw [yC] at hm;exact ⟨m,hm⟩
   ·refine I2.fpOk (by rw [hC,hD];exact PN _) ?_;rw [aq (by rw [hC];exact P4 D)];have z:=I4.free;rw [yC] at z;exact z
  ·have hd:=T.item Y yP yw yK yc i _ s3 σ3 H3 (λ _ _=>False) I3' (stat fr3) st3 go;rw [yA] at hd;refine bL hd λ r s4 ⟨u,hr,h4⟩=>?_;subst hr;refine bL h4 λ _ s5 ⟨x,H5,I5,r5,y5,st5,fr5⟩=>?_;have I5':=I5.pinned (stat fr5) (T.obj _ _ st5);have hg':=hgY _ s5 σ3 H5 x u _ I5' r5 (step x H5 y5);rw [yP,yw,yA,yxe] at hg';refine bL hg' λ _ s6 ⟨σ6,H6,I6,q6⟩=>?_;have ht':=htY _ s6 σ6 H6 _ I6 q6;rw [yP,yw,yA,yxe] at ht';refine bL ht' λ ok s7 ⟨H7,I7,q7⟩=>?_;have again:∀{σ8:St} {H8:Hp} {s8:Shared} {ys':List V} {us':List Value} {k' m':Nat},aH Y ([(D,iz us' k')]++g9 fp s5.heap) σ8 H8 s8->aP ys' us'->ys'.length<=sizeLine->m'<n->W (i+1) m' ys' σ8 H8->
     ∃m,m<n/\∃i ys us k σ' H',aH Y [(D,iz us k)] σ' H' s8/\tn i s8.heap/\(∀b∈fp,H' b=none)/\aP ys us/\ys.length<=sizeLine/\W i m ys σ' H':=λ {σ8 H8 s8 ys' us' k' m'} I8 rv' hz' hm w8=>by
    refine ⟨m',hm,i+1,ys',us',k',σ8,H8,I8.unpinned,T.keep _ _ _ st5 λ b hb o e=>(I8.pin (b,o) (Oi _ (Oi _ (gr hb e)))).1,λ b hb=>?_,rv',hz',w8⟩;obtain ⟨o,e,d⟩:=T.obj _ _ st5 b hb;exact (I8.pin (b,o) (Oi _ (Oi _ (gr hb e)))).2.1
   cases ok with
   | false=>
     obtain ⟨m',hm,w8⟩:=q7;exact again I7 rv hz hm w8
   | true=>
     rw [if_pos rfl];have he':=heY _ s7 σ6 H7 _ I7 q7;rw [yP,yw,yA,yxe] at he';refine bL he' λ u8 s8 ⟨v,H8,I8,r8,m',hm,w8⟩=>?_;obtain ⟨eD,nD,_⟩:=I8.pin (D,iz us k) (by simp);have eD:s8.heap.get? D=some (iz us k):=eD;have nD:H8 D=none:=nD;have hl:=rv.length;refine call_meets F.slot_list_append ⟨_,eD,rfl⟩ F.entry_list_append (F.args_list_append_2 _ _) (PySem.list_append D us.toArray k u8 (by rw [N4];lia)) ⟨eD,?_⟩;have q:=PySem.IsL.update eD (λ a=>a.push u8);have eu:us.toArray.push u8=(us++[u8]).toArray:=by simp
     rw [eu] at q;obtain ⟨k',q⟩:∃k',(s8.heap.update D (Obj.mapSeq λ a=>a.push u8)).get? D=some (iz (us++[u8]) k'):=⟨_,q⟩;have I8':aH Y (g9 fp s5.heap) σ6 H8 s8:=I8.pins_of λ p hp=>I8.pin p (Oi _ (Oi _ hp));have I9:aH Y (g9 fp s5.heap) σ6 H8 {s8 with heap:=s8.heap.update D (Obj.mapSeq λ a=>a.push u8)}:=I8'.turned (it:=D) (t':=s8.toks) (λ b o hb e=>(Heap.get?_update_other s8.heap _ (Ne.symm hb)).trans e) nD (nC D N9)
      (.inl (by rw [yex];exact N9)) (ncl D N9) λ p hp=>by
       rw [ypn] at hp;have hp:p∈g9 fp s5.heap:=by simpa using hp
       exact PH (fpl _ (mI hp).1)
     refine again (us':=us++[u8]) (ys':=ys++[v]) (m':=m') (k':=k') (I9.pins_of λ p hp=>?_) (rv.append (.cons r8 .nil)) (by rw [Oa,Pa];lia) hm w8
     rcases Oc.mp hp with z | z
     ·have hp1:p=(D,iz (us++[u8]) k'):=by simpa using z
      subst hp1;exact ⟨q,nD,nC D N9,nfs D N9,λ v z=>by cases z⟩
     ·exact I9.pin p (Oi _ z)
 rw [ye] at loop;exact codeAny_compStart_list loop (T.self _ 0 _ _ _ (T.keep _ _ _ st2 λ b hb o e=>hk _ _ (push b o e)) loop)
theorem B5 (hc:X.calm=true) (S:bW X N src scope) (hi:PI X tg iter wi) (hg:∀s H ex,PG (cxC X scope N s H ex) tg g) (ht:∀s H ex,rc (cxC X scope N s H ex) ifs tt) (he:∀s H ex,PE (cxC X scope N s H ex) elt te)
  (hs:∀x,foldedSetIterable iter X.env x=pure x:=by intro _;rfl):PE X (.ListComp elt [⟨tg,iter,ifs,0⟩] scope pos) (tComp wi g tt te src):=by
 intro pins s σ H Q I h;rw [eval_ListComp];refine wpAny_comprehension_free (use:=none) rfl hs (iH (S.cells I.ok)) S.kind S.names (bL (hi pins s σ H _ I h) λ v s1 h1=>bL h1 λ it s2 h2=>?_);refine bL (qP hc S hg ht he h2) λ acc s3 h3=>bL h3 λ cenv s4 h4=>codeAny_mono h4 λ r s' hr=>?_;obtain ⟨⟨f,rfl⟩,D,H',rfl,J,⟨m,hm⟩,hf,q⟩:=hr;refine ⟨m,hm,λ h' sb=>?_⟩;exact ⟨.ref D,H',J.turned (t':=s'.toks) (λ b o hb e=>(sb.2 b hb).trans e) hf.1 hf.2.1 hf.2.2.2.1 hf.2.2.2.2.1 hf.2.2.2.2.2,rfl,q⟩
theorem kH {i:Nat}{y:Str}{py spos:Pos}(hc:X.calm=true) (S:bW X N src scope) (hi:PI X tg iter wi) (hg:∀s H ex,PG (cxC X scope N s H ex) tg g) (ht:∀s H ex,rc (cxC X scope N s H ex) ifs tt) (he:∀s H ex,PE (cxC X scope N s H ex) elt te)
  (hN:X.N.Nodup) (hy:X.N[i]? =some y) (hx:JZ X.env.scope y) (hsw:swapsWith (.ListComp elt [⟨tg,iter,ifs,0⟩] scope pos) (some (.Name y py)) spos.line X.env=pure true) (hf:X.fn y=true\/X.env.scope.names.lookup y=some .local)
  (hs:∀x,foldedSetIterable iter X.env x=pure x:=by intro _;rfl):PS X (.Assign [.Name y py] (.ListComp elt [⟨tg,iter,ifs,0⟩] scope pos) spos) (tAsg (tComp wi g tt te src) (gName i)):=by
 intro pins s σ H D I h;rw [exec_Assign_Name_used _ _ _ _ hsw];refine wpAny_bind (wpAny_standAt (wpAny_bind ?_));show wpAny _ X.A (do let _<-comprehension (.ListComp elt [⟨tg,iter,ifs,0⟩] scope pos) scope X.env _ (newList []) false (eval iter X.env) (some (assign (.Name y py) X.env))) _ _ s;refine wpAny_bind (wpAny_mono (wpAny_comprehension_free (use:=some (assign (.Name y py) X.env)) (Q:=λ _ s'=>SP X pins D .next s') rfl hs (iH (S.cells I.ok)) S.kind S.names (bL (hi pins s σ H _ I h) λ v s1 h1=>bL h1 λ it s2 h2=>?_)) (λ _ s' hq=>wpAny_pure (wpAny_pure hq)) λ _ _ e=>e);refine bL (qP hc S hg ht he h2) λ acc s3 h3=>bL h3 λ cenv s4 h4=>codeAny_mono h4 λ r s' hr=>?_;obtain ⟨⟨f,rfl⟩,D',H',rfl,J,⟨m,hm⟩,hfp,q⟩:=hr;show wpAny _ X.A (assign (.Name y py) X.env (.ref D')) _ _ _;refine wpAny_assign_Name (mw J hN hy hx (v:=.ref D') rfl (λ s5 I5 ⟨a,sb,ha⟩=>?_) hf);have hne:cenv.locals≠a:=by
  rcases ha with z | z
  ·rw [z];exact hfp.2.1
  ·exact Ne.symm (hfp.2.2.2.2.1 y a z)
 refine ⟨m,hm.sameBut sb hne,λ h' sb'=>?_⟩;exact ⟨_,H',I5.turned (t':=s5.toks) (λ b o hb e=>(sb'.2 b hb).trans e) hfp.1 hfp.2.1 hfp.2.2.2.1 hfp.2.2.2.2.1 hfp.2.2.2.2.2,q⟩
end
end L2
namespace L2
open PySem PySem.Spec PyProof.Rows
section
variable {X:Cx}
theorem PE.imp {e:Expr}{t t':TE}(h:PE X e t) (i:∀σ H Q,t' σ H Q->t σ H Q):PE X e t':=λ pins s σ H Q I q=>h pins s σ H Q I (i σ H Q q)
theorem aY.imp {f:Value}{r r':List V->Hp->VK->Prop}(h:aY X f r) (i:∀xs H Q,r' xs H Q->r xs H Q):aY X f r':=λ pins s σ H xs us Q I r q=>h pins s σ H xs us Q I r (i xs H Q q)
theorem pC.imp {id:String}{r r':V->List V->Hp->VK->Prop}(h:pC X id r) (i:∀x xs H Q,r' x xs H Q->r x xs H Q):pC X id r':=λ pins s σ H x xs v us Q I rx r q=>h pins s σ H x xs v us Q I rx r (i x xs H Q q)
abbrev Str.tl (x:Str):List Nat:=x.cps.toList
theorem nc {x y:Str}(h:x.cps.toList=y.cps.toList):x=y:=by obtain ⟨a⟩:=x;obtain ⟨b⟩:=y;have:a=b:=QE.mp h;rw [this]
theorem c7 (x:Str):x.length=x.cps.toList.length:=by simp [Str.length]
theorem nj (x y:Str):(x++y).cps.toList=x.cps.toList++y.cps.toList:=by show (x.cps++y.cps).toList=_;simp
theorem v8:iJ X (compareOp .LtE) (λ x y H Q=> ∃i j,x=.str i/\y=.str j/\Q (.bl (!decide (j.cps.toList<i.cps.toList))) H):=by intro pins s σ H x y v u Q I rx ry h;obtain ⟨i,j,rfl,rfl,q⟩:=h;obtain ⟨t,rfl⟩:=rx;obtain ⟨t',rfl⟩:=ry;exact PySem.P.le_str (fin_bl I q rfl)
theorem Ap:pC X "str.upper" (λ x vs H Q=> ∃a,x=.str a/\vs=[]/\a.length<=sizeLine/\(∀c∈a.cps.toList,c<128)/\Q (.str ⟨a.cps.map up1⟩) H):=by
 intro pins s σ H x xs v us Q I rx r h;obtain ⟨a,rfl,rfl,hz,ha,q⟩:=h;obtain ⟨t,rfl⟩:=rx;cases r;have e:placed a (λ _ c=>Unicode.upperOf c)=a.cps.map up1:=placed_single a _ up1 λ i c hc=>upperOf_ascii c (ha c (Om hc));have hfit:Builtin.Str.tooLong (placed a λ _ c=>Unicode.upperOf c).size=false:=by rw [e,QD];unfold Builtin.Str.tooLong;exact decide_eq_false (by show¬a.cps.size > sizeLine;have:a.length=a.cps.size:=rfl;lia)
 refine call_gives F.slot_str_upper (typeIs_str _ _ _) F.entry_str_upper (F.args_str_upper_1 _) (gives_str_upper a t hfit) ?_;rw [e];exact ⟨by show (a.cps.map up1).size<=sizeLine;rw [QD];exact hz,⟨.str _,H,I.tok _,⟨_,rfl⟩,q⟩⟩
def iS (x:Str) (lo hi:Option Int):Str:=⟨((x.cps.toList.drop (HT.sIx x.length 0 lo)).take (HT.sIx x.length x.length hi - HT.sIx x.length 0 lo)).toArray⟩
theorem uG (l:List Nat):∀(k i:Nat),i+k<=l.length->(List.range' i k).filterMap (λ m=>l[m]?)=(l.drop i).take k
 | 0,i,_=>by simp
 | k+1,i,h=>by have ih:=uG l k (i+1) (by lia);rw [List.range'_succ,OG,N2 (by lia),OV (by lia),List.take_succ_cons];show l[i]::_=_;rw [ih]
theorem Ae (x:Str) (i k:Nat) (h:i+k<=x.length):((List.range k).map λ (m:Nat)=>i+m).filterMap (x.cps[·]?)=(x.cps.toList.drop i).take k:=by have hx:x.cps.toList.length=x.length:=(c7 x).symm;rw [<-List.range'_eq_map_range,<-uG _ _ _ (by lia)];congr 1;funext m;rw [QA]
theorem uY (lo hi:Option Int) (n:Nat):Builtin.Str.strSliceIndices lo hi 1 n=(List.range (HT.sIx n n hi - HT.sIx n 0 lo)).map λ m=>HT.sIx n 0 lo+m:=by
 have cl:∀(v:Int) (d:Nat),max 0 (min (if v<0 then v+(n:Int) else v) (n:Int))=((HT.sIx n d (some v):Nat):Int):=λ v d=>by
  show _=(((if v<0 then (v+(n:Int)).toNat else min v.toNat n):Nat):Int)
  by_cases hv:v<0
  ·simp only [if_pos hv];lia
  ·simp only [if_neg hv];lia
 have main:∀(a b:Nat),sliceRange (a:Int) (b:Int) 1=(List.range (b - a)).map λ m=>a+m:=λ a b=>by
  have e:(if (1:Int) > 0 then (if (a:Int)<(b:Int) then ((b:Int) - a+1 - 1) / 1 else 0) else (if (a:Int) > b then ((a:Int) - b - 1 - 1) / (-1) else 0)).toNat=b - a:=by rw [if_pos (by decide)];split<;>lia
  show (List.range (if (1:Int) > 0 then (if (a:Int)<(b:Int) then ((b:Int) - a+1 - 1) / 1 else 0) else (if (a:Int) > b then ((a:Int) - b - 1 - 1) / (-1) else 0)).toNat).map (λ (k:Nat)=>((a:Int)+1*(k:Int)).toNat)=_;rw [e];apply Ov;intro m _;lia
 have e1:HT.sIx n 0 none=0:=rfl;have e2:HT.sIx n n none=n:=rfl;unfold Builtin.Str.strSliceIndices;simp only [show (1:Int) > 0 by decide,if_true];cases lo with
 | none=>
   cases hi with
   | none=>exact main 0 n
   | some h=>show sliceRange ((0:Nat):Int) (max 0 (min (if h<0 then h+(n:Int) else h) (n:Int))) 1=_;rw [cl h n];exact main _ _
 | some l=>
   cases hi with
   | none=>show sliceRange (max 0 (min (if l<0 then l+(n:Int) else l) (n:Int))) (n:Int) 1=_;rw [cl l 0];exact main _ _
   | some h=>show sliceRange (max 0 (min (if l<0 then l+(n:Int) else l) (n:Int))) (max 0 (min (if h<0 then h+(n:Int) else h) (n:Int))) 1=_;rw [cl l 0,cl h n];exact main _ _
theorem vK (x:Str) (lo hi:Option Int):(⟨((Builtin.Str.strSliceIndices lo hi 1 x.length).filterMap (x.cps[·]?)).toArray⟩:Str)=iS x lo hi:=by
 unfold iS;rw [uY];have h1:=HT.sIx_le x.length 0 (PJ _) lo;have h2:=HT.sIx_le x.length x.length (PF _) hi
 by_cases h:HT.sIx x.length 0 lo<=HT.sIx x.length x.length hi
 ·rw [Ae x _ _ (by lia)]
 ·have e:HT.sIx x.length x.length hi - HT.sIx x.length 0 lo=0:=by lia
  rw [e];simp
theorem ix (x:Str) (lo hi:Option Int):(iS x lo hi).cps.toList=(x.cps.toList.drop (HT.sIx x.length 0 lo)).take (HT.sIx x.length x.length hi - HT.sIx x.length 0 lo):=by unfold iS;simp
theorem lQ (x:Str) (lo hi:Option Int):(iS x lo hi).length<=x.length:=by rw [c7,ix,c7 x,Ol,OO];lia
theorem tM {x:Str}{lo hi:Option Int}(h:(Builtin.Str.strSliceIndices lo hi 1 x.length).length=x.length):iS x lo hi=x:=by
 rw [uY,NZ,Ow] at h;have h1:=HT.sIx_le x.length 0 (PJ _) lo;have h2:=HT.sIx_le x.length x.length (PF _) hi;apply nc;rw [ix]
 by_cases z:x.length=0
 ·have e:x.cps.toList=[]:=Pc.mp (by rw [<-c7];exact z);rw [e];simp
 ·have e1:HT.sIx x.length 0 lo=0:=by lia
  rw [h,e1,OW,OX (by rw [<-c7];exact PF _)]
def NC:V->Option Int->Option Int->Hp->VK->Prop:=λ x lo hi H Q=> ∃z,x=.str z/\z.length<=sizeLine/\Q (.str (iS z lo hi)) H
theorem qi {v:Value}{o:Option Int}(p:IsPart v o):∃q:Option (Int×Tok),v=partValue q/\q.map (·.1)=o:=by
 cases p with
 | none=>exact ⟨none,rfl,rfl⟩
 | int i t=>exact ⟨some (i,t),rfl,rfl⟩
theorem IB:wZ X NC:=by
 intro pins s σ H x v vl vu lo hi sl Q I rx hs pl pu h;obtain ⟨z,rfl,hz,q⟩:=h;obtain ⟨t,rfl⟩:=rx;obtain ⟨l,rfl,el⟩:=qi pl;obtain ⟨u,rfl,eu⟩:=qi pu;refine ⟨"str",_,F.slot_str_getitem.lookup,typeIs_str _ _ _,?_⟩;obtain ⟨o,ho,hc,hd⟩:=hs;refine wpAny_getItem_str_slice (l:=l) (u:=u) (st:=none) ⟨o,ho,hc,hd⟩ rfl ?_;unfold sliceMade slicePicked;rw [el,eu];split
 ·rename_i hw;have hw:(Builtin.Str.strSliceIndices lo hi 1 z.length).length=z.length:=by simpa using hw
  rw [tM hw] at q;exact ⟨.str z,H,I,⟨t,rfl⟩,q⟩
 ·have e:=vK z lo hi;have e':(⟨((Builtin.Str.strSliceIndices lo hi ((Option.map (·.1) (none:Option (Int×Tok))).getD 1) z.length).filterMap (z.cps[·]?)).toArray⟩:Str)=iS z lo hi:=e;rw [e'];exact ⟨PK (lQ z lo hi) hz,⟨.str _,H,I.tok _,⟨_,rfl⟩,q⟩⟩
theorem mr:aY X (.type "int") (λ xs H Q=> ∃x n,xs=[.str x]/\PySem.intText? x=some n/\x.length<=640/\Q (.int n) H):=by intro pins s σ H xs us Q I r h;obtain ⟨x,n,rfl,hn,hl,q⟩:=h;obtain ⟨u,rfl,t,rfl⟩:=dw r;exact PySem.W.KIN.call_text hn hl ⟨.int n,H,I.tok _,⟨_,rfl⟩,q⟩
theorem kQ:∀{ys:List Str}{us:List Value},aP (ys.map V.str) us->StrsAre us ys
 | [],us,r=>by rw [O9] at r;cases r;exact .nil
 | y::ys,us,r=>by
   rw [Oj] at r;cases r with
   | cons r1 r2=>
     obtain ⟨t,e⟩:=r1;subst e;exact .cons y t (kQ r2)
theorem Cg:pC X "str.join" (λ x vs H Q=> ∃sep p ys,x=.str sep/\vs=[.ref p]/\aK X.K H p (ys.map V.str)/\(ys.map (·.length)).sum+ys.length*sep.length<=16777216/\Q (.str (Txt.join sep ys)) H):=by intro pins s σ H x xs v us Q I rx r h;obtain ⟨sep,p,ys,rfl,rfl,hp,hz,q⟩:=h;obtain ⟨t,rfl⟩:=rx;obtain ⟨u,rfl,ru⟩:=dw r;cases ru;obtain ⟨its,rv,pl,hl⟩:=I.list hp;exact join_list pl.isList (by simpa using kQ rv) hz λ t' k=>⟨.str _,H,I.tok _,⟨t',rfl⟩,q⟩
theorem pF {P:Program}{w:World}{A:Around}{its:List Value}{ks:List Bool}(r:aP (ks.map V.bl) its):TruthOf P w A (λ i v=>its.toArray[i]? =some v) (λ i=>ks.getD i false):=by
 intro i v s Q E hv hq;have hv:its[i]? =some v:=by simpa using hv
 have hlen:=r.length;rw [NZ] at hlen;have hi:i<its.length:=(Oe.mp hv).1;have hk:(ks.map V.bl)[i]? =some (V.bl (ks.getD i false)):=by rw [N3,N2 (by lia),N8,N2 (by lia)];rfl
 obtain ⟨u,hu,ru⟩:=r.get hk;rw [hv] at hu;cases hu;cases ru;exact wpAny_truthy_bool hq
theorem vW (ks:List Bool):(List.range ks.length).all (λ i=>ks.getD i false)=ks.all id:=by
 rw [Qq,On,On]
 constructor
 ·intro h b hb;obtain ⟨i,hi,e⟩:=Pq.mp hb;have:=h i (Ob.mpr hi);rw [N8,N2 hi] at this;rw [<-e];exact this
 ·intro h i hi;have hi:=Ob.mp hi;rw [N8,N2 hi];exact h _ (Of hi)
theorem Bj (hc:X.calm=true):aY X (.builtin "all") (λ xs H Q=> ∃(p:Addr) (ks:List Bool),xs=[.ref p]/\aK X.K H p (ks.map V.bl)/\Q (.bl (ks.all id)) H):=by
 intro pins s σ H xs us Q I r h;obtain ⟨p,ks,rfl,hp,q⟩:=h;obtain ⟨u,rfl,ru⟩:=dw r;cases ru;obtain ⟨its,rv,pl,hl⟩:=I.list hp;have hlen:=rv.length;rw [NZ] at hlen;refine call_all_walk (wpAny_pyIter_list pl.isList ?_);have hne:p≠s.heap.objs.size:=by obtain ⟨o,ho,_⟩:=pl.isList;exact PH (Heap.lt_size ho)
 have W:=Walks.list (prog:=X.prog) (w:=X.w) (A:=X.A.in1) (show X.A.in1.handled=none from I.ok.hd hc) s.heap.objs.size p hne its.toArray;have hpush:∀o b ob,s.heap.get? b=some ob->(s.heap.push o).get? b=some ob:=λ o b ob e=>Heap.get?_push_of_some _ e;refine ⟨_,_,_,_,_,_,λ i=>ks.getD i false,rfl,W,⟨⟨_,Heap.get?_push_size _ rfl,rfl,rfl⟩,pl.isList.at λ o e=>hpush _ _ o e⟩,pF rv,λ h' tk k=>?_⟩;have e:(List.range its.toArray.size).all (λ i=>ks.getD i false)=ks.all id:=by rw [<-vW,N4,<-hlen]
 rw [e];refine ⟨.bl _,H,I.kept (t':=tk) (h':=h') λ b ob e=>k b ob ?_ (hpush _ b ob e),rfl,q⟩;intro hb;have:b=s.heap.objs.size:=by simpa using hb
 subst this;exact absurd (Heap.lt_size e) (PP _)
end
end L2
namespace L2
open PySem PySem.Spec PyProof.Rows
inductive vA (K:Frag) (H:Hp):Nat->V->V->Bool->Prop
 | flat {n:Nat} {x y:V} (hx:dl x=true) (hy:dl y=true):vA K H n x y (jQ x y)
 | same {n:Nat} {a:Addr}:vA K H n (.ref a) (.ref a) true
 | len {n:Nat} {a b:Addr} {xs ys:List V} (ha:aK K H a xs) (hb:aK K H b ys) (hab:a≠b) (hl:xs.length≠ys.length):vA K H (n+1) (.ref a) (.ref b) false
 | lst {n:Nat} {a b:Addr} {xs ys:List V} {es:Nat->Bool} (ha:aK K H a xs) (hb:aK K H b ys) (hab:a≠b) (hl:xs.length=ys.length)
   (he:∀i x y,xs[i]? =some x->ys[i]? =some y->vA K H n x y (es i)):vA K H (n+1) (.ref a) (.ref b) ((List.range xs.length).all es)
 | tup {n:Nat} {a b:Addr} {xs ys:List V} {es:Nat->Bool} (ha:cJ K H a xs) (hb:cJ K H b ys) (hab:a≠b)
   (he:∀i x y,xs[i]? =some x->ys[i]? =some y->vA K H n x y (es i)):vA K H (n+1) (.ref a) (.ref b) ((List.range (min xs.length ys.length)).all es&&xs.length == ys.length)
 | nref {n:Nat} {x:V} {a:Addr} {xs:List V} (hx:dl x=true) (ha:aK K H a xs\/cJ K H a xs):vA K H n x (.ref a) false
 | refn {n:Nat} {x:V} {a:Addr} {xs:List V} (hx:dl x=true) (ha:aK K H a xs\/cJ K H a xs):vA K H n (.ref a) x false
section
variable {X:Cx}{pins:List (Addr×Obj)}{σ:St}{H:Hp}{s:Shared}
theorem dZ {xs:List V}{its:List Value}(r:aP xs its) {j:Nat}(h:j<its.toArray.size):∃x,xs[j]? =some x/\aL x its.toArray[j]:=by
 have hl:=r.length;have hj:j<its.length:=by simpa using h
 have hx:xs[j]? =some (xs[j]'(by lia)):=N2 (by lia);obtain ⟨u,hu,ru⟩:=r.get hx;refine ⟨_,hx,?_⟩;have e:its.toArray[j]=u:=by rw [N2 hj] at hu;simpa using Option.some.inj hu
 rw [e];exact ru
theorem oS (I:aH X pins σ H s):∀{n:Nat}{x y:V}{k:Bool},vA X.K H n x y k->∀(A:Around),A.units+n<cLine->∀{u v:Value},aL x u->aL y v->SeqAt.EqAt A s u v k:=by
 intro n x y k h
 induction h with
 | flat hx hy=>exact λ A _ u v ru rv=>A5 ru rv hx hy
 | same=>
   intro A _ u v ru rv;cases ru;cases rv;exact SeqAt.EqAt.same _
 | len ha hb hab hl=>
   intro A hu u v ru rv;cases ru;cases rv;obtain ⟨its,r1,p1,_⟩:=I.list ha;obtain ⟨its2,r2,p2,_⟩:=I.list hb;have l1:=r1.length;have l2:=r2.length;refine .of_refs hab (.lists_lengths p1.isList p2.isList (by simp;lia) (by lia))
 | @lst n a b xs ys es ha hb hab hl he ih=>
   intro A hu u v ru rv;cases ru;cases rv;obtain ⟨its,r1,p1,_⟩:=I.list ha;obtain ⟨its2,r2,p2,_⟩:=I.list hb;have l1:=r1.length;have l2:=r2.length;have e:(List.range xs.length).all es=(List.range its.toArray.size).all es:=by rw [N4,l1]
   rw [e];refine .of_refs hab (.lists p1.isList p2.isList (by simp;lia) (by lia) λ j h1 h2=>?_);obtain ⟨x,hx,rx⟩:=dZ r1 h1;obtain ⟨y,hy,ry⟩:=dZ r2 h2;exact ih j x y hx hy A.in1 (by show A.units+1+n<cLine;lia) rx ry
 | @tup n a b xs ys es ha hb hab he ih=>
   intro A hu u v ru rv;cases ru;cases rv;obtain ⟨its,r1,p1,_⟩:=I.tuple ha;obtain ⟨its2,r2,p2,_⟩:=I.tuple hb;have l1:=r1.length;have l2:=r2.length;have e:((List.range (min xs.length ys.length)).all es&&xs.length == ys.length)=((List.range (min its.toArray.size its2.toArray.size)).all es&&its.toArray.size == its2.toArray.size):=by rw [N4,N4,l1,l2]
   rw [e];refine .of_refs hab (.tuples (show s.heap.IsTuple a its.toArray from p1) (show s.heap.IsTuple b its2.toArray from p2) (by lia) λ j h1 h2=>?_);obtain ⟨x,hx,rx⟩:=dZ r1 h1;obtain ⟨y,hy,ry⟩:=dZ r2 h2;exact ih j x y hx hy A.in1 (by show A.units+1+n<cLine;lia) rx ry
 | @nref n x a xs hx ha=>
   intro A hu u v ru rv;cases rv
   rcases ha with ha | ha
   ·obtain ⟨its,r1,p1,_⟩:=I.list ha;have hl:=p1.isList;cases x with
    | non=>cases ru;exact .none_list hl (by lia)
    | bl b=>cases ru;exact .bool_list b hl (by lia)
    | int b=>obtain ⟨t,rfl⟩:=ru;exact .int_list b t hl (by lia)
    | str b=>obtain ⟨t,rfl⟩:=ru;exact .str_list b t hl (by lia)
    | _=>simp [dl] at hx
   ·obtain ⟨its,r1,p1,_⟩:=I.tuple ha;have hl:s.heap.IsTuple a its.toArray:=p1;cases x with
    | non=>cases ru;exact .none_tuple hl (by lia)
    | bl b=>cases ru;exact .bool_tuple b hl (by lia)
    | int b=>obtain ⟨t,rfl⟩:=ru;exact .int_tuple b t hl (by lia)
    | str b=>obtain ⟨t,rfl⟩:=ru;exact .str_tuple b t hl (by lia)
    | _=>simp [dl] at hx
 | @refn n x a xs hx ha=>
   intro A hu u v ru rv;cases ru
   rcases ha with ha | ha
   ·obtain ⟨its,r1,p1,_⟩:=I.list ha;have hl:=p1.isList;cases x with
    | non=>cases rv;exact .list_none hl (by lia)
    | bl b=>cases rv;exact .list_bool b hl (by lia)
    | int b=>obtain ⟨t,rfl⟩:=rv;exact .list_int b t hl (by lia)
    | str b=>obtain ⟨t,rfl⟩:=rv;exact .list_str b t hl (by lia)
    | _=>simp [dl] at hx
   ·obtain ⟨its,r1,p1,_⟩:=I.tuple ha;have hl:s.heap.IsTuple a its.toArray:=p1;cases x with
    | non=>cases rv;exact .tuple_none hl (by lia)
    | bl b=>cases rv;exact .tuple_bool b hl (by lia)
    | int b=>obtain ⟨t,rfl⟩:=rv;exact .tuple_int b t hl (by lia)
    | str b=>obtain ⟨t,rfl⟩:=rv;exact .tuple_str b t hl (by lia)
    | _=>simp [dl] at hx
end
inductive rj (K:Frag) (H:Hp):Nat->V->V->Bool->Prop
 | len {n:Nat} {a b:Addr} {xs ys:List V} (ha:aK K H a xs) (hb:aK K H b ys) (hl:xs.length≠ys.length):rj K H (n+1) (.ref a) (.ref b) false
 | lst {n:Nat} {a b:Addr} {xs ys:List V} {es:Nat->Bool} (ha:aK K H a xs) (hb:aK K H b ys) (hl:xs.length=ys.length)
   (he:∀i x y,xs[i]? =some x->ys[i]? =some y->vA K H n x y (es i)):rj K H (n+1) (.ref a) (.ref b) ((List.range xs.length).all es)
 | tup {n:Nat} {a b:Addr} {xs ys:List V} {es:Nat->Bool} (ha:cJ K H a xs) (hb:cJ K H b ys)
   (he:∀i x y,xs[i]? =some x->ys[i]? =some y->vA K H n x y (es i)):rj K H (n+1) (.ref a) (.ref b) ((List.range (min xs.length ys.length)).all es&&xs.length == ys.length)
section
variable {X:Cx}
theorem IU {n:Nat}(hu:X.A.units+n<cLine):iJ X (compareOp .Eq) (λ x y H Q=> ∃k,rj X.K H n x y k/\Q (.bl k) H):=by
 intro pins s σ H x y v u Q I rx ry h;obtain ⟨k,h,q⟩:=h;cases h with
 | @len n a b xs ys ha hb hl=>
   cases rx;cases ry;obtain ⟨its,r1,p1,_⟩:=I.list ha;obtain ⟨its2,r2,p2,_⟩:=I.list hb;have l1:=r1.length;have l2:=r2.length;exact SeqAt.eq_list_lengthsAt p1.isList p2.isList (by simp;lia) (by lia) (fin_bl I q rfl)
 | @lst n a b xs ys es ha hb hl he=>
   cases rx;cases ry;obtain ⟨its,r1,p1,_⟩:=I.list ha;obtain ⟨its2,r2,p2,_⟩:=I.list hb;have l1:=r1.length;have l2:=r2.length;refine SeqAt.eq_listAt (e:=es) p1.isList p2.isList (by simp;lia) (by lia) (λ j h1 h2=>?_) (fin_bl I q (by rw [N4,l1]));obtain ⟨x,hx,rx⟩:=dZ r1 h1;obtain ⟨y,hy,ry⟩:=dZ r2 h2;exact oS I (he j x y hx hy) X.A.in1 (by show X.A.units+1+n<cLine;lia) rx ry
 | @tup n a b xs ys es ha hb he=>
   cases rx;cases ry;obtain ⟨its,r1,p1,_⟩:=I.tuple ha;obtain ⟨its2,r2,p2,_⟩:=I.tuple hb;have l1:=r1.length;have l2:=r2.length;refine SeqAt.eq_tupleAt (e:=es) (show s.heap.IsTuple a its.toArray from p1) (show s.heap.IsTuple b its2.toArray from p2) (by lia) (λ j h1 h2=>?_) (fin_bl I q (by rw [N4,N4,l1,l2]));obtain ⟨x,hx,rx⟩:=dZ r1 h1;obtain ⟨y,hy,ry⟩:=dZ r2 h2;exact oS I (he j x y hx hy) X.A.in1 (by show X.A.units+1+n<cLine;lia) rx ry
theorem IQ {n:Nat}(hu:X.A.units+n<cLine):iJ X (compareOp .NotEq) (λ x y H Q=> ∃k,rj X.K H n x y k/\Q (.bl (!k)) H):=by
 intro pins s σ H x y v u Q I rx ry h;obtain ⟨k,h,q⟩:=h;cases h with
 | @len n a b xs ys ha hb hl=>
   cases rx;cases ry;obtain ⟨its,r1,p1,_⟩:=I.list ha;obtain ⟨its2,r2,p2,_⟩:=I.list hb;have l1:=r1.length;have l2:=r2.length;exact EqBoolInt.of_rcne (SeqAt.RcNeAt.lists_lengths p1.isList p2.isList (by simp;lia) (by lia)) (fin_bl I q rfl)
 | @lst n a b xs ys es ha hb hl he=>
   cases rx;cases ry;obtain ⟨its,r1,p1,_⟩:=I.list ha;obtain ⟨its2,r2,p2,_⟩:=I.list hb;have l1:=r1.length;have l2:=r2.length;refine EqBoolInt.of_rcne (SeqAt.RcNeAt.lists (e:=es) p1.isList p2.isList (by simp;lia) (by lia) (λ j h1 h2=>?_)) (fin_bl I q (by rw [N4,l1]));obtain ⟨x,hx,rx⟩:=dZ r1 h1;obtain ⟨y,hy,ry⟩:=dZ r2 h2;exact oS I (he j x y hx hy) X.A.in1 (by show X.A.units+1+n<cLine;lia) rx ry
 | @tup n a b xs ys es ha hb he=>
   cases rx;cases ry;obtain ⟨its,r1,p1,_⟩:=I.tuple ha;obtain ⟨its2,r2,p2,_⟩:=I.tuple hb;have l1:=r1.length;have l2:=r2.length;refine EqBoolInt.of_rcne (SeqAt.RcNeAt.tuples (e:=es) (show s.heap.IsTuple a its.toArray from p1) (show s.heap.IsTuple b its2.toArray from p2) (by lia) (λ j h1 h2=>?_)) (fin_bl I q (by rw [N4,N4,l1,l2]));obtain ⟨x,hx,rx⟩:=dZ r1 h1;obtain ⟨y,hy,ry⟩:=dZ r2 h2;exact oS I (he j x y hx hy) X.A.in1 (by show X.A.units+1+n<cLine;lia) rx ry
end
def wT (op:Operator) (x y:V) (H:Hp) (Q:VK):Prop:=match op,x,y with
 | .Add,.int i,.int j=>Q (.int (i+j)) H
 | .Add,.str i,.str j=>i.length+j.length<=sizeLine/\Q (.str (i++j)) H
 | .Add,.ref a,.ref b=>IJ (.ref a) (.ref b) H Q
 | .Sub,.int i,.int j=>Q (.int (i - j)) H
 | .Mult,.int i,.int j=>By i j/\Q (.int (i*j)) H
 | .FloorDiv,.int i,.int j=>JV i j/\Q (.int (i / j)) H
 | .Mod,.int i,.int j=>0<j/\Q (.int (i % j)) H
 | .Pow,.int i,.int j=>Ni i j/\Q (.int (i ^ j.toNat)) H
 | _,_,_=>False
section
variable {X:Cx}{a b c:Expr}{ta tb tc:TE}{pos:Pos}
theorem IW (op:Operator):iJ X (binaryOp op) (wT op):=by
 intro pins s σ H x y v u Q I rx ry h;unfold wT at h;split at h
 ·exact IX pins s σ H _ _ v u Q I rx ry ⟨_,_,rfl,rfl,h⟩
 ·exact su pins s σ H _ _ v u Q I rx ry ⟨_,_,rfl,rfl,h.1,h.2⟩
 ·exact IV pins s σ H _ _ v u Q I rx ry h
 ·exact IO pins s σ H _ _ v u Q I rx ry ⟨_,_,rfl,rfl,h⟩
 ·exact IR pins s σ H _ _ v u Q I rx ry ⟨_,_,rfl,rfl,h.1,h.2⟩
 ·exact Ca pins s σ H _ _ v u Q I rx ry ⟨_,_,rfl,rfl,h.1,h.2⟩
 ·exact IS pins s σ H _ _ v u Q I rx ry ⟨_,_,rfl,rfl,h.1,h.2⟩
 ·exact IP pins s σ H _ _ v u Q I rx ry ⟨_,_,rfl,rfl,h.1,h.2⟩
 ·exact h.elim
def eqB:V->V->Option Bool
 | .non,.non=>some true
 | .int i,.int j=>some (decide (i=j))
 | .bl i,.bl j=>some (decide (i=j))
 | .str i,.str j=>some (decide (i=j))
 | .non,.int _=>some false | .int _,.non=>some false | .non,.bl _=>some false | .bl _,.non=>some false | .non,.str _=>some false | .str _,.non=>some false
 | .int _,.str _=>some false | .str _,.int _=>some false | .bl _,.str _=>some false | .str _,.bl _=>some false
 | _,_=>none
theorem qM {x y:V}{k:Bool}(h:eqB x y=some k):scal x y=true/\decide (x=y)=k:=by
 cases x<;>cases y<;>simp [eqB,scal] at h ⊢ <;>first | exact h | (subst h;rfl)
def eA (K:Frag) (op:CmpOp) (x y:V) (H:Hp) (Q:VK):Prop:=match op,x,y with
 | .Eq,.ref a,.ref b=> ∃k,rj K H 20 (.ref a) (.ref b) k/\Q (.bl k) H
 | .NotEq,.ref a,.ref b=> ∃k,rj K H 20 (.ref a) (.ref b) k/\Q (.bl (!k)) H
 | .Eq,x,y=>match eqB x y with | some k=>Q (.bl k) H | none=>False
 | .NotEq,x,y=>match eqB x y with | some k=>Q (.bl (!k)) H | none=>False
 | .Lt,.int i,.int j=>Q (.bl (decide (i<j))) H
 | .LtE,.int i,.int j=>Q (.bl (decide (i<=j))) H
 | .Gt,.int i,.int j=>Q (.bl (decide (j<i))) H
 | .GtE,.int i,.int j=>Q (.bl (decide (j<=i))) H
 | .Lt,.str i,.str j=>Q (.bl (decide (i.cps.toList<j.cps.toList))) H
 | .LtE,.str i,.str j=>Q (.bl (!decide (j.cps.toList<i.cps.toList))) H
 | .In,.str i,.str j=>Q (.bl (!(Builtin.Str.occurrences j i 0 j.length 1).isEmpty)) H
 | .NotIn,.str i,.str j=>Q (.bl (!(!(Builtin.Str.occurrences j i 0 j.length 1).isEmpty))) H
 | .In,x,.ref p=>II K false x (.ref p) H Q
 | .NotIn,x,.ref p=>II K true x (.ref p) H Q
 | .Is,x,.non=>Q (.bl (decide (x=.non))) H
 | .IsNot,x,.non=>Q (.bl (!decide (x=.non))) H
 | _,_,_=>False
theorem jI (op:CmpOp) (hu:X.A.units+20<cLine):iJ X (compareOp op) (eA X.K op):=by
 intro pins s σ H x y v u Q I rx ry h;unfold eA at h;split at h
 ·exact IU hu pins s σ H _ _ v u Q I rx ry h
 ·exact IQ hu pins s σ H _ _ v u Q I rx ry h
 ·split at h
  ·rename_i k e;obtain ⟨h1,h2⟩:=qM e;exact Mo pins s σ H _ _ v u Q I rx ry ⟨h1,by rw [h2];exact h⟩
  ·exact h.elim
 ·split at h
  ·rename_i k e;obtain ⟨h1,h2⟩:=qM e;exact Mi pins s σ H _ _ v u Q I rx ry ⟨h1,by rw [h2];exact h⟩
  ·exact h.elim
 ·exact Mj pins s σ H _ _ v u Q I rx ry ⟨_,_,rfl,rfl,h⟩
 ·exact Ml pins s σ H _ _ v u Q I rx ry ⟨_,_,rfl,rfl,h⟩
 ·exact Mm pins s σ H _ _ v u Q I rx ry ⟨_,_,rfl,rfl,h⟩
 ·exact Mn pins s σ H _ _ v u Q I rx ry ⟨_,_,rfl,rfl,h⟩
 ·exact v7 pins s σ H _ _ v u Q I rx ry ⟨_,_,rfl,rfl,h⟩
 ·exact v8 pins s σ H _ _ v u Q I rx ry ⟨_,_,rfl,rfl,h⟩
 ·exact v9 pins s σ H _ _ v u Q I rx ry ⟨_,_,rfl,rfl,h⟩
 ·exact n4 pins s σ H _ _ v u Q I rx ry ⟨_,_,rfl,rfl,h⟩
 ·exact wa pins s σ H _ _ v u Q I rx ry h
 ·exact n6 pins s σ H _ _ v u Q I rx ry h
 ·exact IT pins s σ H _ _ v u Q I rx ry ⟨rfl,h⟩
 ·exact B9 pins s σ H _ _ v u Q I rx ry ⟨rfl,h⟩
 ·exact h.elim
def gG (i:Nat):TE:=λ σ H Q=>match σ[i]? with | some (some v)=>Q v H | _=>False
theorem cv (i:Nat) {x:Str}{pos:Pos}(hN:X.N[i]? =some x:=by rfl) (hv:Nr X.env.scope x:=by first | exact Or.inl rfl | exact Or.inr (Or.inl rfl) | exact Or.inr (Or.inr rfl)) (hd:(x == ("__debug__":Str))=false:=by decide)
  (hcd:(x == ("__classdict__":Str))=false:=by decide):PE X (.Name x pos) (gG i):=(IN hN hv hd hcd).imp λ σ H Q h=>by
 unfold gG at h;split at h
 ·rename_i v e;exact ⟨v,e,h⟩
 ·exact h.elim
def qV (op:Operator) (ta tb:TE):TE:=λ σ H Q=>ta σ H λ x H1=>tb σ H1 λ y H2=>wT op x y H2 Q
theorem am {op:Operator}(ha:PE X a ta) (hb:PE X b tb):PE X (.BinOp a op b pos) (qV op ta tb):=Mf (IW op) ha hb
def eB (K:Frag) (op:CmpOp) (ta tb:TE):TE:=λ σ H Q=>ta σ H λ x H1=>tb σ H1 λ y H2=>eA K op x y H2 Q
def dt (Q:Bool->Hp->Prop):VK:=λ x H=>match x with | .bl k=>Q k H | _=>False
theorem dU {Q:Bool->Hp->Prop}{x:V}{H:Hp}(h:dt Q x H):∃k,x=.bl k/\Q k H:=by
 unfold dt at h;split at h
 ·exact ⟨_,rfl,h⟩
 ·exact h.elim
theorem JG {op:CmpOp}(hu:X.A.units+20<cLine) (ha:PE X a ta) (hb:PE X b tb) (hm:behindInMarks op b=false:=by first | exact oE _ | with_unfolding_all rfl):PE X (.Compare a [op] [b] pos) (eB X.K op ta tb):=B6 (jI op hu) ha hb hm
def jm (t:TE):TT:=λ σ H Q=>t σ H (dt Q)
theorem JF {op:CmpOp}(hu:X.A.units+20<cLine) (ha:PE X a ta) (hb:PE X b tb) (hm:behindInMarks op b=false:=by first | exact oE _ | with_unfolding_all rfl):PT X (.Compare a [op] [b] pos) (jm (eB X.K op ta tb)):=by
 intro pins s σ H Q I h;refine wpAny_isTrue_Compare1 (bL (ha pins s σ H _ I h) λ v s1 ⟨x,H1,I1,r1,q1⟩=>bL (hb pins s1 σ H1 _ I1 q1) λ u s2 ⟨y,H2,I2,r2,q2⟩=>
  bL (jI op hu pins s2 σ H2 x y v u _ I2 r1 r2 q2) λ c s3 ⟨z,H3,I3,r3,q3⟩=>?_) hm
 obtain ⟨k,e,q3⟩:=dU q3;subst e;cases r3;exact wpAny_truthy_bool ⟨H3,I3,q3⟩
def pc (K:Frag) (op op':CmpOp) (ta tb tc:TE):TE:=λ σ H Q=>ta σ H λ x H1=>tb σ H1 λ y H2=>eA K op x y H2 (dt λ k H3=>if k=true then tc σ H3 λ w' H4=>eA K op' y w' H4 Q else Q (.bl false) H3)
theorem Bi {op op':CmpOp}(hu:X.A.units+20<cLine) (ha:PE X a ta) (hb:PE X b tb) (hc:PE X c tc) (hm:lastMarks [op,op'] [b,c]=false:=by with_unfolding_all rfl):PE X (.Compare a [op,op'] [b,c] pos) (pc X.K op op' ta tb tc):=by
 intro pins s σ H Q I h;refine Compare_chain (bL (ha pins s σ H _ I h) λ v s1 ⟨x,H1,I1,r1,q1⟩=>chain_link (bL (hb pins s1 σ H1 _ I1 q1) λ u s2 ⟨y,H2,I2,r2,q2⟩=>
  bL (jI op hu pins s2 σ H2 x y v u _ I2 r1 r2 q2) λ d s3 ⟨z,H3,I3,r3,q3⟩=>?_)) hm
 obtain ⟨k,e,q3⟩:=dU q3;subst e;cases r3;refine wpAny_truthy_bool ?_;cases k with
 | false=>exact ite_ff ⟨.bl false,H3,I3,rfl,q3⟩
 | true=>exact ite_tt (chain_last (bL (hc pins s3 σ H3 _ I3 q3) λ w' s4 ⟨z',H4,I4,r4,q4⟩=>jI op' hu pins s4 σ H4 y z' u w' Q I4 r2 r4 q4))
def o8 (K:Frag) (op op':CmpOp) (ta tb tc:TE):TT:=λ σ H Q=>ta σ H λ x H1=>tb σ H1 λ y H2=>eA K op x y H2 (dt λ k H3=>if k=true then tc σ H3 λ w' H4=>eA K op' y w' H4 (dt Q) else Q false H3)
theorem Bc {op op':CmpOp}(hu:X.A.units+20<cLine) (ha:PE X a ta) (hb:PE X b tb) (hc:PE X c tc) (hm:lastMarks [op,op'] [b,c]=false:=by with_unfolding_all rfl):PT X (.Compare a [op,op'] [b,c] pos) (o8 X.K op op' ta tb tc):=by
 intro pins s σ H Q I h;refine isTrue_chain (bL (ha pins s σ H _ I h) λ v s1 ⟨x,H1,I1,r1,q1⟩=>test_link (bL (hb pins s1 σ H1 _ I1 q1) λ u s2 ⟨y,H2,I2,r2,q2⟩=>
  bL (jI op hu pins s2 σ H2 x y v u _ I2 r1 r2 q2) λ d s3 ⟨z,H3,I3,r3,q3⟩=>?_)) hm
 obtain ⟨k,e,q3⟩:=dU q3;subst e;cases r3;refine wpAny_truthy_bool ?_;cases k with
 | false=>exact ite_ff ⟨H3,I3,q3⟩
 | true=>
   refine ite_tt (test_last (bL (hc pins s3 σ H3 _ I3 q3) λ w' s4 ⟨z',H4,I4,r4,q4⟩=>bL (jI op' hu pins s4 σ H4 y z' u w' _ I4 r2 r4 q4) λ d' s5 ⟨z2,H5,I5,r5,q5⟩=>?_));obtain ⟨k2,e2,q5⟩:=dU q5;subst e2;cases r5;exact wpAny_truthy_bool ⟨H5,I5,q5⟩
theorem bm {e:Expr}{t:TE}(h:PE X e t) (he:∀whole,isTrue e X.env whole=(do let v<-whole;standAt e.pos;holding [v] (truthy v)):=by intro _;rfl):PT X e (jm t):=by intro pins s σ H Q I hw;refine isTrue_plain (bL (h pins s σ H _ I hw) λ v s1 ⟨x,H1,I1,r1,q1⟩=>?_) (he _);obtain ⟨d,rfl,q⟩:=dU q1;cases r1;exact wpAny_truthy_bool ⟨H1,I1,q⟩
variable {rest:List Expr}
def vt (ta tb:TE):TE:=λ σ H Q=>ta σ H (dt λ c H1=>if c=true then tb σ H1 Q else Q (.bl false) H1)
def M3 (ta tb:TE):TE:=λ σ H Q=>ta σ H (dt λ c H1=>if c=true then Q (.bl true) H1 else tb σ H1 Q)
def GY (ta:TE):TE:=λ σ H Q=>ta σ H (dt λ c H1=>Q (.bl (!c)) H1)
theorem cI (ha:PE X a ta) (hb:PE X (.BoolOp .And (b::rest) pos) tb):PE X (.BoolOp .And (a::b::rest) pos) (vt ta tb):=by
 intro pins s σ H Q I h;refine BoolOp_and (bL (ha pins s σ H _ I h) λ v s1 ⟨x,H1,I1,r1,q1⟩=>?_);obtain ⟨c,rfl,q1⟩:=dU q1;cases r1;refine wpAny_truthy_bool ?_;cases c with
 | true=>exact hb pins s1 σ H1 Q I1 q1
 | false=>exact ⟨.bl false,H1,I1,rfl,q1⟩
theorem MY (ha:PE X a ta) (hb:PE X (.BoolOp .Or (b::rest) pos) tb):PE X (.BoolOp .Or (a::b::rest) pos) (M3 ta tb):=by
 intro pins s σ H Q I h;refine BoolOp_or (bL (ha pins s σ H _ I h) λ v s1 ⟨x,H1,I1,r1,q1⟩=>?_);obtain ⟨c,rfl,q1⟩:=dU q1;cases r1;refine wpAny_truthy_bool ?_;cases c with
 | false=>exact hb pins s1 σ H1 Q I1 q1
 | true=>exact ⟨.bl true,H1,I1,rfl,q1⟩
theorem tP (ha:PE X a ta):PE X (.UnaryOp .Not a pos) (GY ta):=by intro pins s σ H Q I h;refine UnaryOp_ (bL (ha pins s σ H _ I h) λ v s1 ⟨x,H1,I1,r1,q1⟩=>?_);obtain ⟨c,rfl,q1⟩:=dU q1;cases r1;exact not_of (wpAny_truthy_bool ⟨.bl (!c),H1,I1,rfl,q1⟩)
def M4 (ta:TE):TE:=λ σ H Q=>ta σ H λ x H1=>match x with | .int i=>Q (.int (-i)) H1 | _=>False
theorem tQ (ha:PE X a ta):PE X (.UnaryOp .USub a pos) (M4 ta):=by
 intro pins s σ H Q I h;refine UnaryOp_ (bL (ha pins s σ H _ I h) λ v s1 ⟨x,H1,I1,r1,q1⟩=>?_);cases x with
 | int i=>exact Ih pins s1 σ H1 _ v Q I1 r1 ⟨i,rfl,q1⟩
 | _=>exact q1.elim
end
end L2
namespace L2
open PySem PySem.Spec PyProof.Rows
theorem bK:bootBuiltins "len"=some (.builtin "len"):=by decide+kernel
theorem lV:bootBuiltins "all"=some (.builtin "all"):=by decide+kernel
theorem JJ:bootBuiltins "any"=some (.builtin "any"):=by decide+kernel
theorem ms:bootBuiltins "isinstance"=some (.builtin "isinstance"):=by decide+kernel
theorem mZ:bootBuiltins "sorted"=some (.builtin "sorted"):=by decide+kernel
theorem Bn:bootBuiltins "int"=some (.type "int"):=by decide+kernel
theorem CU:bootBuiltins "bool"=some (.type "bool"):=by decide+kernel
theorem t6:bootBuiltins "str"=some (.type "str"):=by decide+kernel
theorem eO:bootBuiltins "list"=some (.type "list"):=by decide+kernel
theorem Bm:bootBuiltins "tuple"=some (.type "tuple"):=by decide+kernel
theorem vv:bootBuiltins "dict"=some (.type "dict"):=by decide+kernel
theorem pe:bootBuiltins "set"=some (.type "set"):=by decide+kernel
theorem pi:bootBuiltins "enumerate"=some (.type "enumerate"):=by decide+kernel
theorem JI:bootBuiltins "zip"=some (.type "zip"):=by decide+kernel
inductive BT | int | bool | str | list | tuple | dict
 deriving DecidableEq
def BT.s:BT->String
 | .int=>"int" | .bool=>"bool" | .str=>"str" | .list=>"list" | .tuple=>"tuple" | .dict=>"dict"
def dS:BT->BT->Bool
 | .bool,.int=>true
 | .int,.int=>true | .bool,.bool=>true | .str,.str=>true | .list,.list=>true | .tuple,.tuple=>true | .dict,.dict=>true
 | _,_=>false
theorem kit_bt (K:Frag) (a T:BT):Q0 K (.type a.s) (.type T.s)=some (dS a T):=by cases a<;>cases T<;>kernel_rfl
theorem Ck (K:Frag) (T:BT):Q0 K (.type "NoneType") (.type T.s)=some false:=by cases T<;>kernel_rfl
def Co (T:BT) (x:V) (H:Hp) (Q:VK):Prop:=match x with
 | .non=>Q (.bl false) H
 | .bl _=>Q (.bl (dS .bool T)) H
 | .int _=>Q (.bl (dS .int T)) H
 | .str _=>Q (.bl (dS .str T)) H
 | .ref a=>match H a with
   | some (.lst _)=>Q (.bl (dS .list T)) H
   | some (.frz _ (.lst _))=>Q (.bl (dS .list T)) H
   | some (.tup _)=>Q (.bl (dS .tuple T)) H
   | some (.dK _)=>Q (.bl (dS .dict T)) H
   | _=>False
 | _=>False
section
variable {X:Cx}{a b c e o:Expr}{ta tb tc te to:TE}{p p2 pos:Pos}{es:List Expr}{t:TA}
theorem Mz (T:BT) {pins:List (Addr×Obj)}{s:Shared}{σ:St}{H:Hp}{x:V}{u:Value}{Q:VK}(I:aH X pins σ H s) (rx:aL x u) (h:Co T x H Q):wpAny (model X.prog X.w) X.A (call (.builtin "isinstance") [u,.type T.s]) (EP X pins σ Q) X.xe s:=by
 have fin:∀{k:Bool} {tv:Value},jT X.K H x tv->Q0 X.K tv (.type T.s)=some k->Q (.bl k) H->wpAny (model X.prog X.w) X.A (call (.builtin "isinstance") [u,.type T.s]) (EP X pins σ Q) X.xe s:=λ ty e q=>
  wy I rx ty e λ tk=>⟨.bl _,H,I.tok tk,rfl,q⟩
 unfold Co at h;cases x with
 | non=>exact fin .non (Ck _ T) h
 | bl y=>exact fin (.bl y) (kit_bt _ .bool T) h
 | int y=>exact fin (.int y) (kit_bt _ .int T) h
 | str y=>exact fin (.str y) (kit_bt _ .str T) h
 | ref d=>
   dsimp only at h;split at h
   ·rename_i e;exact fin (.lst e) (kit_bt _ .list T) h
   ·rename_i e;exact fin (.frz e) (kit_bt _ .list T) h
   ·rename_i e;exact fin (.tup e) (kit_bt _ .tuple T) h
   ·rename_i e;exact fin (.dK e) (kit_bt _ .dict T) h
   ·exact h.elim
 | _=>exact h.elim
def M5 (T:BT) (ta:TE):TE:=λ σ H Q=>ta σ H λ x H1=>Co T x H1 Q
theorem M0 (T:BT) {n:Str}(ha:PE X a ta) (hg:Gl X "isinstance") (hm:X.mg "isinstance"=none) (hgT:Gl X n) (hmT:X.mg n=none) (hv:bootBuiltins n=some (.type T.s)) (hn:n≠"__name__":=by decide) (hdb:(n == ("__debug__":Str))=false:=by decide)
  (he:starEach [a,.Name n p2] X.env=(false,eval a X.env)::starEach [.Name n p2] X.env:=by rfl) (he2:starEach [.Name n p2] X.env=(false,eval (.Name n p2) X.env)::starEach [] X.env:=by rfl) (hpl:(backTo pos (starEach [.Name n p2] X.env)).any (·.1)=false:=by rfl):
  PE X (.Call (.Name "isinstance" p) [a,.Name n p2] [] pos) (M5 T ta):=by
 intro pins s σ H Q I h;refine wpAny_Call_Name_kw (iQ I hg hm ms ?_ (by decide) (by decide));have hA:PA X [a,.Name n p2] (bo ta (bo (tC (.ty T.s)) cZ)):=pa_cons ha (pa_cons (B8 hgT hmT hv rfl hn hdb) pa_nil he2) he;refine PyProof.Rows.callWith_builtin1 (bL (hA pos pins s σ H (λ vs H1=> ∃x,vs=[x,.ty T.s]/\Co T x H1 Q) I ?_) λ us s1 ⟨vs,H1,I1,r1,x,e,q1⟩=>?_) he hpl
 ·have mono:(λ (x:V) H1=>Co T x H1 Q)=λ x H1=>(bo (tC (.ty T.s)) cZ) σ H1 λ xs H2=> ∃y,x::xs=[y,.ty T.s]/\Co T y H2 Q:=by
   funext x H1;apply propext
   constructor
   ·intro q;exact ⟨x,rfl,q⟩
   ·rintro ⟨y,e,q⟩;have:x=y:=by injection e
    subst this;exact q
  show ta σ H _;rw [<-mono];exact h
 ·subst e;obtain ⟨u,w',rfl,ru,rt⟩:=Go r1;cases rt;exact Mz T I1 ru q1
theorem vz.imp {r r':R2}(h:vz X r) (i:∀x y H Q,r' x y H Q->r x y H Q):vz X r':=λ va sl pins s σ H x y v u Q I rx ry q hs=>h va sl pins s σ H x y v u Q I rx ry (i x y H Q q) hs
def NL (K:Frag) (x y:V) (H:Hp) (Q:VK):Prop:=match x,y with
 | .str z,.int i=>z.length<=sizeLine/\∃c,ke z.cps.toList i=some c/\Q (.str ⟨#[c]⟩) H
 | .ref q,.int i=> ∃xs v,(aK K H q xs\/cJ K H q xs)/\ke xs i=some v/\Q v H
 | _,_=>False
theorem NK:vz X (NL X.K):=(Jn (X:=X)).imp λ x y H Q h=>by
 unfold NL at h;split at h
 ·obtain ⟨h1,c,h2,q⟩:=h;exact .inr (.inr ⟨_,_,c,rfl,rfl,h1,h2,q⟩)
 ·obtain ⟨xs,v,h1,h2,q⟩:=h
  rcases h1 with h1 | h1
  ·exact .inl ⟨_,xs,_,v,rfl,rfl,h1,h2,q⟩
  ·exact .inr (.inl ⟨_,xs,_,v,rfl,rfl,h1,h2,q⟩)
 ·exact h.elim
def CP (K:Frag) (ta tb:TE):TE:=λ σ H Q=>ta σ H λ x H1=>tb σ H1 λ y H2=>NL K x y H2 Q
theorem MZ (ha:PE X a ta) (hb:PE X b tb) (hs:pA b:=by exact λ _ _=>rfl):PE X (.Subscript a b pos) (CP X.K ta tb):=Mg NK ha hb hs
def GX (t:TE):TO:=λ σ H Q=>t σ H λ x H1=>match x with | .int i=>Q (some i) H1 | _=>False
theorem dF (h:PE X e te):PO X (some e) (GX te):=by
 intro pins s σ H Q I hw;rw [evalPart_some];refine bL (h pins s σ H _ I hw) λ u s1 ⟨x,H1,I1,r1,q1⟩=>?_;cases x with
 | int i=>
   obtain ⟨t,rfl⟩:=r1;exact ⟨some i,H1,I1,.int i t,q1⟩
 | _=>exact q1.elim
theorem wZ.imp {r r':V->Option Int->Option Int->Hp->VK->Prop}(h:wZ X r) (i:∀x lo hi H Q,r' x lo hi H Q->r x lo hi H Q):wZ X r':=λ pins s σ H x v vl vu lo hi sl Q I rx hs pl pu q=>h pins s σ H x v vl vu lo hi sl Q I rx hs pl pu (i x lo hi H Q q)
def Nz (K:Frag) (x:V) (lo hi:Option Int) (H:Hp) (Q:VK):Prop:=match x with
 | .str z=>z.length<=sizeLine/\Q (.str (iS z lo hi)) H
 | .ref d=> ∃xs,aK K H d xs/\∀q,H q=none->Q (.ref q) (upd H q (.lst (gk xs lo hi)))
 | _=>False
theorem Ny:wZ X (Nz X.K):=((IB (X:=X)).or BR).imp λ x lo hi H Q h=>by
 unfold Nz at h;split at h
 ·exact .inl ⟨_,rfl,h.1,h.2⟩
 ·obtain ⟨xs,h1,h2⟩:=h;exact .inr ⟨_,xs,rfl,h1,h2⟩
 ·exact h.elim
def Nq (K:Frag) (te:TE) (tl th:TO):TE:=λ σ H Q=>te σ H λ x H1=>tl σ H1 λ l H2=>th σ H2 λ u H3=>Nz K x l u H3 Q
theorem MX {lo hi:Option Expr}{tl th:TO}(he:PE X e te) (hl:PO X lo tl) (hu:PO X hi th):PE X (.Subscript e (.Slice lo hi none p2) pos) (Nq X.K te tl th):=Ah Ny he hl hu
def cB (r:List V->Hp->VK->Prop) (t:TA):TE:=λ σ H Q=>t σ H λ vs H1=>r vs H1 Q
def Ay (K:Frag) (xs:List V) (H:Hp) (Q:VK):Prop:=match xs with
 | [.str z]=>z.length<=sizeLine/\Q (.int z.length) H
 | [.ref d]=> ∃ys,(aK K H d ys\/cJ K H d ys)/\Q (.int ys.length) H
 | _=>False
theorem wO:aY X (.builtin "len") (Ay X.K):=((oZ (X:=X)).or oY).imp λ xs H Q h=>by
 unfold Ay at h;split at h
 ·exact .inr ⟨_,rfl,h.1,h.2⟩
 ·obtain ⟨ys,h1,h2⟩:=h;exact .inl ⟨_,ys,rfl,h1,h2⟩
 ·exact h.elim
def Jo (xs:List V) (H:Hp) (Q:VK):Prop:=match xs with
 | [.str x]=> ∃n,PySem.intText? x=some n/\x.length<=640/\Q (.int n) H
 | [.bl k]=>Q (.int (if k then 1 else 0)) H
 | _=>False
theorem wP:aY X (.type "int") Jo:=((mr (X:=X)).or wQ).imp λ xs H Q h=>by
 unfold Jo at h;split at h
 ·obtain ⟨n,h1,h2,q⟩:=h;exact .inl ⟨_,n,rfl,h1,h2,q⟩
 ·exact .inr (.inr ⟨_,rfl,h⟩)
 ·exact h.elim
def JO (K:Frag) (xs:List V) (H:Hp) (Q:VK):Prop:=match xs with
 | [.ref d]=> ∃ks:List Bool,aK K H d (ks.map V.bl)/\Q (.bl (ks.all id)) H
 | _=>False
theorem wS (hc:X.calm=true):aY X (.builtin "all") (JO X.K):=(Bj hc).imp λ xs H Q h=>by
 unfold JO at h;split at h
 ·obtain ⟨ks,h1,q⟩:=h;exact ⟨_,ks,rfl,h1,q⟩
 ·exact h.elim
theorem NQ {id:String}{x:Str}{r:List V->Hp->VK->Prop}(hc:aY X (.builtin id) r) (hv:bootBuiltins x=some (.builtin id)) (hm:X.mg x=none) (ha:PA X (e::es) t) (hg:Gl X x:=by rfl) (hn:x≠"__name__":=by decide) (hdb:(x == ("__debug__":Str))=false:=by decide)
  (he:starEach (e::es) X.env=(false,eval e X.env)::starEach es X.env:=by rfl) (hpl:(backTo pos (starEach es X.env)).any (·.1)=false:=by rfl):PE X (.Call (.Name x p) (e::es) [] pos) (cB r t):=Aj hc hg hm hv ha hn hdb he hpl
theorem M1 {T:String}{x:Str}{r:List V->Hp->VK->Prop}(hc:aY X (.type T) r) (hv:bootBuiltins x=some (.type T)) (hm:X.mg x=none) (ha:PA X (e::es) t) (hg:Gl X x:=by rfl) (hn:x≠"__name__":=by decide) (hdb:(x == ("__debug__":Str))=false:=by decide)
  (he:starEach (e::es) X.env=(false,eval e X.env)::starEach es X.env:=by rfl) (hpl:(backTo pos (starEach es X.env)).any (·.1)=false:=by rfl):PE X (.Call (.Name x p) (e::es) [] pos) (cB r t):=v5 hc hg hm hv ha hn hdb he hpl
def NR (r:V->List V->Hp->VK->Prop) (to:TE) (t:TA):TE:=λ σ H Q=>to σ H λ x H1=>match x with | .str z=>t σ H1 λ xs H2=>r (.str z) xs H2 Q | _=>False
theorem MW {name:Str}{apos cpos:Pos}{id:String}{r:V->List V->Hp->VK->Prop}(slot:Slot "str" name id) (hty:typeOf (.builtin id)=pure (.type "method_descriptor")) (hm:pC X id r) (ho:PE X o to) (ha:PA X (e::es) t)
  (hbase:attributeBase o name X.env (eval o X.env)=eval o X.env:=by rfl)
  (hfew:((backTo cpos (starEach (e::es) X.env)).all (λ x=> !x.1)&&(backToKw cpos (keywordEach [] X.env)).all (λ x=>x.1.isSome)
   &&decide ((e::es).length+([]:List Keyword).length+(if ([]:List Keyword).isEmpty then 0 else 1)<30))=true:=by rfl)
  (hline:(apos.endLine == cpos.line)=true:=by rfl) (hs:starEach (e::es) X.env=(false,eval e X.env)::starEach es X.env:=by rfl) (hplain:(backTo cpos (starEach es X.env)).any (·.1)=false:=by rfl):
  PE X (.Call (.Attribute o name apos) (e::es) [] cpos) (NR r to t):=by
 intro pins s σ H Q I h;refine wpAny_Call_method_late hbase hfew hline rfl (bL (ho pins s σ H _ I h) λ v s1 ⟨x,H1,I1,r1,q1⟩=>?_);cases x with
 | str z=>
   have ty:JW X.K "str" (.str z) H1:=rfl;obtain ⟨h1,h2⟩:=kN I1 r1 ty;refine ⟨"str",id,PySem.F.plainAttrs_str,slot,hty,h1,h2,?_⟩;have hA:=ha cpos pins s1 σ H1 _ I1 q1;rw [hs] at hA ⊢;refine Calls.callWith_builtin (by show (false||(backTo cpos (starEach es X.env)).any (·.1))=false;rw [hplain]<;>rfl) (Calls.evalArgs_plain ?_)
   exact bL hA λ us s2 ⟨vs,H2,I2,r2,q2⟩=>hm pins s2 σ H2 _ vs v us Q I2 r1 r2 q2
 | _=>exact q1.elim
def CO (r:V->List V->Hp->VK->Prop) (to:TE):TE:=λ σ H Q=>to σ H λ x H1=>match x with | .str z=>r (.str z) [] H1 Q | _=>False
theorem jR {name:Str}{apos cpos:Pos}{id:String}{r:V->List V->Hp->VK->Prop}(slot:Slot "str" name id) (hty:typeOf (.builtin id)=pure (.type "method_descriptor")) (hm:pC X id r) (ho:PE X o to)
  (hbase:attributeBase o name X.env (eval o X.env)=eval o X.env:=by rfl) (hline:(apos.endLine == cpos.line)=true:=by rfl):PE X (.Call (.Attribute o name apos) [] [] cpos) (CO r to):=by
 intro pins s σ H Q I h;refine wpAny_Call_method0_late hbase hline (bL (ho pins s σ H _ I h) λ v s1 ⟨x,H1,I1,r1,q1⟩=>?_);cases x with
 | str z=>
   have ty:JW X.K "str" (.str z) H1:=rfl;obtain ⟨h1,h2⟩:=kN I1 r1 ty;exact ⟨"str",id,PySem.F.plainAttrs_str,slot,hty,h1,h2,Calls.callWith_builtin rfl (PySem.evalArgs_none (hm pins s1 σ H1 _ [] v [] Q I1 r1 .nil q1))⟩
 | _=>exact q1.elim
def mS (K:Frag) (x:V) (vs:List V) (H:Hp) (Q:VK):Prop:=match x,vs with
 | .str sep,[.ref d]=> ∃ys:List Str,aK K H d (ys.map V.str)/\(ys.map (·.length)).sum+ys.length*sep.length<=16777216/\Q (.str (Txt.join sep ys)) H
 | _,_=>False
theorem Ar:pC X "str.join" (mS X.K):=(Cg (X:=X)).imp λ x vs H Q h=>by
 unfold mS at h;split at h
 ·obtain ⟨ys,h1,h2,q⟩:=h;exact ⟨_,_,ys,rfl,rfl,h1,h2,q⟩
 ·exact h.elim
def L1 (x:V) (vs:List V) (H:Hp) (Q:VK):Prop:=match x,vs with
 | .str a,[]=>a.length<=sizeLine/\(∀c∈a.cps.toList,c<128)/\Q (.str ⟨a.cps.map up1⟩) H
 | _,_=>False
theorem sN:pC X "str.upper" L1:=(Ap (X:=X)).imp λ x vs H Q h=>by
 unfold L1 at h;split at h
 ·exact ⟨_,rfl,rfl,h.1,h.2.1,h.2.2⟩
 ·exact h.elim
def CQ (to te:TE):TE:=λ σ H Q=>to σ H λ x H1=>match x with
 | .ref l=>(∃xs,H1 l=some (.lst xs))/\te σ H1 λ y H2=> ∃xs,H2 l=some (.lst xs)/\xs.length<sizeLine/\Q .non (upd H2 l (.lst (xs++[y])))
 | _=>False
theorem iU {apos cpos:Pos}(ho:PE X o to) (he:PE X e te) (hbase:attributeBase o "append" X.env (eval o X.env)=eval o X.env:=by rfl)
  (hfew:((backTo cpos (starEach [e] X.env)).all (λ x=> !x.1)&&(backToKw cpos (keywordEach [] X.env)).all (λ x=>x.1.isSome)
   &&decide ([e].length+([]:List Keyword).length+(if ([]:List Keyword).isEmpty then 0 else 1)<30))=true:=by rfl)
  (hline:(apos.endLine == cpos.line)=true:=by rfl) (hs:starEach [e] X.env=(false,eval e X.env)::starEach [] X.env:=by rfl) (hplain:(backTo cpos (starEach [] X.env)).any (·.1)=false:=by rfl):
  PE X (.Call (.Attribute o "append" apos) [e] [] cpos) (CQ to te):=by
 intro pins s σ H Q I h;refine wpAny_Call_method_late hbase hfew hline rfl (bL (ho pins s σ H _ I h) λ v s1 ⟨x,H1,I1,r1,q1⟩=>?_);cases x with
 | ref l=>
   obtain ⟨⟨xs0,e0⟩,q1⟩:=q1;have ty:JW X.K "list" (.ref l) H1:=.inl ⟨rfl,xs0,aK.of e0⟩;obtain ⟨h1,h2⟩:=kN I1 r1 ty;refine ⟨"list","list.append",PySem.F.plainAttrs_list,PySem.F.slot_list_append,PySem.F.type_list_append,h1,h2,?_⟩;have hA:=(pa_cons he pa_nil hs:PA X [e] (bo te cZ)) cpos pins s1 σ H1 (λ vs H2=> ∃y,vs=[y]/\∃xs,H2 l=some (.lst xs)/\xs.length<sizeLine/\Q .non (upd H2 l (.lst (xs++[y])))) I1 (by
    show te σ H1 λ y H2=> ∃y',[y]=[y']/\_;have:(λ (y:V) (H2:Hp)=> ∃xs,H2 l=some (.lst xs)/\xs.length<sizeLine/\Q .non (upd H2 l (.lst (xs++[y]))))=λ y H2=> ∃y',[y]=[y']/\∃xs,H2 l=some (.lst xs)/\xs.length<sizeLine/\Q .non (upd H2 l (.lst (xs++[y']))):=by
     funext y H2;apply propext
     constructor
     ·intro z;exact ⟨y,rfl,z⟩
     ·rintro ⟨y',e,z⟩;have:y=y':=by injection e
      subst this;exact z
    rw [<-this];exact q1)
   rw [hs] at hA ⊢;refine Calls.callWith_builtin (by show (false||(backTo cpos (starEach [] X.env)).any (·.1))=false;rw [hplain]<;>rfl) (Calls.evalArgs_plain ?_)
   exact bL hA λ us s2 ⟨vs,H2,I2,r2,y,e,xs,q3,q4,q5⟩=>wn pins s2 σ H2 _ vs v us Q I2 r1 r2 ⟨l,xs,y,rfl,e,q3,q4,q5⟩
 | _=>exact q1.elim
structure cj (P:Program) (w:World) (K:Frag) (mg:Str->Option Value) (base:Heap) (name:Str) (ps:List Str) (k:Nat) (sp:Sp):Prop where
 ex:∃f fd,aQ P w K mg base cE k f fd ps sp/\mg name=some (.ref f)/\QT K (.ref f)=true/\ik K fd ps []
def fC (sp:Sp) (t:TA):TE:=λ σ H Q=>t σ H λ vs H1=>sp vs H1 Q E0
theorem CN {name:Str}{ps:List Str}{k j:Nat}{sp:Sp}(C:cj X.prog X.w X.K X.mg X.base name ps k sp) (hr:cP j X.A) (hkj:k<=j) (ha:PA X (e::es) t) (hg:Gl X name:=by rfl) (hdb:(name == ("__debug__":Str))=false:=by decide)
  (he:starEach (e::es) X.env=(false,eval e X.env)::starEach es X.env:=by rfl) (hpl:(backTo pos (starEach es X.env)).any (·.1)=false:=by rfl):PE X (.Call (.Name name p) (e::es) [] pos) (fC sp t):=by
 obtain ⟨f,fd,F,hm,hk,hb⟩:=C.ex;refine (B7 F (hr.mono hkj) hg hm hk hb .nil Ak ha hdb he hpl:PE X _ (zB sp [] E0 t)).imp λ σ H Q h=>?_;unfold zB;simp only [Os];exact h
end
end L2
namespace PySem
namespace F
end F
end PySem
namespace L2
open PySem PySem.Spec PyProof.Rows
section
variable {prog:Program}{w:World}{A:Around}{E:Value->Shared->Prop}{s:Shared}
end
section
variable {X:Cx}{o e:Expr}{to te:TE}
end
end L2
namespace L2
open PySem PySem.Spec PyProof.Rows
section
variable {X:Cx}{tg:Expr}
end
end L2
namespace L2
open PySem PySem.Spec PyProof.Rows
section
variable {X:Cx}
theorem Ai {x:Str}{v:V}{pos:Pos}(hg:Gl X x) (h:∃u,X.mg x=some u/\aL v u) (hd:(x == ("__debug__":Str))=false:=by decide):PE X (.Name x pos) (tC v):=by obtain ⟨u,hm,r⟩:=h;exact B4 hg hm r hd
end
theorem bA {A:Around}{k:Nat}(hr:cP k A):A.units+20<cLine:=by have:=hr.units;lia
theorem aj.upd {H H':Hp}{d:Addr}{o:HO}(h:aj H H') (hd:H' d=none):aj H (upd H' d o):=λ b ob e=>by have e':=h b ob e;rw [aq (ar e' hd)];exact e'
end L2
namespace L2
open PySem PySem.Spec PyProof.Rows
section
variable {X:Cx}{a b c e o:Expr}{ta tb tc te to:TE}{p p2 pos:Pos}{es:List Expr}{t:TA}
theorem iA (K:Frag) {op:CmpOp}(hu:X.A.units+20<cLine) (ha:PE X a ta) (hb:PE X b tb) (hm:behindInMarks op b=false:=by first | exact oE _ | with_unfolding_all rfl) (hK:X.K=K:=by rfl):PE X (.Compare a [op] [b] pos) (eB K op ta tb):=by subst hK;exact JG hu ha hb hm
theorem aU (K:Frag) {op:CmpOp}(hu:X.A.units+20<cLine) (ha:PE X a ta) (hb:PE X b tb) (hm:behindInMarks op b=false:=by first | exact oE _ | with_unfolding_all rfl) (hK:X.K=K:=by rfl):PT X (.Compare a [op] [b] pos) (jm (eB K op ta tb)):=by subst hK;exact JF hu ha hb hm
theorem sX (K:Frag) {op op':CmpOp}(hu:X.A.units+20<cLine) (ha:PE X a ta) (hb:PE X b tb) (hc:PE X c tc) (hm:lastMarks [op,op'] [b,c]=false:=by with_unfolding_all rfl) (hK:X.K=K:=by rfl):PE X (.Compare a [op,op'] [b,c] pos) (pc K op op' ta tb tc):=by subst hK;exact Bi hu ha hb hc hm
theorem uT (K:Frag) {op op':CmpOp}(hu:X.A.units+20<cLine) (ha:PE X a ta) (hb:PE X b tb) (hc:PE X c tc) (hm:lastMarks [op,op'] [b,c]=false:=by with_unfolding_all rfl) (hK:X.K=K:=by rfl):PT X (.Compare a [op,op'] [b,c] pos) (o8 K op op' ta tb tc):=by subst hK;exact Bc hu ha hb hc hm
theorem ci (K:Frag) (ha:PE X a ta) (hb:PE X b tb) (hs:pA b:=by exact λ _ _=>rfl) (hK:X.K=K:=by rfl):PE X (.Subscript a b pos) (CP K ta tb):=by subst hK;exact MZ ha hb hs
theorem GJ (K:Frag) {lo hi:Option Expr}{tl th:TO}(he:PE X e te) (hl:PO X lo tl) (hu:PO X hi th) (hK:X.K=K:=by rfl):PE X (.Subscript e (.Slice lo hi none p2) pos) (Nq K te tl th):=by subst hK;exact MX he hl hu
theorem gc (K:Frag) (hK:X.K=K:=by rfl):aY X (.builtin "len") (Ay K):=by subst hK;exact wO
theorem AE (K:Frag) (hc:X.calm=true:=by rfl) (hK:X.K=K:=by rfl):aY X (.builtin "all") (JO K):=by subst hK;exact wS hc
theorem AA (K:Frag) (hK:X.K=K:=by rfl):pC X "str.join" (mS K):=by subst hK;exact Ar
theorem qE (K:Frag) {tg l:Expr}{tl:TE}(hl:PE X l tl) (hK:X.K=K:=by rfl):PI X tg l (qJ K tl):=by subst hK;exact B0 hl
theorem JX (K:Frag) {n:Nat}{k:Nat}{t:G3}(h:JY X es t) (hc:X.calm=true:=by rfl) (hn:(assignEach es X.env).length=n:=by rfl) (hst:List.findIdx? (λ x=>x.1) (assignEach es X.env)=none:=by rfl) (hK:X.K=K:=by rfl):PG X (.Tuple es k pos) (tm K n t):=by subst hK;exact IM hc h hn hst
theorem kg {x:Str}{v:V}(h:∃u,X.mg x=some u/\aL v u) (hg:Gl X x:=by rfl) (hd:(x == ("__debug__":Str))=false:=by decide):PE X (.Name x pos) (tC v):=Ai hg h hd
theorem Cl (T:BT) {n:Str}(hm:X.mg "isinstance"=none) (hmT:X.mg n=none) (hv:bootBuiltins n=some (.type T.s)) (ha:PE X a ta) (hg:Gl X "isinstance":=by rfl) (hgT:Gl X n:=by rfl) (hn:n≠"__name__":=by decide) (hdb:(n == ("__debug__":Str))=false:=by decide)
  (he:starEach [a,.Name n p2] X.env=(false,eval a X.env)::starEach [.Name n p2] X.env:=by rfl) (he2:starEach [.Name n p2] X.env=(false,eval (.Name n p2) X.env)::starEach [] X.env:=by rfl) (hpl:(backTo pos (starEach [.Name n p2] X.env)).any (·.1)=false:=by rfl):
  PE X (.Call (.Name "isinstance" p) [a,.Name n p2] [] pos) (M5 T ta):=M0 T ha hg hm hgT hmT hv hn hdb he he2 hpl
theorem BB {tg:Expr}{ta:TA}(hm:X.mg "range"=none) (ha:PA X [a] ta) (hg:Gl X "range":=by rfl) (hs:starEach [a] X.env=[(false,eval a X.env)]:=by rfl):PI X tg (.Call (.Name "range" p) [a] [] pos) (mT ta):=v4 hg hm ha hs
theorem bR {N:List Str}{src:List (Option Nat)}{scope:Scope}(dsc:Scope) (XN:List Str) (h:tN dsc XN N src scope=true:=by decide+kernel) (he:X.env.scope=dsc:=by rfl) (hN:X.N=XN:=by rfl):bW X N src scope:=bW.of he hN h
theorem aX {i:Nat}{x:Str}(N:List Str) (hN:N.Nodup:=by decide+kernel) (hi:X.N[i]? =some x:=by rfl) (hx:JZ X.env.scope x:=by first | exact Or.inl rfl | exact Or.inr rfl) (hf:X.fn x=true\/X.env.scope.names.lookup x=some .local:=by first | exact .inl rfl | exact .inr rfl) (hNX:X.N=N:=by rfl):PG X (.Name x pos) (gName i):=
 bD (hNX▸hN) hi hx hf
theorem dR {N:List Str}{src:List (Option Nat)}{scope:Scope}{tg iter:Expr}{ifs:List Expr}{wi:TI}{g:TG}{tt:TT}(S:bW X N src scope) (hi:PI X tg iter wi) (hg:∀s H ex,PG (cxC X scope N s H ex) tg g) (ht:∀s H ex,rc (cxC X scope N s H ex) ifs tt) (he:∀s H ex,PE (cxC X scope N s H ex) e te)
  (hc:X.calm=true:=by rfl) (hs:∀x,foldedSetIterable iter X.env x=pure x:=by intro _;rfl):PE X (.ListComp e [⟨tg,iter,ifs,0⟩] scope pos) (tComp wi g tt te src):=B5 hc S hi hg ht he hs
end
end L2
namespace L2
open PySem PySem.Spec PyProof.Rows
theorem mG {K:Frag}{i j:Int}{H:Hp}{Q:VK}:(eA K .LtE (.int i) (.int j) H Q)=(Q (.bl (decide (i<=j))) H):=rfl
theorem vX {K:Frag}{i j:Str}{H:Hp}{Q:VK}:(eA K .LtE (.str i) (.str j) H Q)=(Q (.bl (!decide (j.cps.toList<i.cps.toList))) H):=rfl
theorem zV {K:Frag}{i j:Str}{H:Hp}{Q:VK}:(eA K .In (.str i) (.str j) H Q)=(Q (.bl (!(Builtin.Str.occurrences j i 0 j.length 1).isEmpty)) H):=rfl
theorem nT {K:Frag}{i:Int}{d:Addr}{H:Hp}{Q:VK}:(eA K .In (.int i) (.ref d) H Q)=(II K false (.int i) (.ref d) H Q):=rfl
theorem kj {K:Frag}{i:Int}{d:Addr}{H:Hp}{Q:VK}:(eA K .NotIn (.int i) (.ref d) H Q)=(II K true (.int i) (.ref d) H Q):=rfl
theorem jc {K:Frag}{i:Str}{d:Addr}{H:Hp}{Q:VK}:(eA K .In (.str i) (.ref d) H Q)=(II K false (.str i) (.ref d) H Q):=rfl
theorem IH {a b:Addr}{H:Hp}{Q:VK}:(wT .Add (.ref a) (.ref b) H Q)=(IJ (.ref a) (.ref b) H Q):=rfl
theorem zU {K:Frag}{a:Str}{d:Addr}{H:Hp}{Q:VK}:(mS K (.str a) [.ref d] H Q)=(∃ys:List Str,aK K H d (ys.map V.str)/\(ys.map (·.length)).sum+ys.length*a.length<=16777216/\Q (.str (Txt.join a ys)) H):=rfl
theorem NA {a:Str}{H:Hp}{Q:VK}:(L1 (.str a) [] H Q)=(a.length<=sizeLine/\(∀c∈a.cps.toList,c<128)/\Q (.str ⟨a.cps.map up1⟩) H):=rfl
theorem r_b {k:Bool}{Q:Bool->Hp->Prop}{H:Hp}:dt Q (.bl k) H=Q k H:=rfl
end L2
namespace L2
open PySem PySem.Spec PyProof.Rows
def fG:Expr->Bool
 | .Starred _ _=>false
 | _=>true
theorem eH {e:Expr}{es:List Expr}{env:Env}(h:fG e=true):starEach (e::es) env=(false,eval e env)::starEach es env:=by
 cases e<;>first | rfl | cases h
theorem gy {pos:Pos}{env:Env}:∀{es:List Expr},es.all fG=true->(backTo pos (starEach es env)).any (·.1)=false
 | [],_=>rfl
 | e::es,h=>by
   rw [Op,Qp] at h;rw [eH h.1];show (false||(backTo pos (starEach es env)).any (·.1))=false
   rw [gy h.2];rfl
theorem Bu {pos:Pos}{env:Env}:∀{es:List Expr},es.all fG=true->(backTo pos (starEach es env)).all (λ x=> !x.1)=true
 | [],_=>rfl
 | e::es,h=>by rw [Op,Qp] at h;rw [eH h.1];show (!false&&(backTo pos (starEach es env)).all (λ x=> !x.1))=true;rw [Bu h.2];rfl
section
variable {X:Cx}{a b c e o:Expr}{ta tb tc te to:TE}{p p2 pos:Pos}{es:List Expr}{t:TA}
theorem av (ha:PE X e te) (hr:PA X es t) (h:fG e=true:=by rfl):PA X (e::es) (bo te t):=pa_cons ha hr (eH h)
theorem aB {name:Str}{ps:List Str}{k j:Nat}{sp:Sp}(C:cj X.prog X.w X.K X.mg X.base name ps k sp) (hr:cP j X.A) (ha:PA X (e::es) t) (hkj:k<=j:=by decide) (hp:(e::es).all fG=true:=by rfl) (hg:Gl X name:=by rfl) (hdb:(name == ("__debug__":Str))=false:=by decide):PE X (.Call (.Name name p) (e::es) [] pos) (fC sp t):=by have hp':=hp;rw [Op,Qp] at hp';exact CN C hr hkj ha hg hdb (eH hp'.1) (gy hp'.2)
theorem kB {id:String}{x:Str}{r:List V->Hp->VK->Prop}(hc:aY X (.builtin id) r) (hv:bootBuiltins x=some (.builtin id)) (hm:X.mg x=none) (ha:PA X (e::es) t) (hp:(e::es).all fG=true:=by rfl) (hg:Gl X x:=by rfl) (hn:x≠"__name__":=by decide) (hdb:(x == ("__debug__":Str))=false:=by decide):PE X (.Call (.Name x p) (e::es) [] pos) (cB r t):=by have hp':=hp;rw [Op,Qp] at hp';exact NQ hc hv hm ha hg hn hdb (eH hp'.1) (gy hp'.2)
theorem wx {T:String}{x:Str}{r:List V->Hp->VK->Prop}(hc:aY X (.type T) r) (hv:bootBuiltins x=some (.type T)) (hm:X.mg x=none) (ha:PA X (e::es) t) (hp:(e::es).all fG=true:=by rfl) (hg:Gl X x:=by rfl) (hn:x≠"__name__":=by decide) (hdb:(x == ("__debug__":Str))=false:=by decide):PE X (.Call (.Name x p) (e::es) [] pos) (cB r t):=by have hp':=hp;rw [Op,Qp] at hp';exact M1 hc hv hm ha hg hn hdb (eH hp'.1) (gy hp'.2)
theorem NG {name:Str}{apos cpos:Pos}{id:String}{r:V->List V->Hp->VK->Prop}(slot:Slot "str" name id) (hty:typeOf (.builtin id)=pure (.type "method_descriptor")) (hm:pC X id r) (ho:PE X o to) (ha:PA X (e::es) t) (hp:(e::es).all fG=true:=by rfl) (hl:(e::es).length<20:=by decide)
  (hbase:attributeBase o name X.env (eval o X.env)=eval o X.env:=by rfl) (hline:(apos.endLine == cpos.line)=true:=by rfl):PE X (.Call (.Attribute o name apos) (e::es) [] cpos) (NR r to t):=by
 have hp':=hp;rw [Op,Qp] at hp';refine MW slot hty hm ho ha hbase ?_ hline (eH hp'.1) (gy hp'.2);rw [Bu hp];show (true&&true&&decide ((e::es).length+0+0<30))=true;rw [decide_eq_true (by lia)];rfl
end
end L2
namespace L2
open PySem
theorem bS {t u:TS}{D:dC}{σ:St}{H:Hp}(P:St->Hp->Prop) (h:∀K:St->Hp->Prop,(∀σ' H',P σ' H'->K σ' H')->t {D with nx:=K} σ H) (h2:∀σ' H',P σ' H'->u D σ' H'):ba t u D σ H:=h (u D) h2
theorem bB {te:TE}{i:Nat}{u:TS}{D:dC}{σ:St}{H:Hp}(P:V->Hp->Prop) (h:∀Q:VK,(∀v H',P v H'->Q v H')->te σ H Q) (h2:∀v H',P v H'->u D (σ.set i (some v)) H'):ba (tAsg te (gName i)) u D σ H:=h _ h2
theorem cp {c:TT}{t u:TS}{D:dC}{σ:St}{H:Hp}(P:Bool->Hp->Prop) (hc:∀Q:Bool->Hp->Prop,(∀b H',P b H'->Q b H')->c σ H Q) (h1:∀H',P true H'->t {D with nx:=u D} σ H') (h2:∀H',P false H'->u D σ H'):ba (na c t pG) u D σ H:=by
 refine hc _ λ b H' p=>?_;cases b with
 | true=>exact hV (h1 H' p)
 | false=>exact iB (h2 H' p)
end L2
namespace L2
open PySem
def iy:List Expr->Option (List V)
 | []=>some []
 | .Constant (.int i) _ _::r=>(iy r).map (V.int i:: ·)
 | .Constant (.str x) _ _::r=>(iy r).map (V.str x:: ·)
 | .Constant (.bool b) _ _::r=>(iy r).map (V.bl b:: ·)
 | .Constant .none _ _::r=>(iy r).map (V.non:: ·)
 | _=>none
def cCs (vs:List V):TA:=λ _ H Q=>Q vs H
theorem cD {X:Cx}:∀{es:List Expr}{vs:List V},iy es=some vs->PA X es (cCs vs):=by
 intro es
 induction es with
 | nil=>intro vs h;cases h;exact pa_nil
 | cons e r ih=>
   intro vs h;unfold iy at h;split at h
   ·rename_i e1;cases e1
   ·rename_i e1;cases e1;obtain ⟨ws,h1,h2⟩:=QI.mp h;subst h2;exact av af (ih h1)
   ·rename_i e1;cases e1;obtain ⟨ws,h1,h2⟩:=QI.mp h;subst h2;exact av bC (ih h1)
   ·rename_i e1;cases e1;obtain ⟨ws,h1,h2⟩:=QI.mp h;subst h2;exact av fA (ih h1)
   ·rename_i e1;cases e1;obtain ⟨ws,h1,h2⟩:=QI.mp h;subst h2;exact av di (ih h1)
   ·cases h
end L2
namespace L2
open PySem
theorem jk {g:TG}{tt:TT}{te:TE}{src:List (Option Nat)}{σ:St}{Q:VK}{J:It}{H1:Hp}(n:Nat) (N:Nat->List V->St->Hp->Prop) (hn:n<=sizeLine) (hlen:∀i ys σ H,N i ys σ H->ys.length<=i)
  (hgo:∀i ys σ H,N i ys σ H->i<n->J.go i H) (hstop:∀ys σ H,N n ys σ H->J.stop n H) (h0:N 0 [] (dG src σ) H1)
  (hturn:∀i ys σ' H' x H2,i<n->N i ys σ' H'->J.yld i H' x H2->∀(Kt:V->St->Hp->Prop) (Kf:St->Hp->Prop),(∀v σ3 H5,N (i+1) (ys++[v]) σ3 H5->Kt v σ3 H5)->(∀σ3 H4,N (i+1) ys σ3 H4->Kf σ3 H4)->
   g x σ' H2 λ σ3 H3=>tt σ3 H3 λ b H4=>if b=true then te σ3 H4 λ v H5=>Kt v σ3 H5 else Kf σ3 H4)
  (hQ:∀ys σ' H' d,N n ys σ' H'->H' d=none->Q (.ref d) (upd H' d (.lst ys))):dn g tt te src σ Q J H1:=by
 refine ⟨λ i m ys σ' H'=>m=n - i/\i<=n/\N i ys σ' H',⟨n,by simp,PJ _,h0⟩,?_⟩;rintro i m ys σ' H' ⟨rfl,hi,hN⟩
 by_cases hlt:i<n
 ·refine .inr ⟨hgo i ys σ' H' hN hlt,?_,λ x H2 y=>?_⟩
  ·have:=hlen i ys σ' H' hN;lia
  ·exact hturn i ys σ' H' x H2 hlt hN y _ _ (λ v σ3 H5 h=>⟨n - (i+1),by lia,rfl,hlt,h⟩) (λ σ3 H4 h=>⟨n - (i+1),by lia,rfl,hlt,h⟩)
 ·have e:i=n:=by lia
  subst e;exact .inl ⟨hstop ys σ' H' hN,λ d hd=>hQ ys σ' H' d hN hd⟩
end L2
namespace L2
open PySem
theorem hZ {K:Frag}{tl:TE}{g:TG}{tb:TS}{D:dC}{σ:St}{H:Hp}(P:V->Hp->Prop) (htl:∀Q:VK,(∀v H',P v H'->Q v H')->tl σ H Q)
  (h:∀v H',P v H'->∃d xs,v=.ref d/\aK K H' d xs/\∃Pv:Nat->St->Hp->Prop,Pv 0 σ H'/\(∀i σ H,i<=xs.length->Pv i σ H->aK K H d xs)/\
   (∀(i:Nat) x σ H,xs[i]? =some x->Pv i σ H->g x σ H λ σ2 H2=>tb {D with nx:=Pv (i+1),ct:=Pv (i+1),bk:=D.nx} σ2 H2)/\(∀σ H,Pv xs.length σ H->D.nx σ H)):tFor (qJ K tl) g tb D σ H:=
 htl _ λ v H' p=>by obtain ⟨d,xs,rfl,hq,Pv,a,b,c,e⟩:=h v H' p;exact ⟨d,rfl,⟨xs,hq⟩,AW Pv a b c e⟩
theorem Iv {c:TT}{t:TS}{D:dC}{σ:St}{H:Hp}(P:Bool->Hp->Prop) (hc:∀Q:Bool->Hp->Prop,(∀b H',P b H'->Q b H')->c σ H Q) (h1:∀H',P true H'->t D σ H') (h2:∀H',P false H'->D.nx σ H'):na c t pG D σ H:=by
 refine hc _ λ b H' p=>?_;cases b with
 | true=>exact hV (h1 H' p)
 | false=>exact iB (h2 H' p)
end L2
namespace L2
open PySem PySem.Spec PyProof.Rows
def uniq (ns:List Int):List Int:=firstMet (λ i=>ns.getD i 0) ns.length
theorem rZ (ns:List Int):(List.range ns.length).map (λ i=>ns.getD i 0)=ns:=by
 apply OJ;intro i;rw [N3]
 by_cases h:i<ns.length
 ·rw [Oz h,N2 h];show some (ns.getD i 0)=_;rw [N8,N2 h];rfl
 ·rw [Ot (by rw [Ow];lia),Ot (by lia)];rfl
theorem ia (val:Nat->Int):∀i,(firstMet val i).length=i<->((List.range i).map val).Nodup
 | 0=>by simp [firstMet_zero]
 | i+1=>by
   have ih:=ia val i;have hle:=firstMet_length_le val i;have ha:=firstMet_any val i (val i);rw [firstMet_succ,OP,Og,OY];unfold step_dedup
   by_cases h:(firstMet val i).any (· == val i)=true
   ·rw [if_pos h]
    constructor
    ·intro e;lia
    ·intro e;rw [ha,OC] at h;obtain ⟨x,hx,e2⟩:=h;have:x=val i:=beq_iff_eq.mp e2;exact absurd this (e.2.2 x hx (val i) (by simp))
   ·rw [if_neg h,Oa,Pa]
    constructor
    ·intro e;refine ⟨ih.mp (by lia),by simp,λ x hx y hy=>?_⟩;have hy':y=val i:=by simpa using hy
     subst hy';intro e3;apply h;rw [ha,OC];exact ⟨x,hx,beq_iff_eq.mpr e3⟩
    ·intro e;rw [ih.mpr e.1]
theorem zu (ns:List Int):(uniq ns).length=ns.length<->ns.Nodup:=by unfold uniq;rw [ia,rZ]
section
variable {X:Cx}
def ID (K:Frag) (xs:List V) (H:Hp) (Q:VK):Prop:=match xs with
 | [.ref d]=> ∃ns:List Int,aK K H d (ns.map V.int)/\ns.length+1<scanBound/\∀q,H q=none->Q (.ref q) (upd H q (.set (λ k=>(uniq ns).any (· == k)) (uniq ns).length))
 | _=>False
theorem wN (hh:X.A.handled=none):aY X (.type "set") (ID X.K):=by
 intro pins s σ H xs us Q I r h;unfold ID at h;split at h
 ·rename_i d;obtain ⟨ns,hq,hb,q⟩:=h;obtain ⟨u,rfl,rx⟩:=dw r;cases rx;obtain ⟨its,r',pl,hz⟩:=I.list hq;have hlen:=r'.length;rw [NZ] at hlen;have hi:IntsAre its.toArray.toList ns:=lI r';have hs:its.toArray.size=ns.length:=by rw [N4,<-hlen]
  refine call_set_list hh pl.isList hi (by rw [hs];exact hb) λ h' tk hS kp=>?_;rw [hs] at hS;have k2:∀b u,s.heap.get? b=some u->h'.get? b=some u:=λ b u e=>kp b u (Heap.lt_size e) e;exact ⟨.ref s.heap.objs.size,_,I.laid (t':=tk) k2 (PF _) (show bw X.prog X.w _ h' _ (.set _ _) from hS),rfl,q _ (I.hok.fresh (PF _))⟩
 ·exact h.elim
def GI (xs:List V) (H:Hp) (Q:VK):Prop:=match xs with
 | [.ref d]=> ∃S n,H d=some (.set S n)/\Q (.int n) H
 | _=>False
theorem tW:aY X (.builtin "len") GI:=by
 intro pins s σ H xs us Q I r h;unfold GI at h;split at h
 ·rename_i d;obtain ⟨S,n,hd,q⟩:=h;obtain ⟨u,rfl,rx⟩:=dw r;cases rx;obtain ⟨o,es,ep,t,h1,h2,h3,_,_,h6,h7,h8⟩:=(show bw X.prog X.w H s.heap d (.set S n) from I.hok d _ hd);subst h8;have hb:es.size<4096:=h6;exact PySem.call_len_set h1 h2 h3 h7 (by lia) ⟨.int es.size,H,I.tok _,⟨_,rfl⟩,q⟩
 ·exact h.elim
def zM (K:Frag) (xs:List V) (H:Hp) (Q:VK):Prop:=match xs with
 | [.ref d]=> ∃ns:List Int,aK K H d (ns.map V.int)/\ns.length<64/\∀(ns':List Int) q,ns'.Perm ns->ns'.Pairwise (·<=·)->H q=none->Q (.ref q) (upd H q (.lst (ns'.map V.int)))
 | _=>False
theorem tR:aY X (.builtin "sorted") (zM X.K):=by
 intro pins s σ H xs us Q I r h;unfold zM at h;split at h
 ·rename_i d;obtain ⟨ns,hq,hb,q⟩:=h;obtain ⟨u,rfl,rx⟩:=dw r;cases rx;obtain ⟨its,r',pl,hz⟩:=I.list hq;have hlen:=r'.length;rw [NZ] at hlen;refine sorted_ints pl.isList (lI r') (by lia) λ out ns' a1 a2 a3=>?_;obtain ⟨e,he⟩:=sortedAll_at s.heap its out;have hl:=a2.length_eq;have hz':(ns'.map V.int).length<=sizeLine:=by rw [NZ,hl,sizeLine_eq];lia
  exact ⟨.ref (s.heap.objs.size+1),_,I.laid (t':=s.toks) (λ _ _=>sortedAll_old) (PN _) (show bw X.prog X.w _ _ _ (.lst (ns'.map V.int)) from ⟨hz',out.toList,e,jv a1,by simpa [seqObj] using he⟩),rfl,q ns' _ a2 a3 (I.hok.fresh (PN _))⟩
 ·exact h.elim
def uQ (K:Frag) (xs:List V) (H:Hp) (Q:VK):Prop:=match xs with
 | [.ref d]=> ∃ys,(aK K H d ys\/cJ K H d ys)/\∀l,H l=none->Q (.ref l) (upd H l (.lst ys))
 | _=>False
theorem tU:aY X (.type "list") (uQ X.K):=(oX (X:=X)).imp λ xs H Q h=>by
 unfold uQ at h;split at h
 ·obtain ⟨ys,h1,q⟩:=h;exact ⟨_,ys,rfl,h1,q⟩
 ·exact h.elim
theorem NH (K:Frag) {j:Nat}(hr:cP j X.A) (hK:X.K=K:=by rfl):aY X (.type "set") (ID K):=by subst hK;exact wN hr.hd
theorem Mu (K:Frag) (hK:X.K=K:=by rfl):aY X (.builtin "sorted") (zM K):=by subst hK;exact tR
theorem qF (K:Frag) (hK:X.K=K:=by rfl):aY X (.type "list") (uQ K):=by subst hK;exact tU
theorem uX {T:BT}{a:Addr}{xs:List V}{H:Hp}{Q:VK}(h:H a=some (.lst xs)) (q:Q (.bl (dS .list T)) H):Co T (.ref a) H Q:=by simp only [Co,h];exact q
end
theorem mV (zs:List Int):(zs.map V.int).all dl=true:=On.mpr λ x hx=>by obtain ⟨z,_,rfl⟩:=N0.mp hx;rfl
def Fl (K:Frag) (H:Hp) (p:Addr) (f:Str) (v:V):Prop:= ∃C dx fs,H p=some (.ins C dx fs)/\rf K C/\bV K C f/\fs.lookup f=some v
def NP (K:Frag) (x:V) (f:Str) (H:Hp) (Q:VK):Prop:=match x with
 | .ref a=> ∃v,Fl K H a f v/\Q v H
 | _=>False
def JH (K:Frag) (to:TE) (f:Str):TE:=λ σ H Q=>to σ H λ x H1=>NP K x f H1 Q
def re (C:Addr) (m:Str) (H:Hp) (a:Addr):Prop:= ∃dx fs,H a=some (.ins C dx fs)/\fs.lookup m=none
structure ku (P:Program) (w:World) (K:Frag) (mg:Str->Option Value) (base:Heap) (C:Addr) (m:Str) (ps:List Str) (k:Nat) (sp:Sp):Prop where
 ex:∃f fd,aQ P w K mg base cE k f fd ps sp/\Nf K C m f/\ik K fd ps []
 cl:rf K C
structure m9 (P:Program) (w:World) (K:Frag) (mg:Str->Option Value) (base:Heap) (name:Str) (C:Addr) (ps:List Str) (k:Nat) (sp:Sp):Prop where
 ex:∃f fd,Mk K C f/\aQ P w K mg base cE k f fd ps sp/\mg name=some (.ref C)/\ik K fd ps []
def Mq (C:Addr) (m:Str) (x:V) (H:Hp) (R:Addr->Prop):Prop:=match x with
 | .ref a=>re C m H a/\R a
 | _=>False
def Bl (C:Addr) (m:Str) (sp:Sp) (to:TE) (t:TA):TE:=λ σ H Q=>to σ H λ x H1=>Mq C m x H1 λ a=>t σ H1 λ vs H2=>sp (.ref a::vs) H2 Q E0
def vq (C:Addr) (sp:Sp) (t:TA):TE:=λ σ H Q=>t σ H λ vs H1=> ∀x dx,H1 x=none->H1 dx=none->dx≠x->sp (.ref x::vs) (upd (upd H1 dx (.own x)) x (.ins C dx [])) (λ v H2=>v=.non/\Q (.ref x) H2) E0
section
variable {X:Cx}{e o value:Expr}{te to tv:TE}{p pos pos' apos:Pos}{es:List Expr}{t:TA}{f m:Str}
theorem bT (K:Frag) (ho:PE X o to) (hb:attributeBase o f X.env (eval o X.env)=eval o X.env:=by rfl) (hK:X.K=K:=by rfl):PE X (.Attribute o f pos) (JH K to f):=by
 subst hK;intro pins s σ H Q I h;refine C1 hb (bL (ho pins s σ H _ I h) λ u s1 ⟨x,H1,I1,rx,q1⟩=>?_);cases x with
 | ref a=>
   obtain ⟨v,⟨C,dx,fs,ea,c,n,l⟩,q⟩:=q1;obtain rfl:u=Value.ref a:=rx;exact tj I1 ea c n l λ u' s2 I2 ru=>⟨v,H1,I2,ru,q⟩
 | _=>exact q1.elim
theorem iF (K:Frag) (ho:PE X o to) (hv:PE X value tv) (hs:swapsWith value (some (.Attribute o f pos')) pos.line X.env=pure false:=by rfl) (hK:X.K=K:=by rfl):PS X (.Assign [.Attribute o f pos'] value pos) (vR K to tv f):=by subst hK;exact IK ho hv hs
theorem lD {C:Addr}{ps:List Str}{k j:Nat}{sp:Sp}{pl:Sem Bool}(M:ku X.prog X.w X.K X.mg X.base C m ps k sp) (hr:cP j X.A) (ho:PE X o to) (ha:PA X (e::es) t) (hkj:k<=j:=by decide) (hp:(e::es).all fG=true:=by rfl)
  (ht:eval (.Call (.Attribute o m apos) (e::es) [] pos) X.env=(do
   let ov<-eval o X.env
   standAt apos.atName
   let (f,first)<-holding [ov] (getMethod ov m pl)
   callWith pos f first (backTo pos (starEach (e::es) X.env)) (backToKw pos (keywordEach [] X.env))):=by rfl):PE X (.Call (.Attribute o m apos) (e::es) [] pos) (Bl C m sp to t):=by
 obtain ⟨f,fd,F,hm,hb⟩:=M.ex;have hp':=hp;rw [Op,Qp] at hp';intro pins s σ H Q I h;refine PySem.W.methodCall_KW (pl:=pl) (bL (ho pins s σ H _ I h) λ u s1 ⟨x,H1,I1,rx,q⟩=>?_) ht;cases x with
 | ref a=>
   obtain ⟨⟨dx,fs,ea,l⟩,q⟩:=q;obtain rfl:u=Value.ref a:=rx;refine tf I1 ea M.cl hm l ?_;refine Q9 (first:=[.ref a]) (h₀:=X.base) I.ok.mod.kin hm.kp (bL (ha pos pins s1 σ H1 _ I1 q) λ us s2 ⟨vs,H2,I2,r,q2⟩=>⟨I2.kIn,?_⟩) (eH hp'.1) (gy hp'.2);refine zS (us:=.ref a::us) (vs:=.ref a::vs) (dvs:=[]) (ds:=[]) F (hr.mono hkj) hb .nil Ak I2 (.cons rfl r) ?_;rw [Os];exact q2
 | _=>exact q.elim
theorem GL {name:Str}{C:Addr}{ps:List Str}{k j:Nat}{sp:Sp}(M:m9 X.prog X.w X.K X.mg X.base name C ps k sp) (hr:cP j X.A) (ha:PA X (e::es) t) (hkj:k+1<=j:=by decide) (hp:(e::es).all fG=true:=by rfl) (hg:Gl X name:=by rfl) (hdb:(name == ("__debug__":Str))=false:=by decide):
  PE X (.Call (.Name name p) (e::es) [] pos) (vq C sp t):=by
 obtain ⟨f,fd,MK,F,hm,hb⟩:=M.ex;have hp':=hp;rw [Op,Qp] at hp';refine (B3 MK F (hr.mono hkj) hg hm hb .nil Ak ha hdb (eH hp'.1) (gy hp'.2):PE X _ (zA C sp [] E0 t)).imp λ σ H Q h=>?_;unfold zA;simp only [Os];exact h
end
def SameBut (k:Addr) (H H':Hp):Prop:= ∀b o,H b=some o->b≠k->H' b=some o
theorem SameBut.refl {k:Addr}(H:Hp):SameBut k H H:=λ _ _ h _=>h
theorem aj.but {k:Addr}{H H':Hp}(h:aj H H'):SameBut k H H':=λ b o e _=>h b o e
theorem SameBut.trans {k:Addr}{H H1 H2:Hp}(a:SameBut k H H1) (b:SameBut k H1 H2):SameBut k H H2:=λ c o e n=>b c o (a c o e n) n
theorem SameBut.self {k:Addr}{H H':Hp}{o:HO}(a:SameBut k H H'):SameBut k H (upd H' k o):=λ c ob e n=>by rw [aq n];exact a c ob e n
theorem SameBut.new {k d:Addr}{H H':Hp}{o:HO}(a:SameBut k H H') (hd:H d=none):SameBut k H (upd H' d o):=λ c ob e n=>by rw [aq (ar e hd)];exact a c ob e n
theorem aj.put {d:Addr}{H H':Hp}{o:HO}(a:aj H H') (hd:H d=none):aj H (L2.upd H' d o):=λ c ob e=>by rw [aq (ar e hd)];exact a c ob e
theorem fZ {H:Hp}{a b:Addr}{o o':HO}(ha:H a=some o) (hb:H b=some o') (h:o≠o'):a≠b:=λ e=>by subst e;rw [ha] at hb;exact h (Option.some.inj hb)
theorem BO {to tv:TE}{f:Str}{K:Frag}{u:TS}{D:dC}{σ:St}{H:Hp}(P:V->Hp->Prop) (h:∀Q:VK,(∀v H',P v H'->Q v H')->tv σ H Q) (p C dx:Addr) (hto:∀H' (Q:VK),Q (.ref p) H'->to σ H' Q) (hc:rf K C) (hn:bV K C f)
  (h2:∀v H',P v H'->∃fs,H' p=some (.ins C dx fs)/\fs.length<1000/\u D σ (upd H' p (.ins C dx (putF f v fs)))):ba (vR K to tv f) u D σ H:=
 h _ λ v H' q=>by obtain ⟨fs,e,l,r⟩:=h2 v H' q;exact hto _ _ ⟨p,C,dx,fs,rfl,e,hc,hn,l,r⟩
theorem ul {to tv:TE}{f:Str}{K:Frag}{D:dC}{σ:St}{H:Hp}(P:V->Hp->Prop) (h:∀Q:VK,(∀v H',P v H'->Q v H')->tv σ H Q) (p C dx:Addr) (hto:∀H' (Q:VK),Q (.ref p) H'->to σ H' Q) (hc:rf K C) (hn:bV K C f)
  (h2:∀v H',P v H'->∃fs,H' p=some (.ins C dx fs)/\fs.length<1000/\D.nx σ (upd H' p (.ins C dx (putF f v fs)))):vR K to tv f D σ H:=
 h _ λ v H' q=>by obtain ⟨fs,e,l,r⟩:=h2 v H' q;exact hto _ _ ⟨p,C,dx,fs,rfl,e,hc,hn,l,r⟩
end L2
namespace L2
open PySem PySem.Spec PyProof.Rows
def Ev (t:TE) (σ:St) (H:Hp) (v:V):Prop:= ∀Q:VK,Q v H->t σ H Q
def Tv (t:TT) (σ:St) (H:Hp) (b:Bool):Prop:= ∀Q:Bool->Hp->Prop,Q b H->t σ H Q
def Av (t:TA) (σ:St) (H:Hp) (vs:List V):Prop:= ∀Q:List V->Hp->Prop,Q vs H->t σ H Q
section
variable {K:Frag}{σ:St}{H:Hp}{ta tb tc te to:TE}{t u:TT}{x y:V}{i j k:Int}{a b:Bool}{z z':Str}
theorem al:Ev (tC x) σ H x:=λ Q q=>q
theorem ad {n:Nat}(h:σ[n]? =some (some x)):Ev (gG n) σ H x:=λ Q q=>by unfold gG;rw [h];exact q
theorem bF (ha:Ev ta σ H (.int i)) (hb:Ev tb σ H (.int j)):Ev (qV .Add ta tb) σ H (.int (i+j)):=λ Q q=>ha _ (hb _ q)
theorem dA (ha:Ev ta σ H (.int i)) (hb:Ev tb σ H (.int j)):Ev (qV .Sub ta tb) σ H (.int (i - j)):=λ Q q=>ha _ (hb _ q)
theorem dm (ha:Ev ta σ H (.int i)) (hb:Ev tb σ H (.int j)) (h:By i j):Ev (qV .Mult ta tb) σ H (.int (i*j)):=λ Q q=>ha _ (hb _ ⟨h,q⟩)
theorem bE (ha:Ev ta σ H (.int i)) (hb:Ev tb σ H (.int j)) (h:JV i j):Ev (qV .FloorDiv ta tb) σ H (.int (i / j)):=λ Q q=>ha _ (hb _ ⟨h,q⟩)
theorem aR (ha:Ev ta σ H (.int i)) (hb:Ev tb σ H (.int j)) (h:0<j):Ev (qV .Mod ta tb) σ H (.int (i % j)):=λ Q q=>ha _ (hb _ ⟨h,q⟩)
theorem tF (ha:Ev ta σ H (.int i)):Ev (M4 ta) σ H (.int (-i)):=λ Q q=>ha _ q
theorem vg (ha:Ev ta σ H (.str z)) (hb:Ev tb σ H (.str z')) (h:z.length+z'.length<=sizeLine):Ev (qV .Add ta tb) σ H (.str (z++z')):=λ Q q=>ha _ (hb _ ⟨h,q⟩)
theorem aO {p:Addr}{f:Str}(ho:Ev to σ H (.ref p)) (h:Fl K H p f x):Ev (JH K to f) σ H x:=λ Q q=>ho _ ⟨x,h,q⟩
theorem aN {p:Addr}{xs:List V}(ho:Ev to σ H (.ref p)) (hi:Ev ta σ H (.int i)) (h:aK K H p xs\/cJ K H p xs) (e:ke xs i=some x):Ev (CP K to ta) σ H x:=λ Q q=>ho _ (hi _ ⟨xs,x,h,e,q⟩)
theorem gu {c:Nat}(ho:Ev to σ H (.str z)) (hi:Ev ta σ H (.int i)) (h:z.length<=sizeLine) (e:ke z.cps.toList i=some c):Ev (CP K to ta) σ H (.str ⟨#[c]⟩):=λ Q q=>ho _ (hi _ ⟨h,c,e,q⟩)
theorem cH {p:Addr}{xs:List V}(ho:Ev to σ H (.ref p)) (h:aK K H p xs\/cJ K H p xs):Ev (cB (Ay K) (bo to cZ)) σ H (.int xs.length):=λ Q q=>ho _ ⟨xs,h,q⟩
theorem oO (ho:Ev to σ H (.str z)) (h:z.length<=sizeLine):Ev (cB (Ay K) (bo to cZ)) σ H (.int z.length):=λ Q q=>ho _ ⟨h,q⟩
theorem Jx {p:Addr}{xs:List V}{T:BT}(ho:Ev to σ H (.ref p)) (h:H p=some (.lst xs)):Ev (M5 T to) σ H (.bl (dS .list T)):=λ Q q=>ho _ (uX h q)
theorem tz (ha:Ev ta σ H (.bl a)):Ev (GY ta) σ H (.bl (!a)):=λ Q q=>ha _ q
theorem cx (ha:Ev ta σ H (.bl a)) (hb:a=true->Ev tb σ H (.bl b)):Ev (vt ta tb) σ H (.bl (a&&b)):=λ Q q=>ha _ (by
 cases a with
 | true=>exact hb rfl Q q
 | false=>exact q)
theorem MP (ha:Ev ta σ H (.bl a)) (hb:a=false->Ev tb σ H (.bl b)):Ev (M3 ta tb) σ H (.bl (a||b)):=λ Q q=>ha _ (by
 cases a with
 | true=>exact q
 | false=>exact hb rfl Q q)
theorem j9 (ht:Tv t σ H b) (h1:b=true->Ev ta σ H x) (h2:b=false->Ev tb σ H y):Ev (Nk t ta tb) σ H (if b=true then x else y):=λ Q q=>ht _ (by
 cases b with
 | true=>exact hV (h1 rfl _ q)
 | false=>exact iB (h2 rfl _ q))
theorem gE (ha:Ev ta σ H (.int i)) (hb:Ev tb σ H (.int j)):Ev (eB K .Eq ta tb) σ H (.bl (decide (i=j))):=λ Q q=>ha _ (hb _ q)
theorem lJ (ha:Ev ta σ H (.int i)) (hb:Ev tb σ H (.int j)):Ev (eB K .NotEq ta tb) σ H (.bl (!decide (i=j))):=λ Q q=>ha _ (hb _ q)
theorem vd (ha:Ev ta σ H (.int i)) (hb:Ev tb σ H (.int j)):Ev (eB K .Lt ta tb) σ H (.bl (decide (i<j))):=λ Q q=>ha _ (hb _ q)
theorem GU (ha:Ev ta σ H (.int i)) (hb:Ev tb σ H (.int j)):Ev (eB K .GtE ta tb) σ H (.bl (decide (j<=i))):=λ Q q=>ha _ (hb _ q)
theorem fI (ha:Ev ta σ H (.str z)) (hb:Ev tb σ H (.str z')):Ev (eB K .Eq ta tb) σ H (.bl (decide (z=z'))):=λ Q q=>ha _ (hb _ q)
theorem tE (ha:Ev ta σ H (.str z)) (hb:Ev tb σ H (.str z')):Ev (eB K .NotEq ta tb) σ H (.bl (!decide (z=z'))):=λ Q q=>ha _ (hb _ q)
theorem qI (i:Int) (ns:List Int):Cp (.int i) (ns.map V.int)=decide (i∈ns):=by
 unfold Cp;rw [Pd]
 by_cases h:i∈ns
 ·rw [decide_eq_true h];exact OC.mpr ⟨i,h,by simp [jQ]⟩
 ·rw [decide_eq_false h];apply OM.mpr;intro y hy;have:y≠i:=λ e=>h (e▸hy);simp [jQ,this]
theorem MR {p:Addr}{ns:List Int}(ha:Ev ta σ H (.int i)) (hb:Ev tb σ H (.ref p)) (h:aK K H p (ns.map V.int)\/cJ K H p (ns.map V.int)):Ev (eB K .In ta tb) σ H (.bl (decide (i∈ns))):=λ Q q=>ha _ (hb _ (by
 rw [nT];refine ⟨p,_,rfl,h,rfl,mV ns,?_⟩;rw [qI];exact q))
theorem tD {p:Addr}{ns:List Int}(ha:Ev ta σ H (.int i)) (hb:Ev tb σ H (.ref p)) (h:aK K H p (ns.map V.int)\/cJ K H p (ns.map V.int)):Ev (eB K .NotIn ta tb) σ H (.bl (!decide (i∈ns))):=λ Q q=>ha _ (hb _ (by
 rw [kj];refine ⟨p,_,rfl,h,rfl,mV ns,?_⟩;rw [qI];exact q))
theorem lL (ha:Ev ta σ H (.int i)) (hb:Ev tb σ H .non):Ev (eB K .IsNot ta tb) σ H (.bl true):=λ Q q=>ha _ (hb _ q)
theorem lK (ha:Ev ta σ H .non) (hb:Ev tb σ H .non):Ev (eB K .IsNot ta tb) σ H (.bl false):=λ Q q=>ha _ (hb _ q)
theorem vf (ha:Ev ta σ H (.int i)) (hb:Ev tb σ H (.int j)) (hc:i<=j->Ev tc σ H (.int k)):Ev (pc K .LtE .LtE ta tb tc) σ H (.bl (decide (i<=j/\j<=k))):=λ Q q=>ha _ (hb _ (by
 rw [mG]
 by_cases h:i<=j
 ·rw [decide_eq_true h];refine hc h _ ?_;have e:decide (i<=j/\j<=k)=decide (j<=k):=by simp [h]
  rw [e] at q;exact q
 ·rw [decide_eq_false h];have e:decide (i<=j/\j<=k)=false:=by simp [h]
  rw [e] at q;exact q))
theorem aC {sp:Sp}{t:TA}{vs:List V}(ht:Av t σ H vs) (h:∀Q:VK,Q x H->sp vs H Q E0):Ev (fC sp t) σ H x:=λ Q q=>ht _ (h Q q)
theorem ao:Av cZ σ H []:=λ Q q=>q
theorem aa {t:TA}{vs:List V}(ha:Ev ta σ H x) (ht:Av t σ H vs):Av (bo ta t) σ H (x::vs):=λ Q q=>ha _ (ht _ q)
theorem iI {vs:List V}:Av (cCs vs) σ H vs:=λ Q q=>q
theorem aZ (h:Ev te σ H (.bl b)):Tv (jm te) σ H b:=λ Q q=>h _ q
theorem bX (h:Tv t σ H b):Tv (zy t) σ H (!b):=λ Q q=>h _ q
theorem kO (ha:Tv t σ H a) (hb:a=true->Tv u σ H b):Tv (Ir t u) σ H (a&&b):=λ Q q=>ha _ (by
 cases a with
 | true=>exact hV (hb rfl _ q)
 | false=>exact iB q)
theorem gM (ha:Tv t σ H a) (hb:a=false->Tv u σ H b):Tv (L6 t u) σ H (a||b):=λ Q q=>ha _ (by
 cases a with
 | true=>exact hV q
 | false=>exact iB (hb rfl _ q))
theorem ui (ha:Ev ta σ H (.int i)) (hb:Ev tb σ H (.int j)) (hc:i<=j->Ev tc σ H (.int k)):Tv (o8 K .LtE .Lt ta tb tc) σ H (decide (i<=j/\j<k)):=λ Q q=>ha _ (hb _ (by
 rw [mG]
 by_cases h:i<=j
 ·rw [decide_eq_true h];refine hc h _ ?_;have e:decide (i<=j/\j<k)=decide (j<k):=by simp [h]
  rw [e] at q;exact q
 ·rw [decide_eq_false h];have e:decide (i<=j/\j<k)=false:=by simp [h]
  rw [e] at q;exact q))
end
section
variable {te:TE}{c:TT}{t u:TS}{D:dC}{σ:St}{H:Hp}{v:V}{b:Bool}
theorem aJ {i:Nat}(h:Ev te σ H v) (h2:u D (σ.set i (some v)) H):ba (tAsg te (gName i)) u D σ H:=h _ h2
theorem fz {i:Nat}(h:Ev te σ H v) (h2:D.nx (σ.set i (some v)) H):tAsg te (gName i) D σ H:=h _ h2
theorem aG (h:Ev te σ H v) (h2:D.rt v H):ce te D σ H:=h _ h2
theorem bf (hc:Tv c σ H b) (h1:b=true->t {D with nx:=u D} σ H) (h2:b=false->u D σ H):ba (na c t pG) u D σ H:=hc _ (by
 cases b with
 | true=>exact hV (h1 rfl)
 | false=>exact iB (h2 rfl))
theorem kC (hc:Tv c σ H b) (h1:b=true->t D σ H) (h2:b=false->D.nx σ H):na c t pG D σ H:=hc _ (by
 cases b with
 | true=>exact hV (h1 rfl)
 | false=>exact iB (h2 rfl))
theorem Iw {t':TS}(hc:Tv c σ H b) (h1:b=true->t {D with nx:=u D} σ H) (h2:b=false->t' {D with nx:=u D} σ H):ba (na c t t') u D σ H:=hc _ (by
 cases b with
 | true=>exact hV (h1 rfl)
 | false=>exact iB (h2 rfl))
end
section
variable {K:Frag}{σ rest:St}{H:Hp}{tl te:TE}{tt:TT}{src:List (Option Nat)}{Q:VK}
theorem cy:Tv iC σ H true:=λ Q q=>q
theorem lR {J:It}{xs:List V}(hz:xs.length<=sizeLine) (hs:dG src σ=none::rest) (p:V->Bool) (f:V->V) (hgo:∀i,i<xs.length->J.go i H) (hstop:J.stop xs.length H) (hyld:∀i v H',i<xs.length->J.yld i H v H'->H'=H/\xs[i]? =some v)
  (ht:∀x∈xs,Tv tt (some x::rest) H (p x)) (he:∀x∈xs,p x=true->Ev te (some x::rest) H (f x)) (q:∀d',H d'=none->Q (.ref d') (upd H d' (.lst ((xs.filter p).map f)))):dn (gName 0) tt te src σ Q J H:=by
 refine ⟨λ i m ys σ' H'=>m=xs.length - i/\i<=xs.length/\ys=((xs.take i).filter p).map f/\(∃o,σ'=o::rest)/\H'=H,⟨xs.length,by simp,PJ _,by simp,⟨none,hs⟩,rfl⟩,?_⟩;rintro i m ys σ' H' ⟨rfl,hi,rfl,⟨o,rfl⟩,rfl⟩
 by_cases hlt:i<xs.length
 ·refine .inr ⟨hgo i hlt,?_,λ x H2 y=>?_⟩
  ·rw [NZ];have h1:=OK p (xs.take i);rw [Ol] at h1;lia
  ·obtain ⟨rfl,hx⟩:=hyld i x H2 hlt y;have tk:(xs.take (i+1)).filter p=(xs.take i).filter p++(if p x then [x] else []):=take_succ_filter p xs i x hx;have hm:x∈xs:=Om hx;show tt (some x::rest) H2 _;refine ht x hm _ ?_;cases hp:p x with
   | true=>
     refine hV (he x hm hp _ ?_);refine ⟨xs.length - (i+1),by lia,rfl,hlt,?_,⟨_,rfl⟩,rfl⟩;rw [tk,hp,if_pos rfl,Og];rfl
   | false=>
     refine iB ?_;refine ⟨xs.length - (i+1),by lia,rfl,hlt,?_,⟨_,rfl⟩,rfl⟩;rw [tk,hp,if_neg (by simp),Os]
 ·have e:i=xs.length:=by lia
  subst e;refine .inl ⟨hstop,λ d hd=>?_⟩;rw [OZ];exact q d hd
theorem eM {d:Addr}{xs:List V}(hl:Ev tl σ H (.ref d)) (hx:aK K H d xs) (hz:xs.length<=sizeLine) (hs:dG src σ=none::rest) (p:V->Bool) (f:V->V)
  (ht:∀x∈xs,Tv tt (some x::rest) H (p x)) (he:∀x∈xs,p x=true->Ev te (some x::rest) H (f x)) (q:∀d',H d'=none->Q (.ref d') (upd H d' (.lst ((xs.filter p).map f)))):tComp (qJ K tl) (gName 0) tt te src σ H Q:=
 hl _ ⟨d,rfl,⟨xs,hx⟩,lR hz hs p f (λ i hi=>⟨xs,xs[i],hx,N2 hi⟩) ⟨xs,hx,PF _⟩ (λ i v H' _ y=>⟨y.1,y.2 xs hx⟩) ht he q⟩
theorem ib {ta:TA}{n:Int}(hl:Av ta σ H [.int n]) (h0:0<=n) (hz:n.toNat<=sizeLine) (h1:n<2 ^ 62) (hs:dG src σ=none::rest) (p:V->Bool) (f:V->V)
  (ht:∀i:Nat,i<n.toNat->Tv tt (some (.int (0+(i:Int)))::rest) H (p (.int (0+(i:Int))))) (he:∀i:Nat,i<n.toNat->p (.int (0+(i:Int)))=true->Ev te (some (.int (0+(i:Int)))::rest) H (f (.int (0+(i:Int)))))
  (q:∀d',H d'=none->Q (.ref d') (upd H d' (.lst ((((List.range n.toNat).map λ (i:Nat)=>V.int (0+(i:Int))).filter p).map f)))):tComp (mT ta) (gName 0) tt te src σ H Q:=by
 have hin:∀x∈(List.range n.toNat).map λ (i:Nat)=>V.int (0+(i:Int)),∃i:Nat,i<n.toNat/\x=.int (0+(i:Int)):=λ x hx=>by obtain ⟨i,hi,rfl⟩:=N0.mp hx;exact ⟨i,Ob.mp hi,rfl⟩
 have hlen:((List.range n.toNat).map λ (i:Nat)=>V.int (0+(i:Int))).length=n.toNat:=by simp
 refine hl _ ⟨n,rfl,by lia,h1,lR (xs:=(List.range n.toNat).map λ (i:Nat)=>V.int (0+(i:Int))) (by rw [hlen];exact hz) hs p f (λ i hi=>by rw [hlen] at hi;exact hi) (by rw [hlen];exact PF _) (λ i v H' hi y=>⟨y.1,?_⟩) (λ x hx=>?_) (λ x hx hp=>?_) q⟩
 ·rw [hlen] at hi;rw [N3,Oz hi,y.2];rfl
 ·obtain ⟨i,hi,rfl⟩:=hin x hx;exact ht i hi
 ·obtain ⟨i,hi,rfl⟩:=hin x hx;exact he i hi hp
end
section
variable {K:Frag}{te to tv:TE}{t:TA}{c:TT}{u:TS}{D:dC}{σ:St}{H:Hp}{v x y:V}
theorem jj {C p:Addr}{m:Str}{sp:Sp}{vs:List V}(ho:Ev to σ H (.ref p)) (hi:re C m H p) (ht:Av t σ H vs) (h:∀Q:VK,Q x H->sp (.ref p::vs) H Q E0):Ev (Bl C m sp to t) σ H x:=λ Q q=>ho _ ⟨hi,ht _ (h Q q)⟩
theorem Ix {l:Addr}{xs:List V}(ho:Ev to σ H (.ref l)) (he:Ev te σ H y) (hl:H l=some (.lst xs)) (hz:xs.length<sizeLine) (h2:u D σ (upd H l (.lst (xs++[y])))):ba (jY (CQ to te)) u D σ H:=ho _ ⟨⟨xs,hl⟩,he _ ⟨xs,hl,hz,h2⟩⟩
theorem BP {l:Addr}{xs:List V}(ho:Ev to σ H (.ref l)) (he:Ev te σ H y) (hl:H l=some (.lst xs)) (hz:xs.length<sizeLine) (h2:D.nx σ (upd H l (.lst (xs++[y])))):jY (CQ to te) D σ H:=ho _ ⟨⟨xs,hl⟩,he _ ⟨xs,hl,hz,h2⟩⟩
theorem rD {f:Str}{p C dx:Addr}{fs:List (Str×V)}(h:Ev tv σ H v) (ho:Ev to σ H (.ref p)) (hp:H p=some (.ins C dx fs)) (hc:rf K C) (hn:bV K C f) (hl:fs.length<1000) (h2:u D σ (upd H p (.ins C dx (putF f v fs)))):ba (vR K to tv f) u D σ H:=h _ (ho _ ⟨p,C,dx,fs,rfl,hp,hc,hn,hl,h2⟩)
theorem iL {i:Nat}(h2:∀q,H q=none->u D (σ.set i (some (.ref q))) (upd H q (.lst []))):ba (tAsg (vH cZ) (gName i)) u D σ H:=⟨PJ _,λ q hq=>h2 q hq⟩
end
section
variable {K:Frag}{te to ta tb ti:TE}{t:TA}{c:TT}{σ:St}{H:Hp}{Q:VK}{R:Bool->Hp->Prop}{v x y:V}{vs:List V}{sp:Sp}
theorem qL (h:Ev te σ H v) (q:Q v H):te σ H Q:=h Q q
theorem cF (h:Av t σ H vs) (q:sp vs H Q E0):fC sp t σ H Q:=h _ q
theorem jS (h:Av t σ H vs) (q:sp vs H (dt λ c H1=>R (!c) H1) E0):zy (jm (fC sp t)) σ H R:=h _ q
theorem NS {r:List V->Hp->VK->Prop}(h:Ev to σ H v) (q:r [v] H Q):cB r (bo to cZ) σ H Q:=h _ q
theorem jw (ha:Ev ta σ H x) (hb:Ev tb σ H y) (q:∀p,H p=none->Q (.ref p) (upd H p (.tup [x,y]))):zx (bo ta (bo tb cZ)) σ H Q:=ha _ (hb _ ⟨by show 2<=sizeLine;decide,q⟩)
theorem j7 {i:Int}(h:Av t σ H vs) (hz:vs.length<=1000) (hi:∀H',Ev ti σ H' (.int i)) (e:ke vs i=some v) (q:∀H',aj H H'->Q v H'):CP K (vH t) ti σ H Q:=h _ ⟨PK hz (by decide),λ p hp=>hi _ _ ⟨vs,v,.inl (aK.of ag),e,q _ ((aj.refl H).upd hp)⟩⟩
end
section
variable {K:Frag}{te to ta tb:TE}{D:dC}{σ:St}{H:Hp}{Q:VK}{x y:V}
theorem qX {l:Addr}(ho:Ev to σ H (.ref l)) (hl:∃xs,H l=some (.lst xs)) (q:te σ H λ y H2=> ∃xs,H2 l=some (.lst xs)/\xs.length<sizeLine/\D.nx σ (upd H2 l (.lst (xs++[y])))):jY (CQ to te) D σ H:=ho _ ⟨hl,q⟩
end
end L2
namespace L2
open PySem PySem.Spec PyProof.Rows
def oI:Option Int->V
 | some n=>.int n
 | none=>.non
structure ij (K:Frag) (C:Addr):Prop where
 cl:rf K C
 wide:bV K C "wide"
 high:bV K C "high"
 holes:bV K C "holes"
 firm:bV K C "firm"
def ic (wi hi:Int) (ph pf:Addr):List (Str×V):=putF "firm" (.ref pf) (putF "holes" (.ref ph) (putF "high" (.int hi) (putF "wide" (.int wi) [])))
theorem CW (wi hi:Int) (ph pf:Addr):(ic wi hi ph pf).lookup ("wide":Str)=some (.int wi):=by unfold ic;rw [au,if_neg (by decide+kernel),au,if_neg (by decide+kernel),au,if_neg (by decide+kernel),au,if_pos rfl]
theorem CY (wi hi:Int) (ph pf:Addr):(ic wi hi ph pf).lookup ("high":Str)=some (.int hi):=by unfold ic;rw [au,if_neg (by decide+kernel),au,if_neg (by decide+kernel),au,if_pos rfl]
theorem Bo (wi hi:Int) (ph pf:Addr):(ic wi hi ph pf).lookup ("holes":Str)=some (.ref ph):=by unfold ic;rw [au,if_neg (by decide+kernel),au,if_pos rfl]
theorem CZ (wi hi:Int) (ph pf:Addr):(ic wi hi ph pf).lookup ("firm":Str)=some (.ref pf):=by unfold ic;rw [au,if_pos rfl]
theorem M7 (wi hi:Int) (ph pf:Addr) {m:Str}(h1:¬m="wide") (h2:¬m="high") (h3:¬m="holes") (h4:¬m="firm"):(ic wi hi ph pf).lookup m=none:=by unfold ic;rw [au,if_neg h4,au,if_neg h3,au,if_neg h2,au,if_neg h1];rfl
def firmL (wi hi:Int) (hs:List Int):List Bool:=(List.range (wi*hi).toNat).map λ (s:Nat)=> !decide ((s:Int)∈hs)
structure bM (K:Frag) (C:Addr) (H:Hp) (p:Addr) (wi hi:Int) (hs:List Int):Prop where
 ex:∃dx ph pf,H p=some (.ins C dx (ic wi hi ph pf))/\H ph=some (.lst (hs.map V.int))/\H pf=some (.lst ((firmL wi hi hs).map V.bl))
 w1:1<=wi
 w8:wi<=8
 h1:1<=hi
 h8:hi<=8
 good:∀h∈hs,0<=h/\h<wi*hi
 srt:hs.Pairwise (·<=·)
 nd:hs.Nodup
section
variable {K:Frag}{C:Addr}{H H':Hp}{p:Addr}{wi hi:Int}{hs:List Int}
theorem bM.same (B:bM K C H p wi hi hs) (s:aj H H'):bM K C H' p wi hi hs:=by obtain ⟨⟨dx,ph,pf,a,b,c⟩,w1,w8,h1,h8,g,sr,nd⟩:=B;exact ⟨⟨dx,ph,pf,s _ _ a,s _ _ b,s _ _ c⟩,w1,w8,h1,h8,g,sr,nd⟩
theorem bM.wide (B:bM K C H p wi hi hs) (D:ij K C):Fl K H p "wide" (.int wi):=by obtain ⟨dx,ph,pf,a,_,_⟩:=B.ex;exact ⟨C,dx,_,a,D.cl,D.wide,CW _ _ _ _⟩
theorem bM.high (B:bM K C H p wi hi hs) (D:ij K C):Fl K H p "high" (.int hi):=by obtain ⟨dx,ph,pf,a,_,_⟩:=B.ex;exact ⟨C,dx,_,a,D.cl,D.high,CY _ _ _ _⟩
theorem bM.firm (B:bM K C H p wi hi hs) (D:ij K C):∃pf,Fl K H p "firm" (.ref pf)/\H pf=some (.lst ((firmL wi hi hs).map V.bl)):=by obtain ⟨dx,ph,pf,a,_,c⟩:=B.ex;exact ⟨pf,⟨C,dx,_,a,D.cl,D.firm,CZ _ _ _ _⟩,c⟩
theorem bM.holes (B:bM K C H p wi hi hs) (D:ij K C):∃ph,Fl K H p "holes" (.ref ph)/\H ph=some (.lst (hs.map V.int)):=by obtain ⟨dx,ph,pf,a,b,c⟩:=B.ex;exact ⟨ph,⟨C,dx,_,a,D.cl,D.holes,Bo _ _ _ _⟩,b⟩
theorem bM.no (B:bM K C H p wi hi hs) {m:Str}(h1:¬m="wide":=by decide+kernel) (h2:¬m="high":=by decide+kernel) (h3:¬m="holes":=by decide+kernel) (h4:¬m="firm":=by decide+kernel):re C m H p:=by obtain ⟨dx,ph,pf,a,b,c⟩:=B.ex;exact ⟨dx,_,a,M7 _ _ _ _ h1 h2 h3 h4⟩
theorem bM.many (B:bM K C H p wi hi hs):1<=wi*hi/\wi*hi<=64:=by have a:=B.w1;have b:=B.w8;have c:=B.h1;have d:=B.h8;have e1:1*1<=wi*hi:=Qf a c (by lia) (by lia);have e2:wi*hi<=8*8:=Qf b d (by lia) (by lia);lia
theorem vc {s:Int}(h0:0<=s) (h1:s<wi*hi):ke ((firmL wi hi hs).map V.bl) s=some (.bl (!decide (s∈hs))):=by
 have e:s=((s.toNat:Nat):Int):=by lia
 have hl:s.toNat<(wi*hi).toNat:=by lia
 have:((firmL wi hi hs).map V.bl)[s.toNat]? =some (.bl (!decide (((s.toNat:Nat):Int)∈hs))):=by unfold firmL;rw [N3,N3,Oz hl];rfl
 have q:=bn this;rw [<-e] at q;exact q
theorem AY:(firmL wi hi hs).length=(wi*hi).toNat:=by unfold firmL;simp
end
def Nn (wi hi:Int) (hs:List Int) (s ax up:Int):Option Int:=
 if 0<=s % wi+ax/\s % wi+ax<wi/\0<=s / wi+up/\s / wi+up<hi then (if (s / wi+up)*wi+(s % wi+ax)∈hs then none else some ((s / wi+up)*wi+(s % wi+ax))) else none
def np (wi s ax up:Int) (k:Nat):Int:=(s / wi+k*up)*wi+(s % wi+k*ax)
def qv (wi hi:Int) (hs:List Int) (s ax up:Int) (k:Nat):Prop:=0<=s % wi+k*ax/\s % wi+k*ax<wi/\0<=s / wi+k*up/\s / wi+k*up<hi/\¬np wi s ax up k∈hs
instance {wi hi:Int} {hs:List Int} {s ax up:Int} {k:Nat}:Decidable (qv wi hi hs s ax up k):=by unfold qv;infer_instance
def jr (wi hi:Int) (hs:List Int) (s ax up:Int) (n:Nat):Prop:=(∀j<n,qv wi hi hs s ax up (j+1))/\¬qv wi hi hs s ax up (n+1)
def dP (wi s ax up:Int) (n:Nat):List Int:=(List.range n).map λ j=>np wi s ax up (j+1)
theorem jr.uniq {wi hi:Int}{hs hs':List Int}{s ax up:Int}{m n:Nat}(h:jr wi hi hs s ax up m) (h':jr wi hi hs' s ax up n) (e:∀x,x∈hs<->x∈hs'):m=n:=by
 have c:∀k,qv wi hi hs s ax up k<->qv wi hi hs' s ax up k:=λ k=>by unfold qv;rw [e]
 rcases P5 m n with l | l | l
 ·exact absurd ((c _).mpr (h'.1 m l)) h.2
 ·exact l
 ·exact absurd ((c _).mp (h.1 n l)) h'.2
theorem jb {wi s ax up:Int}{n:Nat}:(dP wi s ax up n).length=n:=by unfold dP;simp
theorem vU {wi s ax up:Int}{n:Nat}:dP wi s ax up (n+1)=dP wi s ax up n++[np wi s ax up (n+1)]:=by unfold dP;rw [OP,Og];rfl
theorem An {wi hi:Int}{hs:List Int}{s ax up:Int}{k:Nat}(w8:wi<=8) (h8:hi<=8) (w1:1<=wi) (s0:0<=s) (s1:s<wi*hi) (n0:¬(ax=0/\up=0)) (h:qv wi hi hs s ax up k):k<8:=by
 obtain ⟨a,b,c,d,_⟩:=h;have m0:=Qb s (by lia:wi≠0);have m1:=Qc s (by lia:0<wi);have d0:0<=s / wi:=Int.ediv_nonneg s0 (by lia);have d1:s / wi<hi:=Int.ediv_lt_of_lt_mul (by lia) (by rw [Qg];exact s1);apply Classical.byContradiction;intro hk;have hk:8<=k:=by lia
 have k8:(8:Int)<=(k:Int):=by lia
 rcases Int.lt_trichotomy ax 0 with l | l | l
 ·have:(k:Int)*ax<=(k:Int)*(-1):=Qh (by lia) (by lia);lia
 ·rcases Int.lt_trichotomy up 0 with l' | l' | l'
  ·have:(k:Int)*up<=(k:Int)*(-1):=Qh (by lia) (by lia);lia
  ·exact n0 ⟨l,l'⟩
  ·have:(k:Int)*1<=(k:Int)*up:=Qh (by lia) (by lia);lia
 ·have:(k:Int)*1<=(k:Int)*ax:=Qh (by lia) (by lia);lia
theorem BQ {wi s ax up:Int}{k:Nat}(w1:1<=wi) (a:0<=s % wi+k*ax) (b:s % wi+k*ax<wi):np wi s ax up k % wi=s % wi+k*ax/\np wi s ax up k / wi=s / wi+k*up:=by
 unfold np;rw [Int.add_comm ((s / wi+k*up)*wi)]
 constructor
 ·rw [Int.add_mul_emod_self_right];exact Qj a b
 ·rw [Int.add_mul_ediv_right _ _ (by lia),Int.ediv_eq_zero_of_lt a b];lia
theorem zD {wi s ax up:Int}(w1:1<=wi):np wi s ax up 0=s:=by unfold np;have e:=Int.mul_ediv_add_emod s wi;rw [Qg] at e;have z:((0:Nat):Int)=0:=rfl;rw [z,Int.zero_mul,Int.zero_mul,Int.add_zero,Int.add_zero];exact e
theorem uK {wi hi:Int}{hs:List Int}{s ax up:Int}{k:Nat}(w1:1<=wi) (a:0<=s % wi+k*ax) (b:s % wi+k*ax<wi):Nn wi hi hs (np wi s ax up k) ax up=if qv wi hi hs s ax up (k+1) then some (np wi s ax up (k+1)) else none:=by
 obtain ⟨e1,e2⟩:=BQ (up:=up) w1 a b;unfold Nn;rw [e1,e2];have ze:((k+1:Nat):Int)=(k:Int)+1:=rfl;have f1:s % wi+(k:Int)*ax+ax=s % wi+((k+1:Nat):Int)*ax:=by rw [ze,Int.add_mul,Qi];lia
 have f2:s / wi+(k:Int)*up+up=s / wi+((k+1:Nat):Int)*up:=by rw [ze,Int.add_mul,Qi];lia
 rw [f1,f2];have f3:(s / wi+((k+1:Nat):Int)*up)*wi+(s % wi+((k+1:Nat):Int)*ax)=np wi s ax up (k+1):=rfl;rw [f3]
 by_cases c:0<=s % wi+((k+1:Nat):Int)*ax/\s % wi+((k+1:Nat):Int)*ax<wi/\0<=s / wi+((k+1:Nat):Int)*up/\s / wi+((k+1:Nat):Int)*up<hi
 ·rw [if_pos c]
  by_cases m:np wi s ax up (k+1)∈hs
  ·rw [if_pos m,if_neg (show¬qv wi hi hs s ax up (k+1) from λ z=>z.2.2.2.2 m)]
  ·rw [if_neg m,if_pos (show qv wi hi hs s ax up (k+1) from ⟨c.1,c.2.1,c.2.2.1,c.2.2.2,m⟩)]
 ·rw [if_neg c,if_neg (show¬qv wi hi hs s ax up (k+1) from λ z=>c ⟨z.1,z.2.1,z.2.2.1,z.2.2.2.1⟩)]
def Gw:Sp:=λ vs H Q _=> ∃t a b:Int,vs=[.int t,.int a,.int b]/\Q (.bl (decide (a<=t/\t<=b))) H
def Gu:Sp:=λ vs H Q _=> ∃w s:Int,vs=[.int w,.int s]/\0<w/\Q (.int (s % w)) H
def zG:Sp:=λ vs H Q _=> ∃w s:Int,vs=[.int w,.int s]/\0<w/\w<100/\Q (.int (s / w)) H
def zE:Sp:=λ vs H Q _=> ∃w c r:Int,vs=[.int w,.int c,.int r]/\-100<w/\w<100/\Q (.int (r*w+c)) H
def pR:Sp:=λ vs H Q _=> ∃(d:Addr) (m:Int) (hs:List Int),vs=[.ref d,.int m]/\H d=some (.lst (hs.map V.int))/\(∀h∈hs,0<=h/\h<m)/\hs.Nodup/\(hs.length:Int)<m/\m<=64/\∀H',aj H H'->Q (.bl true) H'
def nz (K:Frag) (C:Addr):Sp:=λ vs H Q _=> ∃(p d dx:Addr) (wi hi:Int) (hs:List Int),vs=[.ref p,.int wi,.int hi,.ref d]/\H p=some (.ins C dx [])/\H d=some (.lst (hs.map V.int))/\1<=wi/\wi<=8/\1<=hi/\hi<=8/\(∀h∈hs,0<=h/\h<wi*hi)/\hs.Nodup/\(hs.length:Int)<wi*hi/\
 ∀(hs':List Int) H',hs'.Perm hs->bM K C H' p wi hi hs'->SameBut p H H'->Q .non H'
def ur (K:Frag) (C:Addr):Sp:=λ vs H Q _=> ∃(p:Addr) (wi hi:Int) (hs:List Int) (s ax up:Int),vs=[.ref p,.int s,.int ax,.int up]/\bM K C H p wi hi hs/\Q (oI (Nn wi hi hs s ax up)) H
def Gq (K:Frag) (C:Addr):Sp:=λ vs H Q _=> ∃(p:Addr) (wi hi:Int) (hs:List Int) (s ax up:Int),vs=[.ref p,.int s,.int ax,.int up]/\bM K C H p wi hi hs/\0<=s/\s<wi*hi/\¬(ax=0/\up=0)/\
 ∀(n:Nat) (q:Addr) (H':Hp),jr wi hi hs s ax up n->n<=8->H q=none->H' q=some (.lst ((dP wi s ax up n).map V.int))->aj H H'->Q (.ref q) H'
structure CA (P:Program) (w:World) (K:Frag) (mg:Str->Option Value) (base:Heap):Prop where
 is_among:cj P w K mg base "is_among" ["thing","least","most"] 2 Gw
structure CB (P:Program) (w:World) (K:Frag) (mg:Str->Option Value) (base:Heap):Prop where
 column_of:cj P w K mg base "column_of" ["wide","square"] 1 Gu
 row_of:cj P w K mg base "row_of" ["wide","square"] 1 zG
 square_at:cj P w K mg base "square_at" ["wide","column","row"] 1 zE
structure CB2 (P:Program) (w:World) (K:Frag) (mg:Str->Option Value) (base:Heap):Prop extends CA P w K mg base where
 are_holes:cj P w K mg base "are_holes" ["thing","many"] 3 pR
structure CB3 (P:Program) (w:World) (K:Frag) (mg:Str->Option Value) (base:Heap) (cB:Addr):Prop extends CB2 P w K mg base where
 Board:m9 P w K mg base "Board" cB ["self","wide","high","holes"] 4 (nz K cB)
 Board_moved:ku P w K mg base cB "moved" ["self","square","across","up"] 2 (ur K cB)
end L2
namespace L2
open PySem PySem.Spec PyProof.Rows
section
variable {X:Cx}{pins:List (Addr×Obj)}{σ:St}{H:Hp}{s:Shared}{h':Heap}
theorem aH.turned_laid {t':Nat}{e it a:Addr}{o:HO}(I:aH X pins σ H s) (k:∀b ob,b≠e->b≠it->s.heap.get? b=some ob->h'.get? b=some ob) (he:ii X pins H e) (hi:ii X pins H it) (hp:s.heap.objs.size<=a) (new:bw X.prog X.w (upd H a o) h' a o):
  aH X pins σ (upd H a o) {s with heap:=h',toks:=t'}:=by
 obtain ⟨e0,e1,e2,e3,e4,e5⟩:=he;obtain ⟨i0,i1,i2,i3,i4,i5⟩:=hi;have hn:H a=none:=I.hok.fresh hp;have ne:∀b u,H b=some u->b≠e:=λ b u q z=>by rw [z,e0] at q;cases q
 have nit:∀b u,H b=some u->b≠it:=λ b u q z=>by rw [z,i0] at q;cases q
 have kk:∀b ob,b∉[e,it]->s.heap.get? b=some ob->h'.get? b=some ob:=λ b ob hc q=>k b ob (λ z=>hc (by simp [z])) (λ z=>hc (by simp [z])) q;refine I.step (g':=s.gens) (d':=s.drawn) (ch:=[e,it]) (λ b hb=>?_) (λ b ob _ _ hc q _=>kk b ob hc q) (λ b ob _ _ hc q _=>⟨ob.slots,kk b ob hc q⟩)
  (λ b ob hc q n=>by rw [aq (PH (PL (Heap.lt_size q) hp))];exact n) (λ b ob hc q=>⟨ob,kk b ob hc q⟩) (λ b xs q=>by rw [aq (ar q hn)];exact q) (λ b ob u q=>by rw [aq (ar q hn)];exact q)
  (λ b ps q=>⟨#[],by rw [aq (ar q hn),q];simp⟩) (λ m hm=>?_) (λ b u q=>?_) I.bare
 ·rcases N1.mp hb with rfl | hb
  ·exact ⟨e3,e1,e4,e5⟩
  ·rw [N5.mp hb];exact ⟨i3,i1,i4,i5⟩
 ·obtain ⟨ob,es,ep,ho,r⟩:=hm;exact ⟨ob,es,ep,k _ ob (Ne.symm e1) (Ne.symm i1) ho,r⟩
 ·by_cases hb:b=a
  ·subst hb;rw [ag] at q;cases q;exact new
  ·rw [aq hb] at q;refine (I.hok b u q).stay (λ c v hc z=>k c v ?_ ?_ z) (λ c z=>by rw [aq (ar z hn)];exact z) λ c xs z=>by rw [aq (ar z hn)];exact z
   ·rcases hc with z | z
    ·rw [z];exact ne b u q
    ·exact ne c _ z
   ·rcases hc with z | z
    ·rw [z];exact nit b u q
    ·exact nit c _ z
theorem aH.turned2 {t':Nat}{e it:Addr}(I:aH X pins σ H s) (k:∀b ob,b≠e->b≠it->s.heap.get? b=some ob->h'.get? b=some ob) (he:ii X pins H e) (hi:ii X pins H it):aH X pins σ H {s with heap:=h',toks:=t'}:=by
 obtain ⟨e0,e1,e2,e3,e4,e5⟩:=he;obtain ⟨i0,i1,i2,i3,i4,i5⟩:=hi;have ne:∀b u,H b=some u->b≠e:=λ b u q z=>by rw [z,e0] at q;cases q
 have nit:∀b u,H b=some u->b≠it:=λ b u q z=>by rw [z,i0] at q;cases q
 have kk:∀b ob,b∉[e,it]->s.heap.get? b=some ob->h'.get? b=some ob:=λ b ob hc q=>k b ob (λ z=>hc (by simp [z])) (λ z=>hc (by simp [z])) q;refine I.step (g':=s.gens) (d':=s.drawn) (ch:=[e,it]) (λ b hb=>?_) (λ b ob _ _ hc q _=>kk b ob hc q) (λ b ob _ _ hc q _=>⟨ob.slots,kk b ob hc q⟩)
  (λ _ _ _ _ n=>n) (λ b ob hc q=>⟨ob,kk b ob hc q⟩) (λ _ _ q=>q) (λ _ _ _ q=>q)
  (λ b ps q=>⟨#[],by rw [q];simp⟩) (λ m hm=>?_) (λ b u q=>?_) I.bare
 ·rcases N1.mp hb with rfl | hb
  ·exact ⟨e3,e1,e4,e5⟩
  ·rw [N5.mp hb];exact ⟨i3,i1,i4,i5⟩
 ·obtain ⟨ob,es,ep,ho,r⟩:=hm;exact ⟨ob,es,ep,k _ ob (Ne.symm e1) (Ne.symm i1) ho,r⟩
 ·refine (I.hok b u q).stay (λ c v hc z=>k c v ?_ ?_ z) (λ c z=>z) λ c xs z=>z
  ·rcases hc with z | z
   ·rw [z];exact ne b u q
   ·exact ne c _ z
  ·rcases hc with z | z
   ·rw [z];exact nit b u q
   ·exact nit c _ z
end
def Ng (K:Frag) (a:Addr):It:=
 ⟨λ i H=> ∃xs x,aK K H a xs/\xs[i]? =some x,λ i H x H'=> ∃t v,x=.ref t/\H t=none/\H'=upd H t (.tup [.int (i:Int),v])/\∀xs,aK K H a xs->xs[i]? =some v,λ i H=> ∃xs,aK K H a xs/\xs.length<=i⟩
theorem rz {P:Program}{w:World}{K:Frag}{elts:List Expr}{k0:Nat}{pos:Pos}(a e it:Addr) (hne:e≠it):wV P w K (.Tuple elts k0 pos) (Ng K a) [e,it] e (λ i h=>(∃old,IsEnum h e it (i:Int) old)/\h.IsListIter it a i) where
 mem:=by simp
 obj:=λ i h st b hb=>by
  obtain ⟨⟨old,he⟩,o,ho,c,d⟩:=st
  rcases N1.mp hb with rfl | hb
  ·exact ⟨_,he,λ v z=>by cases z⟩
  ·rw [N5.mp hb];exact ⟨o,ho,λ v z=>by rw [d] at z;cases z⟩
 keep:=λ i h h' st k=>by obtain ⟨⟨old,he⟩,hi⟩:=st;exact ⟨⟨old,k e (by simp) _ he⟩,hi.at λ o x=>k it (by simp) o x⟩
 item:=by
  intro X hP hw hK hc i pins s σ H E I hf st hg;subst hP hw hK;obtain ⟨xs,x,hq,hx⟩:=hg;obtain ⟨its,rv,p,hz⟩:=I.list hq;obtain ⟨u,hu,ru⟩:=rv.get hx;obtain ⟨⟨old,he⟩,hit⟩:=st;have fe:=hf e (by simp);have fi:=hf it (by simp);obtain ⟨oL,hoL,hcL,nL,hdL⟩:=p.isList;have hai:a≠it:=λ z=>by subst z;obtain ⟨o',ho',hc',_⟩:=hit;rw [hoL] at ho';cases ho';rw [hcL] at hc';injection hc' with hz';exact absurd hz' (by decide)
  have hae:a≠e:=λ z=>by subst z;have he':s.heap.get? a=_:=he;rw [hoL] at he';cases he';injection hcL with hz';exact absurd hz' (by decide)
  have D:=Draws.list (prog:=X.prog) (w:=X.w) (A:=X.A.in1) (by show X.A.handled=none;exact I.ok.hd hc) it a hai its.toArray;have hlt:i<its.toArray.size:=by have:=(Oe.mp hu).1;simpa using this
  refine wpAny_pyNext_enum_itemD D he ⟨hit,p.isList⟩ hlt hne (by simp [hne,hae.symm]) λ x' h1 tk hP' ho hs' hT hsz hk=>?_;have ex:x'=u:=by have:its.toArray[i]? =some x':=hP';rw [Pe,hu] at this;exact (Option.some.inj this).symm
  subst ex;refine ⟨_,rfl,wpAny_letOwnedTupleGo_enum ho λ h2 he2 sb=>?_⟩;have hlt2:e<s.heap.objs.size:=Heap.lt_size he;have kk:∀b ob,b≠e->b≠it->s.heap.get? b=some ob->h2.get? b=some ob:=λ b ob b1 b2 q=>(sb.2 b b1).trans (hk b ob b1 b2 q);have hT2:h2.get? s.heap.objs.size=some {cls:=.type "tuple",data:=.seq #[.int i tk,x']}:=(sb.2 _ (PM hlt2)).trans hT;have new:bw X.prog X.w (upd H s.heap.objs.size (.tup [.int (i:Int),x])) h2 s.heap.objs.size (.tup [.int (i:Int),x]):=
   ⟨by show 2<=sizeLine;decide,[.int i tk,x'],.cons ⟨tk,rfl⟩ (.cons ru .nil),⟨_,hT2,rfl,_,rfl⟩⟩
  have I2:=I.turned_laid (t':=tk+1) kk fe fi (PF _) new;refine ⟨.ref s.heap.objs.size,_,I2,rfl,⟨_,x,rfl,I.hok.fresh (PF _),rfl,λ ys hy=>by rw [I.list_inj hy hq];exact hx⟩,⟨⟨_,by simpa using he2⟩,hs'.1.at λ o z=>(sb.2 it (Ne.symm hne)).trans z⟩,λ b hb=>?_⟩
  rcases N1.mp hb with rfl | hb
  ·rw [aq (PH hlt2)];exact fe.1
  ·rw [N5.mp hb];obtain ⟨o',ho',_⟩:=hit;rw [aq (PH (Heap.lt_size ho'))];exact fi.1
 done:=by
   intro X hP hw hK hc i pins s σ H E I hf st hg;subst hP hw hK;obtain ⟨xs,hq,hx⟩:=hg;obtain ⟨its,rv,p,hz⟩:=I.list hq;obtain ⟨⟨old,he⟩,hit⟩:=st;have fe:=hf e (by simp);have fi:=hf it (by simp);have hl:=rv.length;obtain ⟨oL,hoL,hcL,nL,hdL⟩:=p.isList;have hai:a≠it:=λ z=>by subst z;obtain ⟨o',ho',hc',_⟩:=hit;rw [hoL] at ho';cases ho';rw [hcL] at hc';injection hc' with hz';exact absurd hz' (by decide)
   have hT:s.TypeIs (.ref e) "enumerate":=⟨_,he,rfl⟩;unfold pyNext;refine wpAny_bind (wpAny_attempt (wpAny_callSpecial?_slot (name:=Str.ofString "__next__") hT F.slot_enumerate_next
    (wpAny_call_entry F.slot_enumerate_next hT F.entry_enumerate_next ?_ (F.args_enumerate_next_1 _))))
   show wpAny _ _ (field (.ref e) 2 >>= _) _ _ _;refine wpAny_bind (wpAny_field he rfl (x:=.ref it) rfl ?_);refine wpAny_bind (wpAny_nextOf_list_end (by show X.A.handled=none;exact I.ok.hd hc) hit p.isList (by simp;lia) λ h' x he' hx'=>?_);obtain ⟨o,ho,hcx⟩:=hx';refine wpAny_bind (wpAny_isInstance (T:="StopIteration") (b:=true) ⟨o,ho,hcx⟩ isSubtype_stop ?_);exact wpAny_pure ⟨rfl,I.turned2 (t':=s.toks) (λ b ob _ b2 q=>he' b ob b2 q) fe fi⟩
 self:=λ A i s Q E st h=>by obtain ⟨⟨old,he⟩,_⟩:=st;exact wpAny_pyIter_enum he h
end L2
namespace L2
open PySem PySem.Spec PyProof.Rows
def wX (x:Str):It:=
 ⟨λ i _=>i<x.cps.size,λ i H v H'=> ∃t c,v=.ref t/\H t=none/\x.cps.toList[i]? =some c/\H'=upd H t (.tup [.int (i:Int),.str ⟨#[c]⟩]),λ i _=>i=x.cps.size⟩
theorem gh {prog:Program}{w:World}{A:Around}(hh:A.handled=none) (it:Addr) (x:Str) (t:Tok):Draws prog w A it [it] x.cps.size (λ i v=> ∃c u,x.cps[i]? =some c/\v=.str ⟨#[c]⟩ u) (λ i h=>h.IsStrIter it (strIterType x) x t i):=by
 unfold strIterType;split
 ·exact Draws.strAscii hh it x t
 ·exact Draws.strWide hh it x t
theorem rp {P:Program}{w:World}{K:Frag}{elts:List Expr}{k0:Nat}{pos:Pos}(e it:Addr) (x:Str) (t:Tok) (hne:e≠it):wV P w K (.Tuple elts k0 pos) (wX x) [e,it] e (λ i h=>(∃old,IsEnum h e it (i:Int) old)/\h.IsStrIter it (strIterType x) x t i) where
 mem:=by simp
 obj:=λ i h st b hb=>by
  obtain ⟨⟨old,he⟩,o,ho,c,d⟩:=st
  rcases N1.mp hb with rfl | hb
  ·exact ⟨_,he,λ v z=>by cases z⟩
  ·rw [N5.mp hb];exact ⟨o,ho,λ v z=>by rw [d] at z;cases z⟩
 keep:=λ i h h' st k=>by obtain ⟨⟨old,he⟩,o,ho,r⟩:=st;exact ⟨⟨old,k e (by simp) _ he⟩,o,k it (by simp) o ho,r⟩
 item:=by
  intro X hP hw hK hc i pins s σ H E I hf st hg;subst hP hw hK;obtain ⟨⟨old,he⟩,hit⟩:=st;have fe:=hf e (by simp);have fi:=hf it (by simp);have D:=gh (prog:=X.prog) (w:=X.w) (A:=X.A.in1) (by show X.A.handled=none;exact I.ok.hd hc) it x t;refine wpAny_pyNext_enum_itemD D he hit hg hne (by simp [hne]) λ x' h1 tk hP' ho hs' hT hsz hk=>?_;obtain ⟨c,u,hcx,rfl⟩:=hP';refine ⟨_,rfl,wpAny_letOwnedTupleGo_enum ho λ h2 he2 sb=>?_⟩;have hlt2:e<s.heap.objs.size:=Heap.lt_size he;have kk:∀b ob,b≠e->b≠it->s.heap.get? b=some ob->h2.get? b=some ob:=λ b ob b1 b2 q=>(sb.2 b b1).trans (hk b ob b1 b2 q);have hT2:h2.get? s.heap.objs.size=some {cls:=.type "tuple",data:=.seq #[.int i tk,.str ⟨#[c]⟩ u]}:=(sb.2 _ (PM hlt2)).trans hT;have new:bw X.prog X.w (upd H s.heap.objs.size (.tup [.int (i:Int),.str ⟨#[c]⟩])) h2 s.heap.objs.size (.tup [.int (i:Int),.str ⟨#[c]⟩]):=
   ⟨by show 2<=sizeLine;decide,[.int i tk,.str ⟨#[c]⟩ u],.cons ⟨tk,rfl⟩ (.cons ⟨u,rfl⟩ .nil),⟨_,hT2,rfl,_,rfl⟩⟩
  have I2:=I.turned_laid (t':=tk+1) kk fe fi (PF _) new;have hs2:h2.IsStrIter it (strIterType x) x t (i+1):=by obtain ⟨o',ho',r⟩:=hs';exact ⟨o',(sb.2 it (Ne.symm hne)).trans ho',r⟩
  refine ⟨.ref s.heap.objs.size,_,I2,rfl,⟨_,c,rfl,I.hok.fresh (PF _),by rw [QA];exact hcx,rfl⟩,⟨⟨_,by simpa using he2⟩,hs2⟩,λ b hb=>?_⟩
  rcases N1.mp hb with rfl | hb
  ·rw [aq (PH hlt2)];exact fe.1
  ·rw [N5.mp hb];obtain ⟨o',ho',_⟩:=hit;rw [aq (PH (Heap.lt_size ho'))];exact fi.1
 done:=by intro X hP hw hK hc i pins s σ H E I hf st hg;subst hP hw hK;obtain ⟨⟨old,he⟩,hit⟩:=st;have hg:i=x.cps.size:=hg;subst hg;have fe:=hf e (by simp);have fi:=hf it (by simp);have D:=gh (prog:=X.prog) (w:=X.w) (A:=X.A.in1) (by show X.A.handled=none;exact I.ok.hd hc) it x t;exact wpAny_pyNext_enum_endD D he hit λ h' hx=>⟨rfl,I.turned2 (t':=s.toks) (λ b ob _ b2 q=>hx b ob b2 q) fe fi⟩
 self:=λ A i s Q E st h=>by obtain ⟨⟨old,he⟩,_⟩:=st;exact wpAny_pyIter_enum he h
section
variable {X:Cx}{p pos pos2:Pos}{a:Expr}{elts:List Expr}{k0:Nat}{ta:TE}
def uZ (K:Frag) (ta:TE):TI:=λ σ H R=>ta σ H λ x H1=>match x with
 | .ref d=>(∃xs,aK K H1 d xs)/\R (Ng K d) H1
 | .str z=>R (wX z) H1
 | _=>False
theorem B1 (hm:X.mg "enumerate"=none) (ha:PE X a ta) (hg:Gl X "enumerate":=by rfl) (hs:starEach [a] X.env=[(false,eval a X.env)]:=by rfl):PI X (.Tuple elts k0 pos2) (.Call (.Name "enumerate" p) [a] [] pos) (uZ X.K ta):=by
 intro pins s σ H R I h;have hA:PA X [a] (bo ta cZ):=pa_cons ha pa_nil (by rw [hs];rfl);refine Call_ (iQ I hg hm pi (PyProof.Rows.callWith_type1 (bL (hA pos pins s σ H (λ vs H1=> ∃x,vs=[x]/\(match x with | .ref d=>(∃xs,aK X.K H1 d xs)/\R (Ng X.K d) H1 | .str z=>R (wX z) H1 | _=>False)) I ?_) λ us s1 ⟨vs,H1,I1,r1,x,e1,q1⟩=>?_) (by rw [hs];rfl) rfl) (by decide) (by decide))
 ·show ta σ H _;have e:(λ (x:V) (H1:Hp)=>match x with | .ref d=>(∃xs,aK X.K H1 d xs)/\R (Ng X.K d) H1 | .str z=>R (wX z) H1 | _=>False)=λ x H1=>cZ σ H1 λ xs H2=> ∃y,x::xs=[y]/\(match y with | .ref d=>(∃xs,aK X.K H2 d xs)/\R (Ng X.K d) H2 | .str z=>R (wX z) H2 | _=>False):=by
   funext x H1;apply propext
   constructor
   ·intro q;exact ⟨x,rfl,q⟩
   ·rintro ⟨y,e,q⟩;have:x=y:=by injection e
    subst this;exact q
  rw [<-e];exact h
 ·subst e1;obtain ⟨u,rfl,ru⟩:=dw r1;cases x with
  | ref d=>
    obtain ⟨⟨xs,hq⟩,q⟩:=q1;cases ru;obtain ⟨its,rv,pl,hz⟩:=I1.list hq;refine call_enumerate_list pl.isList λ h' he hit hsz hk=>?_;have I2:aH X pins σ H1 {s1 with heap:=h'}:=I1.kept (t':=s1.toks) hk;refine wpAny_pyIter_enum he ⟨s1.heap.objs.size+1,[s1.heap.objs.size+1,s1.heap.objs.size],_,_,H1,rfl,I2,rz d _ _ (P4 _),⟨⟨_,he⟩,hit⟩,λ b hb=>?_,q⟩
    rcases N1.mp hb with rfl | hb
    ·exact I1.fpOk (PN _) (I1.hok.fresh (PN _))
    ·rw [N5.mp hb];exact I1.fpOk (PF _) (I1.hok.fresh (PF _))
  | str z=>
    obtain ⟨t,rfl⟩:=ru;refine call_enumerate_str λ h' he hit hsz hk=>?_;have I2:aH X pins σ H1 {s1 with heap:=h'}:=I1.kept (t':=s1.toks) hk;refine wpAny_pyIter_enum he ⟨s1.heap.objs.size+1,[s1.heap.objs.size+1,s1.heap.objs.size],_,_,H1,rfl,I2,rp _ _ z t (P4 _),⟨⟨_,he⟩,hit⟩,λ b hb=>?_,q1⟩
    rcases N1.mp hb with rfl | hb
    ·exact I1.fpOk (PN _) (I1.hok.fresh (PN _))
    ·rw [N5.mp hb];exact I1.fpOk (PF _) (I1.hok.fresh (PF _))
  | _=>exact q1.elim
theorem AB (K:Frag) (hm:X.mg "enumerate"=none) (ha:PE X a ta) (hg:Gl X "enumerate":=by rfl) (hs:starEach [a] X.env=[(false,eval a X.env)]:=by rfl) (hK:X.K=K:=by rfl):PI X (.Tuple elts k0 pos2) (.Call (.Name "enumerate" p) [a] [] pos) (uZ K ta):=by subst hK;exact B1 hm ha hg hs
end
end L2
namespace L2
open PySem PySem.Spec PyProof.Rows
section
variable {X:Cx}
def Ms (x:V) (vs:List V) (H:Hp) (Q:VK):Prop:=match x,vs with
 | .str a,[]=>a.length<=sizeLine/\(∀c∈a.cps.toList,c<128)/\Q (.str ⟨a.cps.map lo1⟩) H
 | _,_=>False
theorem Aq:pC X "str.lower" Ms:=by
 unfold pC;intro pins s σ H x xs v us Q I rx r h;unfold Ms at h;split at h
 ·rename_i a;obtain ⟨hz,ha,q⟩:=h;obtain ⟨t,rfl⟩:=rx;cases r;have e:placed a (λ i _=>Unicode.lowerAt a.cps i)=a.cps.map lo1:=placed_single a _ lo1 λ i c hc=>by
   have hc':a.cps[i]? =some c:=by simpa using hc
   have hlt:=ha c (Om hc);unfold Unicode.lowerAt;rw [hc'];have hne:(c == 0x3A3)=false:=by rw [beq_eq_false_iff_ne];lia
   simp only [hne,Bool.false_and,Qr,if_false];exact lowerOf_ascii c hlt
  have hfit:Builtin.Str.tooLong (placed a λ i _=>Unicode.lowerAt a.cps i).size=false:=by rw [e,QD];unfold Builtin.Str.tooLong;exact decide_eq_false (by show¬a.cps.size > sizeLine;have:a.length=a.cps.size:=rfl;lia)
  refine call_gives F.slot_str_lower (typeIs_str _ _ _) F.entry_str_lower (F.args_str_lower_1 _) (gives_str_lower a t hfit) ?_;rw [e];exact ⟨by show (a.cps.map lo1).size<=sizeLine;rw [QD];exact hz,⟨.str _,H,I.tok _,⟨_,rfl⟩,q⟩⟩
 ·exact h.elim
theorem sY:∀c,c<128->(Unicode.isUpper c&& !(Unicode.isLower c||Unicode.isTitle c))=decide (65<=c/\c<=90):=by decide+kernel
def Np (x:V) (vs:List V) (H:Hp) (Q:VK):Prop:=match x,vs with
 | .str a,[]=> ∃c,a=⟨#[c]⟩/\c<128/\Q (.bl (decide (65<=c/\c<=90))) H
 | _,_=>False
theorem Jb:pC X "str.isupper" Np:=by
 unfold pC;intro pins s σ H x xs v us Q I rx r h;unfold Np at h;split at h
 ·rename_i a;obtain ⟨c,rfl,hc,q⟩:=h;obtain ⟨t,rfl⟩:=rx;cases r;refine call_gives F.slot_str_isupper (typeIs_str _ _ _) F.entry_str_isupper (F.args_str_isupper_1 _) (gives_str_isupper _ t) ?_;refine fin_bl I q ?_;rw [<-sY c hc];simp
 ·exact h.elim
theorem NB {a:Str}{H:Hp}{Q:VK}:(Ms (.str a) [] H Q)=(a.length<=sizeLine/\(∀c∈a.cps.toList,c<128)/\Q (.str ⟨a.cps.map lo1⟩) H):=rfl
end
end L2
namespace L2
open PySem PySem.Spec PyProof.Rows
abbrev one (c:Nat):Str:=⟨#[c]⟩
def jV (c:Nat):Prop:=97<=c/\c<=122
def Sg (c:Nat):Prop:=c=46\/c=35\/(97<=c/\c<=122)\/(65<=c/\c<=90)
theorem Sg.lt {c:Nat}(h:Sg c):c<128:=by unfold Sg at h;lia
def j8 (c:Nat):V:=if c=46\/c=35 then .non else .str (one (lo1 c))
def cr (c:Nat):V:=if c=46\/c=35 then .non else .int (if 65<=c/\c<=90 then 0 else 1)
theorem Bv:("abcdefghijklmnopqrstuvwxyz":Str).cps.toList=[97,98,99,100,101,102,103,104,105,106,107,108,109,110,111,112,113,114,115,116,117,118,119,120,121,122]:=by decide+kernel
theorem dh_in (c:Nat):decide (c∈(".#":Str).cps.toList)=decide (c=46\/c=35):=by
 have e:(".#":Str).cps.toList=[46,35]:=by decide+kernel
 rw [e,Qq];simp only [decide_eq_true_eq,N1,Od,or_false]
theorem JR {i:Int}(h0:0<=i) (h1:i<26):ke ("abcdefghijklmnopqrstuvwxyz":Str).cps.toList i=some (97+i.toNat):=by
 have e:i=((i.toNat:Nat):Int):=by lia
 have hx:∀k<26,("abcdefghijklmnopqrstuvwxyz":Str).cps.toList[k]? =some (97+k):=by rw [Bv];decide
 have q:=bn (hx i.toNat (by lia));rw [<-e] at q;exact q
theorem MU (b:Bool):ke (".#":Str).cps.toList (if b=true then 1 else 0)=some (if b=true then 35 else 46):=by
 have e:(".#":Str).cps.toList=[46,35]:=by decide+kernel
 rw [e];cases b<;>decide
theorem BN:(".":Str)=one 46:=by decide+kernel
theorem zC:("#":Str)=one 35:=by decide+kernel
section
variable {K:Frag}{σ rest:St}{H:Hp}{te ta tb tl:TE}{tt:TT}{R:Bool->Hp->Prop}{Q:VK}{c:Nat}{z:Str}{src:List (Option Nat)}
theorem GO (h:Ev te σ H (.str (one c))) (ha:Ev ta σ H (.str (one 46))) (hb:Ev tb σ H (.str (one 35))) (q:∀H',aj H H'->R (decide (c=46\/c=35)) H'):jm (eB K .In te (zx (bo ta (bo tb cZ)))) σ H R:=
 h _ (ha _ (hb _ ⟨by show 2<=sizeLine;decide,λ t ht=>by
  show eA K .In (.str (one c)) (.ref t) _ (dt R);rw [jc];refine ⟨t,_,rfl,.inr (cJ.of ag),rfl,rfl,?_⟩;have e:Cp (.str (one c)) [.str (one 46),.str (one 35)]=decide (c=46\/c=35):=by
   unfold Cp;have e1:jQ (.str (one 46)) (.str (one c))=decide (c=46):=by
    show ((one 46) == (one c))=_
    by_cases h:c=46
    ·subst h;simp
    ·rw [decide_eq_false h];exact beq_eq_false_iff_ne.mpr (λ e=>h (by have:=congrArg (λ x:Str=>x.cps.toList) e;simp [one] at this;lia))
   have e2:jQ (.str (one 35)) (.str (one c))=decide (c=35):=by
    show ((one 35) == (one c))=_
    by_cases h:c=35
    ·subst h;simp
    ·rw [decide_eq_false h];exact beq_eq_false_iff_ne.mpr (λ e=>h (by have:=congrArg (λ x:Str=>x.cps.toList) e;simp [one] at this;lia))
   show (jQ (.str (one 46)) (.str (one c))||(jQ (.str (one 35)) (.str (one c))||false))=_
   rw [e1,e2]
   by_cases h1:c=46<;>by_cases h2:c=35<;>simp [h1,h2]
  show dt R (.bl (if false then _ else Cp (.str (one c)) [.str (one 46),.str (one 35)])) _;rw [e];exact q _ ((aj.refl H).upd ht)⟩))
theorem Jz (ha:Ev ta σ H (.str (one c))) (hb:Ev tb σ H (.str z)):Ev (eB K .In ta tb) σ H (.bl (decide (c∈z.cps.toList))):=λ Q q=>ha _ (hb _ (by
 show eA K .In _ _ _ _;rw [zV,StrLaws.found_one];exact q))
theorem AZ (ha:Ev ta σ H (.str (one c))) (hc:jV c):Ev (CO L1 ta) σ H (.str (one (c - 32))):=λ Q q=>ha _ (by
 show L1 (.str (one c)) [] H Q;rw [NA];refine ⟨by show 1<=sizeLine;decide,λ d hd=>?_,?_⟩
 ·have e:d=c:=by simpa [one] using hd
  have:=hc.2;lia
 have e:(⟨(one c).cps.map up1⟩:Str)=one (c - 32):=by
  show (⟨#[c].map up1⟩:Str)=_;have:up1 c=c - 32:=by unfold up1;exact if_pos hc
  simp [one,this]
 rw [e];exact q)
theorem GT (ha:Ev ta σ H (.str (one c))) (hc:c<128):Ev (CO Ms ta) σ H (.str (one (lo1 c))):=λ Q q=>ha _ (by
 show Ms (.str (one c)) [] H Q;rw [NB];refine ⟨by show 1<=sizeLine;decide,λ d hd=>?_,?_⟩
 ·have e:d=c:=by simpa [one] using hd
  lia
 have e:(⟨(one c).cps.map lo1⟩:Str)=one (lo1 c):=by show (⟨#[c].map lo1⟩:Str)=_;simp [one]
 rw [e];exact q)
theorem MQ (ha:Ev ta σ H (.str (one c))) (hc:c<128):Ev (CO Np ta) σ H (.bl (decide (65<=c/\c<=90))):=λ Q q=>ha _ (by
 show Np (.str (one c)) [] H Q;exact ⟨c,rfl,hc,q⟩)
theorem A0 {lo hi:Option Int}{tl' th:TO}(ha:Ev ta σ H (.str z)) (hl:∀Q:Option Int->Hp->Prop,Q lo H->tl' σ H Q) (hh:∀Q:Option Int->Hp->Prop,Q hi H->th σ H Q) (hz:z.length<=sizeLine):Ev (Nq K ta tl' th) σ H (.str (iS z lo hi)):=λ Q q=>ha _ (hl _ (hh _ ⟨hz,q⟩))
theorem uF:∀Q:Option Int->Hp->Prop,Q none H->uk σ H Q:=λ Q q=>q
theorem j3 {i:Int}(h:Ev te σ H (.int i)):∀Q:Option Int->Hp->Prop,Q (some i) H->GX te σ H Q:=λ Q q=>h _ q
theorem BU {sd:Int}:eA K .Eq (cr c) (.int sd) H Q=Q (.bl (decide (cr c=.int sd))) H:=by
 unfold cr
 by_cases h:c=46\/c=35
 ·rw [if_pos h];show Q (.bl false) H=Q (.bl (decide (V.non=V.int sd))) H;rw [decide_eq_false (by intro z;cases z)]
 ·rw [if_neg h];show Q (.bl (decide (_=sd))) H=Q (.bl (decide (V.int _=V.int sd))) H;have:∀i:Int,decide (i=sd)=decide (V.int i=V.int sd):=λ i=>by
   by_cases e:i=sd
   ·rw [decide_eq_true e,decide_eq_true (congrArg V.int e)]
   ·rw [decide_eq_false e,decide_eq_false (λ z=>e (by injection z))]
  rw [this]
def CJ (l:List Nat) (p:Nat->Nat->Bool) (f:Nat->Nat->V) (n:Nat):List V:=((List.range n).filter λ i=>p i (l.getD i 0)).map λ i=>f i (l.getD i 0)
theorem qO {l:List Nat}{p:Nat->Nat->Bool}{f:Nat->Nat->V}{n:Nat}:CJ l p f (n+1)=CJ l p f n++(if p n (l.getD n 0)=true then [f n (l.getD n 0)] else []):=by
 unfold CJ;rw [OP,List.filter_append,Og];congr 1
 by_cases h:p n (l.getD n 0)=true
 ·rw [if_pos h];have e:(List.filter (λ i=>p i (l.getD i 0)) [n])=[n]:=by rw [List.filter_cons];exact if_pos h
  rw [e];rfl
 ·rw [if_neg h];have e:(List.filter (λ i=>p i (l.getD i 0)) [n])=[]:=by rw [List.filter_cons];exact if_neg h
  rw [e];rfl
theorem CI {l:List Nat}{p:Nat->Nat->Bool}{f:Nat->Nat->V}{n:Nat}:(CJ l p f n).length<=n:=by unfold CJ;rw [NZ];exact PK (OK _ _) (by rw [Ow];exact PF _)
theorem Bd (hl:Ev tl σ H (.str z)) (hz:z.length<=1000) (hs:dG src σ=none::none::rest) (p:Nat->Nat->Bool) (f:Nat->Nat->V)
  (ht:∀(i c:Nat) (H':Hp),z.cps.toList[i]? =some c->aj H H'->∀R:Bool->Hp->Prop,(∀H'',aj H' H''->R (p i c) H'')->tt (some (.int (i:Int))::some (.str (one c))::rest) H' R)
  (he:∀(i c:Nat) (H':Hp),z.cps.toList[i]? =some c->p i c=true->aj H H'->Ev te (some (.int (i:Int))::some (.str (one c))::rest) H' (f i c))
  (q:∀H' d,aj H H'->H' d=none->Q (.ref d) (upd H' d (.lst (CJ z.cps.toList p f z.length)))):tComp (uZ K tl) (tm K 2 (gf (gName 0) (gf (gName 1) wC))) tt te src σ H Q:=by
 refine hl _ ?_;show dn _ tt te src σ Q (wX z) H;refine jk z.length (λ i ys σ' H'=>aj H H'/\(∃o0 o1,σ'=o0::o1::rest)/\ys=CJ z.cps.toList p f i) (PK hz (by decide)) (λ i ys σ H h=>by rw [h.2.2];exact CI) (λ i ys σ H h hi=>hi) (λ ys σ H h=>rfl) ⟨aj.refl H,⟨_,_,hs⟩,rfl⟩ ?_ ?_
 ·rintro i ys _ H1 x H2 hi ⟨s1,⟨o0,o1,rfl⟩,rfl⟩ ⟨t,c,rfl,ht0,hc,rfl⟩ Kt Kf kt kf;have s2:aj H (upd H1 t (.tup [.int (i:Int),.str ⟨#[c]⟩])):=s1.upd ht0;refine ⟨t,_,rfl,cJ.of ag,rfl,_,_,rfl,_,_,rfl,rfl,?_⟩;have eg:z.cps.toList.getD i 0=c:=by rw [N8,hc];rfl
  show tt (some (.int (i:Int))::some (.str (one c))::rest) _ _;refine ht i c _ hc s2 _ (λ H3 s3=>?_);cases hp:p i c with
  | true=>
    refine hV (he i c _ hc hp (s2.trans s3) _ (kt _ _ _ ⟨s2.trans s3,⟨_,_,rfl⟩,?_⟩));rw [qO,eg,hp,if_pos rfl]
  | false=>
    refine iB (kf _ _ ⟨s2.trans s3,⟨_,_,rfl⟩,?_⟩);rw [qO,eg,hp,if_neg (by simp),Os]
 ·rintro ys σ' H' d ⟨s1,_,rfl⟩ hd;exact q H' d s1 hd
end
theorem mR (cs:List Nat):Txt.join ("":Str) (cs.map one)=⟨cs.toArray⟩:=by
 have key:∀(r:List Nat) (acc:Array Nat),(r.map one).foldl (λ acc p=>acc++("":Str).cps++p.cps) acc=acc++r.toArray:=by
  intro r
  induction r with
  | nil=>intro acc;simp
  | cons a r ih=>
    intro acc;rw [Oj,List.foldl_cons,ih];have e:("":Str).cps= #[]:=by decide+kernel
    rw [e];apply QE.mp;simp [one]
 unfold Txt.join Builtin.Str.glued;cases cs with
 | nil=>rfl
 | cons a r=>
   show (⟨((r.map one).foldl (λ acc p=>acc++("":Str).cps++p.cps) (one a).cps)⟩:Str)=_;rw [key];apply nc;simp [one]
def emptyT (wi hi:Int) (hs:List Int):Str:=⟨((List.range (wi*hi).toNat).map λ (s:Nat)=>if (s:Int)∈hs then 35 else 46).toArray⟩
theorem lP {wi hi:Int}{hs:List Int}:(emptyT wi hi hs).length=(wi*hi).toNat:=by unfold emptyT Str.length;simp
def dY (row:Str) (s:Int) (sg:Str):Str:=iS row none (some s)++sg++iS row (some (s+1)) none
def sqsOf (row:Str) (sd:Int):List Int:=((List.range row.length).filter λ i=>decide (cr (row.cps.toList.getD i 0)=.int sd)).map λ (i:Nat)=>(i:Int)
theorem jF {row:Str}{s:Int}{c:Nat}(h0:0<=s) (h1:s<row.length):(dY row s (one c)).cps.toList=row.cps.toList.take s.toNat++[c]++row.cps.toList.drop (s.toNat+1):=by
 unfold dY;have e:s=((s.toNat:Nat):Int):=by lia
 have e1:s+1=((s.toNat+1:Nat):Int):=by lia
 rw [nj,nj,ix,ix];have hl:s.toNat<row.length:=by lia
 have f1:HT.sIx row.length row.length (some s)=s.toNat:=by rw [e,HT.sIx_nat];lia
 have f2:HT.sIx row.length 0 (some (s+1))=s.toNat+1:=by rw [e1,HT.sIx_nat];lia
 have f3:HT.sIx row.length 0 none=0:=rfl;have f4:HT.sIx row.length row.length none=row.length:=rfl;rw [f1,f2,f3,f4,OW,P8];congr 1;rw [OX];rw [OO,c7];exact PF _
theorem fY {row:Str}{s:Int}{c:Nat}(h0:0<=s) (h1:s<row.length):(dY row s (one c)).length=row.length:=by rw [c7,jF h0 h1,Oa,Oa,Ol,OO,<-c7];show min s.toNat row.length+1+(row.length - (s.toNat+1))=row.length;lia
def kS:Sp:=λ vs H Q _=> ∃(c:Nat) (sd:Int),vs=[.str (one c),.int sd]/\jV c/\Q (.str (one (if sd=0 then c - 32 else c))) H
def rF:Sp:=λ vs H Q _=> ∃c:Nat,vs=[.str (one c)]/\c<128/\∀H',aj H H'->Q (j8 c) H'
def kT:Sp:=λ vs H Q _=> ∃c:Nat,vs=[.str (one c)]/\c<128/\∀H',aj H H'->Q (cr c) H'
def Gs (K:Frag) (C:Addr):Sp:=λ vs H Q _=> ∃(p:Addr) (wi hi:Int) (hs:List Int) (s:Int),vs=[.ref p,.int s]/\bM K C H p wi hi hs/\Q (.bl (decide (0<=s/\s<wi*hi/\¬s∈hs))) H
def uy (K:Frag) (C:Addr):Sp:=λ vs H Q _=> ∃(p:Addr) (wi hi:Int) (hs:List Int),vs=[.ref p]/\bM K C H p wi hi hs/\∀H',aj H H'->Q (.str (emptyT wi hi hs)) H'
def Gr:Sp:=λ vs H Q _=> ∃(row:Str) (s:Int) (c:Nat),vs=[.str row,.int s,.str (one c)]/\0<=s/\row.length<=100/\Q (.str (dY row s (one c))) H
def mz:Sp:=λ vs H Q _=> ∃(row:Str) (sd:Int),vs=[.str row,.int sd]/\row.length<=100/\(∀c∈row.cps.toList,c<128)/\∀(q:Addr) (H':Hp),H q=none->H' q=some (.lst ((sqsOf row sd).map V.int))->aj H H'->Q (.ref q) H'
section
variable {K:Frag}{σ:St}{H:Hp}{tb:TE}{t:TA}{op:CmpOp}{R:Bool->Hp->Prop}{vs:List V}{sp:Sp}
theorem tH:Ev (tC (.str ".")) σ H (.str (one 46)):=by rw [<-BN];exact al
theorem oQ:Ev (tC (.str "#")) σ H (.str (one 35)):=by rw [<-zC];exact al
theorem A2 (h:Av t σ H vs) (q:sp vs H (λ x H1=>tb σ H1 λ y H2=>eA K op x y H2 (dt R)) E0):jm (eB K op (fC sp t) tb) σ H R:=h _ q
end
theorem zN {σ:St}{H:Hp}{Q:VK}{to te:TE}{z:Str}{r:V->List V->Hp->VK->Prop}(ho:Ev to σ H (.str z)) (q:te σ H λ x H2=>r (.str z) [x] H2 Q):NR r to (bo te cZ) σ H Q:=ho _ q
structure CP1 (P:Program) (w:World) (K:Frag) (mg:Str->Option Value) (base:Heap):Prop where
 side_of:cj P w K mg base "side_of" ["sign"] 1 kT
structure CP2 (P:Program) (w:World) (K:Frag) (mg:Str->Option Value) (base:Heap) (cB:Addr):Prop where
 Board_has:ku P w K mg base cB "has" ["self","square"] 3 (Gs K cB)
end L2
namespace L2
open PySem PySem.Spec PyProof.Rows
section
variable {K:Frag}{σ rest:St}{H:Hp}{te to ta tb tl:TE}{t:TA}{tt u:TT}{src:List (Option Nat)}{Q:VK}{R:Bool->Hp->Prop}{D:dC}{g:TG}{tB:TS}{v x y:V}{vs:List V}{sp:Sp}
theorem CC {b:Bool}(h:Ev te σ H (.bl b)):Ev (cB Jo (bo te cZ)) σ H (.int (if b then 1 else 0)):=λ Q q=>h _ q
theorem wL {ta:TA}{n:Int}(hl:∀Q:List V->Hp->Prop,(∀H',aj H H'->Q [.int n] H')->ta σ H Q) (h0:0<=n) (hz:n.toNat<=sizeLine) (h1:n<2 ^ 62) (hs:dG src σ=none::rest) (p:V->Bool) (f:V->V)
  (ht:∀(i:Nat) H',aj H H'->i<n.toNat->Tv tt (some (.int (0+(i:Int)))::rest) H' (p (.int (0+(i:Int))))) (he:∀(i:Nat) H',aj H H'->i<n.toNat->p (.int (0+(i:Int)))=true->Ev te (some (.int (0+(i:Int)))::rest) H' (f (.int (0+(i:Int)))))
  (q:∀H' d',aj H H'->H' d'=none->Q (.ref d') (upd H' d' (.lst ((((List.range n.toNat).map λ (i:Nat)=>V.int (0+(i:Int))).filter p).map f)))):tComp (mT ta) (gName 0) tt te src σ H Q:=by
 have hin:∀x∈(List.range n.toNat).map λ (i:Nat)=>V.int (0+(i:Int)),∃i:Nat,i<n.toNat/\x=.int (0+(i:Int)):=λ x hx=>by obtain ⟨i,hi,rfl⟩:=N0.mp hx;exact ⟨i,Ob.mp hi,rfl⟩
 have hlen:((List.range n.toNat).map λ (i:Nat)=>V.int (0+(i:Int))).length=n.toNat:=by simp
 refine hl _ λ H' s=>⟨n,rfl,by lia,h1,lR (xs:=(List.range n.toNat).map λ (i:Nat)=>V.int (0+(i:Int))) (by rw [hlen];exact hz) hs p f (λ i hi=>by rw [hlen] at hi;exact hi) (by rw [hlen];exact PF _) (λ i v H2 hi y=>⟨y.1,?_⟩) (λ x hx=>?_) (λ x hx hp=>?_) (λ d' hd'=>q H' d' s hd')⟩
 ·rw [hlen] at hi;rw [N3,Oz hi,y.2];rfl
 ·obtain ⟨i,hi,rfl⟩:=hin x hx;exact ht i H' s hi
 ·obtain ⟨i,hi,rfl⟩:=hin x hx;exact he i H' s hi hp
theorem jP {ta:TA}(n:Int) (hta:∀Q:List V->Hp->Prop,(∀H',aj H H'->Q [.int n] H')->ta σ H Q) (h0: -(2 ^ 62)<=n) (h1:n<2 ^ 62) (Pv:Nat->St->Hp->Prop) (hp0:∀H',aj H H'->Pv 0 σ H')
  (hs:∀i σ H,i<n.toNat->Pv i σ H->g (.int (0+i)) σ H λ σ2 H2=>tB {D with nx:=Pv (i+1),ct:=Pv (i+1),bk:=D.nx} σ2 H2) (hd:∀σ H,Pv n.toNat σ H->D.nx σ H):tFor (mT ta) g tB D σ H:=
 hta _ λ H' s=>⟨n,rfl,h0,h1,wF Pv (hp0 H' s) hs hd⟩
theorem uC {i:Int}{Q:List V->Hp->Prop}(h:Av t σ H vs) (hz:vs.length<=1000) (hi:∀H',Ev te σ H' (.int i)) (e:ke vs i=some v) (q:∀H',aj H H'->Q [v] H'):bo (CP K (vH t) te) cZ σ H Q:=j7 (K:=K) (Q:=λ x H1=>Q [x] H1) h hz hi e q
theorem zv {tc:TE}{z:V}(ha:Ev ta σ H x) (hb:Ev tb σ H y) (hc:Ev tc σ H z) (q:∀p,H p=none->Q (.ref p) (upd H p (.tup [x,y,z]))):zx (bo ta (bo tb (bo tc cZ))) σ H Q:=ha _ (hb _ (hc _ ⟨by show 3<=sizeLine;decide,q⟩))
theorem L5 (h:Tv tt σ H false) (q:u σ H R):L6 tt u σ H R:=h _ (iB q)
theorem qK (P0:Addr->Hp->Prop) (htl:∀Q:VK,(∀d H',P0 d H'->Q (.ref d) H')->tl σ H Q)
  (h:∀d H',P0 d H'->∃xs,aK K H' d xs/\∃Pv:Nat->St->Hp->Prop,Pv 0 σ H'/\(∀i σ' H',Pv i σ' H'->aK K H' d xs)/\
   (∀(i:Nat) x σ' H' t,xs[i]? =some x->Pv i σ' H'->H' t=none->g (.ref t) σ' (upd H' t (.tup [.int (i:Int),x])) λ σ2 H2=>tB {D with nx:=Pv (i+1),ct:=Pv (i+1),bk:=D.nx} σ2 H2)/\(∀σ' H',Pv xs.length σ' H'->D.nx σ' H')):tFor (uZ K tl) g tB D σ H:=by
 refine htl _ λ d H1 p1=>?_;obtain ⟨xs,hq,Pv,hp0,hl,hs,hd⟩:=h d H1 p1;refine ⟨⟨xs,hq⟩,λ i m σ' H'=>m=xs.length - i/\i<=xs.length/\Pv i σ' H',⟨_,rfl,PJ _,hp0⟩,?_⟩;rintro i m σ' H' ⟨rfl,hi,pv⟩;have hS:=hl i σ' H' pv
 by_cases hlt:i<xs.length
 ·refine .inr ⟨⟨xs,xs[i],hS,N2 hlt⟩,Pv (i+1),λ σ2 H2 p2=>⟨xs.length - (i+1),by lia,rfl,hlt,p2⟩,?_⟩;rintro x H2 ⟨t,w,rfl,ht,rfl,hx⟩;exact hs i w σ' H' t (hx xs hS) pv ht
 ·have e:i=xs.length:=by lia
  subst e;exact .inl ⟨⟨xs,hS,PF _⟩,hd σ' H' pv⟩
theorem pW {d:Addr}{xs:List V}{lo hi:Option Int}{tl' th:TO}(ha:Ev ta σ H (.ref d)) (hl:∀Q:Option Int->Hp->Prop,Q lo H->tl' σ H Q) (hh:∀Q:Option Int->Hp->Prop,Q hi H->th σ H Q) (hx:aK K H d xs) (q:∀p,H p=none->Q (.ref p) (upd H p (.lst (gk xs lo hi)))):Nq K ta tl' th σ H Q:=ha _ (hl _ (hh _ ⟨xs,hx,q⟩))
theorem li {ns:List Int}{i:Int}(h0:0<=i) (h1:i<ns.length):∃n:Int,ke (ns.map V.int) i=some (.int n)/\n∈ns:=by
 have hlt:i.toNat<ns.length:=by lia
 have e:(ns.map V.int)[i.toNat]? =some (.int ns[i.toNat]):=by rw [N3,N2 hlt];rfl
 have q:=bn e;have ei:((i.toNat:Nat):Int)=i:=by lia
 rw [ei] at q;exact ⟨_,q,Of hlt⟩
theorem Af {xs:List V}{i:Int}(h0:0<=i) (h1:i<xs.length):∃v,ke xs i=some v/\v∈xs:=by
 have hlt:i.toNat<xs.length:=by lia
 have q:=bn (N2 hlt);have ei:((i.toNat:Nat):Int)=i:=by lia
 rw [ei] at q;exact ⟨_,q,Of hlt⟩
theorem GP {i j:Nat}{d:Addr}{a b:V}{R:St->Hp->Prop}(h:H d=some (.tup [a,b])) (q:R ((σ.set i (some a)).set j (some b)) H):tm K 2 (gf (gName i) (gf (gName j) wC)) (.ref d) σ H R:=⟨d,_,rfl,cJ.of h,rfl,_,_,rfl,_,_,rfl,rfl,q⟩
theorem MH {i j l:Nat}{d:Addr}{a b c:V}{R:St->Hp->Prop}(h:H d=some (.tup [a,b,c])) (q:R (((σ.set i (some a)).set j (some b)).set l (some c)) H):tm K 3 (gf (gName i) (gf (gName j) (gf (gName l) wC))) (.ref d) σ H R:=⟨d,_,rfl,cJ.of h,rfl,_,_,rfl,_,_,rfl,_,_,rfl,rfl,q⟩
theorem JL (h:Av t σ H vs) (q:sp vs H (λ x H1=>g x σ H1 D.nx) E0):tAsg (fC sp t) g D σ H:=h _ q
theorem Bb {xs:List V}{lo hi:Option Int}{v:V}(h:v∈gk xs lo hi):v∈xs:=Pr (OQ h)
end
theorem Ad:∀(n:Nat) (l:List Int),l.length<n->∃s:Nat,s<n/\¬((s:Int)∈l)
 | 0,l,h=>by lia
 | n+1,l,h=>by
   by_cases m:((n:Nat):Int)∈l
   ·have hl:=Pf m;have hp:=O0 m;obtain ⟨s,h1,h2⟩:=Ad n (l.erase ((n:Nat):Int)) (by lia);refine ⟨s,by lia,λ z=>h2 ?_⟩;exact (Pg (by lia)).mpr z
   ·exact ⟨n,by lia,m⟩
def eF (wi hi:Int) (hs:List Int):List Int:=((List.range (wi*hi).toNat).map λ (i:Nat)=>(i:Int)).filter λ i=> !decide (i∈hs)
theorem AV {wi hi:Int}{hs:List Int}{s:Int}(h:s∈eF wi hi hs):0<=s/\s<wi*hi/\¬s∈hs:=by unfold eF at h;rw [Oq] at h;obtain ⟨h1,h2⟩:=h;obtain ⟨i,hi,rfl⟩:=N0.mp h1;have hi:=Ob.mp hi;refine ⟨by lia,by lia,?_⟩;intro z;rw [decide_eq_true z] at h2;cases h2
theorem wE {wi hi:Int}{hs:List Int}(h:(hs.length:Int)<wi*hi):0<(eF wi hi hs).length:=by obtain ⟨s,h1,h2⟩:=Ad (wi*hi).toNat hs (by lia);refine O0 (a:=(s:Int)) ?_;unfold eF;rw [Oq];refine ⟨N0.mpr ⟨s,Ob.mpr h1,rfl⟩,?_⟩;rw [decide_eq_false h2];rfl
def AU (hs:List Int):V->Bool
 | .int i=> !decide (i∈hs)
 | _=>false
theorem tu {wi hi:Int}{hs:List Int}:(((List.range (wi*hi).toNat).map λ (i:Nat)=>V.int (0+(i:Int))).filter (AU hs)).map (λ v=>v)=(eF wi hi hs).map V.int:=by
 unfold eF;rw [List.map_id',Ph,Ph,N7];have e:(AU hs∘λ (i:Nat)=>V.int (0+(i:Int)))=((λ i=> !decide (i∈hs))∘λ (i:Nat)=>(i:Int)):=by funext i;show (!decide (0+(i:Int)∈hs))= !decide ((i:Int)∈hs);rw [Qe]
 rw [e];refine Ov λ i _=>?_;show V.int (0+(i:Int))=V.int (i:Int);rw [Qe]
def cellAt (ns:List Int) (k:Int):Int:=ns.getD k.toNat 0
def mixed (c k:Int):Int:=(c+7919*k+3)*48271 % 2147483647
def iR (b s:Int) (n:Nat):List Nat:=(List.range n).map λ (k:Nat)=>97+((b+s*(k:Int)) % 26).toNat
theorem sV {b s:Int}{n:Nat}:∀c∈iR b s n,jV c:=by intro c hc;obtain ⟨k,_,rfl⟩:=N0.mp hc;unfold jV;lia
theorem wt {b s:Int}{n:Nat}(hn:n<=6) (hs:s∈([1,3,5,7,9,11]:List Int)):(iR b s n).Nodup:=by
 unfold iR;rw [OD,Ou];refine List.Pairwise.imp_of_mem ?_ (OD.mp Pi);intro i j hi hj ne e;have hi:=Ob.mp hi;have hj:=Ob.mp hj;apply ne;simp only [N1,Od,or_false] at hs
 rcases hs with rfl | rfl | rfl | rfl | rfl | rfl
 all_goals omega
def strV (c:Nat):V:=.str (one c)
def iW (K:Frag):Sp:=λ vs H Q _=> ∃(a:Addr) (ns:List Int) (k:Int),vs=[.ref a,.int k]/\aK K H a (ns.map V.int)/\0<=k/\Q (.int (cellAt ns k)) H
def nu:Sp:=λ vs H Q _=> ∃c k:Int,vs=[.int c,.int k]/\Q (.int (mixed c k)) H
def pP (K:Frag):Sp:=λ vs H Q _=> ∃(a:Addr) (ns:List Int),vs=[.ref a]/\aK K H a (ns.map V.int)/\∀(t q:Addr) (wi hi:Int) (hs:List Int) (H':Hp),1<=wi->wi<=8->1<=hi->hi<=8->H' t=some (.tup [.int wi,.int hi,.ref q])->H' q=some (.lst (hs.map V.int))->(∀h∈hs,0<=h/\h<wi*hi)->hs.Nodup->(hs.length:Int)<wi*hi->hs.length<=2->H q=none->H t=none->aj H H'->Q (.ref t) H'
def pO:Sp:=λ vs H Q _=> ∃c:Int,vs=[.int c]/\∀(q:Addr) (ks:List Nat) (H':Hp),H q=none->H' q=some (.lst (ks.map strV))->(∀k∈ks,jV k)->ks.Nodup->1<=ks.length->ks.length<=6->aj H H'->Q (.ref q) H'
structure LG1 (P:Program) (w:World) (K:Frag) (mg:Str->Option Value) (base:Heap):Prop where
 _law_cell_at:cj P w K mg base "_law_cell_at" ["_law_script","_law_k"] 1 (iW K)
 _law_mixed:cj P w K mg base "_law_mixed" ["_law_cell","_law_k"] 1 nu
end L2
namespace L2
open PySem PySem.Spec PyProof.Rows
section
variable {κ:Type} [DecidableEq κ]
def tL (l:List κ) (x:κ):List κ:=if x∈l then l else l++[x]
def bI (val:Nat->κ):Nat->List κ
 | 0=>[]
 | i+1=>tL (bI val i) (val i)
theorem jd (val:Nat->κ):∀i,(bI val i).length<=i
 | 0=>PF 0
 | i+1=>by
   have ih:=jd val i;show (tL (bI val i) (val i)).length<=i+1;unfold tL
   by_cases h:val i∈bI val i
   ·rw [if_pos h];lia
   ·rw [if_neg h,Oa];show _+1<=_;lia
theorem lC (val:Nat->κ) (x:κ):∀i,x∈bI val i<->x∈(List.range i).map val
 | 0=>by simp [bI]
 | i+1=>by
   have ih:=lC val x i;show x∈tL (bI val i) (val i)<->_;rw [OP,Og,Oc,<-ih];unfold tL
   by_cases h:val i∈bI val i
   ·rw [if_pos h]
    constructor
    ·exact λ z=>.inl z
    ·rintro (z | z)
     ·exact z
     ·have:x=val i:=by simpa using z
      rw [this];exact h
   ·rw [if_neg h,Oc];simp
theorem lA (val:Nat->κ):∀i,(bI val i).length=i<->((List.range i).map val).Nodup
 | 0=>by simp [bI]
 | i+1=>by
   have ih:=lA val i;have hle:=jd val i;have hm:=lC val (val i) i;show (tL (bI val i) (val i)).length=i+1<->_;rw [OP,Og,OY];unfold tL
   by_cases h:val i∈bI val i
   ·rw [if_pos h]
    constructor
    ·intro z;lia
    ·intro z;exact absurd rfl (z.2.2 (val i) (hm.mp h) (val i) (by simp))
   ·rw [if_neg h,Oa]
    constructor
    ·intro z;have z:(bI val i).length+1=i+1:=z;refine ⟨ih.mp (by lia),by simp,λ a ha b hb e=>h (hm.mpr ?_)⟩;have:b=val i:=by simpa using hb
     rw [<-this,<-e];exact ha
    ·intro z;rw [ih.mpr z.1];rfl
end
section
variable {prog:Program}{w:World}{A:Around}{R:Result->Shared->Prop}{I:Addr}{fp wr:List Addr}{G:Array GenState->Array GenState->Prop}{n:Nat}{Pt:Nat->Value->Prop}{St:Nat->Shared->Prop}{κ:Type} [DecidableEq κ] {knd:KeyKind prog w κ}
theorem zQ (W:WalksS prog w A.in1 I fp wr G n Pt St) (D:Addr) (hD:D∉fp) (val:Nat->κ) (hv:∀i v,Pt i v->knd.is (val i) v=true/\v.scannable=true) (hb:n+1<scanBound):
  ∀(k i:Nat) (s:Shared),n - i=k->i<=n->St i s->s.heap.SetOf knd D (λ x=>decide (x∈bI val i)) (bI val i).length->
   (∀s2,Moved (D::wr) G s s2->s2.heap.SetOf knd D (λ x=>decide (x∈bI val n)) (bI val n).length->R (.ok (.ret .none)) s2)->codeAny (model prog w) A (.builtin "set.update.loop" ⟨[.ref D,.ref I],[]⟩) R s:=by
 have nW:D∉wr:=λ z=>hD (W.sub _ z);have up:∀b∈wr,b∈D::wr:=λ b z=>N6 _ z;have mv:∀{s s2:Shared} {S:κ->Bool} {m:Nat},Moved wr G s s2->s.heap.SetOf knd D S m->s2.heap.SetOf knd D S m:=λ {s s2 S m} hm ⟨o,es,ep,t,ho,r⟩=>⟨o,es,ep,t,hm.heap D _ nW ho,r⟩;intro k
 induction k with
 | zero=>
   intro i s e1 e2 st hS hR;have e3:i=n:=by lia
   subst e3;refine codeAny_builtin F.entry_set_update_loop ?_;rw [Around.under_plainId F.plain_set_update_loop _];show wpAny _ A.in1 (pyNext (.ref I) >>= _) _ _ s;refine wpAny_bind (W.done s _ _ st λ s2 hm=>?_);show wpAny _ A.in1 (ret Value.none) _ _ s2;exact wpAny_pure (hR s2 (hm.mono up) (mv hm hS))
 | succ k ih=>
   intro i s e1 e2 st hS hR;have e3:i<n:=by lia
   refine codeAny_builtin F.entry_set_update_loop ?_;rw [Around.under_plainId F.plain_set_update_loop _];show wpAny _ A.in1 (pyNext (.ref I) >>= _) _ _ s;refine wpAny_bind (W.item i s _ _ e3 st λ v s2 hp st2 hm=>?_);obtain ⟨kv,sv⟩:=hv i v hp;have hS2:=mv hm hS;show wpAny _ A.in1 (holding [v] (setAdd D v) >>= _) _ _ s2;refine wpAny_bind (wpAny_holding ?_);unfold setAdd;refine wpAny_holding (wpAny_bind (knd.pyHash (k:=val i) kv ?_));have room:(bI val i).length+1<scanBound:=by have:=jd val i;lia
   refine wpAny_setAddHashed_of (knd:=knd) (s:={s2 with toks:=s2.toks+1}) kv sv hS2 room λ h2 sb hS3=>?_;have hS4:h2.SetOf knd D (λ x=>decide (x∈bI val (i+1))) (bI val (i+1)).length:=by
    refine SetOf_congr hS3 (λ x=>?_) ?_
    ·show (decide (x∈bI val i)||decide (x=val i))=decide (x∈tL (bI val i) (val i))
     unfold tL
     by_cases m:val i∈bI val i
     ·rw [if_pos m]
      by_cases e:x=val i
      ·subst e;rw [decide_eq_true m];simp
      ·rw [decide_eq_false e,Qv]
     ·rw [if_neg m,Qq];simp
    ·show (if decide (val i∈bI val i)=true then _ else _)=(tL (bI val i) (val i)).length;unfold tL
     by_cases m:val i∈bI val i
     ·rw [if_pos (decide_eq_true m),if_pos m]
     ·rw [if_neg (by rw [decide_eq_false m];decide),if_neg m,Oa];rfl
   refine wpAny_pure ⟨plainId_quiet F.plain_set_update_loop _,ih (i+1) _ (by lia) e3 (W.frame _ s2 _ _ st2 (PN _) λ b hb o e=>?_) hS4 λ s3 hm3 hS5=>?_⟩
   ·exact (sb.2 b (λ z:b=D=>hD (z▸hb))).trans e
   ·refine hR s3 (Moved.trans W.gtrans ((hm.mono up).then_heap (PN _) λ b o hb e=>?_) hm3) hS5;exact (sb.2 b (λ z:b=D=>hb (by rw [z];exact N9))).trans e
end
section
variable {prog:Program}{w:World}{A:Around}{E:Value->Shared->Prop}{s:Shared}{κ:Type} [DecidableEq κ] {knd:KeyKind prog w κ}
abbrev bY (led:Bool):Obj:={cls:=.type "set",dict:=none,data:=.set #[] 0 (.fresh 0 0 led)}
theorem zP {l:Addr}{its:Array Value}{Q:Value->Shared->Prop}(val:Nat->κ) (hh:A.handled=none) (hl:s.heap.IsList l its) (hv:∀i v,its[i]? =some v->knd.is (val i) v=true/\v.scannable=true) (hb:its.size+1<scanBound)
  (k:∀(h2:Heap) (tk:Nat),h2.SetOf knd s.heap.objs.size (λ x=>decide (x∈bI val its.size)) (bI val its.size).length->(∀b o,b<s.heap.objs.size->s.heap.get? b=some o->h2.get? b=some o)->Q (.ref s.heap.objs.size) {s with heap:=h2,toks:=tk}):
  wpAny (model prog w) A (call (.type "set") [.ref l]) Q E s:=by
 obtain ⟨c0,tl0,hmro⟩:=F.called_set.mro;have hmade:=F.called_set.made;have hsub:=F.called_set.sub;have n1:=F.called_set.notType;have n2:=F.called_set.canCreate;have n3:=F.typeCall_set_1 (.ref l);refine wpAny_call (codeAny_of_tree ?_);show wpAny _ _ (callAny (.type "set") _) _ _ _;refine wpAny_pure ⟨Code.quiet_builtin _ (by decide+kernel),codeAny_builtin F.entry_type_call ?_⟩;rw [Around.under_plain (weight_type_call_type "set" [.ref l] []) rfl]
 repeat (any_goals (first | assumption | wp_step))
 refine codeAny_mono (code_set_new_1 (.ref l) (E:=E) (Q₁:=λ o s1=> ∃led:Bool,o=.ref s.heap.objs.size/\s1={s with heap:=s.heap.push (bY led)}) λ led=>⟨led,rfl,rfl⟩) λ r s1 hr=>?_;cases r with
 | error e=>exact hr
 | ok fl=>
   cases fl with
   | ret ob=>
     obtain ⟨led,rfl,rfl⟩:=hr;have g0:(s.heap.push (bY led)).get? s.heap.objs.size=some (bY led):=Heap.get?_push_size _ rfl;have ty:Shared.TypeIs {s with heap:=s.heap.push (bY led)} (.ref s.heap.objs.size) "set":=⟨_,g0,rfl⟩;have m1:=F.called_set.init.lookup;have m2:=F.called_set.init.bind (.ref s.heap.objs.size)
     repeat (any_goals (first | assumption | wp_step))
     refine codeAny_mono (codeAny_call_builtin (R:=wants (λ r s2=>r=.none/\∃h2 tk,s2={s with heap:=h2,toks:=tk}/\h2.SetOf knd s.heap.objs.size (λ x=>decide (x∈bI val its.size)) (bI val its.size).length/\
       (∀b o,b<s.heap.objs.size->s.heap.get? b=some o->h2.get? b=some o)) E) F.called_set.init.plain F.entry_set_init (check_set_init_1 ty ?_)) λ r2 s2 hr2=>?_
     ·obtain ⟨⟨oc,od,oda,osl⟩,ho,hc,nl,hd⟩:=hl;simp only at hc hd;subst hc;subst hd;have hol:(s.heap.push (bY led)).get? l=some {cls:=.type "list",dict:=od,data:=.seq its nl,slots:=osl}:=Heap.get?_push_of_some _ ho;have b1:=F.sub_list_set;have b2:=F.sub_list_frozenset;have b3:(Value.type "list" == Value.type "dict")=false:=by decide
      have hl1:(s.heap.push (bY led)).IsList l its:=⟨_,hol,rfl,nl,rfl⟩;unfold Builtin.«set.__init__» noKeywords Builtin.Frozenset.updateFrom;generalize hPI:pyIter=PI
      wp_walk
      subst hPI;refine wpAny_pyIter_list hl1 (wpAny_bind (wpAny_runValue ?_));have hlt:l<s.heap.objs.size:=Heap.lt_size ho;have h3:A.in1.in1.in1.handled=none:=by simp [hh]
      have sz:(s.heap.push (bY led)).objs.size=s.heap.objs.size+1:=Heap.size_push ..;have ne1:l≠(s.heap.push (bY led)).objs.size:=by rw [sz];exact PH (PY hlt)
      have ne2:s.heap.objs.size∉[(s.heap.push (bY led)).objs.size,l]:=by
       rw [sz];intro z
       rcases N1.mp z with z | z
       ·exact P4 _ z.symm
       ·exact PM hlt (N5.mp z)
      refine zQ (knd:=knd) ((Walks.list h3 _ l ne1 its).toS) s.heap.objs.size ne2 val hv hb (its.size - 0) 0 _ (by lia) (PJ _) ⟨⟨_,Heap.get?_push_size _ rfl,rfl,rfl⟩,(hl1.push _)⟩ ?_ (λ s3 hm hS3=>?_)
      ·refine SetOf_congr ((setObjOf_fresh (knd:=knd) led).setOf (Heap.get?_push_of_some _ g0) (by unfold scanBound;lia)) (λ x=>?_) rfl;show false=decide (x∈([]:List κ));simp
      ·obtain ⟨hh3,gg3,dd3,tk3,os3⟩:=s3;obtain rfl:gg3=s.gens:=hm.gens;obtain rfl:dd3=s.drawn:=hm.drawn;obtain rfl:os3=s.os:=hm.os;show wpAny _ _ _ _ _ _;refine wpAny_pure ?_;show wpAny _ _ (ret Value.none) _ _ _;refine wpAny_pure ⟨rfl,hh3,tk3,rfl,hS3,λ b o hb2 e=>?_⟩;refine hm.heap b o ?_ (Heap.get?_push_of_some _ (Heap.get?_push_of_some _ e));rw [sz];intro z
       rcases N1.mp z with z | z
       ·exact PH hb2 z
       ·exact PH (PY hb2) (N5.mp z)
     ·cases r2 with
      | error e=>exact hr2
      | ok fl2=>
        cases fl2 with
        | ret r3=>
          obtain ⟨rfl,h2,tk,rfl,hS2,kp⟩:=hr2
          repeat (any_goals (first | assumption | wp_step))
          exact k _ _ hS2 kp
        | _=>exact hr2.elim
   | _=>exact hr.elim
end
def jX (ss:List Str):List Str:=bI (λ i=>ss.getD i Str.empty) ss.length
theorem il (ss:List Str):(jX ss).length=ss.length<->ss.Nodup:=by
 unfold jX;rw [lA];have e:(List.range ss.length).map (λ i=>ss.getD i Str.empty)=ss:=by
  apply OJ;intro i;rw [N3]
  by_cases h:i<ss.length
  ·rw [Oz h,N2 h];show some (ss.getD i Str.empty)=_;rw [N8,N2 h];rfl
  ·rw [Ot (by rw [Ow];lia),Ot (by lia)];rfl
 rw [e]
section
variable {X:Cx}
def uA (K:Frag) (xs:List V) (H:Hp) (Q:VK):Prop:=match xs with
 | [.ref d]=> ∃ss:List Str,aK K H d (ss.map V.str)/\ss.length+1<scanBound/\∀q φ,H q=none->(∀h:Heap,φ h->∃(o:Obj) (es:Array (Int×Value)) (ep:Nat) (t:SetTable),h.get? q=some o/\o.ExactSet/\o.data=.set es ep t/\t.fits es.size=true/\es.size=(jX ss).length)->Q (.ref q) (upd H q (.ext φ))
 | _=>False
theorem tS (hh:X.A.handled=none):aY X (.type "set") (uA X.K):=by
 intro pins s σ H xs us Q I r h;unfold uA at h;split at h
 ·rename_i d;obtain ⟨ss,hq,hb,q⟩:=h;obtain ⟨u,rfl,rx⟩:=dw r;cases rx;obtain ⟨its,r',pl,hz⟩:=I.list hq;have hlen:=r'.length;rw [NZ] at hlen;have hs:its.toArray.size=ss.length:=by rw [N4,<-hlen]
  refine zP (knd:=PySem.strKind X.prog X.w) (λ i=>ss.getD i Str.empty) hh pl.isList (λ i v hv=>?_) (by rw [hs];exact hb) λ h2 tk hS kp=>?_
  ·rw [Pe] at hv;have hi:i<its.length:=(Oe.mp hv).1;have hx:(ss.map V.str)[i]? =some (.str (ss.getD i Str.empty)):=by rw [N3,N8,N2 (by lia)];rfl
   obtain ⟨u,hu,ru⟩:=r'.get hx;rw [hv] at hu;cases hu;obtain ⟨t,rfl⟩:=ru;exact ⟨by simp [PySem.strKind,Value.isStrOf],rfl⟩
  ·rw [hs] at hS;have k2:∀b u,s.heap.get? b=some u->h2.get? b=some u:=λ b u e=>kp b u (Heap.lt_size e) e;obtain ⟨o,es,ep,t,h1,h2',h3,_,_,h6,h7,h8⟩:=hS;refine ⟨.ref s.heap.objs.size,upd H s.heap.objs.size (.ext λ h=>h.get? s.heap.objs.size=some o),I.laid (t':=tk) k2 (PF _) ?_,rfl,q _ _ (I.hok.fresh (PF _)) λ h e=>⟨o,es,ep,t,e,h2',h3,h7,h8⟩⟩;exact ⟨h1,⟨o,h1⟩,λ h1 h2 e k=>k o e⟩
 ·exact h.elim
def Ax (xs:List V) (H:Hp) (Q:VK):Prop:=match xs with
 | [.ref d]=> ∃(φ:Heap->Prop) (n:Nat),H d=some (.ext φ)/\n<=1000/\(∀h:Heap,φ h->∃(o:Obj) (es:Array (Int×Value)) (ep:Nat) (t:SetTable),h.get? d=some o/\o.ExactSet/\o.data=.set es ep t/\t.fits es.size=true/\es.size=n)/\Q (.int n) H
 | _=>False
theorem lU:aY X (.builtin "len") Ax:=by
 intro pins s σ H xs us Q I r h;unfold Ax at h;split at h
 ·rename_i d;obtain ⟨φ,n,hd,hn,hφ,q⟩:=h;obtain ⟨u,rfl,rx⟩:=dw r;cases rx;obtain ⟨p,_,_⟩:=(show bw X.prog X.w H s.heap d (.ext φ) from I.hok d _ hd);obtain ⟨o,es,ep,t,h1,h2,h3,h4,h5⟩:=hφ _ p;subst h5;exact PySem.call_len_set h1 h2 h3 h4 (by lia) ⟨.int es.size,H,I.tok _,⟨_,rfl⟩,q⟩
 ·exact h.elim
theorem GK (K:Frag) {j:Nat}(hr:cP j X.A) (hK:X.K=K:=by rfl):aY X (.type "set") (uA K):=by subst hK;exact tS hr.hd
end
theorem qB {K:Frag}{σ:St}{H:Hp}{Q:VK}{te:TE}{d:Addr}{ss:List Str}(h:Ev te σ H (.ref d)) (hd:aK K H d (ss.map V.str)) (hl:ss.length<=1000) (q:∀H',aj H H'->Q (.int (jX ss).length) H'):cB Ax (bo (cB (uA K) (bo te cZ)) cZ) σ H Q:=
 h _ ⟨ss,hd,by show ss.length+1<4096;lia,λ p φ hp hφ=>⟨φ,_,ag,PK (jd _ _) hl,hφ,q _ ((aj.refl H).upd hp)⟩⟩
end L2
namespace L2
open PySem PySem.Spec PyProof.Rows
section
variable {X:Cx}
theorem vV (ks:List Bool):(List.range ks.length).any (λ i=>ks.getD i false)=ks.any id:=by
 rw [Qq,OC,OC]
 constructor
 ·rintro ⟨i,hi,e⟩;have hi:=Ob.mp hi;rw [N8,N2 hi] at e;exact ⟨_,Of hi,e⟩
 ·rintro ⟨b,hb,e⟩;obtain ⟨i,hi,e2⟩:=Pq.mp hb;refine ⟨i,Ob.mpr hi,?_⟩;rw [N8,N2 hi,e2];exact e
def JM (K:Frag) (xs:List V) (H:Hp) (Q:VK):Prop:=match xs with
 | [.ref d]=> ∃ks:List Bool,aK K H d (ks.map V.bl)/\Q (.bl (ks.any id)) H
 | _=>False
theorem wR (hc:X.calm=true):aY X (.builtin "any") (JM X.K):=by
 intro pins s σ H xs us Q I r h;unfold JM at h;split at h
 ·rename_i p;obtain ⟨ks,hp,q⟩:=h;obtain ⟨u,rfl,ru⟩:=dw r;cases ru;obtain ⟨its,rv,pl,hl⟩:=I.list hp;have hlen:=rv.length;rw [NZ] at hlen;refine call_any_walk (wpAny_pyIter_list pl.isList ?_);have hne:p≠s.heap.objs.size:=by obtain ⟨o,ho,_⟩:=pl.isList;exact PH (Heap.lt_size ho)
  have W:=Walks.list (prog:=X.prog) (w:=X.w) (A:=X.A.in1) (show X.A.in1.handled=none from I.ok.hd hc) s.heap.objs.size p hne its.toArray;have hpush:∀o b ob,s.heap.get? b=some ob->(s.heap.push o).get? b=some ob:=λ o b ob e=>Heap.get?_push_of_some _ e;refine ⟨_,_,_,_,_,_,λ i=>ks.getD i false,rfl,W,⟨⟨_,Heap.get?_push_size _ rfl,rfl,rfl⟩,pl.isList.at λ o e=>hpush _ _ o e⟩,pF rv,λ h' tk k=>?_⟩;have e:(List.range its.toArray.size).any (λ i=>ks.getD i false)=ks.any id:=by rw [<-vV,N4,<-hlen]
  rw [e];refine ⟨.bl _,H,I.kept (t':=tk) (h':=h') λ b ob e=>k b ob ?_ (hpush _ b ob e),rfl,q⟩;intro hb;have:b=s.heap.objs.size:=by simpa using hb
  subst this;exact absurd (Heap.lt_size e) (PP _)
 ·exact h.elim
theorem NJ (K:Frag) (hc:X.calm=true:=by rfl) (hK:X.K=K:=by rfl):aY X (.builtin "any") (JM K):=by subst hK;exact wR hc
end
def Thg (H:Hp):V->Prop
 | .non=>True
 | .bl _=>True
 | .int _=>True
 | .str z=>z.length<=1000
 | .ref a=>(∃xs,H a=some (.lst xs))\/(∃xs,H a=some (.tup xs))\/(∃kvs,H a=some (.dK kvs))
 | _=>False
def lG (T:BT) (H:Hp):V->Bool
 | .bl _=>dS .bool T
 | .int _=>dS .int T
 | .str _=>dS .str T
 | .ref a=>match H a with
   | some (.lst _)=>dS .list T
   | some (.tup _)=>dS .tuple T
   | some (.dK _)=>dS .dict T
   | _=>false
 | _=>false
def tupOf (H:Hp):V->Option (List V)
 | .ref a=>match H a with
   | some (.tup xs)=>some xs
   | _=>none
 | _=>none
def lstOf (H:Hp):V->Option (List V)
 | .ref a=>match H a with
   | some (.lst xs)=>some xs
   | _=>none
 | _=>none
def eC (H:Hp):Nat->V->Prop
 | 0,v=>Thg H v
 | n+1,v=>Thg H v/\∀xs,(tupOf H v=some xs\/lstOf H v=some xs)->∀x∈xs,eC H n x
theorem eC.thg {H:Hp}{n:Nat}{v:V}(h:eC H n v):Thg H v:=by
 cases n with
 | zero=>exact h
 | succ n=>exact h.1
def zo:V->Bool
 | .int _=>true
 | _=>false
def amongB (v:V) (a b:Int):Bool:=match v with
 | .int i=>decide (a<=i/\i<=b)
 | _=>false
def wordB (v:V) (ws:List Str):Bool:=match v with
 | .str z=>decide (z∈ws)
 | _=>false
section
variable {K:Frag}{σ:St}{H H':Hp}{te ta tb:TE}{v:V}{T:BT}{ws:List Str}
theorem Thg.same (h:Thg H v) (s:aj H H'):Thg H' v:=by
 cases v with
 | ref a=>
   rcases h with ⟨xs,e⟩ | ⟨xs,e⟩ | ⟨xs,e⟩
   ·exact .inl ⟨xs,s _ _ e⟩
   ·exact .inr (.inl ⟨xs,s _ _ e⟩)
   ·exact .inr (.inr ⟨xs,s _ _ e⟩)
 | _=>exact h
theorem eS (h:Thg H v) (s:aj H H'):tupOf H' v=tupOf H v:=by
 cases v with
 | ref a=>
   rcases h with ⟨xs,e⟩ | ⟨xs,e⟩ | ⟨xs,e⟩<;>simp only [tupOf,e,s _ _ e]
 | _=>rfl
theorem gt (h:Thg H v) (s:aj H H'):lstOf H' v=lstOf H v:=by
 cases v with
 | ref a=>
   rcases h with ⟨xs,e⟩ | ⟨xs,e⟩ | ⟨xs,e⟩<;>simp only [lstOf,e,s _ _ e]
 | _=>rfl
theorem eC.same {n:Nat}:∀{v:V},eC H n v->aj H H'->eC H' n v:=by
 induction n with
 | zero=>intro v h s;exact Thg.same h s
 | succ n ih=>
   intro v h s;refine ⟨h.1.same s,λ xs hx x hm=>ih (h.2 xs ?_ x hm) s⟩;rw [eS h.1 s,gt h.1 s] at hx;exact hx
theorem eQ {xs:List V}(h:tupOf H v=some xs):∃a,v=.ref a/\H a=some (.tup xs):=by
 cases v with
 | ref a=>
   simp only [tupOf] at h;split at h
   ·rename_i e;cases h;exact ⟨a,rfl,e⟩
   ·cases h
 | _=>cases h
theorem fj {xs:List V}(h:lstOf H v=some xs):∃a,v=.ref a/\H a=some (.lst xs):=by
 cases v with
 | ref a=>
   simp only [lstOf] at h;split at h
   ·rename_i e;cases h;exact ⟨a,rfl,e⟩
   ·cases h
 | _=>cases h
theorem lM (h:Ev te σ H v) (t:Thg H v):Ev (M5 T te) σ H (.bl (lG T H v)):=λ Q q=>h _ (by
 cases v with
 | ref a=>
   rcases t with ⟨xs,e⟩ | ⟨xs,e⟩ | ⟨xs,e⟩<;>(simp only [Co,e];simp only [lG,e] at q;exact q)
 | non=>exact q
 | bl b=>exact q
 | int b=>exact q
 | str b=>exact q
 | _=>exact t.elim)
theorem zn (t:Thg H v):(lG .int H v&& !lG .bool H v)=zo v:=by
 cases v with
 | ref a=>rcases t with ⟨xs,e⟩ | ⟨xs,e⟩ | ⟨xs,e⟩<;>(simp only [lG,e];rfl)
 | non=>rfl
 | bl b=>rfl
 | int b=>rfl
 | str b=>rfl
 | _=>exact t.elim
theorem rB (t:Thg H v):lG .str H v=(match v with | .str _=>true | _=>false):=by
 cases v with
 | ref a=>rcases t with ⟨xs,e⟩ | ⟨xs,e⟩ | ⟨xs,e⟩<;>(simp only [lG,e];rfl)
 | non=>rfl
 | bl b=>rfl
 | int b=>rfl
 | str b=>rfl
 | _=>exact t.elim
theorem Ii (t:Thg H v):lG .tuple H v=(tupOf H v).isSome:=by
 cases v with
 | ref a=>rcases t with ⟨xs,e⟩ | ⟨xs,e⟩ | ⟨xs,e⟩<;>(simp only [lG,tupOf,e];rfl)
 | non=>rfl
 | bl b=>rfl
 | int b=>rfl
 | str b=>rfl
 | _=>exact t.elim
theorem Jd (t:Thg H v):lG .list H v=(lstOf H v).isSome:=by
 cases v with
 | ref a=>rcases t with ⟨xs,e⟩ | ⟨xs,e⟩ | ⟨xs,e⟩<;>(simp only [lG,lstOf,e];rfl)
 | non=>rfl
 | bl b=>rfl
 | int b=>rfl
 | str b=>rfl
 | _=>exact t.elim
theorem AH (z:Str) (ws:List Str):Cp (.str z) (ws.map V.str)=decide (z∈ws):=by
 unfold Cp;rw [Pd]
 by_cases h:z∈ws
 ·rw [decide_eq_true h];exact OC.mpr ⟨z,h,by simp [jQ]⟩
 ·rw [decide_eq_false h];apply OM.mpr;intro y hy;have:y≠z:=λ e=>h (e▸hy);simp [jQ,this]
theorem wG (ss:List Str):(ss.map V.str).all dl=true:=On.mpr λ x hx=>by obtain ⟨z,_,rfl⟩:=N0.mp hx;rfl
theorem tG {z:Str}{p:Addr}(ha:Ev ta σ H (.str z)) (hb:Ev tb σ H (.ref p)) (h:aK K H p (ws.map V.str)\/cJ K H p (ws.map V.str)):Ev (eB K .In ta tb) σ H (.bl (decide (z∈ws))):=λ Q q=>ha _ (hb _ (by
 show eA K .In (.str z) (.ref p) H Q;rw [jc];refine ⟨p,_,rfl,h,rfl,wG ws,?_⟩;rw [AH];exact q))
end
def sortsL:List Str:=["leap","slide","jump"]
def aimsL:List Str:=["go","hit","any"]
def gF:List Str:=["without","home"]
def gN:List Str:=["lost","even","won"]
def tupB (H:Hp) (v:V) (n:Int):Bool:=match tupOf H v with
 | some xs=>decide ((xs.length:Int)=n)
 | none=>false
def jL (H:Hp) (v:V) (a b:Int):Bool:=match lstOf H v with
 | some xs=>decide (a<=(xs.length:Int)/\(xs.length:Int)<=b)
 | none=>false
def limS (so:Str):Int:=if so="leap" then 3 else 1
def jZ (so:Str) (x y:V):Bool:=amongB x (-limS so) (limS so)&&amongB y (-limS so) (limS so)&& !(decide (x=.int 0)&&decide (y=.int 0))
def iD (xs:List V) (ws:List Str):Bool:=match xs with
 | [k,.str so,.str ai,x,y]=>wordB k ws&&decide (so∈sortsL)&&decide (ai∈aimsL)&& !(decide (so="jump")&& !decide (ai="hit"))&&jZ so x y
 | _=>false
def df (H:Hp) (v:V) (ws:List Str):Bool:=match tupOf H v with
 | some xs=>iD xs ws
 | none=>false
def qj (xs:List V) (A B:List Str):Bool:=match xs with
 | [a,b]=>wordB a A&&wordB b B
 | _=>false
def dj (H:Hp) (v:V) (A B:List Str):Bool:=match tupOf H v with
 | some xs=>qj xs A B
 | none=>false
def pairsB (H:Hp) (v:V) (A B:List Str):Bool:=match lstOf H v with
 | some vs=>decide (vs.length<=6)&&vs.all (λ x=>dj H x A B)
 | none=>false
def cb (H:Hp) (v:V):Str:=match tupOf H v with
 | some (.str a::_)=>a
 | _=>Str.empty
def fL (H:Hp) (v:V):Str:=match tupOf H v with
 | some (_:: .str b::_)=>b
 | _=>Str.empty
def eP (H:Hp) (v:V) (ws:List Str):Bool:=pairsB H v ws ws&&match lstOf H v with
 | some vs=> !(vs.any λ x=>decide (fL H x∈vs.map (cb H)))&&decide ((vs.map (cb H)).Nodup)
 | none=>false
def kR:Sp:=λ vs H Q _=> ∃v,vs=[v]/\Thg H v/\Q (.bl (zo v)) H
def gR:Sp:=λ vs H Q _=> ∃v a b,vs=[v,.int a,.int b]/\Thg H v/\Q (.bl (amongB v a b)) H
def gH (K:Frag) (H:Hp) (d:Addr) (ws:List Str):Prop:=aK K H d (ws.map V.str)\/cJ K H d (ws.map V.str)
def io (K:Frag):Sp:=λ vs H Q _=> ∃v d ws,vs=[v,.ref d]/\Thg H v/\gH K H d ws/\Q (.bl (wordB v ws)) H
def gQ:Sp:=λ vs H Q _=> ∃v n,vs=[v,.int n]/\Thg H v/\Q (.bl (tupB H v n)) H
def nv:Sp:=λ vs H Q _=> ∃v a b,vs=[v,.int a,.int b]/\Thg H v/\Q (.bl (jL H v a b)) H
def um:Sp:=λ vs H Q _=> ∃so x y,vs=[.str so,x,y]/\Thg H x/\Thg H y/\Q (.bl (jZ so x y)) H
def uo (K:Frag):Sp:=λ vs H Q _=> ∃v d ws,vs=[v,.ref d]/\eC H 1 v/\gH K H d ws/\Q (.bl (df H v ws)) H
def uq (K:Frag):Sp:=λ vs H Q _=> ∃v d e A B,vs=[v,.ref d,.ref e]/\eC H 1 v/\gH K H d A/\gH K H e B/\Q (.bl (dj H v A B)) H
def pM (K:Frag):Sp:=λ vs H Q _=> ∃v d e A B,vs=[v,.ref d,.ref e]/\eC H 2 v/\gH K H d A/\gH K H e B/\∀H',aj H H'->Q (.bl (pairsB H v A B)) H'
def pI (K:Frag):Sp:=λ vs H Q _=> ∃v d ws,vs=[v,.ref d]/\eC H 2 v/\gH K H d ws/\∀H',aj H H'->Q (.bl (eP H v ws)) H'
def ux (K:Frag):Sp:=λ vs H Q _=> ∃v d ws,vs=[v,.ref d]/\eC H 2 v/\gH K H d ws/\∀H',aj H H'->Q (.bl (pairsB H v gF ws)) H'
theorem uc {σ:St}{H:Hp}{Q:VK}{ta tb:TE}{a:Bool}(ha:Ev ta σ H (.bl a)) (h1:a=true->tb σ H Q) (h2:a=false->Q (.bl false) H):vt ta tb σ H Q:=ha _ (by
 cases a with
 | true=>exact h1 rfl
 | false=>exact h2 rfl)
theorem Bg {K:Frag}{σ:St}{H:Hp}{Q:VK}{ta tb:TE}{op:CmpOp}(h:ta σ H λ x H1=>tb σ H1 λ y H2=>eA K op x y H2 Q):eB K op ta tb σ H Q:=h
theorem v6 {H:Hp}{v:V}{A B:List Str}(h:pairsB H v A B=true):∃xs,lstOf H v=some xs/\xs.length<=6/\∀x∈xs,∃c f1 f2,x=.ref c/\H c=some (.tup [.str f1,.str f2]):=by
 unfold pairsB at h;cases e1:lstOf H v with
 | none=>rw [e1] at h;cases h
 | some xs=>
   rw [e1] at h;have h:(decide (xs.length<=6)&&xs.all (λ x=>dj H x A B))=true:=h;rw [Qp] at h;refine ⟨xs,rfl,of_decide_eq_true h.1,λ x hx=>?_⟩;have hp:=On.mp h.2 x hx;unfold dj at hp;cases e2:tupOf H x with
   | none=>rw [e2] at hp;cases hp
   | some ys=>
     rw [e2] at hp;obtain ⟨c,rfl,hc⟩:=eQ e2;have hp:qj ys A B=true:=hp
     match ys,hp,hc with
     | [a,b],hp,hc=>
       have hp:(wordB a A&&wordB b B)=true:=hp;rw [Qp] at hp;cases a with
       | str f1=>
         cases b with
         | str f2=>exact ⟨c,f1,f2,rfl,hc⟩
         | _=>cases hp.2
       | _=>cases hp.1
     | [],hp,_=>cases hp
     | [_],hp,_=>cases hp
     | _::_::_::_,hp,_=>cases hp
structure RG0 (P:Program) (w:World) (K:Frag) (mg:Str->Option Value) (base:Heap):Prop where
 is_whole:cj P w K mg base "is_whole" ["thing"] 1 kR
structure RG1 (P:Program) (w:World) (K:Frag) (mg:Str->Option Value) (base:Heap):Prop where
 is_among:cj P w K mg base "is_among" ["thing","least","most"] 2 gR
structure RG2 (P:Program) (w:World) (K:Frag) (mg:Str->Option Value) (base:Heap):Prop where
 is_word:cj P w K mg base "is_word" ["thing","words"] 1 (io K)
 is_tuple_of:cj P w K mg base "is_tuple_of" ["thing","many"] 1 gQ
structure RG3 (P:Program) (w:World) (K:Frag) (mg:Str->Option Value) (base:Heap):Prop extends RG2 P w K mg base where
 is_step:cj P w K mg base "is_step" ["sort","across","up"] 3 um
structure RG4 (P:Program) (w:World) (K:Frag) (mg:Str->Option Value) (base:Heap):Prop where
 is_list_of:cj P w K mg base "is_list_of" ["thing","least","most"] 1 nv
 is_pair:cj P w K mg base "is_pair" ["thing","firsts","seconds"] 2 (uq K)
structure RG5 (P:Program) (w:World) (K:Frag) (mg:Str->Option Value) (base:Heap):Prop where
 are_pairs:cj P w K mg base "are_pairs" ["thing","firsts","seconds"] 3 (pM K)
end L2
namespace L2
open PySem PySem.Spec PyProof.Rows
def letB:V->Bool
 | .str z=>match z.cps.toList with
   | [c]=>decide (97<=c/\c<=122)
   | _=>false
 | _=>false
def gO:V->Str
 | .str z=>z
 | _=>Str.empty
def lE (H:Hp) (v:V):Bool:=match lstOf H v with
 | some xs=>decide (1<=xs.length/\xs.length<=6)&&xs.all letB&&decide ((xs.map gO).Nodup)
 | none=>false
def dX (H:Hp) (v:V) (ws:List Str):Bool:=match lstOf H v with
 | some xs=>decide (xs.length<=24)&&xs.all (λ x=>df H x ws)
 | none=>false
theorem L8:("a":Str).cps.toList=[97]:=by decide+kernel
theorem L7:("z":Str).cps.toList=[122]:=by decide+kernel
theorem Jc {c d:Nat}:([c]<[d])<->c<d:=by
 constructor
 ·intro h;cases h with
  | rel h=>exact h
  | cons h=>cases h
 ·intro h;exact List.Lex.rel h
theorem CD {K:Frag}{σ:St}{H:Hp}{ta tb tc:TE}{x y z:Str}(ha:Ev ta σ H (.str x)) (hb:Ev tb σ H (.str y)) (hc:Ev tc σ H (.str z)):Ev (pc K .LtE .LtE ta tb tc) σ H (.bl (!decide (y.cps.toList<x.cps.toList)&& !decide (z.cps.toList<y.cps.toList))):=λ Q q=>ha _ (hb _ (by
 show eA K .LtE (.str x) (.str y) H _;rw [vX,r_b];cases h: !decide (y.cps.toList<x.cps.toList) with
 | true=>
   rw [h] at q;exact hc _ q
 | false=>
   rw [h] at q;exact q))
def mD:Sp:=λ vs H Q _=> ∃v,vs=[v]/\Thg H v/\Q (.bl (letB v)) H
def pQ:Sp:=λ vs H Q _=> ∃v,vs=[v]/\eC H 1 v/\∀H',aj H H'->Q (.bl (lE H v)) H'
def pK (K:Frag):Sp:=λ vs H Q _=> ∃v d ws,vs=[v,.ref d]/\eC H 2 v/\gH K H d ws/\∀H',aj H H'->Q (.bl (dX H v ws)) H'
theorem Aw {v:V}(h:letB v=true):∃c,v=.str (one c)/\jV c:=by
 cases v with
 | str z=>
   match e:z.cps.toList with
   | [c]=>
     simp only [letB,e] at h;exact ⟨c,by rw [nc (x:=z) (y:=one c) (by rw [e])],of_decide_eq_true (p:=97<=c/\c<=122) h⟩
   | []=>simp only [letB,e] at h;cases h
   | _::_::_=>simp only [letB,e] at h;cases h
 | _=>cases h
structure pD (K:Frag) (C:Addr):Prop where
 cl:rf K C
 board:bV K C "board"
 kinds:bV K C "kinds"
 rules:bV K C "rules"
 turns:bV K C "turns"
 ends:bV K C "ends"
 stuck:bV K C "stuck"
def gf1 (b:Addr):List (Str×V):=putF "board" (.ref b) []
def gf2 (b k:Addr):List (Str×V):=putF "kinds" (.ref k) (gf1 b)
def gf3 (b k r:Addr):List (Str×V):=putF "rules" (.ref r) (gf2 b k)
def gf4 (b k r t:Addr):List (Str×V):=putF "turns" (.ref t) (gf3 b k r)
def BD (b k r t e:Addr):List (Str×V):=putF "ends" (.ref e) (gf4 b k r t)
def fm (b k r t e:Addr) (st:Str):List (Str×V):=putF "stuck" (.str st) (BD b k r t e)
section
variable {b k r t e:Addr}{st:Str}
theorem AR:(fm b k r t e st).lookup ("board":Str)=some (.ref b):=by unfold fm BD gf4 gf3 gf2 gf1;rw [au,if_neg (by decide+kernel),au,if_neg (by decide+kernel),au,if_neg (by decide+kernel),au,if_neg (by decide+kernel),au,if_neg (by decide+kernel),au,if_pos rfl]
theorem AQ:(fm b k r t e st).lookup ("kinds":Str)=some (.ref k):=by unfold fm BD gf4 gf3 gf2;rw [au,if_neg (by decide+kernel),au,if_neg (by decide+kernel),au,if_neg (by decide+kernel),au,if_neg (by decide+kernel),au,if_pos rfl]
theorem AO:(fm b k r t e st).lookup ("rules":Str)=some (.ref r):=by unfold fm BD gf4 gf3;rw [au,if_neg (by decide+kernel),au,if_neg (by decide+kernel),au,if_neg (by decide+kernel),au,if_pos rfl]
theorem AM:(fm b k r t e st).lookup ("turns":Str)=some (.ref t):=by unfold fm BD gf4;rw [au,if_neg (by decide+kernel),au,if_neg (by decide+kernel),au,if_pos rfl]
theorem Ct:(fm b k r t e st).lookup ("ends":Str)=some (.ref e):=by unfold fm BD;rw [au,if_neg (by decide+kernel),au,if_pos rfl]
theorem AN:(fm b k r t e st).lookup ("stuck":Str)=some (.str st):=by unfold fm;rw [au,if_pos rfl]
theorem MI {m:Str}(h1:¬m="board") (h2:¬m="kinds") (h3:¬m="rules") (h4:¬m="turns") (h5:¬m="ends") (h6:¬m="stuck"):(fm b k r t e st).lookup m=none:=by unfold fm BD gf4 gf3 gf2 gf1;rw [au,if_neg h6,au,if_neg h5,au,if_neg h4,au,if_neg h3,au,if_neg h2,au,if_neg h1];rfl
theorem Jt:(gf1 b).length<=1/\(gf2 b k).length<=2/\(gf3 b k r).length<=3/\(gf4 b k r t).length<=4/\(BD b k r t e).length<=5:=by have a1:(gf1 b).length<=1:=bG "board" (.ref b) [];have a2:(gf2 b k).length<=(gf1 b).length+1:=bG "kinds" (.ref k) (gf1 b);have a3:(gf3 b k r).length<=(gf2 b k).length+1:=bG "rules" (.ref r) (gf2 b k);have a4:(gf4 b k r t).length<=(gf3 b k r).length+1:=bG "turns" (.ref t) (gf3 b k r);have a5:(BD b k r t e).length<=(gf4 b k r t).length+1:=bG "ends" (.ref e) (gf4 b k r t);lia
end
structure dW (C:Addr) (H:Hp) (p b:Addr) (ks rs ts es:List V) (st:Str):Prop where
 ex:∃dx kq rq tq eq,H p=some (.ins C dx (fm b kq rq tq eq st))/\H kq=some (.lst ks)/\H rq=some (.lst rs)/\H tq=some (.lst ts)/\H eq=some (.lst es)
section
variable {K:Frag}{C:Addr}{H H':Hp}{p b:Addr}{ks rs ts es:List V}{st:Str}
theorem dW.same (G:dW C H p b ks rs ts es st) (s:aj H H'):dW C H' p b ks rs ts es st:=by obtain ⟨dx,kq,rq,tq,eq,a,c,d,e,f⟩:=G.ex;exact ⟨dx,kq,rq,tq,eq,s _ _ a,s _ _ c,s _ _ d,s _ _ e,s _ _ f⟩
theorem dW.board (G:dW C H p b ks rs ts es st) (D:pD K C):Fl K H p "board" (.ref b):=by obtain ⟨dx,kq,rq,tq,eq,a,_⟩:=G.ex;exact ⟨C,dx,_,a,D.cl,D.board,AR⟩
theorem dW.kinds (G:dW C H p b ks rs ts es st) (D:pD K C):∃q,Fl K H p "kinds" (.ref q)/\H q=some (.lst ks):=by obtain ⟨dx,kq,rq,tq,eq,a,c,d,e,f⟩:=G.ex;exact ⟨kq,⟨C,dx,_,a,D.cl,D.kinds,AQ⟩,c⟩
theorem dW.rules (G:dW C H p b ks rs ts es st) (D:pD K C):∃q,Fl K H p "rules" (.ref q)/\H q=some (.lst rs):=by obtain ⟨dx,kq,rq,tq,eq,a,c,d,e,f⟩:=G.ex;exact ⟨rq,⟨C,dx,_,a,D.cl,D.rules,AO⟩,d⟩
theorem dW.turns (G:dW C H p b ks rs ts es st) (D:pD K C):∃q,Fl K H p "turns" (.ref q)/\H q=some (.lst ts):=by obtain ⟨dx,kq,rq,tq,eq,a,c,d,e,f⟩:=G.ex;exact ⟨tq,⟨C,dx,_,a,D.cl,D.turns,AM⟩,e⟩
theorem dW.ends (G:dW C H p b ks rs ts es st) (D:pD K C):∃q,Fl K H p "ends" (.ref q)/\H q=some (.lst es):=by obtain ⟨dx,kq,rq,tq,eq,a,c,d,e,f⟩:=G.ex;exact ⟨eq,⟨C,dx,_,a,D.cl,D.ends,Ct⟩,f⟩
theorem dW.stuck (G:dW C H p b ks rs ts es st) (D:pD K C):Fl K H p "stuck" (.str st):=by obtain ⟨dx,kq,rq,tq,eq,a,_⟩:=G.ex;exact ⟨C,dx,_,a,D.cl,D.stuck,AN⟩
theorem dW.no (G:dW C H p b ks rs ts es st) {m:Str}(h1:¬m="board":=by decide+kernel) (h2:¬m="kinds":=by decide+kernel) (h3:¬m="rules":=by decide+kernel) (h4:¬m="turns":=by decide+kernel) (h5:¬m="ends":=by decide+kernel) (h6:¬m="stuck":=by decide+kernel):re C m H p:=by obtain ⟨dx,kq,rq,tq,eq,a,_⟩:=G.ex;exact ⟨dx,_,a,MI h1 h2 h3 h4 h5 h6⟩
end
section
variable {H H':Hp}{v:V}{A B ws:List Str}
theorem sj (t:Thg H v) (s:aj H H'):dj H' v A B=dj H v A B:=by unfold dj;rw [eS t s]
theorem rV (t:Thg H v) (s:aj H H'):df H' v ws=df H v ws:=by unfold df;rw [eS t s]
theorem wD (t:Thg H v) (s:aj H H'):cb H' v=cb H v:=by unfold cb;rw [eS t s]
theorem vI (t:Thg H v) (s:aj H H'):fL H' v=fL H v:=by unfold fL;rw [eS t s]
theorem qY {f g:V->Bool}{xs:List V}(h:∀x∈xs,f x=g x):xs.all f=xs.all g:=by
 induction xs with
 | nil=>rfl
 | cons a r ih=>rw [Op,Op,h a (by simp),ih λ x hx=>h x (by simp [hx])]
theorem Br {f g:V->Bool}{xs:List V}(h:∀x∈xs,f x=g x):xs.any f=xs.any g:=by
 induction xs with
 | nil=>rfl
 | cons a r ih=>rw [OH,OH,h a (by simp),ih λ x hx=>h x (by simp [hx])]
theorem j4 (t:eC H 2 v) (s:aj H H'):pairsB H' v A B=pairsB H v A B:=by
 unfold pairsB;rw [gt t.1 s];cases e:lstOf H v with
 | none=>rfl
 | some xs=>
   show (_&&xs.all _)=(_&&xs.all _);rw [qY (g:=λ x=>dj H x A B) λ x hx=>sj (t.2 xs (.inr e) x hx).thg s]
theorem qg (t:eC H 2 v) (s:aj H H'):dX H' v ws=dX H v ws:=by
 unfold dX;rw [gt t.1 s];cases e:lstOf H v with
 | none=>rfl
 | some xs=>
   show (_&&xs.all _)=(_&&xs.all _);rw [qY (g:=λ x=>df H x ws) λ x hx=>rV (t.2 xs (.inr e) x hx).thg s]
theorem pE (t:eC H 2 v) (s:aj H H'):eP H' v ws=eP H v ws:=by
 unfold eP;rw [j4 t s,gt t.1 s];cases e:lstOf H v with
 | none=>rfl
 | some xs=>
   have tx:∀x∈xs,Thg H x:=λ x hx=>(t.2 xs (.inr e) x hx).thg;have em:xs.map (cb H')=xs.map (cb H):=Ov λ x hx=>wD (tx x hx) s;show (_&&((!xs.any λ x=>decide (fL H' x∈xs.map (cb H')))&&decide ((xs.map (cb H')).Nodup)))=(_&&((!xs.any λ x=>decide (fL H x∈xs.map (cb H)))&&decide ((xs.map (cb H)).Nodup)));rw [em,Br (g:=λ x=>decide (fL H x∈xs.map (cb H))) λ x hx=>by rw [vI (tx x hx) s]]
end
def uw (K:Frag) (C:Addr):Sp:=λ vs H Q _=> ∃(p b kd rd td ed dx:Addr) (ws:List Str) (rs ts es:List V) (st:Str),vs=[.ref p,.ref b,.ref kd,.ref rd,.ref td,.ref ed,.str st]/\H p=some (.ins C dx [])/\H kd=some (.lst (ws.map V.str))/\H rd=some (.lst rs)/\H td=some (.lst ts)/\H ed=some (.lst es)/\
 eC H 1 (.ref kd)/\eC H 2 (.ref rd)/\eC H 2 (.ref td)/\eC H 2 (.ref ed)/\lE H (.ref kd)=true/\dX H (.ref rd) ws=true/\eP H (.ref td) ws=true/\pairsB H (.ref ed) gF ws=true/\st∈gN/\st.length<=1000/\
 ∀H',dW C H' p b (ws.map V.str) rs ts es st->SameBut p H H'->Q .non H'
structure NY (P:Program) (w:World) (K:Frag) (mg:Str->Option Value) (base:Heap):Prop where
 is_list_of:cj P w K mg base "is_list_of" ["thing","least","most"] 1 nv
 is_letter:cj P w K mg base "is_letter" ["thing"] 1 mD
 is_rule:cj P w K mg base "is_rule" ["thing","kinds"] 4 (uo K)
structure GG2 (P:Program) (w:World) (K:Frag) (mg:Str->Option Value) (base:Heap):Prop where
 are_kinds:cj P w K mg base "are_kinds" ["thing"] 2 pQ
 are_rules:cj P w K mg base "are_rules" ["thing","kinds"] 5 (pK K)
 is_turns:cj P w K mg base "is_turns" ["thing","kinds"] 4 (pI K)
 is_ends:cj P w K mg base "is_ends" ["thing","kinds"] 4 (ux K)
 is_word:cj P w K mg base "is_word" ["thing","words"] 1 (io K)
theorem kD {K:Frag}{σ:St}{H:Hp}{to te:TE}{u:TS}{D:dC}{f:Str}{p C dx d:Addr}{fs:List (Str×V)}{xs:List V}(he:Ev te σ H (.ref d)) (hd:H d=some (.lst xs)) (ho:∀H',Ev to σ H' (.ref p)) (hp:H p=some (.ins C dx fs)) (hc:rf K C) (hn:bV K C f) (hl:fs.length<1000)
  (h2:∀q,H q=none->u D σ (upd (upd H q (.lst xs)) p (.ins C dx (putF f (.ref q) fs)))):ba (vR K to (cB (uQ K) (bo te cZ)) f) u D σ H:=
 he _ ⟨xs,.inl (aK.of hd),λ q hq=>ho _ _ ⟨p,C,dx,fs,rfl,by rw [aq (ar hp hq)];exact hp,hc,hn,hl,h2 q hq⟩⟩
end L2
namespace L2
open PySem
theorem dk {N P:List Str}{sc:Scope}(a:sc.kind=.function:=by rfl) (b:sc.isCoroutine=false:=by rfl) (c:sc.isGenerator=false:=by rfl) (d:N.Nodup:=by decide+kernel) (e:N.take P.length=P:=by rfl) (f:∀x∈P,sc.names.lookup x=some .local\/sc.names.lookup x=some .cell:=by decide+kernel) (g:∀y∈sc.names,y.2≠.free:=by decide+kernel):az N P sc:=⟨a,b,c,d,e,f,g⟩
end L2
namespace L2
open PySem PySem.Spec PyProof.Rows
def wW (H:Hp):V->Prop
 | .non=>True
 | .bl _=>True
 | .int _=>True
 | .str z=>z.length<=1000
 | .ref a=>(∃xs,H a=some (.lst xs))\/(∃xs,H a=some (.tup xs))
 | _=>False
def iV (H:Hp):Nat->V->Prop
 | 0,v=>wW H v
 | n+1,v=>wW H v/\∀xs,(tupOf H v=some xs\/lstOf H v=some xs)->∀x∈xs,iV H n x
theorem wW.thg {H:Hp}{v:V}(h:wW H v):Thg H v:=by
 cases v with
 | ref a=>
   rcases h with h | h
   ·exact .inl h
   ·exact .inr (.inl h)
 | _=>exact h
theorem iV.n {H:Hp}:∀{n:Nat}{v:V},iV H n v->eC H n v
 | 0,v,h=>wW.thg h
 | n+1,v,h=>⟨h.1.thg,λ xs hx x hm=>(h.2 xs hx x hm).n⟩
theorem iV.flat {H:Hp}{n:Nat}{v:V}(h:wW H v) (f:dl v=true):iV H n v:=by
 cases n with
 | zero=>exact h
 | succ n=>
   refine ⟨h,λ xs hx=>?_⟩;cases v with
   | ref a=>cases f
   | _=>rcases hx with z | z<;>cases z
theorem iV.lst {H:Hp}{n:Nat}{a:Addr}{xs:List V}(h:H a=some (.lst xs)) (hx:∀x∈xs,iV H n x):iV H (n+1) (.ref a):=⟨.inl ⟨xs,h⟩,λ ys hy=>by
 rcases hy with z | z
 ·simp only [tupOf,h] at z;cases z
 ·simp only [lstOf,h] at z;cases z;exact hx⟩
theorem iV.tup {H:Hp}{n:Nat}{a:Addr}{xs:List V}(h:H a=some (.tup xs)) (hx:∀x∈xs,iV H n x):iV H (n+1) (.ref a):=⟨.inr ⟨xs,h⟩,λ ys hy=>by
 rcases hy with z | z
 ·simp only [tupOf,h] at z;cases z;exact hx
 ·simp only [lstOf,h] at z;cases z⟩
section
variable {X:Cx}{a b:Expr}{ta tb:TE}{pos:Pos}
end
section
variable {K:Frag}{σ:St}{H:Hp}{ta tb te:TE}{v:V}{z:Str}{d:Addr}{ws:List Str}{i j:Int}
end
end L2
namespace L2
open PySem PySem.Spec PyProof.Rows
section
variable {X:Cx}{a b:Expr}{ta tb:TE}{pos:Pos}
end
section
variable {X:Cx}{a b e o:Expr}{ta tb te to:TE}{pos p2:Pos}
end
section
variable {K:Frag}{te to ta tb ti:TE}{u:TS}{D:dC}{σ:St}{H:Hp}{Q:VK}{v:V}
theorem uD {l:Addr}{i:Int}{P:V->Hp->Prop}(h:∀Q:VK,(∀v H',P v H'->Q v H')->te σ H Q) (h2:∀v H',P v H'->Ev to σ H' (.ref l)/\Ev ti σ H' (.int i)/\∃xs,H' l=some (.lst xs)/\0<=i/\i<xs.length/\D.nx σ (upd H' l (.lst (xs.set i.toNat v)))):tAsg te (gSub to ti GA) D σ H:=
 h _ λ v H' p=>by obtain ⟨ho,hi,xs,hl,h0,h1,q⟩:=h2 v H' p;refine ho _ (hi _ ⟨l,xs,i,i.toNat,rfl,rfl,hl,?_,q⟩);unfold ixN;rw [if_pos h0,if_pos h1]
end
end L2
namespace L2
open PySem PySem.Spec PyProof.Rows
structure Na (z TI TO i1 i2:Addr):Prop where
 a:TI≠z
 b:TO≠z
 c:i1≠z
 d:i2≠z
 e:TI≠TO
 f:TO≠i1
 g:TO≠i2
 h:i1≠i2
 i:TI≠i1
 j:TI≠i2
section
variable {prog:Program}{w:World}{A:Around}{E:Value->Shared->Prop}{s:Shared}{z TI TO i1 i2:Addr}{n1 n2 i:Nat}{P1 P2:Nat->Value->Prop}{S1 S2:Nat->Heap->Prop}{a b:Value}
theorem BG {Q:Value->Shared->Prop}(D1:Draws prog w A i1 [i1] n1 P1 S1) (D2:Draws prog w A i2 [i2] n2 P2 S2) (ap:Na z TI TO i1 i2) (hz:IsZip s.heap z TI TO .none) (hTI:IsPair s.heap TI (.ref i1) (.ref i2)) (hTO:IsPair s.heap TO a b) (h1:S1 i s.heap) (h2:S2 i s.heap) (l1:i<n1) (l2:i<n2)
  (hQ:∀x y h' tk,P1 i x->P2 i y->IsZip h' z TI TO (rawInt s.heap.objs.size)->IsPair h' TO x y->S1 (i+1) h'->S2 (i+1) h'->IsPair h' s.heap.objs.size x y->(∀c o,c≠z->c≠TO->c≠i1->c≠i2->s.heap.get? c=some o->h'.get? c=some o)->Q (.ref s.heap.objs.size) {s with heap:=h',toks:=tk}):
  wpAny (model prog w) A (Builtin.«zip.__next__» ⟨[.ref z],[]⟩) (λ fin s'=> ∃v,fin=.done (.ret v)/\Q v s') E s:=by
 have f1:∀{k:Nat} {c:Addr} {g g':Heap},S1 k g->Heap.SameBut c g g'->i1≠c->S1 k g':=λ st sb ne=>D1.frame _ _ _ st λ q hq o ho=>by rw [N5.mp hq] at ho ⊢;exact sb.extBut _ _ ne ho
 have f2:∀{k:Nat} {c:Addr} {g g':Heap},S2 k g->Heap.SameBut c g g'->i2≠c->S2 k g':=λ st sb ne=>D2.frame _ _ _ st λ q hq o ho=>by rw [N5.mp hq] at ho ⊢;exact sb.extBut _ _ ne ho
 refine wpAny_bind (m:=field (.ref z) 2) (wpAny_field hz rfl (x:=.bool false) rfl (wpAny_bind (m:=field (.ref z) 3) (wpAny_field hz rfl (x:=.ref TI) rfl (wpAny_bind (wpAny_seqItems hTI rfl ?_)))));refine wpAny_bind (m:=Builtin.SmallTypes.ownedTupleIsFree (.ref z)) ?_;unfold Builtin.SmallTypes.ownedTupleIsFree;refine wpAny_bind (wpAny_field hz rfl (x:=.none) rfl (wpAny_pure ?_));rw [if_pos rfl];refine wpAny_bind (wpAny_rule ?_);refine wpAny_bind (wpAny_field hz rfl (x:=.ref TO) rfl (wpAny_bind (wpAny_setField_rec hz (by simp) λ g1 zz1 b1=>wpAny_bind ?_)));have z1:IsZip g1 z TI TO .ellipsis:=zz1;simp only [List.zipIdx_cons,List.zipIdx_nil,Pb,List.forIn_nil];refine wpAny_bind (wpAny_bind (wpAny_onRaise (wpAny_bind (m:=Builtin.SmallTypes.nextOf (.ref i1)) (D1.item i _ _ _ l1 (f1 h1 b1 ap.c) λ x g2 k2 p1 t2 b2=>wpAny_pure ?_))));have o2:IsPair g2 TO a b:=b2.extBut _ _ ap.f (b1.extBut _ _ ap.b hTO);refine wpAny_bind (wpAny_seqItems o2 rfl (wpAny_bind (wpAny_updateSeq_pair o2 λ g3 oo3 b3=>wpAny_bind (wpAny_letGo (wpAny_pure ?_)))));have o3:IsPair g3 TO x b:=oo3;refine wpAny_bind (wpAny_bind (wpAny_onRaise (wpAny_bind (m:=Builtin.SmallTypes.nextOf (.ref i2)) (D2.item i _ _ _ l2 (f2 (f2 (f2 h2 b1 ap.d) b2 ap.h.symm) b3 ap.g.symm) λ y g4 k4 p2 t4 b4=>wpAny_pure ?_))));have o4:IsPair g4 TO x b:=b4.extBut _ _ ap.g o3;refine wpAny_bind (wpAny_seqItems o4 rfl (wpAny_bind (wpAny_updateSeq_pair o4 λ g5 oo5 b5=>wpAny_bind (wpAny_letGo (wpAny_pure (wpAny_pure ?_))))));have o5:IsPair g5 TO x y:=oo5;have n5:g5.objs.size=s.heap.objs.size:=by rw [b5.1,b4.1,b3.1,b2.1,b1.1]
 have z5:IsZip g5 z TI TO .ellipsis:=b5.extBut _ _ ap.b.symm (b4.extBut _ _ ap.d.symm (b3.extBut _ _ ap.b.symm (b2.extBut _ _ ap.c.symm z1)));have u1:S1 (i+1) g5:=f1 (f1 (f1 t2 b3 ap.f.symm) b4 ap.h) b5 ap.f.symm;have u2:S2 (i+1) g5:=f2 t4 b5 ap.g.symm;have zl:z<g5.objs.size:=Heap.lt_size z5;refine wpAny_bind (wpAny_seqItems o5 rfl (wpAny_bind (wpAny_newTuple (wpAny_bind (m:=Builtin.SmallTypes.ownedTupleHandOut (.ref z) (.ref g5.objs.size)) ?_))));unfold Builtin.SmallTypes.ownedTupleHandOut;have z6:IsZip (g5.push {cls:=.type "tuple",data:=.seq #[x,y]}) z TI TO .ellipsis:=Heap.get?_push_of_some _ z5;refine wpAny_bind (wpAny_setField_rec z6 (by simp) λ g7 zz7 b7=>wpAny_setField_rec (show IsZip g7 z TI TO (rawInt g5.objs.size) from zz7) (by simp) λ g8 zz8 b8=>wpAny_pure ⟨_,rfl,?_⟩);have z8:IsZip g8 z TI TO (rawInt g5.objs.size):=zz8;have up:∀c o,c≠z->g5.get? c=some o->g8.get? c=some o:=λ c o c1 e=>b8.extBut _ _ c1 (b7.extBut _ _ c1 (Heap.get?_push_of_some _ e));have t8:IsPair g8 g5.objs.size x y:=b8.extBut _ _ (PM zl) (b7.extBut _ _ (PM zl) (Heap.get?_push_size _ rfl));show Q (.ref g5.objs.size) _;rw [n5] at z8 t8 ⊢;exact hQ x y g8 k4 p1 p2 z8 (up _ _ ap.b o5) (D1.frame _ _ _ u1 λ q hq o ho=>by rw [N5.mp hq] at ho ⊢;exact up _ _ ap.c ho) (D2.frame _ _ _ u2 λ q hq o ho=>by rw [N5.mp hq] at ho ⊢;exact up _ _ ap.d ho) t8 λ c o c1 c2 c3 c4 e=>up c o c1 (b5.extBut _ _ c2 (b4.extBut _ _ c4 (b3.extBut _ _ c2 (b2.extBut _ _ c3 (b1.extBut _ _ c1 e)))))
theorem Ib {Q:Fin->Shared->Prop}(D1:Draws prog w A i1 [i1] n1 P1 S1) (ap:Na z TI TO i1 i2) (hz:IsZip s.heap z TI TO .none) (hTI:IsPair s.heap TI (.ref i1) (.ref i2)) (h1:S1 n1 s.heap)
  (hE:∀h' e,(∀c o,c≠z->c≠i1->s.heap.get? c=some o->h'.get? c=some o)->(∃o,h'.get? e=some o/\o.cls=.type "StopIteration")->E (.ref e) {s with heap:=h'}):wpAny (model prog w) A (Builtin.«zip.__next__» ⟨[.ref z],[]⟩) Q E s:=by
 have f1:∀{k:Nat} {c:Addr} {g g':Heap},S1 k g->Heap.SameBut c g g'->i1≠c->S1 k g':=λ st sb ne=>D1.frame _ _ _ st λ q hq o ho=>by rw [N5.mp hq] at ho ⊢;exact sb.extBut _ _ ne ho
 refine wpAny_bind (m:=field (.ref z) 2) (wpAny_field hz rfl (x:=.bool false) rfl (wpAny_bind (m:=field (.ref z) 3) (wpAny_field hz rfl (x:=.ref TI) rfl (wpAny_bind (wpAny_seqItems hTI rfl ?_)))));refine wpAny_bind (m:=Builtin.SmallTypes.ownedTupleIsFree (.ref z)) ?_;unfold Builtin.SmallTypes.ownedTupleIsFree;refine wpAny_bind (wpAny_field hz rfl (x:=.none) rfl (wpAny_pure ?_));rw [if_pos rfl];refine wpAny_bind (wpAny_rule ?_);refine wpAny_bind (wpAny_field hz rfl (x:=.ref TO) rfl (wpAny_bind (wpAny_setField_rec hz (by simp) λ g1 zz1 b1=>wpAny_bind ?_)));have z1:IsZip g1 z TI TO .ellipsis:=zz1;simp only [List.zipIdx_cons,List.zipIdx_nil,Pb,List.forIn_nil];refine wpAny_bind (wpAny_bind (wpAny_onRaise (wpAny_bind (m:=Builtin.SmallTypes.nextOf (.ref i1)) (D1.done _ _ _ (f1 h1 b1 ap.c) λ g2 e b2 he=>?_))));obtain ⟨oe,hoe,hce⟩:=he;have z2:IsZip g2 z TI TO .ellipsis:=b2 _ _ ap.c.symm z1;have ne:e≠z:=λ q=>by rw [q] at hoe;have z2':g2.get? z=_:=z2;rw [z2'] at hoe;cases hoe;simp at hce
 exact wpAny_setField_rec z2 (by simp) λ g3 _ b3=>hE g3 e (λ c o c1 c3 q=>b3.extBut _ _ c1 (b2 _ _ c3 (b1.extBut _ _ c1 q))) ⟨oe,b3.extBut _ _ ne hoe,hce⟩
theorem BF {Q:Option Value->Shared->Prop}(D1:Draws prog w A.in1 i1 [i1] n1 P1 S1) (D2:Draws prog w A.in1 i2 [i2] n2 P2 S2) (ap:Na z TI TO i1 i2) (hz:IsZip s.heap z TI TO .none) (hTI:IsPair s.heap TI (.ref i1) (.ref i2)) (hTO:IsPair s.heap TO a b) (h1:S1 i s.heap) (h2:S2 i s.heap) (l1:i<n1) (l2:i<n2)
  (hQ:∀x y h' tk,P1 i x->P2 i y->IsZip h' z TI TO (rawInt s.heap.objs.size)->IsPair h' TO x y->S1 (i+1) h'->S2 (i+1) h'->IsPair h' s.heap.objs.size x y->(∀c o,c≠z->c≠TO->c≠i1->c≠i2->s.heap.get? c=some o->h'.get? c=some o)->Q (some (.ref s.heap.objs.size)) {s with heap:=h',toks:=tk}):
  wpAny (model prog w) A (pyNext (.ref z)) Q E s:=by
 have hT:s.TypeIs (.ref z) "zip":=⟨_,hz,rfl⟩;unfold pyNext;exact wpAny_bind (wpAny_attempt (wpAny_callSpecial?_slot (name:=Str.ofString "__next__") hT F.slot_zip_next (wpAny_call_entry F.slot_zip_next hT F.entry_zip_next (BG D1 D2 ap hz hTI hTO h1 h2 l1 l2 λ x y h' tk q1 q2 q3 q4 q5 q6 q7 q8=>wpAny_pure (hQ x y h' tk q1 q2 q3 q4 q5 q6 q7 q8)) (F.args_zip_next_1 _))))
theorem BE {Q:Option Value->Shared->Prop}(D1:Draws prog w A.in1 i1 [i1] n1 P1 S1) (ap:Na z TI TO i1 i2) (hz:IsZip s.heap z TI TO .none) (hTI:IsPair s.heap TI (.ref i1) (.ref i2)) (h1:S1 n1 s.heap)
  (hQ:∀h',(∀c o,c≠z->c≠i1->s.heap.get? c=some o->h'.get? c=some o)->Q none {s with heap:=h'}):wpAny (model prog w) A (pyNext (.ref z)) Q E s:=by
 have hT:s.TypeIs (.ref z) "zip":=⟨_,hz,rfl⟩;unfold pyNext;refine wpAny_bind (wpAny_attempt (wpAny_callSpecial?_slot (name:=Str.ofString "__next__") hT F.slot_zip_next (wpAny_call_entry F.slot_zip_next hT F.entry_zip_next (Ib D1 ap hz hTI h1 λ h' e hk he=>?_) (F.args_zip_next_1 _))));obtain ⟨o,ho,hc⟩:=he;exact wpAny_bind (wpAny_isInstance (T:="StopIteration") (b:=true) ⟨o,ho,hc⟩ isSubtype_stop (wpAny_pure (hQ _ hk)))
end
def sI (x:Str) (t:Tok):Obj:={cls:=.type (strIterType x),data:=.fields #[.str x t,.int 0 0]}
def BH (h:Heap) (x:Str) (t:Tok) (y:Str) (u:Tok):Heap:=(h.push (sI x t)).push (sI y u)
def L0 (h:Heap) (x:Str) (t:Tok) (y:Str) (u:Tok):Heap:=((BH h x t y u).push {cls:=.type "tuple",data:=.seq #[.ref h.objs.size,.ref (h.push (sI x t)).objs.size]}).push {cls:=.type "tuple",data:=.seq #[.none,.none]}
def Ic (h:Heap) (x:Str) (t:Tok) (y:Str) (u:Tok):Heap:=(L0 h x t y u).push {cls:=.type "zip",data:=.fields #[.none,.bool false,.bool false,.ref (BH h x t y u).objs.size,.ref ((BH h x t y u).push {cls:=.type "tuple",data:=.seq #[.ref h.objs.size,.ref (h.push (sI x t)).objs.size]}).objs.size]}
theorem sO (x:Str) (t:Tok) (y:Str) (u:Tok):Meets (Builtin.«zip.__new__» ⟨[.type "zip",.str x t,.str y u],[]⟩) (λ _ R s=>R (.ok (.ret (.ref (L0 s.heap x t y u).objs.size))) {s with heap:=Ic s.heap x t y u}):=
 .of_wp λ prog w A R s h=>by
  obtain ⟨hp,g,d,tk,os⟩:=s;have hsub:=sub_zip
  wp_walk using wpAny_pyIter_strU
  exact ⟨_,rfl,h⟩
section
variable {prog:Program}{w:World}{A:Around}{E:Value->Shared->Prop}{s:Shared}
theorem wM {x y:Str}{t u:Tok}{Q:Value->Shared->Prop}
  (h:∀h',IsZip h' (s.heap.objs.size+4) (s.heap.objs.size+2) (s.heap.objs.size+3) .none->IsPair h' (s.heap.objs.size+2) (.ref s.heap.objs.size) (.ref (s.heap.objs.size+1))->IsPair h' (s.heap.objs.size+3) .none .none->
   h'.IsStrIter s.heap.objs.size (strIterType x) x t 0->h'.IsStrIter (s.heap.objs.size+1) (strIterType y) y u 0->(∀c o,s.heap.get? c=some o->h'.get? c=some o)->Q (.ref (s.heap.objs.size+4)) {s with heap:=h'}):
  wpAny (model prog w) A (call (.type "zip") [.str x t,.str y u]) Q E s:=by
 refine callType_new F.called_zip (by decide) (F.typeCall_zip_2 _ _) (F.newCall_zip_2 _ _) (λ obj=>F.args_object_init_3 obj _ _) F.entry_zip_new (sO x t y u) ?_;have y1:(s.heap.push (sI x t)).objs.size=s.heap.objs.size+1:=Heap.size_push ..;have y2:(BH s.heap x t y u).objs.size=s.heap.objs.size+2:=by unfold BH;rw [Heap.size_push,y1]
 have y3:((BH s.heap x t y u).push {cls:=.type "tuple",data:=.seq #[.ref s.heap.objs.size,.ref (s.heap.push (sI x t)).objs.size]}).objs.size=s.heap.objs.size+3:=by rw [Heap.size_push,y2]
 have y4:(L0 s.heap x t y u).objs.size=s.heap.objs.size+4:=by unfold L0;rw [Heap.size_push,y3]
 have g5:(Ic s.heap x t y u).get? (L0 s.heap x t y u).objs.size=some _:=Heap.get?_push_size _ rfl;have up:∀c o,(BH s.heap x t y u).get? c=some o->(Ic s.heap x t y u).get? c=some o:=λ c o e=>Heap.get?_push_of_some _ (Heap.get?_push_of_some _ (Heap.get?_push_of_some _ e));have g3:(Ic s.heap x t y u).get? (BH s.heap x t y u).objs.size=some _:=Heap.get?_push_of_some _ (Heap.get?_push_of_some _ (Heap.get?_push_size _ rfl));have g4:(Ic s.heap x t y u).get? ((BH s.heap x t y u).push {cls:=.type "tuple",data:=.seq #[.ref s.heap.objs.size,.ref (s.heap.push (sI x t)).objs.size]}).objs.size=some _:=Heap.get?_push_of_some _ (Heap.get?_push_size _ rfl);have g1:(Ic s.heap x t y u).get? s.heap.objs.size=some (sI x t):=up _ _ (Heap.get?_push_of_some _ (Heap.get?_push_size _ rfl));have g2:(Ic s.heap x t y u).get? (s.heap.push (sI x t)).objs.size=some (sI y u):=up _ _ (Heap.get?_push_size _ rfl);show _/\_;rw [y2,y3,y4] at g5;rw [y1,y2] at g3;rw [y3] at g4;rw [y1] at g2;rw [y4];exact ⟨⟨_,g5,rfl⟩,h _ g5 g3 g4 ⟨_,g1,rfl,rfl⟩ ⟨_,g2,rfl,rfl⟩ λ c o e=>up _ _ (Heap.get?_push_of_some _ (Heap.get?_push_of_some _ e))⟩
end
end L2
namespace L2
open PySem PySem.Spec PyProof.Rows
section
variable {X:Cx}{pins:List (Addr×Obj)}{σ:St}{H:Hp}{s:Shared}{h':Heap}
theorem aH.turnedN {t':Nat}{fp:List Addr}(I:aH X pins σ H s) (k:∀b ob,b∉fp->s.heap.get? b=some ob->h'.get? b=some ob) (hf:∀b∈fp,ii X pins H b):aH X pins σ H {s with heap:=h',toks:=t'}:=by
 have nf:∀b u,H b=some u->b∉fp:=λ b u q z=>by rw [(hf b z).1] at q;cases q
 have nl:X.env.locals∉fp:=λ z=>(hf _ z).2.1 rfl;refine I.step (g':=s.gens) (d':=s.drawn) (ch:=fp) (λ b hb=>⟨(hf b hb).2.2.2.1,(hf b hb).2.1,(hf b hb).2.2.2.2.1,(hf b hb).2.2.2.2.2⟩) (λ b ob _ _ hc q _=>k b ob hc q) (λ b ob _ _ hc q _=>⟨ob.slots,k b ob hc q⟩)
  (λ _ _ _ _ n=>n) (λ b ob hc q=>⟨ob,k b ob hc q⟩) (λ _ _ q=>q) (λ _ _ _ q=>q) (λ b ps q=>⟨#[],by rw [q];simp⟩) (λ m hm=>?_) (λ b u q=>?_) I.bare
 ·obtain ⟨ob,es,ep,ho,r⟩:=hm;exact ⟨ob,es,ep,k _ ob nl ho,r⟩
 ·refine (I.hok b u q).stay (λ c v hc z=>k c v ?_ z) (λ c z=>z) λ c xs z=>z
  rcases hc with z | z
  ·rw [z];exact nf b u q
  ·exact nf c _ z
theorem aH.turned_laidN {t':Nat}{fp:List Addr}{a:Addr}{o:HO}(I:aH X pins σ H s) (k:∀b ob,b∉fp->s.heap.get? b=some ob->h'.get? b=some ob) (hf:∀b∈fp,ii X pins H b) (hp:s.heap.objs.size<=a) (new:bw X.prog X.w (upd H a o) h' a o):
  aH X pins σ (upd H a o) {s with heap:=h',toks:=t'}:=by
 have hn:H a=none:=I.hok.fresh hp;have nf:∀b u,H b=some u->b∉fp:=λ b u q z=>by rw [(hf b z).1] at q;cases q
 have nl:X.env.locals∉fp:=λ z=>(hf _ z).2.1 rfl;refine I.step (g':=s.gens) (d':=s.drawn) (ch:=fp) (λ b hb=>⟨(hf b hb).2.2.2.1,(hf b hb).2.1,(hf b hb).2.2.2.2.1,(hf b hb).2.2.2.2.2⟩) (λ b ob _ _ hc q _=>k b ob hc q) (λ b ob _ _ hc q _=>⟨ob.slots,k b ob hc q⟩)
  (λ b ob hc q n=>by rw [aq (PH (PL (Heap.lt_size q) hp))];exact n) (λ b ob hc q=>⟨ob,k b ob hc q⟩) (λ b xs q=>by rw [aq (ar q hn)];exact q) (λ b ob u q=>by rw [aq (ar q hn)];exact q)
  (λ b ps q=>⟨#[],by rw [aq (ar q hn),q];simp⟩) (λ m hm=>?_) (λ b u q=>?_) I.bare
 ·obtain ⟨ob,es,ep,ho,r⟩:=hm;exact ⟨ob,es,ep,k _ ob nl ho,r⟩
 ·by_cases hb:b=a
  ·subst hb;rw [ag] at q;cases q;exact new
  ·rw [aq hb] at q;refine (I.hok b u q).stay (λ c v hc z=>k c v ?_ z) (λ c z=>by rw [aq (ar z hn)];exact z) λ c xs z=>by rw [aq (ar z hn)];exact z
   rcases hc with z | z
   ·rw [z];exact nf b u q
   ·exact nf c _ z
end
def JU (x y:Str):It:=
 ⟨λ i _=>i<x.cps.size,λ i H v H'=> ∃t c e,v=.ref t/\H t=none/\x.cps.toList[i]? =some c/\y.cps.toList[i]? =some e/\H'=upd H t (.tup [.str ⟨#[c]⟩,.str ⟨#[e]⟩]),λ i _=>i=x.cps.size⟩
def ZSt (z TI TO i1 i2:Addr) (x:Str) (t:Tok) (y:Str) (u:Tok) (i:Nat) (h:Heap):Prop:=IsZip h z TI TO .none/\IsPair h TI (.ref i1) (.ref i2)/\(∃a b,IsPair h TO a b)/\h.IsStrIter i1 (strIterType x) x t i/\h.IsStrIter i2 (strIterType y) y u i
theorem vF {P:Program}{w:World}{K:Frag}{elts:List Expr}{k0:Nat}{pos:Pos}(z TI TO i1 i2:Addr) (x:Str) (t:Tok) (y:Str) (u:Tok) (ap:Na z TI TO i1 i2) (hl:x.cps.size=y.cps.size):wV P w K (.Tuple elts k0 pos) (JU x y) [z,TI,TO,i1,i2] z (ZSt z TI TO i1 i2 x t y u) where
 mem:=by simp
 obj:=λ i h st b hb=>by
  obtain ⟨hz,hTI,⟨a,a',hTO⟩,⟨o1,q1,c1,d1⟩,o2,q2,c2,d2⟩:=st;simp only [N1,Od,or_false] at hb
  rcases hb with rfl | rfl | rfl | rfl | rfl
  ·exact ⟨_,hz,λ v e=>by cases e⟩
  ·exact ⟨_,hTI,λ v e=>by cases e⟩
  ·exact ⟨_,hTO,λ v e=>by cases e⟩
  ·exact ⟨o1,q1,λ v e=>by rw [d1] at e;cases e⟩
  ·exact ⟨o2,q2,λ v e=>by rw [d2] at e;cases e⟩
 keep:=λ i h h' st k=>by obtain ⟨hz,hTI,⟨a,a',hTO⟩,⟨o1,q1,r1⟩,o2,q2,r2⟩:=st;exact ⟨k z (by simp) _ hz,k TI (by simp) _ hTI,⟨a,a',k TO (by simp) _ hTO⟩,⟨o1,k i1 (by simp) _ q1,r1⟩,o2,k i2 (by simp) _ q2,r2⟩
 item:=by
  intro X hP hw hK hc i pins s σ H E I hf st hg;subst hP hw hK;obtain ⟨hz,hTI,⟨a,a',hTO⟩,h1,h2⟩:=st;have hh:X.A.in1.handled=none:=by show X.A.handled=none;exact I.ok.hd hc
  have D1:=gh (prog:=X.prog) (w:=X.w) hh i1 x t;have D2:=gh (prog:=X.prog) (w:=X.w) hh i2 y u;have hg:i<x.cps.size:=hg;refine BF D1 D2 ap hz hTI hTO h1 h2 hg (by lia) λ v1 v2 g1 tk p1 p2 z1 o1 s1 s2 t1 k1=>?_;obtain ⟨c,u1,hc1,rfl⟩:=p1;obtain ⟨e,u2,hc2,rfl⟩:=p2;refine ⟨_,rfl,wpAny_letOwnedTupleGo_zip z1 λ g2 z2 sb=>?_⟩;have lz:z<s.heap.objs.size:=Heap.lt_size hz;have kk:∀b ob,b∉[z,TI,TO,i1,i2]->s.heap.get? b=some ob->g2.get? b=some ob:=λ b ob hb q=>by simp only [N1,Od,or_false,not_or] at hb;exact (sb.2 b hb.1).trans (k1 b ob hb.1 hb.2.2.1 hb.2.2.2.1 hb.2.2.2.2 q)
  have t2:g2.get? s.heap.objs.size=some {cls:=.type "tuple",data:=.seq #[.str ⟨#[c]⟩ u1,.str ⟨#[e]⟩ u2]}:=(sb.2 _ (PM lz)).trans t1;have new:bw X.prog X.w (upd H s.heap.objs.size (.tup [.str ⟨#[c]⟩,.str ⟨#[e]⟩])) g2 s.heap.objs.size (.tup [.str ⟨#[c]⟩,.str ⟨#[e]⟩]):=
   ⟨by show 2<=sizeLine;decide,[.str ⟨#[c]⟩ u1,.str ⟨#[e]⟩ u2],.cons ⟨u1,rfl⟩ (.cons ⟨u2,rfl⟩ .nil),⟨_,t2,rfl,_,rfl⟩⟩
  have I2:=I.turned_laidN (t':=tk) kk hf (PF _) new;obtain ⟨q1,w1,r1⟩:=s1;obtain ⟨q2,w2,r2⟩:=s2;have kTI:g1.get? TI=_:=k1 _ _ ap.a ap.e ap.i ap.j hTI;refine ⟨.ref s.heap.objs.size,_,I2,rfl,⟨_,c,e,rfl,I.hok.fresh (PF _),by rw [QA];exact hc1,by rw [QA];exact hc2,rfl⟩,⟨z2,(sb.2 _ ap.a).trans kTI,⟨_,_,(sb.2 _ ap.b).trans o1⟩,⟨q1,(sb.2 _ ap.c).trans w1,r1⟩,q2,(sb.2 _ ap.d).trans w2,r2⟩,λ b hb=>?_⟩;have hlt:b<s.heap.objs.size:=by
   simp only [N1,Od,or_false] at hb
   rcases hb with rfl | rfl | rfl | rfl | rfl
   ·exact lz
   ·exact Heap.lt_size hTI
   ·exact Heap.lt_size hTO
   ·obtain ⟨o,ho,_⟩:=h1;exact Heap.lt_size ho
   ·obtain ⟨o,ho,_⟩:=h2;exact Heap.lt_size ho
  rw [aq (PH hlt)];exact (hf b hb).1
 done:=by
   intro X hP hw hK hc i pins s σ H E I hf st hg;subst hP hw hK;obtain ⟨hz,hTI,⟨a,a',hTO⟩,h1,h2⟩:=st;have hg:i=x.cps.size:=hg;subst hg;have D1:=gh (prog:=X.prog) (w:=X.w) (A:=X.A.in1) (by show X.A.handled=none;exact I.ok.hd hc) i1 x t;exact BE D1 ap hz hTI h1 λ h' hx=>⟨rfl,I.turnedN (t':=s.toks) (λ b ob hb q=>by
    simp only [N1,Od,or_false,not_or] at hb;exact hx b ob hb.1 hb.2.2.2.1 q) hf⟩
 self:=λ A i s Q E st h=>wpAny_pyIter_zip st.1 h
section
variable {X:Cx}{p pos pos2:Pos}{a b:Expr}{elts:List Expr}{k0:Nat}{ta tb:TE}
def BY (R:It->Hp->Prop) (vs:List V) (H:Hp):Prop:=match vs with
 | [.str x,.str y]=>x.cps.size=y.cps.size/\R (JU x y) H
 | _=>False
def MA (t:TA):TI:=λ σ H R=>t σ H λ vs H1=>BY R vs H1
theorem NE {t:TA}(hm:X.mg "zip"=none) (hA:PA X [a,b] t) (hg:Gl X "zip":=by rfl) (hs:starEach [a,b] X.env=(false,eval a X.env)::starEach [b] X.env:=by rfl) (hp:(backTo pos (starEach [b] X.env)).any (·.1)=false:=by rfl):PI X (.Tuple elts k0 pos2) (.Call (.Name "zip" p) [a,b] [] pos) (MA t):=by
 intro pins s σ H R I h;refine Call_ (iQ I hg hm JI (PyProof.Rows.callWith_type1 (bL (hA pos pins s σ H (λ vs H1=>BY R vs H1) I h) λ us s1 ⟨vs,H1,I1,r1,q1⟩=>?_) hs hp) (by decide) (by decide))
 replace q1:BY R vs H1:=q1
 unfold BY at q1;split at q1
 ·rename_i x y;obtain ⟨u1,u2,rfl,⟨t1,rfl⟩,t2,rfl⟩:=Go r1;refine wM λ h' q2 q3 q4 q5 q6 hk=>?_;have I2:aH X pins σ H1 {s1 with heap:=h'}:=I1.kept (t':=s1.toks) hk;refine wpAny_pyIter_zip q2 ⟨s1.heap.objs.size+4,[s1.heap.objs.size+4,s1.heap.objs.size+2,s1.heap.objs.size+3,s1.heap.objs.size,s1.heap.objs.size+1],_,_,H1,rfl,I2,vF _ _ _ _ _ x t1 y t2 ?_ q1.1,⟨q2,q3,⟨_,_,q4⟩,q5,q6⟩,λ b hb=>?_,q1.2⟩
  ·have f:∀i j:Nat,i≠j->s1.heap.objs.size+i≠s1.heap.objs.size+j:=λ i j h=>by lia
   exact ⟨f 2 4 (by decide),f 3 4 (by decide),f 0 4 (by decide),f 1 4 (by decide),f 2 3 (by decide),f 3 0 (by decide),f 3 1 (by decide),f 0 1 (by decide),f 2 0 (by decide),f 2 1 (by decide)⟩
  ·have hb2:s1.heap.objs.size<=b:=by
    simp only [N1,Od,or_false] at hb
    rcases hb with rfl | rfl | rfl | rfl | rfl
    ·exact PU _ _
    ·exact PU _ _
    ·exact PU _ _
    ·exact PF _
    ·exact PU _ _
   exact I1.fpOk hb2 (I1.hok.fresh hb2)
 ·exact q1.elim
end
section
variable {K:Frag}{σ rest:St}{H:Hp}{t:TA}{te:TE}{src:List (Option Nat)}{Q:VK}{x y:Str}
theorem wJ (hl:Av t σ H [.str x,.str y]) (hlen:x.cps.size=y.cps.size) (hz:x.length<=1000) (hs:dG src σ=none::none::rest) (f:Nat->Nat->V)
  (he:∀(i c e:Nat) (H':Hp),x.cps.toList[i]? =some c->y.cps.toList[i]? =some e->aj H H'->Ev te (some (.str (one c))::some (.str (one e))::rest) H' (f c e))
  (q:∀H' d,aj H H'->H' d=none->Q (.ref d) (upd H' d (.lst (List.zipWith f x.cps.toList y.cps.toList)))):tComp (MA t) (tm K 2 (gf (gName 0) (gf (gName 1) wC))) iC te src σ H Q:=by
 have hx:x.cps.toList.length=x.length:=QB;have hy:y.cps.toList.length=x.length:=by rw [QB];exact hlen.symm
 refine hl _ ⟨hlen,?_⟩;show dn _ iC te src σ Q (JU x y) H;refine jk x.length (λ i ys σ' H'=>aj H H'/\(∃o0 o1,σ'=o0::o1::rest)/\ys=List.zipWith f (x.cps.toList.take i) (y.cps.toList.take i)) (PK hz (by decide)) (λ i ys σ H h=>?_) (λ i ys σ H h hi=>hi) (λ ys σ H h=>rfl) ⟨aj.refl H,⟨_,_,hs⟩,by simp⟩ ?_ ?_
 ·rw [h.2.2,List.length_zipWith,Ol,Ol];lia
 ·rintro i ys _ H1 v H2 hi ⟨s1,⟨o0,o1,rfl⟩,rfl⟩ ⟨tq,c,e,rfl,ht0,hc,hd,rfl⟩ Kt Kf kt kf;have s2:aj H (upd H1 tq (.tup [.str ⟨#[c]⟩,.str ⟨#[e]⟩])):=s1.upd ht0;refine ⟨tq,_,rfl,cJ.of ag,rfl,_,_,rfl,_,_,rfl,rfl,?_⟩;simp only [iC,if_true];refine he i c e _ hc hd s2 _ (kt _ _ _ ⟨s2,⟨_,_,rfl⟩,?_⟩);rw [Ps,Ps,hc,hd];rw [List.zipWith_append (by rw [Ol,Ol,hx,hy])];rfl
 ·rintro ys σ' H' d ⟨s1,_,rfl⟩ hd;rw [OX (by lia),OX (by lia)];exact q H' d s1 hd
end
def fu (ks:List Nat) (c e:Nat):Bool:=if e=35 then decide (c=35) else decide (c=46\/c∈ks\/c∈ks.map (· - 32))
def rowB (wi hi:Int) (hs:List Int) (ks:List Nat) (v:V):Bool:=match v with
 | .str z=>decide (z.length=(emptyT wi hi hs).length)&&(List.zipWith (fu ks) z.cps.toList (emptyT wi hi hs).cps.toList).all id
 | _=>false
def jH (wi hi:Int) (hs:List Int) (ks:List Nat) (H:Hp) (v:V):Bool:=match tupOf H v with
 | some [a,b]=>rowB wi hi hs ks a&&amongB b 0 1
 | _=>false
theorem lg {wi hi:Int}{hs:List Int}{ks:List Nat}{H:Hp}{v a b:V}(e:tupOf H v=some [a,b]):jH wi hi hs ks H v=(rowB wi hi hs ks a&&amongB b 0 1):=by unfold jH;rw [e]
theorem vZ {wi hi:Int}{hs:List Int}{ks:List Nat}{H:Hp}{v:V}(h:tupB H v 2=false):jH wi hi hs ks H v=false:=by
 unfold tupB at h;unfold jH;split
 ·rename_i e1;rw [e1] at h;cases h
 ·rfl
def rE (K:Frag) (cB cG:Addr):Sp:=λ vs H Q _=> ∃(g b:Addr) (v:V) (wi hi:Int) (hs:List Int) (ks:List Nat) (rs ts es:List V) (st:Str),vs=[.ref g,v]/\dW cG H g b (ks.map strV) rs ts es st/\bM K cB H b wi hi hs/\(∀k∈ks,jV k)/\ks.length<=6/\Thg H v/\∀H',aj H H'->Q (.bl (rowB wi hi hs ks v)) H'
def pL (K:Frag) (cB cG:Addr):Sp:=λ vs H Q _=> ∃(g b:Addr) (v:V) (wi hi:Int) (hs:List Int) (ks:List Nat) (rs ts es:List V) (st:Str),vs=[.ref g,v]/\dW cG H g b (ks.map strV) rs ts es st/\bM K cB H b wi hi hs/\(∀k∈ks,jV k)/\ks.length<=6/\eC H 1 v/\∀H',aj H H'->Q (.bl (jH wi hi hs ks H v)) H'
structure CR1 (P:Program) (w:World) (K:Frag) (mg:Str->Option Value) (base:Heap) (cB:Addr):Prop where
 sign_of:cj P w K mg base "sign_of" ["kind","side"] 1 kS
 empty_row:cj P w K mg base "empty_row" ["board"] 4 (uy K cB)
structure CR2 (P:Program) (w:World) (K:Frag) (mg:Str->Option Value) (base:Heap) (cB cG:Addr):Prop where
 is_tuple_of:cj P w K mg base "is_tuple_of" ["thing","many"] 1 gQ
 is_among:cj P w K mg base "is_among" ["thing","least","most"] 2 gR
 is_row:cj P w K mg base "is_row" ["game","thing"] 5 (rE K cB cG)
section
variable {K:Frag}{te ta tb:TE}{t ta':TA}{c:TT}{u e t1:TS}{D:dC}{σ:St}{H:Hp}{Q:VK}{R:List V->Hp->Prop}{v:V}
theorem eI (P:St->Hp->Prop) (hu:∀σ' H',P σ' H'->u D σ' H') (h:(∀σ' H',P σ' H'->u D σ' H')->ba (na c t1 e) u D σ H):ba (na c t1 e) u D σ H:=h hu
theorem pz {i:Nat}(h:te σ H (λ v H'=>D.nx (σ.set i (some v)) H')):tAsg te (gName i) D σ H:=h
theorem iT (h:Ev te σ H v) (q:ta' σ H (λ xs H2=>R (v::xs) H2)):bo te ta' σ H R:=h _ q
theorem gw (h:te σ H (λ x H1=>ta' σ H1 (λ xs H2=>R (x::xs) H2))):bo te ta' σ H R:=h
theorem hJ (q:R [] H):cZ σ H R:=q
theorem j6 (q:t σ H (λ vs H2=>vs.length<=sizeLine/\∀p,H2 p=none->Q (.ref p) (upd H2 p (.lst vs)))):vH t σ H Q:=q
theorem vp (h:ta σ H λ x H1=>tb σ H1 λ y H2=>wT .Add x y H2 Q):qV .Add ta tb σ H Q:=h
theorem vo {a b:Addr}{xs ys:List V}(ha:H a=some (.lst xs)) (hb:H b=some (.lst ys)) (hz:xs.length+ys.length<=1000) (q:∀p,H p=none->Q (.ref p) (upd H p (.lst (xs++ys)))):wT .Add (.ref a) (.ref b) H Q:=by rw [IH];exact ⟨a,b,xs,ys,rfl,rfl,ha,hb,PK hz (by decide),q⟩
end
theorem n9 {a b:Nat}:(one a=one b)<->a=b:=by
 constructor
 ·intro h;have h:(one a).cps.toList=(one b).cps.toList:=by rw [h]
  have h:[a]=[b]:=h;injection h
 ·intro h;rw [h]
theorem AK:("#":Str)=one 35:=by decide+kernel
theorem CK:(".":Str)=one 46:=by decide+kernel
theorem oU {p q:Prop} [Decidable p] [Decidable q] (h:p<->q):decide p=decide q:=by
 by_cases hp:p
 ·rw [decide_eq_true hp,decide_eq_true (h.mp hp)]
 ·rw [decide_eq_false hp,decide_eq_false (λ z=>hp (h.mpr z))]
def upV:V->V
 | .str z=>.str (one (z.cps.toList.getD 0 0 - 32))
 | v=>v
end L2
namespace L2
open PySem
def ra (xs:Array Nat):Prop:= ∀i j,i<j->j<xs.size->xs.getD i 0<xs.getD j 0
theorem bq {α:Type}{xs:Array α}{i:Nat}{d:α}(h:i<xs.size):xs.getD i d=xs[i]:=by simp [Array.getD,h]
theorem JQ {xs:Array Nat}{i d e:Nat}(h:i<xs.size):xs.getD i d=xs.getD i e:=by rw [bq h,bq h]
theorem lW (xs:Array Nat) (j:Nat) (hr:ra xs):∀(f lo hi:Nat),hi - lo<=f->lo<=hi->hi<=xs.size->(∀k,k<lo->xs.getD k 0<j)->(∀k,hi<=k->k<xs.size->j<=xs.getD k 0)->
  SetTable.below.go xs j f lo hi<=xs.size/\(∀k,k<SetTable.below.go xs j f lo hi->xs.getD k 0<j)/\(∀k,SetTable.below.go xs j f lo hi<=k->k<xs.size->j<=xs.getD k 0)
 | 0,lo,hi,h1,h2,h3,h4,h5=>by
   have:lo=hi:=by lia
   subst this;exact ⟨h3,h4,h5⟩
 | f+1,lo,hi,h1,h2,h3,h4,h5=>by
   unfold SetTable.below.go
   by_cases h:lo<hi
   ·rw [if_pos h];have hm:(lo+hi) / 2<xs.size:=by lia
    dsimp only;rw [JQ (e:=0) hm]
    by_cases q:xs.getD ((lo+hi) / 2) 0<j
    ·rw [if_pos q];refine lW xs j hr f _ hi (by lia) (by lia) h3 (λ k hk=>?_) h5
     by_cases e:k=(lo+hi) / 2
     ·rw [e];exact q
     ·exact PQ (hr k _ (by lia) hm) q
    ·rw [if_neg q];refine lW xs j hr f lo _ (by lia) (by lia) (by lia) h4 (λ k hk hks=>?_)
     by_cases e:k=(lo+hi) / 2
     ·rw [e];lia
     ·have:=hr ((lo+hi) / 2) k (by lia) hks;lia
   ·rw [if_neg h];have:lo=hi:=by lia
    subst this;exact ⟨h3,h4,h5⟩
theorem dB (xs:Array Nat) (j:Nat) (hr:ra xs):SetTable.below xs j<=xs.size/\(∀k,k<SetTable.below xs j->xs.getD k 0<j)/\(∀k,SetTable.below xs j<=k->k<xs.size->j<=xs.getD k 0):=
 lW xs j hr _ 0 xs.size (by lia) (PJ _) (PF _) (λ k hk=>by lia) (λ k h1 h2=>by lia)
theorem t7 {xs:Array Nat}(hr:ra xs) {i:Nat}(h:i<xs.size):SetTable.below xs (xs.getD i 0+1)=i+1:=by
 obtain ⟨h1,h2,h3⟩:=dB xs (xs.getD i 0+1) hr
 rcases P5 (SetTable.below xs (xs.getD i 0+1)) (i+1) with q | q | q
 ·have:=h3 i (by lia) h;lia
 ·exact q
 ·have:=h2 (i+1) (by lia);have:=hr i (i+1) (by lia) (by lia);lia
theorem qW {xs:Array Nat}(hr:ra xs):SetTable.below xs 0=0:=by
 obtain ⟨h1,h2,h3⟩:=dB xs 0 hr
 rcases P9 (SetTable.below xs 0) with q | q
 ·exact q
 ·have:=h2 0 q;lia
def C4 (xs:Array Nat) (j:Nat):Prop:= ∀k,k<xs.size->¬xs.getD k 0=j
theorem Cz {xs:Array Nat}{j:Nat}(hr:ra xs) (h:(xs[SetTable.below xs j]? == some j)=false):C4 xs j:=by
 obtain ⟨h1,h2,h3⟩:=dB xs j hr;intro k hk e
 rcases P5 k (SetTable.below xs j) with q | q | q
 ·have:=h2 k q;lia
 ·rw [<-q,Qz hk,<-bq (d:=0) hk,e] at h;simp at h
 ·have a1:=hr (SetTable.below xs j) k q hk;have a2:=h3 (SetTable.below xs j) (PF _) (by lia);lia
theorem fH {α:Type}(xs:Array α) (p:Nat) (x:α):(SetTable.insertAt xs p x).size=xs.size+1:=by have h:=(SetTable.insertAt_perm xs p x).length_eq;simpa using h
theorem nR {xs:Array Nat}:ra xs<->xs.toList.Pairwise (· < ·):=by
 rw [O3]
 constructor
 ·intro h i j hi hj hij;have hi':i<xs.size:=by simpa using hi
  have hj':j<xs.size:=by simpa using hj
  have:=h i j hij hj';rw [bq hi',bq hj'] at this;simpa using this
 ·intro h i j hij hj;have hi:i<xs.size:=by lia
  have:=h i j (by simpa using hi) (by simpa using hj) hij;rw [bq hi,bq hj];simpa using this
theorem rW {xs:Array Nat}{j:Nat}(hr:ra xs) (hf:C4 xs j):ra (SetTable.insertAt xs (SetTable.below xs j) j):=by
 obtain ⟨h1,h2,h3⟩:=dB xs j hr;have g:∀m (hm:m<xs.toList.length),xs.toList[m]=xs.getD m 0:=λ m hm=>by
  have hm':m<xs.size:=by simpa using hm
  rw [bq hm'];simp
 rw [nR,SetTable.toList_insertAt,Pu];have hp:=nR.mp hr;refine ⟨hp.sublist (Pp _ _),OR.mpr ⟨λ a ha=>?_,hp.sublist (List.drop_sublist _ _)⟩,λ a ha b hb=>?_⟩
 ·obtain ⟨k,hk,rfl⟩:=Pw.mp ha;have hk':SetTable.below xs j+k<xs.size:=by simpa [Nat.add_comm] using hk
  have a1:=h3 (SetTable.below xs j+k) (by lia) hk';have a2:=hf _ hk';rw [g];lia
 ·obtain ⟨k,hk,rfl⟩:=List.mem_take_iff_getElem.mp ha;have hk1:k<SetTable.below xs j:=by lia
  have a1:=h2 k hk1;rw [g]
  rcases N1.mp hb with rfl | hb
  ·exact a1
  ·obtain ⟨m,hm,rfl⟩:=Pw.mp hb;have hm':SetTable.below xs j+m<xs.size:=by simpa [Nat.add_comm] using hm
   have a2:=h3 (SetTable.below xs j+m) (by lia) hm';rw [g];lia
structure SG (led:Bool) (n:Nat) (t:SetTable):Prop where
 fits:t.fits n=true
 led:t.led=led
 ris:ra t.place
theorem vJ {t:SetTable}{j:Nat}(hr:ra t.place) (h:t.slot j=.empty\/t.slot j=.dummy):C4 t.place j:=by
 apply Cz hr;unfold SetTable.slot at h;dsimp only at h;cases e:(t.place[SetTable.below t.place j]? == some j) with
 | false=>rfl
 | true=>
   rw [e] at h;simp at h
theorem iE {α:Type}(f:Nat->Option (Nat×α)) (hf:∀j p,f j=some p->p.1=j):∀(l:List Nat),l.Pairwise (· < ·)->((l.filterMap f).map (·.1)).Pairwise (· < ·)/\∀a∈(l.filterMap f).map (·.1),a∈l
 | [],_=>⟨by simp,by simp⟩
 | j::l,h=>by
   obtain ⟨h1,h2⟩:=OR.mp h;obtain ⟨i1,i2⟩:=iE f hf l h2;rw [OG];cases e:f j with
   | none=>exact ⟨i1,λ a ha=>N6 _ (i2 a ha)⟩
   | some p=>
     have ep:=hf j p e;dsimp only;rw [Oj,ep];refine ⟨OR.mpr ⟨λ a ha=>h1 a (i2 a ha),i1⟩,λ a ha=>?_⟩
     rcases N1.mp ha with rfl | ha
     ·exact N9
     ·exact N6 _ (i2 a ha)
theorem lN {α:Type}{l:List α}{i:Nat}{x:α}(h:l[i]? =some x):(x::l.eraseIdx i).Perm l:=by
 have hi:i<l.length:=(Oe.mp h).1;have e:l=l.take i++x::l.drop (i+1):=by
  have e1:=(Px i l).symm;have e2:l.drop i=x::l.drop (i+1):=by rw [OV hi];rw [N2 hi] at h;rw [Option.some.inj h]
  rw [e2] at e1;exact e1
 rw [List.eraseIdx_eq_take_drop_succ]
 conv=>rhs;rw [e]
 exact List.perm_middle.symm
theorem uB {α:Type}(next:Nat->Nat):∀(f k:Nat) (left:List α) (out:Array α),left.length<=f->(pickOrder.go next f k left out).toList.Perm (out.toList++left)
 | 0,k,left,out,h=>by have:left=[]:=Pc.mp (by lia);subst this;simp [pickOrder.go]
 | f+1,k,left,out,h=>by
   unfold pickOrder.go;split
   ·rename_i x e;have hi:next k % left.length<left.length:=(Oe.mp e).1;have hl:=Py hi;refine (uB next f (k+1) _ _ (by lia)).trans ?_;rw [QF,OE];exact List.Perm.append_left _ (lN e)
   ·rename_i e;have:left=[]:=by
     cases left with
     | nil=>rfl
     | cons a l=>
       rw [N2 (P6 _ (by simp))] at e;cases e
    subst this;simp
theorem v3 {α:Type}(next:Nat->Nat) (xs:Array α):(pickOrder next xs).toList.Perm xs.toList:=by have:=uB next xs.size 0 xs.toList #[] (by simp);simpa [pickOrder] using this
end L2
namespace L2
open PySem
def uW (M:Nat):Nat->Nat->Nat
 | 0,i=>i
 | n+1,i=>uW M n ((i*5+1) % M)
theorem jg (M:Nat):∀(a b i:Nat),uW M (a+b) i=uW M b (uW M a i)
 | 0,b,i=>by rw [PV];rfl
 | a+1,b,i=>by rw [Nat.succ_add];show uW M (a+b) _=uW M b (uW M a _);exact jg M a b _
def Nl (M:Nat):Nat->Nat->List Nat
 | 0,_=>[]
 | n+1,i=>i::Nl M n ((i*5+1) % M)
theorem nZ (M:Nat):∀(n i e:Nat),e∈Nl M n i->∃t,t<n/\uW M t i=e
 | 0,i,e,h=>by cases h
 | n+1,i,e,h=>by
   rcases N1.mp h with rfl | h
   ·exact ⟨0,P7 _,rfl⟩
   ·obtain ⟨t,ht,e2⟩:=nZ M n _ e h;exact ⟨t+1,by lia,e2⟩
def jW (M:Nat):Prop:=(∀e,e<M->e∈Nl M M 0)/\uW M M 0=0
def chk (M:Nat):Bool:=(List.range M).all λ e=>(Nl M M 0).contains e
theorem kJ {M:Nat}(h:chk M=true) (h2:uW M M 0=0):jW M:=⟨λ e he=>by
 have:=On.mp h e (Ob.mpr he);simpa using this,h2⟩
theorem GR:jW 8:=kJ (by decide+kernel) (by decide+kernel)
theorem Jv:jW 32:=kJ (by decide+kernel) (by decide+kernel)
theorem Cy:jW 128:=kJ (by decide+kernel) (by decide+kernel)
theorem Cw:jW 512:=kJ (by decide+kernel) (by decide+kernel)
theorem Cv {M:Nat}(f:jW M) {i e:Nat}(hi:i<M) (he:e<M):∃t,t<M/\uW M t i=e:=by
 obtain ⟨s,hs,es⟩:=nZ M M 0 i (f.1 i hi);obtain ⟨t,ht,et⟩:=nZ M M 0 e (f.1 e he)
 by_cases h:s<=t
 ·refine ⟨t - s,by lia,?_⟩;rw [<-es,<-jg,<-et];congr 1;lia
 ·refine ⟨M - s+t,by lia,?_⟩;rw [<-es,<-jg,<-et];have:s+(M - s+t)=M+t:=by lia
  rw [this,jg,f.2]
def lp (mask:Nat) (h:Int):Nat->Nat×Nat
 | 0=>(SetTable.bits h % (mask+1),SetTable.bits h)
 | n+1=>SetTable.leap mask (lp mask h n).1 (lp mask h n).2
theorem uM (mask:Nat) (h:Int):∀n,(lp mask h n).2=SetTable.bits h / 32 ^ n
 | 0=>by simp [lp]
 | n+1=>by show (lp mask h n).2 / 32=_;rw [uM mask h n,Nat.div_div_eq_div_mul,Nat.pow_succ]
theorem CV (h:Int):SetTable.bits h<2 ^ 64:=by unfold SetTable.bits;lia
theorem GF (mask:Nat) (h:Int):∀n,(lp mask h n).1<mask+1
 | 0=>P6 _ (P7 _)
 | n+1=>P6 _ (P7 _)
theorem Cj (mask:Nat) (h:Int) {n:Nat}(hn:13<=n):(lp mask h n).2=0:=by rw [uM];apply Nat.div_eq_of_lt;refine PL (CV h) ?_;have:(32:Nat) ^ 13<=32 ^ n:=Nat.pow_le_pow_right (by decide) hn;refine PK ?_ this;decide
theorem uL (mask:Nat) (h:Int):∀t,(lp mask h (13+t)).1=uW (mask+1) t (lp mask h 13).1
 | 0=>rfl
 | t+1=>by
   have e:uW (mask+1) (t+1) (lp mask h 13).1=(uW (mask+1) t (lp mask h 13).1*5+1) % (mask+1):=by rw [jg];rfl
   rw [e,<-uL mask h t];show ((lp mask h (13+t)).1*5+1+(lp mask h (13+t)).2 / 32) % (mask+1)=_;rw [Cj mask h (by lia)]
theorem uN {mask:Nat}(f:jW (mask+1)) (h:Int) {e:Nat}(he:e<=mask):∃N,N<=mask+13/\(lp mask h N).1=e:=by obtain ⟨t,ht,et⟩:=Cv f (GF mask h 13) (Nat.lt_succ_of_le he);exact ⟨13+t,by lia,by rw [uL,et]⟩
end L2
namespace L2
open PySem
def ud (mask:Nat) (h:Int) (n c:Nat) (p:SetTable.Probe):Prop:=
 p.i=(lp mask h n).1/\p.perturb=(lp mask h n).2/\p.j=(lp mask h n).1+c/\c+p.more=SetTable.runEnd mask (lp mask h n).1 - (lp mask h n).1
def sl (mask:Nat) (h:Int) (n c:Nat):Nat:=(lp mask h n).1+c
theorem lf (mask i:Nat):SetTable.runEnd mask i - i<=9:=by unfold SetTable.runEnd;split<;>lia
theorem ud.start {t:SetTable}{h:Int}:ud t.mask h 0 0 (t.probeStart h):=⟨rfl,rfl,rfl,by rw [PV];rfl⟩
theorem ud.more {t:SetTable}{h:Int}{n c:Nat}{p:SetTable.Probe}(a:ud t.mask h n c p) (hm:0<p.more):ud t.mask h n (c+1) (t.advance p):=by obtain ⟨a1,a2,a3,a4⟩:=a;unfold SetTable.advance;rw [if_pos hm];exact ⟨a1,a2,by show p.j+1=_;lia,by show c+1+(p.more - 1)=_;lia⟩
theorem ud.leap {t:SetTable}{h:Int}{n c:Nat}{p:SetTable.Probe}(a:ud t.mask h n c p) (hm:¬0<p.more):ud t.mask h (n+1) 0 (t.advance p):=by obtain ⟨a1,a2,a3,a4⟩:=a;unfold SetTable.advance;rw [if_neg hm,a1,a2];exact ⟨rfl,rfl,rfl,by rw [PV];rfl⟩
def gK (n c n' c':Nat):Prop:=n<n'\/(n=n'/\c<c')
def jq (mask:Nat) (h:Int) (n c:Nat):Prop:=c<=SetTable.runEnd mask (lp mask h n).1 - (lp mask h n).1
theorem ud.ok {mask:Nat}{h:Int}{n c:Nat}{p:SetTable.Probe}(a:ud mask h n c p):jq mask h n c:=by obtain ⟨_,_,_,a4⟩:=a;unfold jq;lia
theorem oN {t:SetTable}(hd:t.dummies= #[]) {h:Int}(hashAt:Nat->Int) {N:Nat}(he:t.slot (sl t.mask h N 0)=.empty):∀(f n c:Nat) (p:SetTable.Probe),ud t.mask h n c p->(n<N\/(n=N/\c=0))->10*(N - n)+1<=f+c->
  ∃n' c' p',ud t.mask h n' c' p'/\(n'<N\/(n'=N/\c'=0))/\(gK n c n' c'\/(n=n'/\c=c'))/\(∀a b,jq t.mask h a b->(gK n c a b\/(n=a/\c=b))->gK a b n' c'->∃i,t.slot (sl t.mask h a b)=.live i/\¬hashAt i=h)/\
   ((t.slot (sl t.mask h n' c')=.empty/\SetTable.probe.go t hashAt h f p=some (.empty (sl t.mask h n' c') p.dummy))\/
    (∃i,t.slot (sl t.mask h n' c')=.live i/\hashAt i=h/\SetTable.probe.go t hashAt h f p=some (.candidate (sl t.mask h n' c') i (t.advance p'))/\n'<N/\p'.dummy=p.dummy))
 | 0,n,c,p,a,hn,hf=>by have:=lf t.mask (lp t.mask h n).1;have:=a.ok;unfold jq at this;lia
 | f+1,n,c,p,a,hn,hf=>by
   have hj:p.j=sl t.mask h n c:=a.2.2.1;have nodum:∀j,¬t.slot j=.dummy:=λ j e=>by
    unfold SetTable.slot at e;rw [hd] at e;dsimp only at e;split at e
    ·cases e
    ·rw [if_neg (by simp [SetTable.has])] at e;cases e
   cases q:t.slot p.j with
   | empty=>
     refine ⟨n,c,p,a,hn,.inr ⟨rfl,rfl⟩,λ x y _ h1 h2=>?_,.inl ⟨by rw [<-hj];exact q,?_⟩⟩
     ·exfalso
      rcases h1 with h1 | h1<;>rcases h2 with h2 | h2<;>(unfold gK at *;lia)
     ·unfold SetTable.probe.go;rw [q,hj]
   | dummy=>exact absurd q (nodum _)
   | live i=>
     by_cases hh:hashAt i=h
     ·refine ⟨n,c,p,a,hn,.inr ⟨rfl,rfl⟩,λ x y _ h1 h2=>?_,.inr ⟨i,by rw [<-hj];exact q,hh,?_,?_,rfl⟩⟩
      ·exfalso
       rcases h1 with h1 | h1<;>rcases h2 with h2 | h2<;>(unfold gK at *;lia)
      ·unfold SetTable.probe.go;rw [q];dsimp only;rw [if_pos (by simp [hh]),hj]
      ·rcases hn with hn | ⟨rfl,rfl⟩
       ·exact hn
       ·rw [hj,he] at q;cases q
     ·have hlt:n<N:=by
       rcases hn with hn | ⟨rfl,rfl⟩
       ·exact hn
       ·rw [hj,he] at q;cases q
      have hgo:SetTable.probe.go t hashAt h (f+1) p=SetTable.probe.go t hashAt h f (t.advance p):=by
       conv=>lhs;unfold SetTable.probe.go
       rw [q];dsimp only;rw [if_neg (by simp [hh])]
      rw [hgo];have hdm:(t.advance p).dummy=p.dummy:=by unfold SetTable.advance;split<;>rfl
      by_cases hm:0<p.more
      ·obtain ⟨n',c',p',b1,b2,b3,b4,b5⟩:=oN hd hashAt he f n (c+1) (t.advance p) (a.more hm) (.inl hlt) (by lia);refine ⟨n',c',p',b1,b2,.inl (by unfold gK at *;lia),λ x y o h1 h2=>?_,by rw [hdm] at b5;exact b5⟩
       by_cases e:x=n/\y=c
       ·obtain ⟨rfl,rfl⟩:=e;exact ⟨i,by rw [<-hj];exact q,hh⟩
       ·exact b4 x y o (by unfold gK at *;lia) h2
      ·have hc9:=lf t.mask (lp t.mask h n).1;have hck:=a.2.2.2;obtain ⟨n',c',p',b1,b2,b3,b4,b5⟩:=oN hd hashAt he f (n+1) 0 (t.advance p) (a.leap hm) (by lia) (by lia);refine ⟨n',c',p',b1,b2,.inl (by unfold gK at *;lia),λ x y o h1 h2=>?_,by rw [hdm] at b5;exact b5⟩
       by_cases e:x=n/\y=c
       ·obtain ⟨rfl,rfl⟩:=e;exact ⟨i,by rw [<-hj];exact q,hh⟩
       ·refine b4 x y o ?_ h2;unfold jq at o;unfold gK at*
        by_cases e2:x=n
        ·subst e2;lia
        ·lia
end L2
namespace L2
open PySem
theorem jy {t:SetTable}(hr:ra t.place) {j i:Nat}:t.slot j=.live i<->i<t.place.size/\t.place.getD i 0=j:=by
 obtain ⟨b1,b2,b3⟩:=dB t.place j hr;unfold SetTable.slot;dsimp only
 constructor
 ·intro h;split at h
  ·rename_i e;cases h;have hlt:SetTable.below t.place j<t.place.size:=by
    rcases Nat.lt_or_ge (SetTable.below t.place j) t.place.size with q | q
    ·exact q
    ·rw [QC q] at e;simp at e
   rw [Qz hlt] at e;refine ⟨hlt,?_⟩;rw [bq hlt];simpa using e
  ·split at h<;>cases h
 ·rintro ⟨hi,e⟩;have hb:SetTable.below t.place j=i:=by
   rcases P5 (SetTable.below t.place j) i with q | q | q
   ·have a1:=b3 (SetTable.below t.place j) (PF _) (by lia);have a2:=hr _ _ q hi;lia
   ·exact q
   ·have:=b2 i q;lia
  rw [hb,Qz hi,if_pos];rw [bq hi] at e;simp [e]
theorem eT {t:SetTable}(hr:ra t.place) (hd:t.dummies= #[]) {j:Nat}:t.slot j=.empty<->C4 t.place j:=by
 constructor
 ·intro h;exact vJ hr (.inl h)
 ·intro h;cases e:t.slot j with
  | empty=>rfl
  | live i=>
    obtain ⟨h1,h2⟩:=(jy hr).mp e;exact absurd h2 (h i h1)
  | dummy=>
    exfalso;unfold SetTable.slot at e;rw [hd] at e;dsimp only at e;split at e
    ·cases e
    ·rw [if_neg (by simp [SetTable.has])] at e;cases e
theorem nX:∀(n:Nat) (l:List Nat),l.length<n->∃s,s<n/\¬s∈l
 | 0,l,h=>by lia
 | n+1,l,h=>by
   by_cases m:n∈l
   ·have hl:=Pf m;have hp:=O0 m;obtain ⟨s,h1,h2⟩:=nX n (l.erase n) (by lia);exact ⟨s,by lia,λ z=>h2 ((Pg (by lia)).mpr z)⟩
   ·exact ⟨n,by lia,m⟩
theorem wH {t:SetTable}(hr:ra t.place) (hd:t.dummies= #[]) (hf:t.place.size<=t.mask):∃e,e<=t.mask/\t.slot e=.empty:=by obtain ⟨e,h1,h2⟩:=nX (t.mask+1) t.place.toList (by simp;lia);refine ⟨e,by lia,(eT hr hd).mpr λ k hk z=>h2 ?_⟩;rw [<-z,bq hk];simp
def Bx (t:SetTable) (h:Int) (j:Nat):Prop:= ∃n c,jq t.mask h n c/\sl t.mask h n c=j/\∀a b,jq t.mask h a b->gK a b n c->¬t.slot (sl t.mask h a b)=.empty
structure rh (es:Array (Int×Value)) (t:SetTable):Prop where
 ps:t.place.size=es.size
 ris:ra t.place
 nd:t.dummies= #[]
 full:jW (t.mask+1)
 odd:t.mask % 2=1
 fit:t.place.size<=t.mask
 pl:∀i,i<es.size->Bx t (es.getD i (0,.none)).1 (t.place.getD i 0)
theorem Gx {mask:Nat}{h:Int}{n c:Nat}(o:jq mask h n c):sl mask h n c<=mask:=by have:=GF mask h n;unfold jq SetTable.runEnd at o;unfold sl;split at o<;>lia
theorem rh.fits {es:Array (Int×Value)}{t:SetTable}(g:rh es t):t.fits es.size=true:=by unfold SetTable.fits SetTable.fill;rw [g.nd,g.ps];have:=g.fit;rw [g.ps] at this;simp [this]
theorem rh.fresh {led:Bool}:rh #[] (SetTable.fresh 0 0 led):=⟨rfl,λ i j _ hj=>absurd hj (by simp [SetTable.fresh]),rfl,GR,(by show (7:Nat) % 2=1;decide),PJ _,λ i h=>absurd h (by simp)⟩
theorem rh.put {es:Array (Int×Value)}{t:SetTable}(g:rh es t) {h:Int}{x:Value}{n c:Nat}(o:jq t.mask h n c) (he:t.slot (sl t.mask h n c)=.empty) (hb:∀a b,jq t.mask h a b->gK a b n c->¬t.slot (sl t.mask h a b)=.empty) (hroom:es.size+1<=t.mask):
  rh (SetTable.insertAt es (t.put (sl t.mask h n c)).2 (h,x)) (t.put (sl t.mask h n c)).1:=by
 have hf:=(eT g.ris g.nd).mp he;have hr':ra (t.put (sl t.mask h n c)).1.place:=rW g.ris hf;have hd':(t.put (sl t.mask h n c)).1.dummies= #[]:=by show (if SetTable.has t.dummies _ then _ else t.dummies)= #[];rw [g.nd];rfl
 have hsz:(t.put (sl t.mask h n c)).1.place.size=es.size+1:=by show (SetTable.insertAt t.place _ _).size=_;rw [fH,g.ps]
 have hes:(SetTable.insertAt es (t.put (sl t.mask h n c)).2 (h,x)).size=es.size+1:=fH ..;have keep:∀j,¬t.slot j=.empty->¬(t.put (sl t.mask h n c)).1.slot j=.empty:=λ j hj z=>hj ((eT g.ris g.nd).mpr λ k hk e=>by
  have q:=(eT hr' hd').mp z;have hm:j∈(t.put (sl t.mask h n c)).1.place.toList:=by show j∈(SetTable.insertAt t.place _ _).toList;rw [(SetTable.insertAt_perm t.place _ _).mem_iff,QF];refine Ox _ ?_;rw [<-e,bq hk];simp
  obtain ⟨k',hk',e'⟩:=OF hm;have hk2:k'<(t.put (sl t.mask h n c)).1.place.size:=by simpa using hk'
  exact q k' hk2 (by rw [bq hk2];simpa using e'))
 refine ⟨by rw [hsz,hes],hr',hd',g.full,g.odd,by rw [hsz];exact hroom,λ i hi=>?_⟩;rw [hes] at hi;have hp:∀i,i<es.size+1->((SetTable.insertAt es (t.put (sl t.mask h n c)).2 (h,x)).getD i (0,.none)=(h,x)/\(t.put (sl t.mask h n c)).1.place.getD i 0=sl t.mask h n c)\/∃j,j<es.size/\(SetTable.insertAt es (t.put (sl t.mask h n c)).2 (h,x)).getD i (0,.none)=es.getD j (0,.none)/\(t.put (sl t.mask h n c)).1.place.getD i 0=t.place.getD j 0:=λ i hi=>by
  have hpb:(t.put (sl t.mask h n c)).2<=es.size:=by show SetTable.below t.place _<=_;rw [<-g.ps];exact (dB t.place _ g.ris).1
  have at1:∀{α:Type} (xs:Array α) (p:Nat) (y d:α) (i:Nat),p<=xs.size->i<xs.size+1->(SetTable.insertAt xs p y).getD i d=if i<p then xs.getD i d else if i=p then y else xs.getD (i - 1) d:=λ {α} xs p y d i hp hi=>by
   have hs:=fH xs p y;have e1:(SetTable.insertAt xs p y).getD i d=(SetTable.insertAt xs p y).toList[i]'(by simpa [hs] using hi):=by rw [bq (by lia)];simp
   rw [e1];simp only [SetTable.toList_insertAt]
   by_cases l1:i<p
   ·rw [if_pos l1,Pj (by simp;lia),bq (by lia)];simp
   ·rw [if_neg l1,Pk (by simp;lia)]
    by_cases l2:i=p
    ·subst l2;rw [if_pos rfl];have hz:i - (xs.toList.take i).length=0:=by simp;lia
     have key:∀(l:List α) (k:Nat) (hk:k<(y::l).length),k=0->(y::l)[k]=y:=λ l k hk e=>by subst e;rfl
     exact key _ _ _ hz
    ·rw [if_neg l2];have hl:(xs.toList.take p).length=p:=by simp;lia
     have e2:i - (xs.toList.take p).length=(i - 1 - p)+1:=by lia
     rw [bq (by lia)];simp only [e2,List.getElem_cons_succ,List.getElem_drop,QG];congr 1;lia
  have q1:=at1 es (t.put (sl t.mask h n c)).2 (h,x) (0,.none) i hpb hi;have q2:=at1 t.place (t.put (sl t.mask h n c)).2 (sl t.mask h n c) 0 i (by rw [g.ps];exact hpb) (by rw [g.ps];exact hi);have q2':(t.put (sl t.mask h n c)).1.place.getD i 0=_:=q2;rw [q1,q2']
  by_cases l1:i<(t.put (sl t.mask h n c)).2
  ·rw [if_pos l1,if_pos l1];exact .inr ⟨i,by lia,rfl,rfl⟩
  ·rw [if_neg l1,if_neg l1]
   by_cases l2:i=(t.put (sl t.mask h n c)).2
   ·rw [if_pos l2,if_pos l2];exact .inl ⟨rfl,rfl⟩
   ·rw [if_neg l2,if_neg l2];exact .inr ⟨i - 1,by lia,rfl,rfl⟩
 rcases hp i hi with ⟨e1,e2⟩ | ⟨j,hj,e1,e2⟩
 ·rw [e1,e2];exact ⟨n,c,o,rfl,λ a b oab lab=>keep _ (hb a b oab lab)⟩
 ·rw [e1,e2];obtain ⟨n',c',o',e',hb'⟩:=g.pl j hj;exact ⟨n',c',o',e',λ a b oab lab=>keep _ (hb' a b oab lab)⟩
end L2
namespace L2
open PySem
abbrev nn (owner:Array (Option Nat)) (j:Nat):Bool:=(owner.getD j (some 0)).isNone
theorem AT {mask:Nat}{owner:Array (Option Nat)}{h:Int}{N:Nat}(hN:nn owner (sl mask h N 0)=true):∀(f n:Nat),n<=N->N - n<f->∃n' c',jq mask h n' c'/\SetTable.layClean.free mask owner f (lp mask h n).1 (lp mask h n).2=some (sl mask h n' c')/\nn owner (sl mask h n' c')=true/\∀a b,jq mask h a b->n<=a->gK a b n' c'->nn owner (sl mask h a b)=false
 | 0,n,h1,h2=>by lia
 | f+1,n,h1,h2=>by
   unfold SetTable.layClean.free;cases e:(List.range (SetTable.runEnd mask (lp mask h n).1+1 - (lp mask h n).1)).find? (λ k=>(owner.getD ((lp mask h n).1+k) (some 0)).isNone) with
   | some k=>
     obtain ⟨hp,i,hi,ei,hb⟩:=List.find?_eq_some_iff_getElem.mp e;have hik:i=k:=by simpa using ei
     subst hik;have hir:i<SetTable.runEnd mask (lp mask h n).1+1 - (lp mask h n).1:=by simpa using hi
     refine ⟨n,i,by unfold jq;lia,rfl,hp,λ a b o ha lt=>?_⟩;have:a=n/\b<i:=by unfold gK at lt;lia
     obtain ⟨rfl,hbi⟩:=this;have:=hb b hbi;simpa [nn,sl] using this
   | none=>
     have hall:=List.find?_eq_none.mp e;have hlt:n<N:=by
      rcases Nat.lt_or_ge n N with q | q
      ·exact q
      ·have:n=N:=by lia
       subst this;have hr0:(0:Nat)<SetTable.runEnd mask (lp mask h n).1+1 - (lp mask h n).1:=by unfold SetTable.runEnd;split<;>lia
       have:=hall 0 (Ob.mpr hr0);exact absurd hN this
     obtain ⟨n',c',o,e2,e3,e4⟩:=AT hN f (n+1) hlt (by lia);refine ⟨n',c',o,e2,e3,λ a b oab ha lt=>?_⟩
     by_cases q:a=n
     ·subst q;have hbr:b<SetTable.runEnd mask (lp mask h a).1+1 - (lp mask h a).1:=by
       unfold jq at oab;have:(lp mask h a).1<=SetTable.runEnd mask (lp mask h a).1:=by unfold SetTable.runEnd;split<;>lia
       lia
      have:=hall b (Ob.mpr hbr);exact Bool.eq_false_iff.mpr this
     ·exact e4 a b oab (by lia) lt
structure OI (mask:Nat) (owner:Array (Option Nat)) (hs:List Int) (js:List Nat):Prop where
 sz:owner.size=mask+1
 len:js.length=hs.length
 nd:js.Nodup
 le:∀j∈js,j<=mask
 at1:∀i (hi:i<js.length),owner.getD js[i] (some 0)=some i
 at2:∀j,j<=mask->¬j∈js->owner.getD j (some 0)=none
 pl:∀i (hi:i<js.length),∃n c,jq mask (hs.getD i 0) n c/\sl mask (hs.getD i 0) n c=js[i]/\∀a b,jq mask (hs.getD i 0) a b->gK a b n c->nn owner (sl mask (hs.getD i 0) a b)=false
theorem rM {owner:Array (Option Nat)}{j:Nat}{o:Option Nat}(h:j<owner.size) (k:Nat):(owner.setIfInBounds j o).getD k (some 0)=if k=j then o else owner.getD k (some 0):=by
 by_cases e:k=j
 ·subst e;rw [if_pos rfl,bq (by simpa using h)];exact Array.getElem_setIfInBounds_self ..
 ·rw [if_neg e]
  by_cases hk:k<owner.size
  ·rw [bq (by simpa using hk),bq hk];exact Array.getElem_setIfInBounds_ne hk (Ne.symm e)
  ·have h1:¬k<(owner.setIfInBounds j o).size:=by simpa using hk
   simp [Array.getD,hk,h1]
theorem OI.step {mask:Nat}{owner:Array (Option Nat)}{hs:List Int}{js:List Nat}(f:jW (mask+1)) (I:OI mask owner hs js) (h:Int) (hr:hs.length<=mask):∃j,SetTable.layClean.free mask owner (SetTable.turns mask) (SetTable.bits h % (mask+1)) (SetTable.bits h)=some j/\OI mask (owner.setIfInBounds j (some hs.length)) (hs++[h]) (js++[j]):=by
 obtain ⟨e,e1,e2⟩:=nX (mask+1) js (by rw [I.len];lia);obtain ⟨N,hN,eN⟩:=uN f h (Nat.le_of_lt_succ e1);have hNn:nn owner (sl mask h N 0)=true:=by show (owner.getD ((lp mask h N).1+0) (some 0)).isNone=true;rw [Nat.add_zero,eN,I.at2 e (by lia) e2];rfl
 obtain ⟨n,c,o,g1,g2,g3⟩:=AT hNn (SetTable.turns mask) 0 (PJ _) (by unfold SetTable.turns;lia);have hj:=Gx o;refine ⟨sl mask h n c,g1,?_⟩;have hlt:sl mask h n c<owner.size:=by rw [I.sz];lia
 have hnj:¬sl mask h n c∈js:=λ z=>by obtain ⟨i,hi,e⟩:=OF z;have:=I.at1 i hi;rw [e] at this;unfold nn at g2;rw [this] at g2;cases g2
 have up:∀k,nn owner k=false->nn (owner.setIfInBounds (sl mask h n c) (some hs.length)) k=false:=λ k hk=>by
  unfold nn;rw [rM hlt]
  by_cases e:k=sl mask h n c
  ·rw [if_pos e];rfl
  ·rw [if_neg e];exact hk
 refine ⟨by simpa using I.sz,by simp [I.len],?_,λ j hm=>?_,λ i hi=>?_,λ j hjm hn=>?_,λ i hi=>?_⟩
 ·rw [OY];refine ⟨I.nd,by simp,λ a ha b hb e=>hnj ?_⟩;have:b=sl mask h n c:=by simpa using hb
  rw [<-this,<-e];exact ha
 ·rcases Oc.mp hm with z | z
  ·exact I.le j z
  ·rw [N5.mp z];exact hj
 ·rw [rM hlt]
  by_cases l:i<js.length
  ·rw [Pj l,if_neg (λ z:js[i]=sl mask h n c=>hnj (z▸Of l))];exact I.at1 i l
  ·have:i=js.length:=by simp at hi;lia
   subst this;rw [Pk (PF _)];simp [I.len]
 ·rw [rM hlt,if_neg (λ z=>hn (by rw [z];simp))];exact I.at2 j hjm (λ z=>hn (Ox _ z))
 ·by_cases l:i<js.length
  ·have e:(hs++[h]).getD i 0=hs.getD i 0:=by rw [N8,ON (by rw [<-I.len];exact l),<-N8]
   rw [Pj l,e];obtain ⟨n',c',o',e',hb⟩:=I.pl i l;exact ⟨n',c',o',e',λ a b oab lab=>up _ (hb a b oab lab)⟩
  ·have:i=js.length:=by simp at hi;lia
   subst this;have e:(hs++[h]).getD js.length 0=h:=by rw [I.len];simp
   rw [e];refine ⟨n,c,o,?_,λ a b oab lab=>up _ (g3 a b oab (PJ _) lab)⟩;rw [Pk (PF _)];simp
theorem qD {mask:Nat}(f:jW (mask+1)):∀(hs2 hs1:List Int) (owner:Array (Option Nat)) (js:List Nat),OI mask owner hs1 js->hs1.length+hs2.length<=mask+1->
  ∃owner' js',hs2.foldl (λ acc h=>do
   let (owner,k)<-acc
   let j<-SetTable.layClean.free mask owner (SetTable.turns mask) (SetTable.bits h % (mask+1)) (SetTable.bits h)
   pure (owner.setIfInBounds j (some k),k+1)) (some (owner,hs1.length))=some (owner',(hs1++hs2).length)/\OI mask owner' (hs1++hs2) js'
 | [],hs1,owner,js,I,_=>⟨owner,js,by simp,by simpa using I⟩
 | h::hs2,hs1,owner,js,I,hl=>by
   simp only [Oh] at hl;obtain ⟨j,e,I2⟩:=I.step f h (by lia);obtain ⟨owner',js',e3,I3⟩:=qD f hs2 (hs1++[h]) _ _ I2 (by simp;lia);refine ⟨owner',js',?_,by simpa using I3⟩;rw [List.foldl_cons];have e4:(do
     let (owner,k)<-(some (owner,hs1.length):Option (Array (Option Nat)×Nat))
     let j<-SetTable.layClean.free mask owner (SetTable.turns mask) (SetTable.bits h % (mask+1)) (SetTable.bits h)
     pure (owner.setIfInBounds j (some k),k+1))=some (owner.setIfInBounds j (some hs1.length),(hs1++[h]).length):=by
    simp [e]
   rw [e4,e3];simp
theorem wq {mask:Nat}(f:jW (mask+1)) {hs:Array Int}(hl:hs.size<=mask+1):∃owner js,SetTable.layClean mask hs=some owner/\OI mask owner hs.toList js:=by
 have I0:OI mask (Array.replicate (mask+1) none) [] []:=⟨by simp,rfl,by simp,by simp,λ i hi=>by simp at hi,λ j hj _=>by rw [bq (by simp;lia)];simp,λ i hi=>by simp at hi⟩;obtain ⟨owner,js,e,I⟩:=qD f hs.toList [] _ _ I0 (by simpa using hl);refine ⟨owner,js,?_,by simpa using I⟩;unfold SetTable.layClean;rw [<-Array.foldl_toList];have e:hs.toList.foldl (λ acc h=>do
   let (owner,k)<-acc
   let j<-SetTable.layClean.free mask owner (SetTable.turns mask) (SetTable.bits h % (mask+1)) (SetTable.bits h)
   pure (owner.setIfInBounds j (some k),k+1)) (some (Array.replicate (mask+1) none,0))=some (owner,([]++hs.toList).length):=e
 rw [e];rfl
end L2
namespace L2
open PySem
def liveP (owner:Array (Option Nat)) (mask:Nat):List (Nat×Nat):=(List.range (mask+1)).filterMap λ j=>(owner.getD j none).map (j,·)
theorem gb {mask:Nat}{owner:Array (Option Nat)}{j i:Nat}:(j,i)∈liveP owner mask<->j<=mask/\owner.getD j none=some i:=by
 unfold liveP;rw [OL]
 constructor
 ·rintro ⟨k,hk,e⟩;obtain ⟨x,hx,e2⟩:=QI.mp e;cases e2;exact ⟨by have:=Ob.mp hk;lia,hx⟩
 ·rintro ⟨h1,h2⟩;exact ⟨j,Ob.mpr (by lia),by rw [h2];rfl⟩
theorem lj {mask:Nat}{owner:Array (Option Nat)}{hs:List Int}{js:List Nat}(I:OI mask owner hs js) {j i:Nat}(hj:j<=mask):owner.getD j none=some i<->∃h:i<js.length,js[i]=j:=by
 have e0:owner.getD j none=owner.getD j (some 0):=by
  have:j<owner.size:=by rw [I.sz];lia
  rw [bq this,bq this]
 rw [e0]
 constructor
 ·intro h
  by_cases m:j∈js
  ·obtain ⟨k,hk,e⟩:=OF m;have:=I.at1 k hk;rw [e,h] at this;cases this;exact ⟨hk,e⟩
  ·rw [I.at2 j hj m] at h;cases h
 ·rintro ⟨h,e⟩;rw [<-e];exact I.at1 i h
theorem qA (owner:Array (Option Nat)) (mask:Nat):((liveP owner mask).map (·.1)).Pairwise (· < ·):=
 (iE (λ j=>(owner.getD j none).map (j,·)) (λ j p hp=>by
  obtain ⟨a,_,rfl⟩:=QI.mp hp;rfl) (List.range (mask+1)) List.pairwise_lt_range).1
theorem qh {κ:Type} [DecidableEq κ]:∀{l ns:List κ},l.Nodup->ns.Nodup->(∀k,k∈l<->k∈ns)->ns.Perm l
 | [],ns,_,_,h=>by
   cases ns with
   | nil=>exact List.Perm.refl _
   | cons a l=>exact absurd ((h a).mpr (by simp)) (by simp)
 | a::l,ns,nd,nn,h=>by
   obtain ⟨n1,n2⟩:=OA.mp nd;have ha:=(h a).mp (by simp);refine (Pz ha).trans (List.Perm.cons _ (qh n2 (nn.erase a) λ k=>?_));rw [nn.mem_erase_iff,<-h k,N1]
   constructor
   ·intro hk;exact ⟨λ e=>n1 (e▸hk),.inr hk⟩
   ·rintro ⟨e,z | z⟩
    ·exact absurd z e
    ·exact z
theorem sk {mask:Nat}{owner:Array (Option Nat)}{hs:List Int}{js:List Nat}(I:OI mask owner hs js):((liveP owner mask).map (·.2)).Perm (List.range hs.length):=by
 refine qh Pi ?_ (λ i=>?_)
 ·
  have hp:=qA owner mask;rw [Ou] at hp;rw [OD,Ou];refine List.Pairwise.imp_of_mem ?_ hp;intro a b ha hb lt e;obtain ⟨a1,a2⟩:=gb.mp (show (a.1,a.2)∈_ from ha);obtain ⟨b1,b2⟩:=gb.mp (show (b.1,b.2)∈_ from hb);obtain ⟨x1,e1⟩:=(lj I a1).mp a2;obtain ⟨x2,e2⟩:=(lj I b1).mp b2;have:a.1=b.1:=by rw [<-e1,<-e2];congr 1
  lia
 ·rw [Ob,N0]
  constructor
  ·intro hi;have hi':i<js.length:=by rw [I.len];exact hi
   have hle:=I.le _ (Of hi');exact ⟨(js[i],i),gb.mpr ⟨hle,(lj I hle).mpr ⟨hi',rfl⟩⟩,rfl⟩
  ·rintro ⟨p,hp,rfl⟩;obtain ⟨a1,a2⟩:=gb.mp (show (p.1,p.2)∈_ from hp);obtain ⟨x1,e1⟩:=(lj I a1).mp a2;rw [I.len] at x1;exact x1
theorem AX {α:Type}{es:Array α}(d:α):∀{l:List Nat},(∀i∈l,i<es.size)->l.filterMap (es[·]?)=l.map λ i=>es.getD i d
 | [],_=>rfl
 | i::l,h=>by have hi:=h i (by simp);rw [OG,Qz hi,Oj,AX d (λ j hj=>h j (N6 _ hj)),bq hi]
theorem vT {es:Array (Int×Value)}{t:SetTable}{wanted:Nat}(f:jW (SetTable.sizeAbove wanted - 1+1)) (ho:(SetTable.sizeAbove wanted - 1) % 2=1) (hl:es.size<=SetTable.sizeAbove wanted - 1):
  ∃t' order,t.relaid (es.map (·.1)) wanted=some (t',order)/\(order.filterMap (es[·]?)).size=es.size/\(order.filterMap (es[·]?)).toList.Perm es.toList/\rh (order.filterMap (es[·]?)) t'/\t'.led=t.led/\t'.mask=SetTable.sizeAbove wanted - 1:=by
 generalize hm:SetTable.sizeAbove wanted - 1=mask at f ho hl;obtain ⟨owner,js,e,I⟩:=wq f (hs:=es.map (·.1)) (by simp;lia);have hlen:(es.map (·.1)).toList.length=es.size:=by simp
 have hop:=sk I;rw [hlen] at hop;have hin:∀i∈(liveP owner mask).map (·.2),i<es.size:=λ i hi=>Ob.mp (hop.mem_iff.mp hi);have hll:(liveP owner mask).length=es.size:=by have:=hop.length_eq;simpa using this
 refine ⟨{mask,place:=((liveP owner mask).map (·.1)).toArray,dummies:= #[],finger:=t.finger,led:=t.led,moves:=t.movedTo mask,plain:=t.plain},((liveP owner mask).map (·.2)).toArray,?_,?_⟩
 ·unfold SetTable.relaid SetTable.laid;rw [hm,e];rfl
 have hes:((((liveP owner mask).map (·.2)).toArray).filterMap (es[·]?)).toList=((liveP owner mask).map (·.2)).map λ i=>es.getD i (0,.none):=by rw [Array.toList_filterMap];exact AX (0,.none) hin
 have hsz:((((liveP owner mask).map (·.2)).toArray).filterMap (es[·]?)).size=es.size:=by rw [<-QB,hes,NZ,NZ,hll]
 refine ⟨hsz,?_,?_,rfl,rfl⟩
 ·rw [hes];refine (hop.map _).trans (List.Perm.of_eq ?_);apply OJ;intro i;have e0:es.toList[i]? =es[i]? :=QA;rw [N3,e0]
  by_cases hi:i<es.size
  ·rw [Oz hi,Qz hi];show some (es.getD i (0,.none))=some es[i];rw [bq hi]
  ·rw [Ot (by simpa using hi),QC (by lia)];rfl
 ·have hris:ra ((liveP owner mask).map (·.1)).toArray:=nR.mpr (by simpa using qA owner mask);refine ⟨?_,hris,rfl,f,ho,?_,λ i hi=>?_⟩
  ·rw [hsz];simp [hll]
  ·show ((liveP owner mask).map (·.1)).toArray.size<=mask;simp [hll,hl]
  ·rw [hsz] at hi;have hil:i<(liveP owner mask).length:=by rw [hll];exact hi
   have e1:((((liveP owner mask).map (·.2)).toArray).filterMap (es[·]?)).getD i (0,.none)=es.getD (liveP owner mask)[i].2 (0,.none):=by
    rw [bq (by rw [hsz];exact hi)];have:((((liveP owner mask).map (·.2)).toArray).filterMap (es[·]?)).toList[i]? =some (es.getD (liveP owner mask)[i].2 (0,.none)):=by rw [hes,N3,N3,N2 hil];rfl
    rw [QA,Qz (by rw [hsz];exact hi)] at this;exact Option.some.inj this
   have e2:((liveP owner mask).map (·.1)).toArray.getD i 0=(liveP owner mask)[i].1:=by rw [bq (by simpa using hil)];simp
   obtain ⟨a1,a2⟩:=gb.mp (show ((liveP owner mask)[i].1,(liveP owner mask)[i].2)∈_ from Of hil);obtain ⟨x1,ex⟩:=(lj I a1).mp a2;have hxs:(liveP owner mask)[i].2<es.size:=by rw [<-hlen,<-I.len];exact x1
   obtain ⟨n,c,o,es',hb⟩:=I.pl _ x1;have eh:(es.map (·.1)).toList.getD (liveP owner mask)[i].2 0=(es.getD (liveP owner mask)[i].2 (0,.none)).1:=by rw [bq hxs,N8,QA,Array.getElem?_map,Qz hxs];rfl
   rw [eh] at o es' hb;show Bx _ _ (((liveP owner mask).map (·.1)).toArray.getD i 0);rw [e1,e2];refine ⟨n,c,o,by rw [es',ex],λ a b oab lab z=>?_⟩;have q:=hb a b oab lab;have hle:sl mask (es.getD (liveP owner mask)[i].2 (0,.none)).1 a b<=mask:=Gx oab;have hfr:=(eT (t:={mask,place:=((liveP owner mask).map (·.1)).toArray,dummies:= #[],finger:=t.finger,led:=t.led,moves:=t.movedTo mask,plain:=t.plain}) hris rfl).mp z;cases eo:owner.getD (sl mask (es.getD (liveP owner mask)[i].2 (0,.none)).1 a b) none with
   | none=>
     have hlt:sl mask (es.getD (liveP owner mask)[i].2 (0,.none)).1 a b<owner.size:=by rw [I.sz];lia
     unfold nn at q;rw [bq hlt] at q eo;rw [eo] at q;cases q
   | some k=>
     have hm2:=gb.mpr ⟨hle,eo⟩;obtain ⟨r,hr,er⟩:=OF hm2;have hr2:r<((liveP owner mask).map (·.1)).toArray.size:=by simpa using hr
     refine hfr r hr2 ?_;show ((liveP owner mask).map (·.1)).toArray.getD r 0=_;rw [bq hr2];simp [er]
end L2
namespace L2
open PySem PySem.Spec PyProof.Rows
theorem uh:∀{xs:List V}{us:List Value},xs.length=us.length->(∀(i:Nat) x u,xs[i]? =some x->us[i]? =some u->aL x u)->aP xs us
 | [],[],_,_=>.nil
 | [],_::_,h,_=>by simp at h
 | _::_,[],h,_=>by simp at h
 | x::xs,u::us,h,r=>.cons (r 0 x u rfl rfl) (uh (by simpa using h) λ i a b h1 h2=>r (i+1) a b (by simpa using h1) (by simpa using h2))
section
variable {X:Cx}
def GG (xs:List V) (H:Hp) (Q:VK):Prop:=match xs with
 | [.str z]=>z.length<=1000/\∀l,H l=none->Q (.ref l) (upd H l (.lst (z.cps.toList.map strV)))
 | _=>False
theorem tV (hc:X.calm=true):aY X (.type "list") GG:=by
 intro pins s σ H xs us Q I r h;unfold GG at h;split at h
 ·rename_i z;obtain ⟨hz,q⟩:=h;obtain ⟨u,rfl,t,rfl⟩:=dw r;have hz2:z.cps.size<=1000:=hz;refine call_list_str (I.ok.hd hc) z t (hn:=PK hz2 (by decide)) λ h' tk acc c' hk hS hacc=>?_;have rel:aP (z.cps.toList.map strV) acc.toList:=by refine uh (by rw [NZ,QB,QB,hacc.1]) λ i x u h1 h2=>?_;rw [QA] at h2;obtain ⟨c,u',h3,rfl⟩:=hacc.2 i u h2;rw [N3,QA,h3] at h1;cases h1;exact ⟨u',rfl⟩
  exact ⟨.ref s.heap.objs.size,_,I.laid (t':=tk) hk (PF _) (show bw X.prog X.w _ h' _ (.lst (z.cps.toList.map strV)) from ⟨by rw [NZ,QB];exact PK hz2 (by decide),acc.toList,c',rel,by simpa using hS⟩),rfl,q _ (I.hok.fresh (PF _))⟩
 ·exact h.elim
end
end L2
namespace L2
open PySem PySem.Spec PyProof.Rows
section
variable {X:Cx}{a e:Expr}{ta te tb:TE}{p p2 pos:Pos}
def M2 (K:Frag) (ta:TE):TT:=λ σ H Q=>ta σ H λ x H'=> ∃k,C2 K x H' k/\Q k H'
theorem NF (K:Frag) (ha:PE X a ta) (he:∀whole,isTrue a X.env whole=(do let v<-whole;standAt a.pos;holding [v] (truthy v)):=by exact λ _=>rfl) (hK:X.K=K:=by rfl):PT X a (M2 K ta):=by subst hK;exact zY ha he
end
section
variable {K:Frag}{σ:St}{H:Hp}{ta tb te to:TE}{Q:VK}{i j:Int}
end
section
variable {K:Frag}{σ:St}{H:Hp}{ta tb te to:TE}{Q:VK}{c:TT}{t e:TS}{D:dC}
theorem Il {tt u:TT}{R:Bool->Hp->Prop}{b:Bool}(h:Tv tt σ H b) (q1:b=true->R true H) (q2:b=false->u σ H R):L6 tt u σ H R:=h _ (by
 cases b with
 | true=>exact hV (q1 rfl)
 | false=>exact iB (q2 rfl))
end
section
variable {K:Frag}{ta:TA}{te tl:TE}{src:List (Option Nat)}{σ rest:St}{H:Hp}{Q:VK}
end
end L2
namespace L2
open PySem
theorem bQ:Slot "set_iterator" "__next__" "set_iterator.__next__":=
 .of (owner:="set_iterator") (n:="__next__") (by rw [typeLookup_type,builtinLookup_eq_fast];kernel_rfl) (by decide+kernel) (by decide+kernel) (by decide+kernel) (by first | exact .inl (by decide+kernel) | exact .inr (by decide+kernel)) (by rw [isSubtype_type];kernel_rfl)
theorem gv:entryFor table "set_iterator.__next__"=some Builtin.«set_iterator.__next__» :=entryFor_of_tree (by kernel_rfl)
theorem gB (a:Value):argsOk "set_iterator.__next__" ⟨[a],[]⟩:=by unfold argsOk;kernel_rfl
theorem kY:Slot "set_iterator" "__iter__" "set_iterator.__iter__":=
 .of (owner:="set_iterator") (n:="__iter__") (by rw [typeLookup_type,builtinLookup_eq_fast];kernel_rfl) (by decide+kernel) (by decide+kernel) (by decide+kernel) (by first | exact .inl (by decide+kernel) | exact .inr (by decide+kernel)) (by rw [isSubtype_type];kernel_rfl)
theorem tJ:entryFor table "set_iterator.__iter__"=some Builtin.«dict_keyiterator.__iter__» :=
 entryFor_alias (id':="dict_keyiterator.__iter__") (by kernel_rfl) rfl (by decide+kernel) (by kernel_rfl)
theorem ub (a:Value):argsOk "set_iterator.__iter__" ⟨[a],[]⟩:=by unfold argsOk;kernel_rfl
theorem qN:entryFor table "set.__iter__"=some Builtin.«frozenset.__iter__» :=
 entryFor_alias (id':="frozenset.__iter__") (by kernel_rfl) rfl (by decide+kernel) (by kernel_rfl)
def du (h:Heap) (D:Addr) (es:Array (Int×Value)) (ep:Nat) (t:SetTable):Prop:= ∃o,h.get? D=some o/\o.ExactSet/\o.data=.set es ep t
def q9 (h:Heap) (I D:Addr) (first:Value) (i n ep:Nat):Prop:= ∃o,h.get? I=some o/\o.cls=.type "set_iterator"/\o.data=.fields #[first,.int i 0,.ref D,.int n 0,.int ep 0]
section
variable {M:Model}{prog:Program}{w:World}{A:Around}{E:Value->Shared->Prop}{s:Shared}
theorem q9.ty {I D:Addr}{f:Value}{i n ep:Nat}(h:q9 s.heap I D f i n ep):s.TypeIs (.ref I) "set_iterator":=let ⟨o,h1,h2,_⟩:=h;⟨o,h1,h2⟩
theorem q9.keep {h h':Heap}{I D:Addr}{f:Value}{i n ep:Nat}(x:q9 h I D f i n ep) (k:∀o,h.get? I=some o->h'.get? I=some o):q9 h' I D f i n ep:=let ⟨o,h1,r⟩:=x;⟨o,k o h1,r⟩
theorem du.keep {h h':Heap}{D:Addr}{es:Array (Int×Value)}{ep:Nat}{t:SetTable}(x:du h D es ep t) (k:∀o,h.get? D=some o->h'.get? D=some o):du h' D es ep t:=let ⟨o,h1,r⟩:=x;⟨o,k o h1,r⟩
theorem Ig {m:Sem Unit}{α:Type}{k:Unit->Sem α}{Q:α->Shared->Prop}(hm:∀Q':Unit->Shared->Prop,Q' () s->wpAny M A m Q' E s) (h:wpAny M A (k ()) Q E s):wpAny M A (m >>= k) Q E s:=wpAny_bind (hm _ h)
theorem gP {D:Addr}{es:Array (Int×Value)}{ep:Nat}{t:SetTable}{Q:(Array (Int×Value)×Nat×SetTable)->Shared->Prop}(hS:du s.heap D es ep t) (hf:t.fits es.size=true) (h:Q (es,ep,t) s):wpAny (model prog w) A (setState D) Q E s:=by obtain ⟨o,ho,_,hd⟩:=hS;exact wpAny_setState_of ho hd hf h
theorem jn {Q:Bool->Shared->Prop}(h:Q (w.params.followText "set-order") s):wpAny (model prog w) A setsByText Q E s:=by unfold setsByText;exact wpAny_bind (wpAny_askSetting (wpAny_pure h))
theorem mL {D:Addr}{es:Array (Int×Value)}{ep slot given:Nat}{t:SetTable}{Q:Option (Value×Nat)->Shared->Prop}(hS:du s.heap D es ep t) (g:SG (!w.params.followText "set-order") es.size t) (hb:w.params.followText "set-order"=false) (hp:t.plain=true\/es.size<=1) {i:Nat}(hi:SetTable.below t.place slot=i)
  (h:Q (match es[i]?,t.place[i]? with | some (_,x),some j=>some (x,j+1) | _,_=>none) s):wpAny (model prog w) A (setNext D slot given ep) Q E s:=by
 unfold setNext;refine wpAny_bind (gP hS g.fits ?_);dsimp only;refine wpAny_bind (jn ?_);rw [hb,if_neg Qo];split
 ·rename_i q;have q:(!t.plain&&decide (es.size > 1))=true:=q
  rcases hp with hp | hp
  ·rw [hp] at q;cases q
  ·rw [decide_eq_false (by lia:¬es.size > 1),Bool.and_false] at q;cases q
 ·refine Ig (λ Q' q=>?_) ?_
  ·show wpAny _ _ (if (!t.led&& !es.isEmpty)=true then _ else _) _ _ _;rw [g.led,hb];exact wpAny_pure q
  ·rw [hi];exact wpAny_pure h
theorem mK {D:Addr}{es:Array (Int×Value)}{ep slot given:Nat}{t:SetTable}{Q:Option (Value×Nat)->Shared->Prop}(hS:du s.heap D es ep t) (hf:t.fits es.size=true) (hb:w.params.followText "set-order"=true)
  (h:Q (((pickOrder (w.params.setOrder D ep) es)[given]?).map λ e=>(e.2,slot)) s):wpAny (model prog w) A (setNext D slot given ep) Q E s:=by
 unfold setNext;refine wpAny_bind (gP hS hf ?_);dsimp only;refine wpAny_bind (jn ?_);rw [hb];show wpAny _ _ (if (ep != ep)=true then _ else _) _ _ _;rw [if_neg (by simp)];refine wpAny_bind ?_;unfold setWalk;refine wpAny_bind (gP hS hf ?_);dsimp only;refine wpAny_bind (jn ?_);rw [hb];show wpAny _ _ (do let x<-ask;pure _) _ _ _;exact wpAny_bind (wpAny_askSetting (wpAny_pure (wpAny_pure h)))
theorem sM {D:Addr}{es:Array (Int×Value)}{ep place:Nat}{t:SetTable}{e:Int×Value}{Q:Value->Shared->Prop}(hS:du s.heap D es ep t) (hf:t.fits es.size=true) (he:es[place]? =some e) (h:Q e.2 s):wpAny (model prog w) A (setNextDrawn D place ep) Q E s:=by unfold setNextDrawn;refine wpAny_bind (gP hS hf ?_);dsimp only;rw [if_neg (by simp),he];exact wpAny_pure h
end
def slotAt (t:SetTable) (i:Nat):Nat:=if i=0 then 0 else t.place.getD (i - 1) 0+1
theorem iY {t:SetTable}(hr:ra t.place) {i:Nat}(hi:i<=t.place.size):SetTable.below t.place (slotAt t i)=i:=by
 unfold slotAt
 by_cases h:i=0
 ·rw [if_pos h,h];exact qW hr
 ·rw [if_neg h,t7 hr (by lia)];lia
section
variable {prog:Program}{w:World}{A:Around}{E:Value->Shared->Prop}{s:Shared}
theorem oK {I D:Addr}{o:Obj}{vs:Array Value}{h:Heap}{i:Nat}{x:Value}(ho:h.get? I=some o) (hc:o.cls=.type "set_iterator") (hd:o.data=.fields vs):∃o',(h.update I (Obj.mapFields (·.setIfInBounds i x))).get? I=some o'/\o'.cls=.type "set_iterator"/\o'.data=.fields (vs.setIfInBounds i x):=
 ⟨_,Heap.get?_update_self _ ho (Obj.isFreed_of_fields (Obj.data_mapFields hd _)),(Obj.cls_mapFields ..).trans hc,Obj.data_mapFields hd _⟩
end
end L2
namespace L2
open PySem
section
variable {prog:Program}{w:World}{A:Around}{E:Value->Shared->Prop}{s:Shared}
theorem qH {I D:Addr}{es:Array (Int×Value)}{ep slot i next:Nat}{t:SetTable}{x:Value}{Q:Option Value->Shared->Prop}(hi:q9 s.heap I D (.int slot 0) i es.size ep) (hS:du s.heap D es ep t) (hf:t.fits es.size=true)
  (hn:∀(Q':Option (Value×Nat)->Shared->Prop) (E':Value->Shared->Prop),Q' (some (x,next)) s->wpAny (model prog w) A.in1 (setNext D slot i ep) Q' E' s)
  (hQ:∀h',q9 h' I D (.int next 0) (i+1) es.size ep->Heap.SameBut I s.heap h'->Q (some x) {s with heap:=h'}):wpAny (model prog w) A (pyNext (.ref I)) Q E s:=by
 have ty:=hi.ty;obtain ⟨o,ho,hc,hd⟩:=hi;unfold pyNext;refine wpAny_bind (wpAny_attempt (wpAny_callSpecial?_slot (name:=Str.ofString "__next__") ty bQ (wpAny_call_entry bQ ty gv ?_ (gB _))));show wpAny _ _ (fieldsOf (.ref I) >>= _) _ _ s;refine wpAny_bind (wpAny_fieldsOf ho hd ?_);show wpAny _ _ (setEntries D >>= _) _ _ s;unfold setEntries;refine wpAny_bind (wpAny_bind (gP hS hf (wpAny_pure ?_)));dsimp only;rw [if_neg (by simp)];show wpAny _ _ (setNext D (Int.toNat slot) (Int.toNat i) (Int.toNat ep) >>= _) _ _ s;rw [Qd,Qd,Qd];refine wpAny_bind (hn _ _ ?_);dsimp only;refine wpAny_bind (wpAny_setField ho hd (by simp) ?_);obtain ⟨o2,ho2,hc2,hd2⟩:=oK (D:=D) (i:=0) (x:=rawInt next) ho hc hd;refine wpAny_bind (wpAny_setField ho2 hd2 (by simp) (wpAny_pure ⟨x,rfl,wpAny_pure (hQ _ ?_ ((Heap.SameBut.update ..).trans (Heap.SameBut.update ..)))⟩));obtain ⟨o3,ho3,hc3,hd3⟩:=oK (D:=D) (i:=1) (x:=rawInt ((i:Int)+1)) ho2 hc2 hd2;exact ⟨o3,ho3,hc3,by rw [hd3];rfl⟩
theorem vi {I D:Addr}{es:Array (Int×Value)}{ep slot i:Nat}{t:SetTable}{Q:Option Value->Shared->Prop}(hh:A.handled=none) (hi:q9 s.heap I D (.int slot 0) i es.size ep) (hS:du s.heap D es ep t) (hf:t.fits es.size=true)
  (hn:∀(Q':Option (Value×Nat)->Shared->Prop) (E':Value->Shared->Prop),Q' none s->wpAny (model prog w) A.in1 (setNext D slot i ep) Q' E' s)
  (hQ:∀h',Heap.ExtBut I s.heap h'->Q none {s with heap:=h'}):wpAny (model prog w) A (pyNext (.ref I)) Q E s:=by
 have ty:=hi.ty;obtain ⟨o,ho,hc,hd⟩:=hi;unfold pyNext;refine wpAny_bind (wpAny_attempt (wpAny_callSpecial?_slot (name:=Str.ofString "__next__") ty bQ (wpAny_call_entry bQ ty gv ?_ (gB _))));show wpAny _ _ (fieldsOf (.ref I) >>= _) _ _ s;refine wpAny_bind (wpAny_fieldsOf ho hd ?_);show wpAny _ _ (setEntries D >>= _) _ _ s;unfold setEntries;refine wpAny_bind (wpAny_bind (gP hS hf (wpAny_pure ?_)));dsimp only;rw [if_neg (by simp)];show wpAny _ _ (setNext D (Int.toNat slot) (Int.toNat i) (Int.toNat ep) >>= _) _ _ s;rw [Qd,Qd,Qd];refine wpAny_bind (hn _ _ ?_);dsimp only;refine wpAny_bind (wpAny_setField ho hd (by simp) ?_);refine wpAny_bind ?_;simp only [newExc,newTuple];refine wpAny_bind (wpAny_newObj_type ?_ (by size_fits));refine wpAny_bind (m:=firstArgMember _ _) (wpAny_of_eq (a:=Value.none) (by first | rfl | (simp only [firstArgMember];rfl)) ?_)
 refine wpAny_newObj_type ?_ (by size_fits);simp only [raiseNew];refine wpAny_bind (wpAny_handled ?_);rw [show A.in1.handled=none from hh];refine wpAny_bind (wpAny_pure (wpAny_throw ?_));refine wpAny_bind (wpAny_isInstance (T:="StopIteration") (b:=true) ⟨_,Heap.get?_push_size _ rfl,rfl⟩ isSubtype_stop ?_);exact wpAny_pure (hQ _ (((Heap.SameBut.update ..).extBut.push _).push _))
theorem Cn {I D T:Addr}{es:Array (Int×Value)}{ps:Array Value}{ep i c k:Nat}{t:SetTable}{e:Int×Value}{ot:Obj}{Q:Option Value->Shared->Prop}(hi:q9 s.heap I D (.ref T) i es.size ep) (hS:du s.heap D es ep t) (hf:t.fits es.size=true)
  (hT:s.heap.get? T=some ot) (hTd:ot.data=.seq ps c) (hp:ps[i]? =some (.int k 0)) (he:es[k]? =some e)
  (hQ:∀h',q9 h' I D (.ref T) (i+1) es.size ep->Heap.SameBut I s.heap h'->Q (some e.2) {s with heap:=h'}):wpAny (model prog w) A (pyNext (.ref I)) Q E s:=by
 have ty:=hi.ty;obtain ⟨o,ho,hc,hd⟩:=hi;unfold pyNext;refine wpAny_bind (wpAny_attempt (wpAny_callSpecial?_slot (name:=Str.ofString "__next__") ty bQ (wpAny_call_entry bQ ty gv ?_ (gB _))));show wpAny _ _ (fieldsOf (.ref I) >>= _) _ _ s;refine wpAny_bind (wpAny_fieldsOf ho hd ?_);show wpAny _ _ (setEntries D >>= _) _ _ s;unfold setEntries;refine wpAny_bind (wpAny_bind (gP hS hf (wpAny_pure ?_)));dsimp only;rw [if_neg (by simp)];show wpAny _ _ (seqItems? (.ref T) >>= _) _ _ s;refine wpAny_bind (wpAny_seqItems hT hTd ?_);dsimp only;rw [Qd,hp];dsimp only;rw [Qd,Qd];refine wpAny_bind (sM hS hf he ?_);obtain ⟨o3,ho3,hc3,hd3⟩:=oK (D:=D) (i:=1) (x:=rawInt ((i:Int)+1)) ho hc hd;exact wpAny_bind (wpAny_setField ho hd (by simp) (wpAny_pure ⟨_,rfl,wpAny_pure (hQ _ ⟨o3,ho3,hc3,by rw [hd3];rfl⟩ (Heap.SameBut.update ..))⟩))
theorem JB {I D T:Addr}{es:Array (Int×Value)}{ps:Array Value}{ep i c:Nat}{t:SetTable}{ot:Obj}{Q:Option Value->Shared->Prop}(hh:A.handled=none) (hi:q9 s.heap I D (.ref T) i es.size ep) (hS:du s.heap D es ep t) (hf:t.fits es.size=true)
  (hT:s.heap.get? T=some ot) (hTd:ot.data=.seq ps c) (hp:ps[i]? =none)
  (hQ:∀h',Heap.ExtBut I s.heap h'->Q none {s with heap:=h'}):wpAny (model prog w) A (pyNext (.ref I)) Q E s:=by
 have ty:=hi.ty;obtain ⟨o,ho,hc,hd⟩:=hi;unfold pyNext;refine wpAny_bind (wpAny_attempt (wpAny_callSpecial?_slot (name:=Str.ofString "__next__") ty bQ (wpAny_call_entry bQ ty gv ?_ (gB _))));show wpAny _ _ (fieldsOf (.ref I) >>= _) _ _ s;refine wpAny_bind (wpAny_fieldsOf ho hd ?_);show wpAny _ _ (setEntries D >>= _) _ _ s;unfold setEntries;refine wpAny_bind (wpAny_bind (gP hS hf (wpAny_pure ?_)));dsimp only;rw [if_neg (by simp)];show wpAny _ _ (seqItems? (.ref T) >>= _) _ _ s;refine wpAny_bind (wpAny_seqItems hT hTd ?_);dsimp only;rw [Qd,hp];dsimp only;refine wpAny_bind (wpAny_setField ho hd (by simp) ?_);obtain ⟨o2,ho2,hc2,hd2⟩:=oK (D:=D) (i:=0) (x:=rawInt 0) ho hc hd;refine wpAny_bind (wpAny_setField ho2 hd2 (by simp) ?_);refine wpAny_bind ?_;simp only [newExc,newTuple];refine wpAny_bind (wpAny_newObj_type ?_ (by size_fits));refine wpAny_bind (m:=firstArgMember _ _) (wpAny_of_eq (a:=Value.none) (by first | rfl | (simp only [firstArgMember];rfl)) ?_)
 refine wpAny_newObj_type ?_ (by size_fits);simp only [raiseNew];refine wpAny_bind (wpAny_handled ?_);rw [show A.in1.handled=none from hh];refine wpAny_bind (wpAny_pure (wpAny_throw ?_));refine wpAny_bind (wpAny_isInstance (T:="StopIteration") (b:=true) ⟨_,Heap.get?_push_size _ rfl,rfl⟩ isSubtype_stop ?_);exact wpAny_pure (hQ _ ((((Heap.SameBut.update ..).trans (Heap.SameBut.update ..)).extBut.push _).push _))
theorem nE {I D:Addr}{f:Value}{i n ep:Nat}{Q:Value->Shared->Prop}(hi:q9 s.heap I D f i n ep) (h:Q (.ref I) s):wpAny (model prog w) A (pyIter (.ref I)) Q E s:=by refine wpAny_pyIter_slot hi.ty kY (wpAny_call_entry kY hi.ty tJ ?_ (ub _));show wpAny _ _ (ret (.ref I)) _ _ s;exact wpAny_pure ⟨_,rfl,"set_iterator",_,hi.ty,bQ.lookup,h⟩
end
end L2
namespace L2
open PySem
def cO (es:Array (Int×Value)):List Value:=es.toList.map (·.2)
structure WS3 (prog:Program) (w:World) (s:Shared) (D:Addr) (vs:List Value) (h':Heap) (I:Addr):Prop where
 ex:∃(fp:List Addr) (St:Nat->Heap->Prop),(∀A':Around,A'.handled=none->Walks prog w A' I fp [I] vs.length (λ i v=>vs[i]? =some v) St)/\St 0 h'/\(∀b∈fp,b=D\/s.heap.objs.size<=b)/\I∈fp/\(∀b∈fp,b<h'.objs.size)/\s.heap.objs.size<=I
section
variable {prog:Program}{w:World}
theorem vD {I D:Addr}(hne:D≠I) {es:Array (Int×Value)}{ep:Nat}{t:SetTable}(g:SG (!w.params.followText "set-order") es.size t) (hb:w.params.followText "set-order"=false) (hp:t.plain=true\/es.size<=1) {A:Around}(hh:A.handled=none):
  Walks prog w A I [I,D] [I] (cO es).length (λ i v=>(cO es)[i]? =some v) (λ i h=>i<=es.size/\q9 h I D (.int (slotAt t i:Nat) 0) i es.size ep/\du h D es ep t) where
 sub:=λ b hb=>by
  have:b=I:=by simpa using hb
  simp [this]
 frame:=λ i h h' st k=>⟨st.1,st.2.1.keep λ o e=>k I (by simp) o e,st.2.2.keep λ o e=>k D (by simp) o e⟩
 item:=λ i s Q E hi st hQ=>by
  have hl:(cO es).length=es.size:=by simp [cO]
  have hi':i<es.size:=by lia
  have hps:t.place.size=es.size:=by have:=g.fits;unfold SetTable.fits at this;rw [Qp] at this;exact beq_iff_eq.mp this.1
  have hv:(cO es)[i]? =some es[i].2:=by unfold cO;rw [N3,QA,Qz hi'];rfl
  refine qH (x:=es[i].2) (next:=slotAt t (i+1)) st.2.1 st.2.2 g.fits (λ Q' E' q=>mL st.2.2 g hb hp (iY g.ris (by lia)) ?_) λ h' a b=>?_
  ·rw [Qz hi',Qz (by lia)];have e:slotAt t (i+1)=t.place[i]+1:=by unfold slotAt;rw [if_neg (Nat.succ_ne_zero i),Nat.add_sub_cancel,bq (by lia)]
   rw [e] at q;exact q
  ·exact hQ _ h' s.toks hv ⟨hi',a,st.2.2.keep λ o e=>b.extBut D o hne e⟩ λ c o hc e=>b.extBut c o (λ z=>hc (by simp [z])) e
 done:=λ s Q E st hQ=>by
   have hl:(cO es).length=es.size:=by simp [cO]
   have hps:t.place.size=es.size:=by have:=g.fits;unfold SetTable.fits at this;rw [Qp] at this;exact beq_iff_eq.mp this.1
   rw [hl] at st;refine vi hh st.2.1 st.2.2 g.fits (λ Q' E' q=>mL st.2.2 g hb hp (iY g.ris (by lia)) ?_) λ h' a=>hQ h' s.toks λ c o hc e=>a c o (λ z=>hc (by simp [z])) e;rw [QC (PF _)];exact q
 self:=λ _ _ _ _ st hQ=>nE st.2.1 hQ
theorem vC {I D:Addr}(hne:D≠I) {es:Array (Int×Value)}{ep:Nat}{t:SetTable}(hf:t.fits es.size=true) (hb:w.params.followText "set-order"=true) {A:Around}(hh:A.handled=none):
  Walks prog w A I [I,D] [I] (cO (pickOrder (w.params.setOrder D ep) es)).length (λ i v=>(cO (pickOrder (w.params.setOrder D ep) es))[i]? =some v) (λ i h=>q9 h I D (.int (0:Nat) 0) i es.size ep/\du h D es ep t) where
 sub:=λ b hb=>by
  have:b=I:=by simpa using hb
  simp [this]
 frame:=λ i h h' st k=>⟨st.1.keep λ o e=>k I (by simp) o e,st.2.keep λ o e=>k D (by simp) o e⟩
 item:=λ i s Q E hi st hQ=>by
  have hi':i<(pickOrder (w.params.setOrder D ep) es).size:=by simpa [cO] using hi
  have hv:(cO (pickOrder (w.params.setOrder D ep) es))[i]? =some (pickOrder (w.params.setOrder D ep) es)[i].2:=by unfold cO;rw [N3,QA,Qz hi'];rfl
  refine qH (x:=(pickOrder (w.params.setOrder D ep) es)[i].2) (next:=0) st.1 st.2 hf (λ Q' E' q=>mK st.2 hf hb ?_) λ h' a b=>?_
  ·rw [Qz hi'];exact q
  ·exact hQ _ h' s.toks hv ⟨a,st.2.keep λ o e=>b.extBut D o hne e⟩ λ c o hc e=>b.extBut c o (λ z=>hc (by simp [z])) e
 done:=λ s Q E st hQ=>by refine vi hh st.1 st.2 hf (λ Q' E' q=>mK st.2 hf hb ?_) λ h' a=>hQ h' s.toks λ c o hc e=>a c o (λ z=>hc (by simp [z])) e;rw [QC (by simp [cO])];exact q
 self:=λ _ _ _ _ st hQ=>nE st.1 hQ
theorem BL {I D T:Addr}(hne:D≠I) (hT:T≠I) {es:Array (Int×Value)}{ep:Nat}{t:SetTable}(hf:t.fits es.size=true) (ks:List Nat) (hk:∀k∈ks,k<es.size) {A:Around}(hh:A.handled=none):
  Walks prog w A I [I,D,T] [I] (ks.map λ k=>(es.getD k (0,.none)).2).length (λ i v=>(ks.map λ k=>(es.getD k (0,.none)).2)[i]? =some v) (λ i h=>q9 h I D (.ref T) i es.size ep/\du h D es ep t/\∃ot c,h.get? T=some ot/\ot.data=.seq (ks.map λ (k:Nat)=>Value.int k 0).toArray c) where
 sub:=λ b hb=>by
  have:b=I:=by simpa using hb
  simp [this]
 frame:=λ i h h' st k=>⟨st.1.keep λ o e=>k I (by simp) o e,st.2.1.keep λ o e=>k D (by simp) o e,let ⟨ot,c,h1,h2⟩:=st.2.2;⟨ot,c,k T (by simp) ot h1,h2⟩⟩
 item:=λ i s Q E hi st hQ=>by
  have hi':i<ks.length:=by simpa using hi
  obtain ⟨s1,s2,ot,c,h1,h2⟩:=st;have hki:ks[i]<es.size:=hk _ (Of hi');refine Cn (k:=ks[i]) (e:=es[ks[i]]) s1 s2 hf h1 h2 (by simp [hi']) (Qz hki) λ h' a b=>?_;refine hQ _ h' s.toks ?_ ⟨a,s2.keep λ o e=>b.extBut D o hne e,ot,c,b.extBut T ot hT h1,h2⟩ λ c o hc e=>b.extBut c o (λ z=>hc (by simp [z])) e;rw [N3,N2 hi'];show some (es.getD ks[i] (0,.none)).2=_;rw [bq hki]
 done:=λ s Q E st hQ=>by obtain ⟨s1,s2,ot,c,h1,h2⟩:=st;exact JB hh s1 s2 hf h1 h2 (by simp) λ h' a=>hQ h' s.toks λ c o hc e=>a c o (λ z=>hc (by simp [z])) e
 self:=λ _ _ _ _ st hQ=>nE st.1 hQ
end
section
variable {prog:Program}{w:World}{A:Around}{E:Value->Shared->Prop}
theorem A8 {α:Type}:∀(n:Nat) (xs:List α) (s:Shared) (Q:List α->Shared->Prop),xs.length=n->(∀l d,l.Perm xs->Q l {s with drawn:=d})->wpAny (model prog w) A (drawOrder n xs) Q E s
 | 0,xs,s,Q,hn,h=>by have:xs=[]:=Pc.mp hn;subst this;exact wpAny_pure (h [] s.drawn (List.Perm.refl _))
 | n+1,[],s,Q,hn,h=>by cases hn
 | n+1,x::xs,s,Q,hn,h=>by
   show wpAny _ _ (do let i<-choose .order (x::xs).length;_) _ _ s;refine wpAny_bind ?_;intro Γ p hΓ;unfold choose;rw [Sem.wp_choose];refine ⟨Nat.succ_ne_zero _,?_⟩;have hi:(model prog w).w.draws Source.order (s.drawn.get Source.order) % (x::xs).length<(x::xs).length:=P6 _ (P7 _);refine (wpAny_pure (M:=model prog w) (A:=A) (E:=E) ?_) Γ p hΓ;rw [N2 hi];dsimp only;refine wpAny_bind (A8 n _ _ _ ?_ λ l d hp=>?_)
   ·rw [Py hi];lia
   ·exact wpAny_pure (h _ d ((List.Perm.cons _ hp).trans (lN (N2 hi))))
end
section
variable {prog:Program}{w:World}{A:Around}{E:Value->Shared->Prop}{s:Shared}
theorem rY {es:Array (Int×Value)}{l:List Nat}(h:l.Perm (List.range es.size)):(l.map λ k=>(es.getD k (0,.none)).2).Perm (cO es):=by
 refine (h.map _).trans (List.Perm.of_eq ?_);unfold cO;apply OJ;intro i;have e0:es.toList[i]? =es[i]? :=QA;rw [N3,N3,e0]
 by_cases hi:i<es.size
 ·rw [Oz hi,Qz hi];show some (es.getD i (0,.none)).2=some es[i].2;rw [bq hi]
 ·rw [Ot (by simpa using hi),QC (by lia)];rfl
theorem AG {D:Addr}{es:Array (Int×Value)}{ep:Nat}{t:SetTable}{Q:Value->Shared->Prop}(hS:du s.heap D es ep t) (g:SG (!w.params.followText "set-order") es.size t) (hz:es.size<=sizeLine)
  (hQ:∀(vs:List Value) (h':Heap) (I:Addr) d,vs.Perm (cO es)->WS3 prog w s D vs h' I->(∀b o,s.heap.get? b=some o->h'.get? b=some o)->Q (.ref I) {s with heap:=h',drawn:=d}):wpAny (model prog w) A (pyIter (.ref D)) Q E s:=by
 have ty:s.TypeIs (.ref D) "set":=let ⟨o,h1,h2,_⟩:=hS;⟨o,h1,h2.1⟩;have hlt:D<s.heap.objs.size:=let ⟨o,h1,_⟩:=hS;Heap.lt_size h1;refine wpAny_pyIter_slot ty F.slot_set_iter (wpAny_call_entry F.slot_set_iter ty qN ?_ (F.args_set_iter_1 _));show wpAny _ _ (Builtin.Frozenset.sizeOf D >>= _) _ _ s;unfold Builtin.Frozenset.sizeOf setEntries;refine wpAny_bind (wpAny_bind (wpAny_bind (gP hS g.fits (wpAny_pure (wpAny_pure ?_)))));dsimp only;refine wpAny_bind ?_;unfold setDrawn;refine wpAny_bind (gP hS g.fits ?_);dsimp only;refine wpAny_bind (jn (wpAny_pure ?_));have fin:∀(first:Value) (h1:Heap) (d:Drawn),(∀b o,s.heap.get? b=some o->h1.get? b=some o)->s.heap.objs.size<=h1.objs.size->(∀I h',q9 h' I D first 0 es.size ep->du h' D es ep t->D<I->s.heap.objs.size<=I->h1.objs.size<=I->I<h'.objs.size->(∀b o,h1.get? b=some o->h'.get? b=some o)->∃vs:List Value,vs.Perm (cO es)/\WS3 prog w s D vs h' I)->
   wpAny (model prog w) A.in1 (do let n<-setEpoch D;let x<-newFields "set_iterator" [first,rawInt 0,.ref D,rawInt es.size,rawInt n];ret x) (λ r s'=> ∃v,r=.done (.ret v)/\∃T' r',s'.TypeIs v T'/\typeLookup (.type T') "__next__"=pure (some r')/\Q v s') E {s with heap:=h1,drawn:=d}:=λ first h1 d k hs f=>by
  have hS1:du h1 D es ep t:=hS.keep λ o e=>k D o e;unfold setEpoch;refine wpAny_bind (wpAny_bind (gP hS1 g.fits (wpAny_pure ?_)));refine wpAny_bind (wpAny_newObj_type (wpAny_pure ?_) (by size_fits));have k2:∀b o,h1.get? b=some o->(h1.push {cls:=.type "set_iterator",data:=.fields #[first,.int 0 0,.ref D,.int es.size 0,.int ep 0]}).get? b=some o:=λ b o e=>Heap.get?_push_of_some _ e;have hI:q9 (h1.push {cls:=.type "set_iterator",data:=.fields #[first,.int 0 0,.ref D,.int es.size 0,.int ep 0]}) h1.objs.size D first 0 es.size ep:=⟨_,Heap.get?_push_size _ rfl,rfl,rfl⟩;obtain ⟨vs,p,W⟩:=f _ _ hI (hS1.keep λ o e=>k2 D o e) (PL hlt hs) hs (PF _) (by rw [Heap.size_push];exact P3 _) k2;exact ⟨_,rfl,"set_iterator",_,⟨_,Heap.get?_push_size _ rfl,rfl⟩,bQ.lookup,hQ vs _ _ d p W λ b o e=>k2 b o (k b o e)⟩
 cases hb:w.params.followText "set-order" with
 | true=>
   rw [if_neg (by simp)];refine wpAny_bind (wpAny_pure (fin _ s.heap s.drawn (λ _ _ e=>e) (PF _) λ I h' a b c1 c2 c3 c4 k=>⟨_,(v3 (w.params.setOrder D ep) es).map _,⟨[I,D],_,λ A' hA=>vC (PH c1) g.fits hb hA,⟨a,b⟩,?_,by simp,?_,c2⟩⟩))
   ·intro x hx;simp only [N1,Od,or_false] at hx
    rcases hx with rfl | rfl
    ·exact .inr c2
    ·exact .inl rfl
   ·intro x hx;simp only [N1,Od,or_false] at hx
    rcases hx with rfl | rfl
    ·exact c4
    ·exact PQ c1 c4
 | false=>
   split
   ·rename_i hd;have hd:(!t.plain&&decide (es.size > 1))=true:=hd;refine wpAny_bind (A8 es.size (List.range es.size) s _ (by simp) λ l d hp=>?_);refine wpAny_bind (wpAny_newObj_type ?_ ?_)
    ·refine fin _ _ d (λ b o e=>Heap.get?_push_of_some _ e) (by rw [Heap.size_push];exact PN _) λ I h' a b c1 c2 c3 c4 k=>⟨_,rY hp,⟨[I,D,s.heap.objs.size],_,λ A' hA=>BL (T:=s.heap.objs.size) (PH c1) (PH (PL (by rw [Heap.size_push];exact P3 _) c3)) g.fits l (λ x hx=>by simpa using hp.mem_iff.mp hx) hA,⟨a,b,_,_,k _ _ (Heap.get?_push_size _ rfl),rfl⟩,?_,by simp,?_,c2⟩⟩
     ·intro x hx;simp only [N1,Od,or_false] at hx
      rcases hx with rfl | rfl | rfl
      ·exact .inr c2
      ·exact .inl rfl
      ·exact .inr (PF _)
     ·intro x hx;simp only [N1,Od,or_false] at hx
      rcases hx with rfl | rfl | rfl
      ·exact c4
      ·exact PQ c1 c4
      ·exact Nat.lt_of_le_of_lt c2 c4
    ·have:=hp.length_eq;simp only [Ow] at this;simp [sizeOk,this,hz]
   ·rename_i hd;have hd:¬(!t.plain&&decide (es.size > 1))=true:=hd;have hp:t.plain=true\/es.size<=1:=by
     cases e:t.plain with
     | true=>exact .inl rfl
     | false=>
       right
       rw [e] at hd;simp at hd;lia
    refine wpAny_bind (wpAny_pure (fin _ s.heap s.drawn (λ _ _ e=>e) (PF _) λ I h' a b c1 c2 c3 c4 k=>⟨_,List.Perm.refl _,⟨[I,D],_,λ A' hA=>vD (PH c1) g hb hp hA,⟨PJ _,a,b⟩,?_,by simp,?_,c2⟩⟩))
    ·intro x hx;simp only [N1,Od,or_false] at hx
     rcases hx with rfl | rfl
     ·exact .inr c2
     ·exact .inl rfl
    ·intro x hx;simp only [N1,Od,or_false] at hx
     rcases hx with rfl | rfl
     ·exact c4
     ·exact PQ c1 c4
end
end L2
namespace L2
open PySem
theorem sU:typeLookup (.type "set") "__len__"=pure (some (.builtin "set.__len__")):=by rw [typeLookup_type,builtinLookup_eq_fast];kernel_rfl
section
variable {prog:Program}{w:World}{A:Around}{E:Value->Shared->Prop}{s:Shared}
theorem AI {D:Addr}{Q:Bool->Shared->Prop}(ty:s.TypeIs (.ref D) "set") (q:Q false s):wpAny (model prog w) A (Builtin.List.listLengthHint (.ref D)) Q E s:=by
 unfold Builtin.List.listLengthHint;refine wpAny_bind (wpAny_specialOf ty sU ?_);generalize hx:("set.__len__":String)=x0
 wp_delta
 rw [show splitId x0=some ("set","__len__") from by subst hx;decide+kernel];subst hx;refine wpAny_bind (wpAny_isInstance (T:="set") (b:=true) ty (by rw [isSubtype_type];kernel_rfl) ?_);refine wpAny_ite_split (λ z=>absurd z (by decide)) (λ _=>wpAny_ite_split (λ _=>?_) (λ z=>absurd (by decide+kernel) z));exact wpAny_bind (wpAny_typeOf ty (wpAny_pure q))
abbrev j5:Obj:={cls:=.type "list",data:=.seq ([]:List Value).toArray}
theorem qQ {D:Addr}{es:Array (Int×Value)}{ep:Nat}{t:SetTable}{Q:List Value->Shared->Prop}(hh:A.handled=none) (hS:du s.heap D es ep t) (g:SG (!w.params.followText "set-order") es.size t) (hz:es.size<=sizeLine)
  (q:∀(vs:List Value) (h':Heap) d tk,vs.Perm (cO es)->(∀b o,s.heap.get? b=some o->h'.get? b=some o)->s.heap.objs.size<h'.objs.size->s.toks<=tk->Q vs {s with heap:=h',drawn:=d,toks:=tk}):wpAny (model prog w) A (collect (.ref D)) Q E s:=by
 have hlt:D<s.heap.objs.size:=let ⟨o,h1,_⟩:=hS;Heap.lt_size h1;unfold collect;refine wpAny_bind (wpAny_runValue (codeAny_builtin F.entry_proto_collect ?_));rw [Around.under_plainId F.plain_proto_collect _];show wpAny _ A.in1 (newList [] >>= λ l=>again (.builtin "list.__iadd__" ⟨[l,.ref D],[]⟩)) _ _ s;refine wpAny_bind (wpAny_newObj_type (wpAny_pure ⟨plainId_quiet F.plain_list_iadd _,codeAny_builtin F.entry_list_iadd ?_⟩));rw [Around.under_plainId F.plain_list_iadd _];have kp:∀b o,s.heap.get? b=some o->(s.heap.push j5).get? b=some o:=λ b o e=>Heap.get?_push_of_some _ e;have hS1:du (s.heap.push j5) D es ep t:=hS.keep λ o e=>kp D o e;have ty1:Shared.TypeIs {s with heap:=s.heap.push j5} (.ref D) "set":=let ⟨o,h1,h2,_⟩:=hS1;⟨o,h1,h2.1⟩;have gL:(s.heap.push j5).get? s.heap.objs.size=some j5:=Heap.get?_push_size _ rfl;show wpAny _ A.in1 (Builtin.List.listExtendWith (.ref s.heap.objs.size) (.ref D) (.ref s.heap.objs.size)) _ _ _;unfold Builtin.List.listExtendWith;refine wpAny_bind (wpAny_typeOf ty1 ?_);have n1:Builtin.List.listSameRef (.ref s.heap.objs.size) (.ref D)=false:=by simp [Builtin.List.listSameRef,PM hlt]
 rw [if_neg (by rw [n1];decide)];refine wpAny_bind (AG (s:={s with heap:=s.heap.push j5}) hS1 g hz λ vs h' I d hp W k=>?_);obtain ⟨fp,St,W,st,f1,f2,f3,f4⟩:=W.ex;have hvl:vs.length<=sizeLine:=by
  have:=hp.length_eq;have e:(cO es).length=es.size:=by simp [cO]
  lia
 have nS:s.heap.objs.size∉fp:=λ z=>by
  rcases f1 _ z with e | e
  ·exact PM hlt e
  ·have e:(s.heap.push j5).objs.size<=s.heap.objs.size:=e;rw [Heap.size_push] at e;exact PP _ e
 have ty2:Shared.TypeIs {s with heap:=h',drawn:=d} (.ref D) "set":=let ⟨o,h1,h2,_⟩:=hS1;⟨o,k _ _ h1,h2.1⟩;refine wpAny_bind (wpAny_holding (AI ty2 ?_));have gL2:=k _ _ gL;refine wpAny_ite_split (λ _=>?_) (λ z=>absurd (by decide+kernel) z);refine wpAny_bind (wpAny_rule (wpAny_bind ?_));show wpAny _ _ (updateSeq s.heap.objs.size (·.push .none) >>= λ _=>updateSeq s.heap.objs.size (·.pop)) _ _ _;refine wpAny_bind (wpAny_updateSeq gL2 rfl ?_);have gL3:=Heap.get?_update_self (Obj.mapSeq (·.push Value.none)) gL2 rfl;refine wpAny_updateSeq (hz:=by seq_fits) gL3 rfl ?_;have gL4:=Heap.get?_update_self (Obj.mapSeq (·.pop)) gL3 rfl;have oth:∀b o,b≠s.heap.objs.size->h'.get? b=some o->((h'.update s.heap.objs.size (Obj.mapSeq (·.push Value.none))).update s.heap.objs.size (Obj.mapSeq (·.pop))).get? b=some o:=
  λ b o hb e=>(Heap.get?_update_other _ _ (Ne.symm hb)).trans ((Heap.get?_update_other _ _ (Ne.symm hb)).trans e)
 refine wpAny_pure ⟨plainId_quiet F.plain_extend_loop _,codeAny_extend_loopS (A:=A) (W A.in1 hh).toS hvl _ nS _ vs.length 0 _ _ _ rfl (PJ _) ((W A.in1 hh).frame 0 _ _ st λ b hb o e=>oth b o (λ z=>nS (z▸hb)) e) gL4 (ItemsOf.nil _) λ s2 acc c hm gA hacc=>?_⟩;show wpAny _ A (load s.heap.objs.size >>= _) _ _ s2;refine wpAny_bind (wpAny_load gA ?_);have ea:acc.toList=vs:=by
  apply OJ;intro i;rw [QA]
  by_cases hi:i<acc.size
  ·have:=hacc.2 i acc[i] (Qz hi);rw [Qz hi,this]
  ·rw [QC (by lia),Ot (by have:=hacc.1;lia)]
 refine wpAny_pure ?_;rw [ea];obtain ⟨h2,g2,d2,t2,o2⟩:=s2;obtain rfl:g2=s.gens:=hm.gens;obtain rfl:d2=d:=hm.drawn;obtain rfl:o2=s.os:=hm.os;refine q vs _ _ _ hp (λ b o e=>?_) (Heap.lt_size gA) ?_
 ·have hb:b≠s.heap.objs.size:=PH (Heap.lt_size e);refine hm.heap b o (λ z=>?_) (oth b o hb (k b o (kp b o e)))
  rcases N1.mp z with z | z
  ·exact hb z
  ·have z:b=I:=N5.mp z;have e2:(s.heap.push j5).objs.size<=I:=f4;rw [Heap.size_push] at e2;exact absurd (Heap.lt_size e) (by rw [z];exact Nat.not_lt.mpr (Nat.le_of_succ_le e2))
 ·exact hm.toks
end
section
variable {prog:Program}{w:World}{κ:Type} [DecidableEq κ] {knd:KeyKind prog w κ}{A:Around}{E:Value->Shared->Prop}{s:Shared}
theorem du.put {h:Heap}{D:Addr}{es:Array (Int×Value)}{ep:Nat}{t:SetTable}(x:du h D es ep t) (es':Array (Int×Value)) (t':SetTable):du (h.update D (Obj.putSet es' t')) D es' (ep+1) t':=by obtain ⟨o,ho,hx,hd⟩:=x;have e:=Heap.get?_update_self (Obj.putSet es' t') ho (by rw [putSet_of es' t' hd];rfl);rw [putSet_of es' t' hd] at e;exact ⟨_,e,hx,rfl⟩
theorem zW {D:Addr}{es es':Array (Int×Value)}{ep:Nat}{t t':SetTable}{Q:Unit->Shared->Prop}(x:du s.heap D es ep t) (hz:es'.size<scanBound) (q:Q () {s with heap:=s.heap.update D (Obj.putSet es' t')}):wpAny (model prog w) A (storeSet D es' t') Q E s:=by obtain ⟨o,ho,_,hd⟩:=x;exact wpAny_storeSet_of ho hd q (fits_of_scanBound hz)
end
end L2
namespace L2
open PySem
section
variable {prog:Program}{w:World}{A:Around}{E:Value->Shared->Prop}{s:Shared}
theorem mJ {k:List Int}{a:Addr}{Q:Bool->Shared->Prop}(hk:IsTupleKey (intKind prog w) s.heap k a) (h:Q false s):wpAny (model prog w) A (ofAClassStatement 8 (.ref a)) Q E s:=by
 have hT:=hk.typeIs;obtain ⟨o,items,n,ho,_,hd,hi⟩:=hk;unfold ofAClassStatement;refine wpAny_bind (wpAny_typeOf hT ?_);dsimp only;rw [if_pos (by decide)];refine wpAny_bind (wpAny_pure ?_);simp only [Qx,Qr,if_false];refine wpAny_bind (wpAny_seqItems ho hd ?_);dsimp only;refine wpAny_bind ?_;rw [<-QH];refine wpAny_forIn_list _ (λ rest r s'=>r.1=none/\s'=s/\∀v∈rest,carriedByValue v=true) _ ?_ ?_ _ _ ⟨rfl,rfl,hi.byValue⟩
 ·rintro v rest r s' ⟨hr,rfl,hall⟩;have hv:=hall v N9;have e:ofAClassStatement 7 v=pure false:=by
   cases v<;>first | rfl | (simp [carriedByValue] at hv)
  rw [e];refine wpAny_bind (wpAny_pure ?_);simp only [Qr,if_false];exact wpAny_pure ⟨rfl,rfl,λ u hu'=>hall u (N6 _ hu')⟩
 ·rintro ⟨r1,r2⟩ s' ⟨hr,rfl,_⟩;simp only at hr;subst hr;exact wpAny_pure h
def El (prog:Program) (w:World) (m:Addr->Prop) (h:Heap) (k:List Int) (e:Int×Value):Prop:= ∃a,m a/\e=(tupleKeyHash (intKind prog w) k,.ref a)/\IsTupleKey (intKind prog w) h k a
theorem IE {k:List Int}{x:Addr}{ys:List Value}{Q:Bool->Shared->Prop}(hx:IsTupleKey (intKind prog w) s.heap k x) (hy:∀y∈ys,∃ki a,y=.ref a/\IsTupleKey (intKind prog w) s.heap ki a) (h:Q false s):
  wpAny (model prog w) A (searchCouldBeSeen (.ref x) ys) Q E s:=by
 unfold searchCouldBeSeen;refine wpAny_bind ?_;refine wpAny_forIn_list _ (λ rest r s'=>r.1=none/\s'=s/\∀v∈rest,∃ki a,v=.ref a/\IsTupleKey (intKind prog w) s.heap ki a) _ ?_ ?_ _ _ ⟨rfl,rfl,hy⟩
 ·rintro v rest r s' ⟨hr,rfl,hall⟩;obtain ⟨ki,a,rfl,ha⟩:=hall v N9;dsimp only;split
  ·exact wpAny_pure ⟨rfl,rfl,λ u hu'=>hall u (N6 _ hu')⟩
  ·refine wpAny_bind (wpAny_eqIsQuiet_tuple hx ?_);simp only [Qx,Qr,if_false];refine wpAny_bind (wpAny_eqIsQuiet_tuple ha ?_);simp only [Qx,Qr,if_false];refine wpAny_bind (mJ hx ?_);simp only [Qr,if_false];refine wpAny_bind (mJ ha ?_);simp only [Qr,if_false];exact wpAny_pure ⟨rfl,rfl,λ u hu'=>hall u (N6 _ hu')⟩
 ·rintro ⟨r1,r2⟩ s' ⟨hr,rfl,_⟩;simp only at hr;subst hr;exact wpAny_pure h
theorem El.inj {m:Addr->Prop}{h:Heap}{k k':List Int}{e:Int×Value}(x:El prog w m h k e) (y:El prog w m h k' e):k=k':=by obtain ⟨a,_,rfl,h1⟩:=x;obtain ⟨b,_,e2,h2⟩:=y;injection e2 with _ e3;injection e3 with e4;subst e4;exact h1.inj h2
theorem gS {m:Addr->Prop}{D:Addr}{es:Array (Int×Value)}{ep:Nat}{t:SetTable}{x:Addr}{k:List Int}{N:Nat}{h:Int}{Q:SetFound->Shared->Prop}(eh:h=tupleKeyHash (intKind prog w) k) (hS:du s.heap D es ep t) (g:rh es t)
  (hes:∀i,i<es.size->∃ki,El prog w m s.heap ki (es.getD i (0,.none))) (hx:IsTupleKey (intKind prog w) s.heap k x) (hu:A.units<cLine) (he:t.slot (sl t.mask h N 0)=.empty) (hN:N<=t.mask+13)
  (q1:∀i,i<es.size->El prog w m s.heap k (es.getD i (0,.none))->Q (.there none) s)
  (q2:(∀i,i<es.size->¬El prog w m s.heap k (es.getD i (0,.none)))->∀n c,jq t.mask h n c->t.slot (sl t.mask h n c)=.empty->(∀a b,jq t.mask h a b->gK a b n c->¬t.slot (sl t.mask h a b)=.empty)->Q (.free (sl t.mask h n c) false) s):
  ∀(f n c:Nat) (stand:Option SetTable.Probe),ud t.mask h n c (stand.getD (t.probeStart h))->(stand.getD (t.probeStart h)).dummy=none->(n<N\/(n=N/\c=0))->
   (∀a b,jq t.mask h a b->gK a b n c->∃i,t.slot (sl t.mask h a b)=.live i/\¬El prog w m s.heap k (es.getD i (0,.none)))->10*(N - n)+1<=f+c->wpAny (model prog w) A (setSearchFrom D (.ref x) h true f stand) Q E s
 | 0,n,c,stand,a,hd,hn,hv,hf=>by have:=lf t.mask (lp t.mask h n).1;have:=a.ok;unfold jq at this;lia
 | f+1,n,c,stand,a,hd,hn,hv,hf=>by
   have hgw:t.gaveWay=false:=by unfold SetTable.gaveWay;have:=g.odd;simp;lia
   have c9:c<=9:=by have h1:=lf t.mask (lp t.mask h n).1;have h2:=a.ok;unfold jq at h2;lia
   have live_ix:∀{j i},t.slot j=.live i->i<es.size:=λ {j i} e=>by rw [<-g.ps];exact ((jy g.ris).mp e).1
   unfold setSearchFrom;refine wpAny_bind (gP hS g.fits ?_);dsimp only;rw [hgw,if_neg Qo];have fin:∀(hashAt:Nat->Int),(∀i,hashAt i=(es[i]?.map (·.1)).getD 0)->∃n' c' p',ud t.mask h n' c' p'/\(n'<N\/(n'=N/\c'=0))/\(gK n c n' c'\/(n=n'/\c=c'))/\(∀a b,jq t.mask h a b->(gK n c a b\/(n=a/\c=b))->gK a b n' c'->∃i,t.slot (sl t.mask h a b)=.live i/\¬hashAt i=h)/\
    ((t.slot (sl t.mask h n' c')=.empty/\t.probe hashAt h (stand.getD (t.probeStart h))=some (.empty (sl t.mask h n' c') none))\/
     (∃i,t.slot (sl t.mask h n' c')=.live i/\hashAt i=h/\t.probe hashAt h (stand.getD (t.probeStart h))=some (.candidate (sl t.mask h n' c') i (t.advance p'))/\n'<N/\p'.dummy=none)):=λ hashAt _=>by
    obtain ⟨n',c',p',b1,b2,b3,b4,b5⟩:=oN g.nd hashAt he (10*SetTable.turns t.mask) n c _ a hn (by unfold SetTable.turns;lia);rw [hd] at b5;exact ⟨n',c',p',b1,b2,b3,b4,b5⟩
   split
   ·rename_i met hm;obtain ⟨hashAt,hha,hm⟩:∃fh:Nat->Int,(∀i,fh i=(es[i]?.map (·.1)).getD 0)/\t.probe fh h (stand.getD (t.probeStart h))=some met:=⟨_,λ i=>rfl,hm⟩;obtain ⟨n',c',p',b1,b2,b3,b4,b5⟩:=fin hashAt hha;have hv':∀a b,jq t.mask h a b->gK a b n' c'->∃i,t.slot (sl t.mask h a b)=.live i/\¬El prog w m s.heap k (es.getD i (0,.none)):=λ a b o l=>by
     by_cases l2:gK a b n c
     ·exact hv a b o l2
     ·obtain ⟨i,h1,h2⟩:=b4 a b o (by unfold gK at *;lia) l;refine ⟨i,h1,λ ⟨y,_,e,_⟩=>h2 ?_⟩;have hi:=live_ix h1;rw [hha i,Qz hi];rw [bq hi] at e;rw [e,eh];rfl
    rcases b5 with ⟨e1,e2⟩ | ⟨i,e1,e2,e3,e4,e5⟩
    ·rw [e2] at hm;injection hm with hm;subst hm;dsimp only;refine wpAny_pure (q2 (λ i hi hE=>?_) n' c' b1.ok e1 λ a b o l z=>?_)
     ·obtain ⟨n0,c0,o0,e0,hb⟩:=g.pl i hi;have hh:(es.getD i (0,.none)).1=h:=by obtain ⟨y,_,e,_⟩:=hE;rw [e,eh]
      rw [hh] at o0 e0 hb;have hsl:t.slot (t.place.getD i 0)=.live i:=(jy g.ris).mpr ⟨by rw [g.ps];exact hi,rfl⟩
      by_cases l1:gK n0 c0 n' c'
      ·obtain ⟨j,z1,z2⟩:=hv' n0 c0 o0 l1;rw [e0,hsl] at z1;injection z1 with z1;subst z1;exact z2 hE
      ·by_cases l2:gK n' c' n0 c0
       ·exact hb n' c' b1.ok l2 e1
       ·have:n0=n'/\c0=c':=by unfold gK at *;lia
        obtain ⟨rfl,rfl⟩:=this;rw [e0,hsl] at e1;cases e1
     ·obtain ⟨i,z1,_⟩:=hv' a b o l;rw [z1] at z;cases z
    ·rw [e3] at hm;injection hm with hm;subst hm;have hi:=live_ix e1;obtain ⟨ki,y,my,ey,hy⟩:=hes i hi;have eg:es[i]? =some (tupleKeyHash (intKind prog w) ki,Value.ref y):=by rw [Qz hi,<-bq hi,ey]
     have hsm:t.sameMemory t.moves t.mask=some true:=by unfold SetTable.sameMemory;rw [if_pos (by simp)]
     have hmo:∀n2 c2,jq t.mask h n2 c2->gK n' c' n2 c2\/(n'=n2/\c'=c2)\/gK n2 c2 n' c':=λ n2 c2 _=>by unfold gK;lia
     have again:¬ki=k->wpAny (model prog w) A (setSearchFrom D (.ref x) h true f (some (t.advance p'))) Q E s:=λ ne=>by
      have hd':(t.advance p').dummy=none:=by unfold SetTable.advance;split<;>exact e5
      have hvn:∀n2 c2,(∀a b,jq t.mask h a b->gK a b n2 c2->gK a b n' c'\/(a=n'/\b=c'))->∀a b,jq t.mask h a b->gK a b n2 c2->∃i,t.slot (sl t.mask h a b)=.live i/\¬El prog w m s.heap k (es.getD i (0,.none)):=λ n2 c2 z a b o l=>by
       rcases z a b o l with q | ⟨rfl,rfl⟩
       ·exact hv' a b o q
       ·exact ⟨i,e1,λ q=>ne (El.inj ⟨y,my,ey,hy⟩ q)⟩
      by_cases hm:0<p'.more
      ·refine gS eh hS g hes hx hu he hN q1 q2 f n' (c'+1) (some (t.advance p')) (b1.more hm) hd' (.inl e4) (hvn _ _ λ a b o l=>by unfold gK at *;lia) ?_;unfold gK at b3;lia
      ·have hck:=b1.2.2.2;have hc9:=lf t.mask (lp t.mask h n').1;refine gS eh hS g hes hx hu he hN q1 q2 f (n'+1) 0 (some (t.advance p')) (b1.leap hm) hd' (by lia) (hvn _ _ λ a b o l=>?_) ?_
       ·unfold jq at o;unfold gK at*
        by_cases e2:a=n'
        ·subst e2;lia
        ·lia
       ·have:=b1.ok;unfold jq at this;unfold gK at b3;lia
     dsimp only;rw [eg];dsimp only;split
     ·refine wpAny_bind (IE hx (λ v hv2=>?_) ?_)
      ·rw [N0] at hv2;obtain ⟨e,he2,rfl⟩:=hv2;rw [Array.toList_filter,Oq] at he2;obtain ⟨r,hr,rfl⟩:=OF he2.1;have hr2:r<es.size:=by simpa using hr
       obtain ⟨kr,z,_,ez,hz⟩:=hes r hr2;rw [bq hr2] at ez;exact ⟨kr,z,by rw [QG,ez],hz⟩
      ·rw [if_neg Qo];refine wpAny_bind (wpAny_holding (wpAny_eqBool_tuple hu hy hx (wpAny_bind (gP hS g.fits ?_))));dsimp only
       by_cases ek:ki=k
       ·rw [decide_eq_true ek,if_pos (by decide)];subst ek;exact wpAny_pure (q1 i hi ⟨y,my,ey,hy⟩)
       ·rw [decide_eq_false ek,if_neg (by simp),hsm];dsimp only;rw [if_pos rfl,e1];dsimp only;rw [eg];dsimp only;refine wpAny_bind ?_;unfold isSame;dsimp only;rw [if_pos (by simp)];refine wpAny_pure ?_;rw [if_pos rfl];refine wpAny_bind (wpAny_pure ?_);dsimp only;rw [if_neg Qo];exact again ek
     ·refine wpAny_bind (wpAny_holding (wpAny_eqBool_tuple hu hy hx (wpAny_bind (gP hS g.fits ?_))));dsimp only
      by_cases ek:ki=k
      ·rw [decide_eq_true ek,if_pos (by decide)];subst ek;exact wpAny_pure (q1 i hi ⟨y,my,ey,hy⟩)
      ·rw [decide_eq_false ek,if_neg (by simp),hsm];dsimp only;rw [if_pos rfl,e1];dsimp only;rw [eg];dsimp only;refine wpAny_bind ?_;unfold isSame;dsimp only;rw [if_pos (by simp)];refine wpAny_pure ?_;rw [if_pos rfl];refine wpAny_bind (wpAny_pure ?_);dsimp only;rw [if_neg Qo];exact again ek
   ·rename_i hm;exfalso;obtain ⟨hashAt,hha,hm⟩:∃fh:Nat->Int,(∀i,fh i=(es[i]?.map (·.1)).getD 0)/\∀met,t.probe fh h (stand.getD (t.probeStart h))=some met->False:=⟨_,λ i=>rfl,hm⟩;obtain ⟨n',c',p',b1,b2,b3,b4,b5⟩:=fin hashAt hha
    rcases b5 with ⟨e1,e2⟩ | ⟨i,e1,e2,e3,_⟩
    ·exact hm _ e2
    ·exact hm _ e3
end
end L2
namespace L2
open PySem
section
variable {prog:Program}{w:World}{A:Around}{E:Value->Shared->Prop}{s:Shared}
theorem AL {k:List Int}{a:Addr}{Q:Bool->Shared->Prop}(hk:IsTupleKey (intKind prog w) s.heap k a) (h:∀b,Q b s):wpAny (model prog w) A (hashByValue 8 (.ref a)) Q E s:=by
 have hT:=hk.typeIs;obtain ⟨o,items,n,ho,_,hd,hi⟩:=hk;unfold hashByValue;refine wpAny_bind (wpAny_specialOf hT F.slot_tuple_hash.lookup ?_);dsimp only;refine wpAny_bind (wpAny_seqItems ho hd ?_);refine wpAny_bind ?_;show wpAny _ _ (forIn items _ _) _ _ s;rw [<-QH];refine wpAny_forIn_list _ (λ rest r s'=>s'=s/\∀v∈rest,carriedByValue v=true) _ ?_ ?_ _ _ ⟨rfl,hi.byValue⟩
 ·rintro v rest r s' ⟨rfl,hall⟩;have hv:=hall v N9;have e:∃b,hashByValue 7 v=pure b:=by
   cases v<;>first | exact ⟨_,rfl⟩ | (simp [carriedByValue] at hv)
  obtain ⟨b,e⟩:=e;rw [e];refine wpAny_bind (wpAny_pure ?_);split
  ·exact wpAny_pure (wpAny_pure (h _))
  ·exact wpAny_pure ⟨rfl,λ u hu'=>hall u (N6 _ hu')⟩
 ·rintro ⟨r1,r2⟩ s' ⟨rfl,_⟩;cases r1 with
  | none=>exact wpAny_pure (h _)
  | some b=>exact wpAny_pure (h _)
theorem TK.same {h h':Heap}{k:List Int}{a D:Addr}{es:Array (Int×Value)}{ep:Nat}{t:SetTable}(x:IsTupleKey (intKind prog w) h k a) (hS:du h D es ep t) (b:Heap.SameBut D h h'):IsTupleKey (intKind prog w) h' k a:=by
 obtain ⟨o,items,n,ho,hc,hd,hi⟩:=x;obtain ⟨o',ho',hx',hd'⟩:=hS;have hne:a≠D:=by rintro rfl;obtain rfl:o=o':=Option.some.inj (ho.symm.trans ho');rw [hd] at hd';exact nomatch hd'
 exact ⟨o,items,n,(b.2 a hne).trans ho,hc,hd,hi⟩
theorem El.same {m:Addr->Prop}{h h':Heap}{k:List Int}{e:Int×Value}{D:Addr}{es:Array (Int×Value)}{ep:Nat}{t:SetTable}(x:El prog w m h k e) (hS:du h D es ep t) (b:Heap.SameBut D h h'):El prog w m h' k e:=let ⟨a,h0,h1,h2⟩:=x;⟨a,h0,h1,TK.same h2 hS b⟩
def Rm (mask n:Nat):Prop:=(mask=7\/mask=31\/mask=127\/mask=511)/\n*5<mask*3
structure ST (prog:Program) (w:World) (m:Addr->Prop) (h:Heap) (es:Array (Int×Value)) (t:SetTable):Prop where
 el:∀e∈es.toList,∃k,El prog w m h k e
 nd:es.toList.Pairwise λ e e'=> ∀k,El prog w m h k e->¬El prog w m h k e'
 tg:rh es t
 led:t.led= !w.params.followText "set-order"
 rm:Rm t.mask es.size
def ie (prog:Program) (w:World) (m:Addr->Prop) (h:Heap) (D:Addr) (S:List Int->Bool) (n:Nat):Prop:= ∃es ep t,du h D es ep t/\ST prog w m h es t/\(∀k,S k=true<->∃e∈es.toList,El prog w m h k e)/\es.size=n
theorem BX {mask:Nat}{n:Nat}(r:Rm mask n):jW (mask+1):=by
 obtain ⟨rfl | rfl | rfl | rfl,_⟩:=r
 ·exact GR
 ·exact Jv
 ·exact Cy
 ·exact Cw
theorem rh.off {es:Array (Int×Value)}{t:SetTable}(g:rh es t) (b:Bool):rh es {t with plain:=b}:=⟨g.ps,g.ris,g.nd,g.full,g.odd,g.fit,g.pl⟩
theorem M9 {m:Addr->Prop}{D:Addr}{S:List Int->Bool}{n:Nat}{k:List Int}{x:Addr}{Q:Bool->Shared->Prop}(hx:IsTupleKey (intKind prog w) s.heap k x) (hxm:m x) (hu:A.units<cLine) (hS:ie prog w m s.heap D S n) (hr:n+1<307)
  (q:∀h',Heap.SameBut D s.heap h'->ie prog w m h' D (λ k'=>S k'||decide (k'=k)) (if S k then n else n+1)->Q (!S k) {s with heap:=h'}):wpAny (model prog w) A (setAddHashed D (.ref x) (tupleKeyHash (intKind prog w) k)) Q E s:=by
 obtain ⟨es,ep,t,o1,st,hm,rfl⟩:=hS;have g:=st.tg;unfold setAddHashed setAddHashedIn;refine wpAny_holding (wpAny_bind (gP o1 g.fits ?_));dsimp only;have hbs:byScan (.ref x) es=false:=rfl;rw [hbs,if_neg Qo];refine wpAny_bind ?_;unfold setSearch;obtain ⟨e0,he0,hee⟩:=wH g.ris g.nd g.fit;obtain ⟨N,hN,eN⟩:=uN g.full (tupleKeyHash (intKind prog w) k) he0;have hb:t.mask<=511:=by obtain ⟨h1,_⟩:=st.rm;lia
 refine gS (m:=m) (N:=N) rfl o1 g (λ i hi=>?_) hx hu ?_ hN (λ i hi hE=>?_) (λ hno n' c' ok em before=>?_) 100000 0 0 none ud.start rfl ?_ (λ a b _ l=>?_) ?_
 ·refine st.el _ ?_;rw [bq hi];simp
 ·show t.slot ((lp t.mask _ N).1+0)=_;rw [Nat.add_zero,eN];exact hee
 ·dsimp only;have hs:S k=true:=(hm k).mpr ⟨_,by rw [bq hi];simp,hE⟩;refine wpAny_pure ?_;have z:=q s.heap (Heap.SameBut.refl D s.heap) ⟨es,ep,t,o1,st,λ k'=>?_,by rw [hs];rfl⟩
  ·rw [hs] at z;exact z
  ·rw [Qw,decide_eq_true_eq,<-hm k'];exact ⟨λ y=>y.elim id (λ e=>e▸hs),.inl⟩
 ·dsimp only;have hs:S k=false:=by
   cases y:S k with
   | false=>rfl
   | true=>
     obtain ⟨e,a1,a2⟩:=(hm k).mp y;obtain ⟨i,hi,rfl⟩:=OF a1;have hi2:i<es.size:=by simpa using hi
     exact absurd (by rw [bq hi2];simpa using a2) (hno i hi2)
  have hroom:es.size+1<=t.mask:=by obtain ⟨h1,h2⟩:=st.rm;lia
  have g1:=g.put (x:=.ref x) ok em before hroom;refine wpAny_bind (gP o1 g.fits ?_);dsimp only;have hled:(t.put (sl t.mask (tupleKeyHash (intKind prog w) k) n' c')).1.led=t.led:=rfl;have hmask:(t.put (sl t.mask (tupleKeyHash (intKind prog w) k) n' c')).1.mask=t.mask:=rfl;have p1:=SetTable.insertAt_perm es (t.put (sl t.mask (tupleKeyHash (intKind prog w) k) n' c')).2 (tupleKeyHash (intKind prog w) k,Value.ref x);generalize t.put (sl t.mask (tupleKeyHash (intKind prog w) k) n' c')=P at g1 hled hmask p1 ⊢;obtain ⟨t1,p⟩:=P;dsimp only at g1 hled hmask p1 ⊢;generalize SetTable.insertAt es p (tupleKeyHash (intKind prog w) k,Value.ref x)=es1 at g1 p1 ⊢;rw [QF] at p1;have hz1:es1.size=es.size+1:=by have:=p1.length_eq;simpa using this
  have hex:El prog w m s.heap k (tupleKeyHash (intKind prog w) k,Value.ref x):=⟨x,hxm,rfl,hx⟩;have el1:∀e∈es1.toList,∃k,El prog w m s.heap k e:=λ e he=>by
   rcases Oc.mp (p1.mem_iff.mp he) with y | y
   ·exact st.el e y
   ·rw [N5] at y;subst y;exact ⟨k,hex⟩
  have nd1:es1.toList.Pairwise λ e e'=> ∀k,El prog w m s.heap k e->¬El prog w m s.heap k e':=by refine (p1.pairwise_iff (λ {e e'} z k h1 h2=>z k h2 h1)).mpr (Pu.mpr ⟨st.nd,PB ..,λ e he e' he' k' h1 h2=>?_⟩);rw [N5] at he';subst he';obtain rfl:=h2.inj hex;have:=(hm k').mpr ⟨e,he,h1⟩;rw [hs] at this;cases this
  have hm1:∀k',(S k'||decide (k'=k))=true<->∃e∈es1.toList,El prog w m s.heap k' e:=λ k'=>by
   rw [Qw,decide_eq_true_eq,hm k']
   constructor
   ·rintro (⟨e,a1,a2⟩ | rfl)
    ·exact ⟨e,p1.mem_iff.mpr (Ox _ a1),a2⟩
    ·exact ⟨_,p1.mem_iff.mpr (Oi _ (N5.mpr rfl)),hex⟩
   ·rintro ⟨e,a1,a2⟩
    rcases Oc.mp (p1.mem_iff.mp a1) with y | y
    ·exact .inl ⟨e,y,a2⟩
    ·rw [N5] at y;subst y;exact .inr (a2.inj hex)
  have back:∀{h':Heap},Heap.SameBut D s.heap h'->∀{k' e},e∈es1.toList->El prog w m h' k' e->El prog w m s.heap k' e:=λ {h'} b {k' e} he z=>by obtain ⟨k2,y⟩:=el1 e he;obtain rfl:=z.inj (y.same o1 b);exact y
  have out:∀{h':Heap} {es':Array (Int×Value)} {ep':Nat} {t':SetTable},Heap.SameBut D s.heap h'->du h' D es' ep' t'->es'.toList.Perm es1.toList->rh es' t'->t'.led=t.led->Rm t'.mask es'.size->Q true {s with heap:=h'}:=λ {h' es' ep' t'} b o' pp g' l' r'=>by
   have z:=q h' b ⟨es',ep',t',o',⟨λ e he=>?_,?_,g',l'.trans st.led,r'⟩,λ k'=>?_,?_⟩
   ·rw [hs] at z;exact z
   ·obtain ⟨k2,y⟩:=el1 e (pp.mem_iff.mp he);exact ⟨k2,y.same o1 b⟩
   ·refine (pp.pairwise_iff (λ {e e'} z k h1 h2=>z k h2 h1)).mpr ?_;refine nd1.imp_of_mem ?_;intro e e' he he' z k' h1 h2;exact z k' (back b he h1) (back b he' h2)
   ·rw [hm1 k']
    constructor
    ·rintro ⟨e,a1,a2⟩;exact ⟨e,pp.mem_iff.mpr a1,a2.same o1 b⟩
    ·rintro ⟨e,a1,a2⟩;have a3:=pp.mem_iff.mp a1;exact ⟨e,a3,back b a3 a2⟩
   ·rw [hs];have:=pp.length_eq;simp only [QB] at this;rw [this,hz1];rfl
  have hsb:es1.size<scanBound:=by unfold scanBound;lia
  have fin:∀t2,rh es1 t2->t2.led=t.led->t2.mask=t.mask->wpAny (model prog w) A (do
    storeSet D es1 t2
    if (!false&&t2.tooFull)=true then do
     setRelay D (SetTable.grown (es.size+1))
     pure true
    else pure true) Q E s:=λ t2 g2 l2 m2=>by
   refine wpAny_bind (zW o1 hsb ?_);have o2:=o1.put es1 t2;have b2:=Heap.SameBut.update s.heap D (Obj.putSet es1 t2);have hfill:t2.fill=es.size+1:=by unfold SetTable.fill;rw [g2.nd,g2.ps,hz1];rfl
   split
   ·rename_i hfull;have hfull:t2.tooFull=true:=by simpa using hfull
    unfold SetTable.tooFull at hfull;rw [hfill,m2] at hfull;have hfull:t.mask*3<=(es.size+1)*5:=by simpa using hfull
    have hsz:(t.mask=7/\es.size+1=5)\/(t.mask=31/\es.size+1=19)\/(t.mask=127/\es.size+1=77):=by obtain ⟨h1,h2⟩:=st.rm;lia
    have hw:∃M,SetTable.sizeAbove (SetTable.grown (es.size+1))=M+1/\Rm M (es.size+1):=by
     rcases hsz with ⟨_,e⟩ | ⟨_,e⟩ | ⟨_,e⟩
     ·rw [e];exact ⟨31,by decide,by unfold Rm;lia⟩
     ·rw [e];exact ⟨127,by decide,by unfold Rm;lia⟩
     ·rw [e];exact ⟨511,by decide,by unfold Rm;lia⟩
    obtain ⟨M,hM,hRm⟩:=hw;have hM1:SetTable.sizeAbove (SetTable.grown (es.size+1)) - 1=M:=by lia
    obtain ⟨t3,order,r1,r2,r3,r4,r5,r6⟩:=vT (es:=es1) (t:=t2) (wanted:=SetTable.grown (es.size+1)) (by rw [hM1];exact BX hRm) (by rw [hM1];obtain ⟨h1,_⟩:=hRm;lia) (by rw [hM1,hz1];obtain ⟨h1,h2⟩:=hRm;lia);refine wpAny_bind ?_;unfold setRelay;refine wpAny_bind (gP o2 g2.fits ?_);dsimp only;rw [if_neg (by rw [hM];obtain ⟨h1,_⟩:=hRm;unfold sizeLine;lia),r1];refine wpAny_bind ?_;show wpAny _ _ (if ((order.filterMap (es1[·]?)).size != es1.size)=true then _ else pure (order.filterMap (es1[·]?),t3)) _ _ _;rw [if_neg (by rw [r2];simp)];refine wpAny_pure (zW o2 (by rw [r2];exact hsb) (wpAny_pure ?_));exact out (b2.trans (Heap.SameBut.update _ D (Obj.putSet _ t3))) (o2.put _ t3) r3 r4 (r5.trans l2) (by rw [r6,hM1,r2,hz1];exact hRm)
   ·rename_i hfull;have hfull:t2.tooFull=false:=by simpa using hfull
    unfold SetTable.tooFull at hfull;rw [hfill,m2] at hfull;have hfull:(es.size+1)*5<t.mask*3:=by simpa using hfull
    refine wpAny_pure (out b2 o2 (List.Perm.refl _) g2 l2 ?_);rw [m2,hz1];exact ⟨st.rm.1,hfull⟩
  split
  ·refine wpAny_bind (AL hx λ bv=>?_);cases bv with
   | true=>exact fin t1 g1 hled hmask
   | false=>exact fin _ (g1.off false) hled hmask
  ·exact wpAny_bind (wpAny_pure (fin t1 g1 hled hmask))
 ·lia
 ·unfold gK at l;lia
 ·lia
theorem El.low {m:Addr->Prop}{h h':Heap}{k:List Int}{e:Int×Value}(x:El prog w m h k e) (kp:∀b o,m b->h.get? b=some o->h'.get? b=some o):El prog w m h' k e:=let ⟨a,h0,h1,o,items,n,ho,r⟩:=x;⟨a,h0,h1,o,items,n,kp a o h0 ho,r⟩
theorem ie.low {m:Addr->Prop}{h h':Heap}{D:Addr}{S:List Int->Bool}{n:Nat}(x:ie prog w m h D S n) (kd:∀o,h.get? D=some o->h'.get? D=some o) (kp:∀b o,m b->h.get? b=some o->h'.get? b=some o):ie prog w m h' D S n:=by
 obtain ⟨es,ep,t,o1,st,hm,e⟩:=x;have back:∀{k' e},e∈es.toList->El prog w m h' k' e->El prog w m h k' e:=λ {k' e} he z=>by obtain ⟨k2,y⟩:=st.el e he;obtain rfl:=z.inj (y.low kp);exact y
 refine ⟨es,ep,t,o1.keep kd,⟨λ e he=>let ⟨k,y⟩:=st.el e he;⟨k,y.low kp⟩,?_,st.tg,st.led,st.rm⟩,λ k=>?_,e⟩
 ·refine st.nd.imp_of_mem ?_;intro e e' he he' z k' h1 h2;exact z k' (back he h1) (back he' h2)
 ·rw [hm k];exact ⟨λ ⟨e,a1,a2⟩=>⟨e,a1,a2.low kp⟩,λ ⟨e,a1,a2⟩=>⟨e,a1,back a1 a2⟩⟩
theorem ie.congr {m:Addr->Prop}{h:Heap}{D:Addr}{S S':List Int->Bool}{n n':Nat}(x:ie prog w m h D S n) (e1:∀k,S k=S' k) (e2:n=n'):ie prog w m h D S' n':=by obtain rfl:S=S':=funext e1;subst e2;exact x
end
end L2
namespace L2
open PySem PySem.Spec PyProof.Rows
section
variable {prog:Program}{w:World}{A:Around}{R:Result->Shared->Prop}{I:Addr}{fp wr:List Addr}{G:Array GenState->Array GenState->Prop}{n:Nat}{Pt:Nat->Value->Prop}{St:Nat->Shared->Prop}{κ:Type} [DecidableEq κ] {knd:KeyKind prog w κ}
end
section
variable {prog:Program}{w:World}{A:Around}{E:Value->Shared->Prop}{s:Shared}{κ:Type} [DecidableEq κ] {knd:KeyKind prog w κ}
theorem vL (a:Value) {Q1:Value->Shared->Prop}(q:Q1 (.ref s.heap.objs.size) {s with heap:=s.heap.push (bY (!w.params.followText "set-order"))}):codeAny (model prog w) A (.call (.builtin "set.__new__") ⟨[.type "set",a],[]⟩) (wants Q1 E) s:=by
 refine codeAny_of_tree ?_;show wpAny _ A.in1 (do checkBuiltinCall "set.__new__" ⟨[.type "set",a],[]⟩;again _) _ _ s;refine wpAny_bind (wpAny_of_eq (F.newCall_set_1 a) (wpAny_pure ⟨plainId_quiet F.plain_set_new _,codeAny_builtin F.entry_set_new ?_⟩));rw [Around.under_plainId F.plain_set_new _];unfold Builtin.«set.__new__» Builtin.Frozenset.newClass;have hsub:=sub_set_self;obtain ⟨hp,g,d,tk,os⟩:=s;dsimp only
 wp_walk
 refine wpAny_askSetting (wpAny_pure ?_);dsimp only;simp only [newObj];refine wpAny_bind (wpAny_alloc (wpAny_pure (wpAny_pure q)))
end
end L2
namespace L2
open PySem PySem.Spec PyProof.Rows
section
variable {prog:Program}{w:World}{A:Around}{R:Result->Shared->Prop}{I:Addr}{fp wr:List Addr}{G:Array GenState->Array GenState->Prop}{n:Nat}{Pt:Nat->Value->Prop}{St:Nat->Shared->Prop}
theorem vN {m:Addr->Prop}(W:WalksS prog w A.in1 I fp wr G n Pt St) (D:Addr) (hD:D∉fp) (hDm:¬m D) (hwr:∀b∈wr,¬m b) (hu:A.units+1<cLine) {h0:Heap}(val:Nat->List Int) (hv:∀i v,Pt i v->∃a,v=.ref a/\m a/\IsTupleKey (intKind prog w) h0 (val i) a) (hb:n+1<307):
  ∀(k i:Nat) (s:Shared),n - i=k->i<=n->St i s->(∀b o,m b->h0.get? b=some o->s.heap.get? b=some o)->ie prog w m s.heap D (λ x=>decide (x∈bI val i)) (bI val i).length->
   (∀s2,Moved (D::wr) G s s2->ie prog w m s2.heap D (λ x=>decide (x∈bI val n)) (bI val n).length->R (.ok (.ret .none)) s2)->codeAny (model prog w) A (.builtin "set.update.loop" ⟨[.ref D,.ref I],[]⟩) R s:=by
 have nW:D∉wr:=λ z=>hD (W.sub _ z);have up:∀b∈wr,b∈D::wr:=λ b z=>N6 _ z;have mv:∀{s s2:Shared} {S:List Int->Bool} {r:Nat},Moved wr G s s2->ie prog w m s.heap D S r->ie prog w m s2.heap D S r:=λ hm x=>x.low (λ o e=>hm.heap D _ nW e) λ b o hb e=>hm.heap b _ (λ z=>hwr b z hb) e;intro k
 induction k with
 | zero=>
   intro i s e1 e2 st kp hS hR;have e3:i=n:=by lia
   subst e3;refine codeAny_builtin F.entry_set_update_loop ?_;rw [Around.under_plainId F.plain_set_update_loop _];show wpAny _ A.in1 (pyNext (.ref I) >>= _) _ _ s;refine wpAny_bind (W.done s _ _ st λ s2 hm=>?_);show wpAny _ A.in1 (ret Value.none) _ _ s2;exact wpAny_pure (hR s2 (hm.mono up) (mv hm hS))
 | succ k ih=>
   intro i s e1 e2 st kp hS hR;have e3:i<n:=by lia
   refine codeAny_builtin F.entry_set_update_loop ?_;rw [Around.under_plainId F.plain_set_update_loop _];show wpAny _ A.in1 (pyNext (.ref I) >>= _) _ _ s;refine wpAny_bind (W.item i s _ _ e3 st λ v s2 hp st2 hm=>?_);obtain ⟨a,rfl,ha,ka⟩:=hv i v hp;have kp2:∀b o,m b->h0.get? b=some o->s2.heap.get? b=some o:=λ b o hb e=>hm.heap b _ (λ z=>hwr b z hb) (kp b o hb e);have ka2:IsTupleKey (intKind prog w) s2.heap (val i) a:=let ⟨o,items,r,ho,rr⟩:=ka;⟨o,items,r,kp2 a o ha ho,rr⟩;have hS2:=mv hm hS;show wpAny _ A.in1 (holding [.ref a] (setAdd D (.ref a)) >>= _) _ _ s2;refine wpAny_bind (wpAny_holding ?_);unfold setAdd;refine wpAny_holding (wpAny_bind (wpAny_pyHash_tuple hu ka2 ?_));have room:(bI val i).length+1<307:=by have:=jd val i;lia
   refine M9 (m:=m) (s:={s2 with toks:=s2.toks+((val i).length+1)}) ka2 ha hu hS2 room λ h2 sb hS3=>?_;have hS4:ie prog w m h2 D (λ x=>decide (x∈bI val (i+1))) (bI val (i+1)).length:=by
    refine hS3.congr (λ x=>?_) ?_
    ·show (decide (x∈bI val i)||decide (x=val i))=decide (x∈tL (bI val i) (val i))
     unfold tL
     by_cases m:val i∈bI val i
     ·rw [if_pos m]
      by_cases e:x=val i
      ·subst e;rw [decide_eq_true m];simp
      ·rw [decide_eq_false e,Qv]
     ·rw [if_neg m,Qq];simp
    ·show (if decide (val i∈bI val i)=true then _ else _)=(tL (bI val i) (val i)).length;unfold tL
     by_cases m:val i∈bI val i
     ·rw [if_pos (decide_eq_true m),if_pos m]
     ·rw [if_neg (by rw [decide_eq_false m];decide),if_neg m,Oa];rfl
   refine wpAny_pure ⟨plainId_quiet F.plain_set_update_loop _,ih (i+1) _ (by lia) e3 (W.frame _ s2 _ _ st2 (PU _ _) λ b hb o e=>?_) (λ b o hb e=>?_) hS4 λ s3 hm3 hS5=>?_⟩
   ·exact (sb.2 b (λ z:b=D=>hD (z▸hb))).trans e
   ·exact (sb.2 b (λ z:b=D=>hDm (z▸hb))).trans (kp2 b o hb e)
   ·refine hR s3 (Moved.trans W.gtrans ((hm.mono up).then_heap (PU _ _) λ b o hb e=>?_) hm3) hS5;exact (sb.2 b (λ z:b=D=>hb (by rw [z];exact N9))).trans e
end
section
variable {prog:Program}{w:World}{A:Around}{E:Value->Shared->Prop}{s:Shared}
theorem vM (M:Addr->Prop) {l:Addr}{its:Array Value}{Q:Value->Shared->Prop}(val:Nat->List Int) (hh:A.handled=none) (hl:s.heap.IsList l its) (hu:A.units+4<cLine) (hv:∀i v,its[i]? =some v->∃a,v=.ref a/\M a/\IsTupleKey (intKind prog w) s.heap (val i) a) (hM:∀a,M a->a<s.heap.objs.size) (hb:its.size+1<307)
  (k:∀(h2:Heap) (tk:Nat),ie prog w M h2 s.heap.objs.size (λ x=>decide (x∈bI val its.size)) (bI val its.size).length->(∀b o,b<s.heap.objs.size->s.heap.get? b=some o->h2.get? b=some o)->Q (.ref s.heap.objs.size) {s with heap:=h2,toks:=tk}):
  wpAny (model prog w) A (call (.type "set") [.ref l]) Q E s:=by
 obtain ⟨c0,tl0,hmro⟩:=F.called_set.mro;have hmade:=F.called_set.made;have hsub:=F.called_set.sub;have n1:=F.called_set.notType;have n2:=F.called_set.canCreate;have n3:=F.typeCall_set_1 (.ref l);refine wpAny_call (codeAny_of_tree ?_);show wpAny _ _ (callAny (.type "set") _) _ _ _;refine wpAny_pure ⟨Code.quiet_builtin _ (by decide+kernel),codeAny_builtin F.entry_type_call ?_⟩;rw [Around.under_plain (weight_type_call_type "set" [.ref l] []) rfl]
 repeat (any_goals (first | assumption | wp_step))
 refine codeAny_mono (vL (.ref l) (E:=E) (Q1:=λ o s1=>o=.ref s.heap.objs.size/\s1={s with heap:=s.heap.push (bY (!w.params.followText "set-order"))}) ⟨rfl,rfl⟩) λ r s1 hr=>?_;cases r with
 | error e=>exact hr
 | ok fl=>
   cases fl with
   | ret ob=>
     obtain ⟨rfl,rfl⟩:=hr;generalize hld:(!w.params.followText "set-order")=led;have g0:(s.heap.push (bY led)).get? s.heap.objs.size=some (bY led):=Heap.get?_push_size _ rfl;have ty:Shared.TypeIs {s with heap:=s.heap.push (bY led)} (.ref s.heap.objs.size) "set":=⟨_,g0,rfl⟩;have m1:=F.called_set.init.lookup;have m2:=F.called_set.init.bind (.ref s.heap.objs.size)
     repeat (any_goals (first | assumption | wp_step))
     refine codeAny_mono (codeAny_call_builtin (R:=wants (λ r s2=>r=.none/\∃h2 tk,s2={s with heap:=h2,toks:=tk}/\ie prog w M h2 s.heap.objs.size (λ x=>decide (x∈bI val its.size)) (bI val its.size).length/\
       (∀b o,b<s.heap.objs.size->s.heap.get? b=some o->h2.get? b=some o)) E) F.called_set.init.plain F.entry_set_init (check_set_init_1 ty ?_)) λ r2 s2 hr2=>?_
     ·obtain ⟨⟨oc,od,oda,osl⟩,ho,hc,nl,hd⟩:=hl;simp only at hc hd;subst hc;subst hd;have hol:(s.heap.push (bY led)).get? l=some {cls:=.type "list",dict:=od,data:=.seq its nl,slots:=osl}:=Heap.get?_push_of_some _ ho;have b1:=F.sub_list_set;have b2:=F.sub_list_frozenset;have b3:(Value.type "list" == Value.type "dict")=false:=by decide
      have hl1:(s.heap.push (bY led)).IsList l its:=⟨_,hol,rfl,nl,rfl⟩;unfold Builtin.«set.__init__» noKeywords Builtin.Frozenset.updateFrom;generalize hPI:pyIter=PI
      wp_walk
      subst hPI;refine wpAny_pyIter_list hl1 (wpAny_bind (wpAny_runValue ?_));have hlt:l<s.heap.objs.size:=Heap.lt_size ho;have h3:A.in1.in1.in1.handled=none:=by simp [hh]
      have sz:(s.heap.push (bY led)).objs.size=s.heap.objs.size+1:=Heap.size_push ..;have ne1:l≠(s.heap.push (bY led)).objs.size:=by rw [sz];exact PH (PY hlt)
      have ne2:s.heap.objs.size∉[(s.heap.push (bY led)).objs.size,l]:=by
       rw [sz];intro z
       rcases N1.mp z with z | z
       ·exact P4 _ z.symm
       ·exact PM hlt (N5.mp z)
      refine vN (m:=M) (h0:=s.heap) ((Walks.list h3 _ l ne1 its).toS) s.heap.objs.size ne2 (λ z=>PP _ (hM _ z)) (λ b hb z=>by rw [N5.mp hb,sz] at z;exact absurd (hM _ z) (Nat.not_lt.mpr (PN _))) (by show A.units+1+1+1<cLine;lia) val (λ i v hp=>?_) hb (its.size - 0) 0 _ (by lia) (PJ _) ⟨⟨_,Heap.get?_push_size _ rfl,rfl,rfl⟩,(hl1.push _)⟩ (λ b o _ e=>Heap.get?_push_of_some _ (Heap.get?_push_of_some _ e)) ?_ (λ s3 hm hS3=>?_)
      ·exact hv i v hp
      ·refine ⟨#[],0,.fresh 0 0 led,⟨_,Heap.get?_push_of_some _ g0,⟨rfl,rfl,rfl⟩,rfl⟩,⟨λ e he=>by simp at he,List.Pairwise.nil,rh.fresh,by rw [hld];rfl,⟨.inl rfl,by show 0*5<7*3;decide⟩⟩,λ x=>?_,rfl⟩;show decide (x∈([]:List (List Int)))=true<->_;simp
      ·obtain ⟨hh3,gg3,dd3,tk3,os3⟩:=s3;obtain rfl:gg3=s.gens:=hm.gens;obtain rfl:dd3=s.drawn:=hm.drawn;obtain rfl:os3=s.os:=hm.os;show wpAny _ _ _ _ _ _;refine wpAny_pure ?_;show wpAny _ _ (ret Value.none) _ _ _;refine wpAny_pure ⟨rfl,hh3,tk3,rfl,hS3,λ b o hb2 e=>?_⟩;refine hm.heap b o ?_ (Heap.get?_push_of_some _ (Heap.get?_push_of_some _ e));rw [sz];intro z
       rcases N1.mp z with z | z
       ·exact PH hb2 z
       ·exact PH (PY hb2) (N5.mp z)
     ·cases r2 with
      | error e=>exact hr2
      | ok fl2=>
        cases fl2 with
        | ret r3=>
          obtain ⟨rfl,h2,tk,rfl,hS2,kp⟩:=hr2
          repeat (any_goals (first | assumption | wp_step))
          exact k _ _ hS2 kp
        | _=>exact hr2.elim
   | _=>exact hr.elim
end
end L2
namespace L2
open PySem PySem.W PyProof.Rows
structure Nb (n:Nat) (lt:Nat->Nat->Bool):Prop where
 tr:∀a b c,a<n->b<n->c<n->lt a b=true->lt b c=true->lt a c=true
 as:∀a b,a<n->b<n->lt a b=true->lt b a=false
 tt:∀a b,a<n->b<n->a≠b->lt a b=false->lt b a=true
abbrev gp (p:Array Nat) (i:Nat):Nat:=p.getD i 0
structure PR (n:Nat) (p:Array Nat):Prop where
 sz:p.size=n
 lo:∀i,i<n->gp p i<n
 nd:∀i j,i<n->j<n->gp p i=gp p j->i=j
theorem mU (p:Array Nat) (i:Nat):gp p i=(p[i]?).getD 0:=by unfold gp;simp [Array.getD_eq_getD_getElem?]
theorem PR.of {n:Nat}{p:Array Nat}(h:p.toList.Perm (List.range n)):PR n p:=by
 have hs:p.size=n:=by have:=h.length_eq;simpa using this
 have hn:p.toList.Nodup:=h.nodup_iff.mpr Pi;have at_:∀i (hi:i<n),gp p i=p.toList[i]'(by simpa [hs] using hi):=λ i hi=>by
  have:i<p.size:=by lia
  simp [gp,this]
 refine ⟨hs,λ i hi=>?_,λ i j hi hj e=>?_⟩
 ·rw [at_ i hi];exact Ob.mp (h.mem_iff.mp (Of _))
 ·rw [at_ i hi,at_ j hj] at e;have hw:=O3.mp hn
  rcases P5 i j with z | z | z
  ·exact absurd e (hw i j _ _ z)
  ·exact z
  ·exact absurd e.symm (hw j i _ _ z)
def Up (lt:Nat->Nat->Bool) (p:Array Nat) (k:Nat):Prop:= ∀i j,i<j->j<k->lt (gp p i) (gp p j)=true
def Dn (lt:Nat->Nat->Bool) (p:Array Nat) (k:Nat):Prop:= ∀i j,i<j->j<k->lt (gp p j) (gp p i)=true
section
variable {n:Nat}{lt:Nat->Nat->Bool}{s:Shared}{cmp:Nat->Nat->(Bool->Shared->Prop)->Shared->Prop}(O:Nb n lt) (hc:∀i j (C:Bool->Shared->Prop),i<n->j<n->C (lt i j) s->cmp i j C s)
include O hc
theorem Bq {p:Array Nat}(P:PR n p):∀(f a:Nat) {Q:Nat->Shared->Prop},1<=a->a+f<=n->Up lt p a->(∀m,a<=m->m<=a+f->Up lt p m->(m=a+f\/lt (gp p m) (gp p (m - 1))=true)->Q m s)->(kas_asc p f a).kasWp cmp Q s
 | 0,a,Q,_,_,u,q=>q a (PF _) (PF _) u (.inl rfl)
 | f+1,a,Q,h1,h2,u,q=>by
   refine hc _ _ _ (P.lo a (by lia)) (P.lo (a - 1) (by lia)) ?_;cases e:lt (p.getD a 0) (p.getD (a - 1) 0) with
   | true=>exact q a (PF _) (by lia) u (.inr e)
   | false=>
     refine Bq P f (a+1) (by lia) (by lia) ?_ λ m m1 m2 m3 m4=>q m (by lia) (by lia) m3 (m4.imp (λ z=>by lia) id);have e2:lt (gp p (a - 1)) (gp p a)=true:=O.tt _ _ (P.lo a (by lia)) (P.lo (a - 1) (by lia)) (λ z=>by have:=P.nd a (a - 1) (by lia) (by lia) z;lia) e;intro i j hij hj
     by_cases ej:j=a
     ·subst ej
      by_cases ei:i=j - 1
      ·subst ei;exact e2
      ·exact O.tr _ _ _ (P.lo i (by lia)) (P.lo (j - 1) (by lia)) (P.lo j (by lia)) (u i (j - 1) (by lia) (by lia)) e2
     ·exact u i j hij (by lia)
theorem Ba {p:Array Nat}(P:PR n p):∀(f a:Nat) {Q:Array Nat×Nat×Nat->Shared->Prop},1<=a->a+f<=n->Dn lt p a->(∀m,a<=m->m<=a+f->Dn lt p m->Q (p,m,0) s)->(kas_desc f p a 0).kasWp cmp Q s
 | 0,a,Q,_,_,u,q=>q a (PF _) (PF _) u
 | f+1,a,Q,h1,h2,u,q=>by
   refine hc _ _ _ (P.lo a (by lia)) (P.lo (a - 1) (by lia)) ?_;cases e:lt (p.getD a 0) (p.getD (a - 1) 0) with
   | true=>
     show (kas_desc f p (a+1) 0).kasWp cmp Q s;refine Ba P f (a+1) (by lia) (by lia) ?_ λ m m1 m2 m3=>q m (by lia) (by lia) m3;intro i j hij hj
     by_cases ej:j=a
     ·subst ej
      by_cases ei:i=j - 1
      ·subst ei;exact e
      ·exact O.tr _ _ _ (P.lo j (by lia)) (P.lo (j - 1) (by lia)) (P.lo i (by lia)) e (u i (j - 1) (by lia) (by lia))
     ·exact u i j hij (by lia)
   | false=>
     have e2:lt (p.getD (a - 1) 0) (p.getD a 0)=true:=O.tt _ _ (P.lo a (by lia)) (P.lo (a - 1) (by lia)) (λ z=>by have:=P.nd a (a - 1) (by lia) (by lia) z;lia) e;show KasT.kasWp cmp (KasT.ask _ _ _) Q s;refine hc _ _ _ (P.lo (a - 1) (by lia)) (P.lo a (by lia)) ?_;rw [e2];exact q a (PF _) (by lia) u
theorem nV {p:Array Nat}(P:PR n p) {k:Nat}(hk:k<n) (u:Up lt p k):∀(f l r:Nat) {Q:Nat->Shared->Prop},l<=r->r<=k->r - l<=f->(∀i,i<l->lt (gp p i) (gp p k)=true)->(∀i,r<=i->i<k->lt (gp p k) (gp p i)=true)->
  (∀m,m<=k->(∀i,i<m->lt (gp p i) (gp p k)=true)->(∀i,m<=i->i<k->lt (gp p k) (gp p i)=true)->Q m s)->(kas_place p k f l r).kasWp cmp Q s
 | 0,l,r,Q,h1,h2,h3,a,b,q=>by
   have:l=r:=by lia
   subst this;exact q l h2 a b
 | f+1,l,r,Q,h1,h2,h3,a,b,q=>by
   unfold kas_place
   by_cases hlr:l≥r
   ·rw [if_pos hlr];have:l=r:=by lia
    subst this;exact q l h2 a b
   ·rw [if_neg hlr];refine hc _ _ _ (P.lo k hk) (P.lo ((l+r) / 2) (by lia)) ?_;cases e:lt (p.getD k 0) (p.getD ((l+r) / 2) 0) with
    | true=>
      show (kas_place p k f l ((l+r) / 2)).kasWp cmp Q s;refine nV P hk u f l ((l+r) / 2) (by lia) (by lia) (by lia) a (λ i i1 i2=>?_) q
      by_cases ei:i=(l+r) / 2
      ·subst ei;exact e
      ·exact O.tr _ _ _ (P.lo k hk) (P.lo ((l+r) / 2) (by lia)) (P.lo i (by lia)) e (u _ _ (by lia) i2)
    | false=>
      show (kas_place p k f ((l+r) / 2+1) r).kasWp cmp Q s;have e2:lt (gp p ((l+r) / 2)) (gp p k)=true:=O.tt _ _ (P.lo k hk) (P.lo ((l+r) / 2) (by lia)) (λ z=>by have:=P.nd k ((l+r) / 2) hk (by lia) z;lia) e;refine nV P hk u f ((l+r) / 2+1) r (by lia) h2 (by lia) (λ i i1=>?_) b q
      by_cases ei:i=(l+r) / 2
      ·subst ei;exact e2
      ·exact O.tr _ _ _ (P.lo i (by lia)) (P.lo ((l+r) / 2) (by lia)) (P.lo k hk) (u _ _ (by lia) (by lia)) e2
omit O hc in
theorem Ag {p q:Array Nat}{n:Nat}(h:p.toList.Perm (List.range n)) (e:q.Perm p):q.toList.Perm (List.range n):=(Array.perm_iff_toList_perm.mp e).trans h
theorem GZ:∀(f k:Nat) (p:Array Nat) {Q:Array Nat->Shared->Prop},p.toList.Perm (List.range n)->1<=k->k+f=n->Up lt p k->(∀p',p'.toList.Perm (List.range n)->Up lt p' n->Q p' s)->(kas_bin f p k).kasWp cmp Q s
 | 0,k,p,Q,hp,h1,h2,u,q=>q p hp (by rw [<-h2];exact u)
 | f+1,k,p,Q,hp,h1,h2,u,q=>by
   have P:=PR.of hp;unfold kas_bin;rw [KasT.kasWp_bind];refine nV O hc P (by lia) u k 0 k (PJ _) (PF _) (by lia) (λ i z=>absurd z (Nat.not_lt_zero _)) (λ i z1 z2=>by lia) λ m hm a b=>?_;refine GZ f (k+1) _ (Ag hp (bubble_perm _ _ _)) (by lia) (by lia) ?_ q;have ge:∀i,gp (bubble p k (k - m)) i=if i=m then gp p k else if m<i/\i<=k then gp p (i - 1) else gp p i:=λ i=>by
    rw [mU,getElem?_bubble (by rw [P.sz];lia) (k - m) (by lia) i,show k - (k - m)=m by lia];split
    ·rw [mU]
    ·split<;>rw [mU]
   intro i j hij hj;rw [ge,ge]
   by_cases e1:i=m
   ·rw [if_pos e1]
    by_cases e2:j=m
    ·lia
    ·rw [if_neg e2,if_pos (by lia)];exact b (j - 1) (by lia) (by lia)
   ·rw [if_neg e1]
    by_cases e2:j=m
    ·rw [if_pos e2,if_neg (by lia)];exact a i (by lia)
    ·rw [if_neg e2]
     by_cases e3:m<i/\i<=k
     ·rw [if_pos e3,if_pos (by lia)];exact u (i - 1) (j - 1) (by lia) (by lia)
     ·rw [if_neg e3]
      by_cases e4:m<j/\j<=k
      ·rw [if_pos e4];exact u i (j - 1) (by lia) (by lia)
      ·rw [if_neg e4];exact u i j hij (by lia)
theorem JD {p:Array Nat}(hp:p.toList.Perm (List.range n)) {Q:Nat×Array Nat->Shared->Prop}(h2:2<=n) (hd:lt (gp p 1) (gp p 0)=true) (q:∀m p',p'.toList.Perm (List.range n)->1<=m->m<=n->Up lt p' m->Q (m,p') s):(kas_descPart 1 n p).kasWp cmp Q s:=by
 have P:=PR.of hp;unfold kas_descPart;rw [KasT.kasWp_bind];refine Ba O hc P (n - (1+1)) (1+1) (by lia) (by lia) (λ i j hij hj=>?_) λ m m1 m2 m3=>?_
 ·have e1:i=0:=by lia
  have e2:j=1:=by lia
  subst e1;subst e2;exact hd
 ·show (kas_tail3 m n p).kasWp cmp Q s;unfold kas_tail3;rw [KasT.kasWp_bind];have hp2:(kas_rev p 0 m).toList.Perm (List.range n):=Ag hp (mirror_perm _ _ _ _);have ge:∀i,gp (kas_rev p 0 m) i=if i<m then gp p (m - 1 - i) else gp p i:=λ i=>by
   unfold kas_rev;rw [mU,getElem?_mirror_all (by rw [P.sz];lia)]
   by_cases e:i<m
   ·rw [if_pos ⟨PJ _,e⟩,if_pos e,mU,PV]
   ·rw [if_neg (λ z=>e z.2),if_neg e,mU]
  refine Bq O hc (PR.of hp2) (n - m) m (by lia) (by lia) (λ i j hij hj=>?_) λ r r1 r2 r3 _=>q r _ hp2 (by lia) (by lia) r3;rw [ge,ge,if_pos (by lia),if_pos hj];exact m3 _ _ (by lia) (by lia)
theorem Iz {Q:Array Nat->Shared->Prop}(h2:2<=n) (q:∀p,p.toList.Perm (List.range n)->Up lt p n->Q p s):(kas_sort n).kasWp cmp Q s:=by
 have hp:(List.toArray (List.range n)).toList.Perm (List.range n):=List.Perm.refl _;have P:=PR.of hp;unfold kas_sort kas_count;rw [KasT.kasWp_bind,KasT.kasWp_bind];have fin:∀m p',p'.toList.Perm (List.range n)->1<=m->m<=n->Up lt p' m->KasT.kasWp cmp (if m<n then kas_bin (n - max m 1) p' (max m 1) else KasT.ret p') Q s:=λ m p' hp' m1 m2 u=>by
  by_cases e:m<n
  ·rw [if_pos e,show max m 1=m by lia];exact GZ O hc (n - m) m p' hp' m1 (by lia) u q
  ·rw [if_neg e];have:m=n:=by lia
   subst this;exact q p' hp' u
 refine Bq O hc P (n - 1) 1 (PF _) (by lia) (λ i j hij hj=>by lia) λ m m1 m2 m3 m4=>?_
 by_cases e:m=n
 ·rw [if_pos (by simp [e])];exact fin m _ hp m1 (by lia) m3
 ·rw [if_neg (by simp [e])]
  by_cases e1:m > 1
  ·rw [if_pos e1];refine hc _ _ _ (P.lo 0 (by lia)) (P.lo (m - 1) (by lia)) ?_;have:lt ((List.toArray (List.range n)).getD 0 0) ((List.toArray (List.range n)).getD (m - 1) 0)=true:=m3 0 (m - 1) (by lia) (by lia);rw [this];exact fin m _ hp m1 (by lia) m3
  ·rw [if_neg e1];have:m=1:=by lia
   subst this;refine JD O hc hp h2 (by rcases m4 with z | z;exact absurd z (by lia);exact z) λ m p' a b c d=>fin m p' a b c d
end
end L2
namespace L2
open PySem PySem.W PySem.Calls PyProof.Rows
def dQ:List Int->List Int->Bool
 | [],[]=>false
 | [],_::_=>true
 | _::_,[]=>false
 | a::x,b::y=>if a=b then dQ x y else decide (a<b)
theorem je:∀x,dQ x x=false
 | []=>rfl
 | a::x=>by unfold dQ;rw [if_pos rfl];exact je x
theorem uR:∀x y,x≠y->dQ x y=false->dQ y x=true
 | [],[],h,_=>absurd rfl h
 | [],_::_,_,e=>by cases e
 | _::_,[],_,_=>rfl
 | a::x,b::y,h,e=>by
   unfold dQ at e ⊢
   by_cases ab:a=b
   ·subst ab;rw [if_pos rfl] at e ⊢;exact uR x y (λ z=>h (by rw [z])) e
   ·rw [if_neg ab] at e;rw [if_neg (Ne.symm ab)];have:=of_decide_eq_false e;exact decide_eq_true (by lia)
theorem oG:∀x y,dQ x y=true->dQ y x=false
 | [],[],e=>by cases e
 | [],_::_,_=>rfl
 | _::_,[],e=>by cases e
 | a::x,b::y,e=>by
   unfold dQ at e ⊢
   by_cases ab:a=b
   ·subst ab;rw [if_pos rfl] at e ⊢;exact oG x y e
   ·rw [if_neg ab] at e;rw [if_neg (Ne.symm ab)];have:=of_decide_eq_true e;exact decide_eq_false (by lia)
theorem uS:∀x y z,dQ x y=true->dQ y z=true->dQ x z=true
 | [],[],_,e,_=>by cases e
 | [],_::_,[],_,e=>by cases e
 | [],_::_,_::_,_,_=>rfl
 | _::_,[],_,e,_=>by cases e
 | _::_,_::_,[],_,e=>by cases e
 | a::x,b::y,c::z,e,f=>by
   unfold dQ at e f ⊢
   by_cases ab:a=b
   ·subst ab;rw [if_pos rfl] at e
    by_cases ac:a=c
    ·subst ac;rw [if_pos rfl] at f ⊢;exact uS x y z e f
    ·rw [if_neg ac] at f ⊢;exact f
   ·rw [if_neg ab] at e;have e:=of_decide_eq_true e
    by_cases bc:b=c
    ·subst bc;rw [if_neg ab];exact decide_eq_true e
    ·rw [if_neg bc] at f;have f:=of_decide_eq_true f;rw [if_neg (by lia)];exact decide_eq_true (by lia)
section
variable {prog:Program}{w:World}{A:Around}{E:Value->Shared->Prop}{s:Shared}
theorem GH {fin:Bool}{Q:Bool->Shared->Prop}:∀(x y:List Int) (us vs:List Value) (i:Nat),ItemsAre (intKind prog w) x us->ItemsAre (intKind prog w) y vs->(x.length<y.length<->fin=true)->Q (dQ x y) s->KatLex prog w A true fin Q (us.zip vs) i s
 | [],[],_,_,i,.nil,.nil,hf,q=>by
   refine kat_nil ?_;have:fin=false:=by cases fin with | false=>rfl | true=>exact absurd (hf.mpr rfl) (by simp)
   rw [this];exact q
 | [],_::_,_,_,i,.nil,.cons _ _,hf,q=>by refine kat_nil ?_;rw [hf.mp (by simp)];exact q
 | _::_,[],_,_,i,.cons _ _,.nil,hf,q=>by
   show KatLex prog w A true fin Q [] i s;refine kat_nil ?_;have:fin=false:=by cases fin with | false=>rfl | true=>exact absurd (hf.mpr rfl) (by simp)
   rw [this];exact q
 | a::x,b::y,u::us,v::vs,i,.cons h1 t1,.cons h2 t2,hf,q=>by
   obtain ⟨t,rfl⟩:∃t,u=.int a t:=by cases u<;>simp [intKind,Value.isInt] at h1;exact ⟨_,by rw [h1]⟩
   obtain ⟨t',rfl⟩:∃t',v=.int b t':=by cases v<;>simp [intKind,Value.isInt] at h2;exact ⟨_,by rw [h2]⟩
   show KatLex prog w A true fin Q ((Value.int a t,Value.int b t')::us.zip vs) i s;refine kat_cons (wpAny_eqBool_int ?_);unfold dQ at q
   by_cases ab:a=b
   ·subst ab;rw [if_pos rfl] at q;rw [show (a == a)=true by simp];exact kat_yes (GH x y us vs (i+1) t1 t2 (by simpa using hf) q)
   ·rw [if_neg ab] at q;rw [show (a == b)=false by simp [ab]];refine kat_no ?_
    by_cases hi:i=0
    ·subst hi;exact oneLt_int q
    ·have:(true&&i == 0)=false:=by simp [hi]
     rw [this];exact kat_one _ _ (PyProof.Rows.lt_int q)
theorem Mr {x y:Addr}{kx ky:List Int}{Q:Bool->Shared->Prop}(hx:IsTupleKey (intKind prog w) s.heap kx x) (hy:IsTupleKey (intKind prog w) s.heap ky y) (q:Q (dQ kx ky) s):wpAny (model prog w) A (keyLt' (tuples' true) (.ref x) (.ref y)) Q E s:=by obtain ⟨ox,xs,n,h1,_,h2,h3⟩:=hx;obtain ⟨oy,ys,k,h4,_,h5,h6⟩:=hy;refine kat_lt h1 h2 h4 h5 (GH kx ky _ _ 0 h3 h6 ?_ q);rw [h3.length,h6.length];simp
theorem sT {B:Heap}{L a:Addr}{m:Str->Option Value}{vs:List Value}{ks:List (List Int)}{n:Nat}{P:PySem.Fin->Shared->Prop}(F:Fr B L s.heap m) (ho:s.heap.get? a=some (seqObj "list" vs.toArray n)) (haL:a≠L) (ha0:B.get? a=none)
  (hl:ks.length=vs.length) (hv:∀i,i<vs.length->∃x,vs.getD i .none=.ref x/\x≠L/\x≠a/\IsTupleKey (intKind prog w) s.heap (ks.getD i []) x/\ks.getD i []≠[]) (nd:ks.Nodup) (h2:2<=vs.length) (h64:vs.length<64)
  (h:∀(p:Array Nat) (h':Heap) (c:Nat),p.toList.Perm (List.range vs.length)->(∀i j,i<j->j<vs.length->dQ (ks.getD (gp p i) []) (ks.getD (gp p j) [])=true)->Fr B L h' m->(∀b o,b≠L->b≠a->s.heap.get? b=some o->h'.get? b=some o)->
   h'.get? a=some (seqObj "list" (p.toList.map λ i=>vs.getD i .none).toArray c)->P (.done (.ret .none)) {s with heap:=h'}):
  wpAny (model prog w) A (Builtin.«list.sort» ⟨[.ref a],[]⟩) P E s:=by
 have N:News B L s.heap (rest B s.heap L a):=λ p hp=>Cf haL ha0 ho p (N6 _ hp);refine kat_list_sort F N ho haL ha0 rest_ne h2 h64 λ e1 h' F' N'=>?_;have kp:∀b o,b≠L->b≠a->s.heap.get? b=some o->h'.get? b=some o:=jf F.keep F' λ p hp=>N' p (N6 _ hp);have key:∀i,i<vs.length->∃x,vs.getD i .none=.ref x/\IsTupleKey (intKind prog w) h' (ks.getD i []) x/\ks.getD i []≠[]:=λ i hi=>by obtain ⟨x,e1,e2,e3,⟨o,items,r,e4,e5⟩,e6⟩:=hv i hi;exact ⟨x,e1,⟨o,items,r,kp x o e2 e3 e4,e5⟩,e6⟩
 have hkk:∀i j,i<vs.length->j<vs.length->ks.getD i []=ks.getD j []->i=j:=λ i j hi hj e=>by rw [N8,N8,N2 (by lia),N2 (by lia)] at e;exact (O4 nd).mp (by simpa using e)
 have O:Nb vs.length λ i j=>dQ (ks.getD i []) (ks.getD j []):=⟨λ x y z _ _ _ h1 h2=>uS _ _ _ h1 h2,λ x y _ _ h1=>oG _ _ h1,λ x y hx hy ne h1=>uR _ _ (λ e=>ne (hkk x y hx hy e)) h1⟩;obtain ⟨fs,tp,fl,fi⟩:∃fs,KatTups h' vs fs/\fs.length=vs.length/\∀f∈fs,∃n t,f=Value.int n t:=by
  have go:∀(us:List Value) (f:Nat->List Int),(∀i,i<us.length->∃x,us.getD i .none=.ref x/\IsTupleKey (intKind prog w) h' (f i) x/\f i≠[])->∃fs,KatTups h' us fs/\fs.length=us.length/\∀f∈fs,∃n t,f=Value.int n t:=by
   intro us
   induction us with
   | nil=>exact λ f _=>⟨[],.nil,rfl,λ f z=>nomatch z⟩
   | cons u us ih=>
     intro f hf;obtain ⟨fs,t1,t2,t3⟩:=ih (λ i=>f (i+1)) λ i hi=>hf (i+1) (by simpa using hi);obtain ⟨x,e1,⟨o,items,r,e4,e5,e6,e7⟩,e8⟩:=hf 0 (by simp);have e1:u=.ref x:=e1;subst e1;generalize f 0=kk at e7 e8;generalize hit:items.toList=its at e7;cases e7 with
     | nil=>exact absurd rfl e8
     | @cons k v ks' vs' h1 h2=>
       obtain ⟨t,rfl⟩:∃t,v=.int k t:=by cases v<;>simp [intKind,Value.isInt] at h1;exact ⟨_,by rw [h1]⟩
       refine ⟨.int k t::fs,KatTups.cons e4 e5 e6 ?_ t1,by simp [t2],λ f z=>?_⟩
       ·rw [<-QA,hit];rfl
       ·rcases N1.mp z with rfl | z
        ·exact ⟨k,t,rfl⟩
        ·exact t3 f z
  exact go vs (λ i=>ks.getD i []) key
 refine kat_kind (T:=.type "int") tp (by lia) (λ f hf=>?_) (by decide) ?_
 ·obtain ⟨k,t,rfl⟩:=fi f hf;exact Looks.of_pure rfl
 ·show (kas_sort vs.length).kasWp (kas_ask prog w A (tuples' true) vs) _ _;refine Iz O (λ i j C hi hj hC=>?_) h2 λ p hp up=>?_
  ·obtain ⟨x,e1,kx,_⟩:=key i hi;obtain ⟨y,e2,ky,_⟩:=key j hj;unfold kas_ask;rw [e1,e2];exact Mr (s:={s with heap:=h'}) kx ky hC
  ·refine KasFin.intro F' N' (UpdF.head rest_ne) λ h'' c F'' N''=>?_;exact h p h'' c hp up F'' (jf F.keep F'' λ q hq=>N'' q (N6 _ hq)) (N'' _ (.head _)).1
end
end L2
namespace L2
open PySem PySem.Spec PyProof.Rows
section
variable {prog:Program}{w:World}{A:Around}{E:Value->Shared->Prop}{s:Shared}
end
end L2
namespace L2
open PySem PySem.Spec PyProof.Rows
section
variable {X:Cx}
end
section
variable {P:Program}{w:World}{K:Frag}{σ:St}{H:Hp}{Q:VK}{te:TE}
end
end L2
namespace L2
open PySem PySem.Spec PyProof.Rows
section
variable {X:Cx}{a b:Expr}{ta tb:TE}{pos:Pos}
end
section
variable {K:Frag}{σ:St}{H:Hp}{ta tb:TE}{x y:V}{k:Bool}{Q:VK}
end
section
variable {K:Frag}{σ:St}{H:Hp}{Q:VK}
end
end L2
namespace L2
open PySem PySem.W PySem.Calls PySem.Spec PyProof.Rows
theorem uI {α β:Type} [DecidableEq α] (f:α->β):∀{vs:List β}{l:List α},vs.Perm (l.map f)->∃l':List α,l'.Perm l/\vs=l'.map f
 | [],l,h=>by
   have:l=[]:=by have:=h.length_eq;simpa using this.symm
   subst this;exact ⟨[],List.Perm.refl _,rfl⟩
 | v::vs,l,h=>by obtain ⟨x,hx,rfl⟩:=N0.mp (h.mem_iff.mp N9);have hp:=Pz hx;have h2:vs.Perm ((l.erase x).map f):=(h.trans (hp.map f)).cons_inv;obtain ⟨l',p1,rfl⟩:=uI f h2;exact ⟨x::l',(List.Perm.cons x p1).trans hp.symm,rfl⟩
theorem B2 {α:Type}(d:α) {l:List α}{p:List Nat}(h:p.Perm (List.range l.length)):(p.map λ i=>l.getD i d).Perm l:=by
 refine (h.map _).trans (List.Perm.of_eq ?_);apply OJ;intro i;rw [N3]
 by_cases hi:i<l.length
 ·rw [Oz hi,N2 hi];simp [N8,hi]
 ·rw [Ot (by simpa using hi),Ot (by lia)];rfl
section
variable {prog:Program}{w:World}{A:Around}{E:Value->Shared->Prop}{s:Shared}
theorem mq {a:Addr}{vs:List Value}{n:Nat}{P:PySem.Fin->Shared->Prop}(ho:s.heap.get? a=some (seqObj "list" vs.toArray n)) (h1:vs.length<2)
  (h:P (.done (.ret .none)) {s with heap:=sortedHeap s.heap a vs vs.toArray}):wpAny (model prog w) A (Builtin.«list.sort» ⟨[.ref a],[]⟩) P E s:=by
 obtain ⟨e1,g1⟩:∃e1,(s.heap.update a (Obj.mapSeq λ _=> #[])).get? a=some (seqObj "list" #[] e1):=⟨_,get?_update_seq ho (λ _=> #[])⟩;have lt:a<s.heap.objs.size:=Heap.lt_size ho;have g2:(((s.heap.update a (Obj.mapSeq λ _=> #[])).push (seqObj "tuple" vs.toArray 0)).push (seqObj "list" #[] 0)).get? a=some (seqObj "list" #[] e1):=Heap.get?_push_of_some _ (Heap.get?_push_of_some _ g1);have few:vs.toArray.size<2:=by rw [N4];exact h1
 have zz:(vs.toArray.zip vs.toArray).map (·.2)=vs.toArray:=by apply QE.mp;simp;exact List.map_snd_zip (PF _)
 have sm:vs.toArray.size<=sizeLine:=by rw [sizeLine_eq];lia
 rw [list_sort_plain];refine wpAny_bind (listItems_at ho rfl (wpAny_bind (listUpdate_at ho rfl (wpAny_bind (seqEpoch_at g1 rfl (wpAny_bind (wpAny_newTuple (wpAny_bind (wpAny_newList (wpAny_holding ?_))))))))));dsimp only;rw [if_pos few,if_pos few];refine wpAny_bind (wpAny_pure ?_);rw [StateT.run_pure];refine wpAny_bind (wpAny_pure ?_);dsimp only;refine wpAny_bind (seqEpoch_at g2 rfl (wpAny_bind (listUpdate_at g2 rfl ?_ (hsz2:=?_))))
 ·simp only [bne_self_eq_false,Qr,if_false];refine wpAny_pure ?_;rw [show Array.map (λ x=>x.snd) (arrOf (SortSt.mk' general' (vs.toArray.zip vs.toArray) #[] 7 none))=vs.toArray from zz];exact h
 ·rw [show Array.map (λ x=>x.snd) (arrOf (SortSt.mk' general' (vs.toArray.zip vs.toArray) #[] 7 none))=vs.toArray from zz];lia
structure C3 (prog:Program) (w:World) (h:Heap) (L:Addr) (ps:List (List Int×Addr)):Prop where
 at_:∀p∈ps,p.2≠L/\p.1≠[]/\IsTupleKey (intKind prog w) h p.1 p.2
 nd:(ps.map (·.1)).Nodup
theorem C3.perm {h:Heap}{L:Addr}{ps ps':List (List Int×Addr)}(x:C3 prog w h L ps) (p:ps'.Perm ps):C3 prog w h L ps':=⟨λ q hq=>x.at_ q (p.mem_iff.mp hq),(p.map _).nodup_iff.mpr x.nd⟩
theorem C3.keep {h h':Heap}{L:Addr}{ps:List (List Int×Addr)}(x:C3 prog w h L ps) (k:∀b o,b≠L->h.get? b=some o->h'.get? b=some o):C3 prog w h' L ps:=⟨λ q hq=>let ⟨a,b,o,its,r,e,rr⟩:=x.at_ q hq;⟨a,b,o,its,r,k _ o a e,rr⟩,x.nd⟩
theorem wl {B:Heap}{L:Addr}{m:Str->Option Value}{ps:List (List Int×Addr)}{Q:Value->Shared->Prop}(F:Fr B L s.heap m) (T:C3 prog w s.heap L ps) (h64:ps.length<64)
  (q:∀(ps':List (List Int×Addr)) (h':Heap) (c:Nat),ps'.Perm ps->ps'.Pairwise (λ x y=>dQ x.1 y.1=true)->Fr B L h' m->(∀b o,b≠L->s.heap.get? b=some o->h'.get? b=some o)->
   h'.get? s.heap.objs.size=some (seqObj "list" (ps'.map λ z=>Value.ref z.2).toArray c)->Q .none {s with heap:=h'}):
  wpAny (model prog w) A (Builtin.«list.sort» ⟨[.ref s.heap.objs.size],[]⟩) (λ r s'=>r=.done (.ret .none)/\Q .none s') E {s with heap:=s.heap.push (seqObj "list" (ps.map λ z=>Value.ref z.2).toArray 0)}:=by
 have hL:L<s.heap.objs.size:=F.ns.lt;have gL:(s.heap.push (seqObj "list" (ps.map λ z=>Value.ref z.2).toArray 0)).get? s.heap.objs.size=some (seqObj "list" (ps.map λ z=>Value.ref z.2).toArray 0):=Heap.get?_push_size _ rfl;have kp:∀b o,s.heap.get? b=some o->(s.heap.push (seqObj "list" (ps.map λ z=>Value.ref z.2).toArray 0)).get? b=some o:=λ b o e=>Heap.get?_push_of_some _ e;have F1:Fr B L (s.heap.push (seqObj "list" (ps.map λ z=>Value.ref z.2).toArray 0)) m:=F.kept kp;have hlen:(ps.map λ z=>Value.ref z.2).length=ps.length:=NZ ..
 by_cases h2:2<=ps.length
 ·have hat:∀i (hi:i<ps.length),(ps.map λ z=>Value.ref z.2).getD i .none=.ref (ps.getD i ([],0)).2/\(ps.map (·.1)).getD i []=(ps.getD i ([],0)).1/\ps.getD i ([],0)∈ps:=λ i hi=>by simp [N8,N2 hi]
  refine sT (ks:=ps.map (·.1)) F1 gL (PM hL) (Heap.get?_none_of_le (PK F.above (PZ hL))) (by simp) (λ i hi=>?_) T.nd (by rw [hlen];exact h2) (by rw [hlen];exact h64) λ p h' c hp up F' k' ga=>?_
  ·rw [hlen] at hi;obtain ⟨e1,e2,e3⟩:=hat i hi;obtain ⟨a1,a2,o,its,r,e,rr⟩:=T.at_ _ e3;exact ⟨_,e1,a1,PH (Heap.lt_size e),by rw [e2];exact ⟨o,its,r,kp _ _ e,rr⟩,by rw [e2];exact a2⟩
  ·rw [hlen] at hp up;have P:=PR.of hp;refine ⟨rfl,q (p.toList.map λ i=>ps.getD i ([],0)) h' c (B2 _ hp) ?_ F' (λ b o n e=>k' b o n (PH (Heap.lt_size e)) (kp b o e)) ?_⟩
   ·rw [Ou,O3];intro i j hi hj hij;have hi2:i<ps.length:=by rw [<-P.sz];simpa using hi
    have hj2:j<ps.length:=by rw [<-P.sz];simpa using hj
    have z:=up i j hij hj2;have gi:gp p i=p.toList[i]:=by
     have:i<p.size:=by rw [P.sz];exact hi2
     simp [gp,this]
    have gj:gp p j=p.toList[j]:=by
     have:j<p.size:=by rw [P.sz];exact hj2
     simp [gp,this]
    rw [gi,gj] at z;rw [<-(hat _ (by rw [<-gi];exact P.lo i hi2)).2.1,<-(hat _ (by rw [<-gj];exact P.lo j hj2)).2.1];exact z
   ·rw [ga,N7];congr 3;refine Ov λ i hi=>?_;exact (hat i (Ob.mp (hp.mem_iff.mp hi))).1
 ·refine mq gL (by rw [hlen];lia) ?_;obtain ⟨e,he⟩:=sortedHeap_at (out:=(ps.map λ z=>Value.ref z.2).toArray) gL;have k2:∀b o,s.heap.get? b=some o->(sortedHeap (s.heap.push (seqObj "list" (ps.map λ z=>Value.ref z.2).toArray 0)) s.heap.objs.size (ps.map λ z=>Value.ref z.2) (ps.map λ z=>Value.ref z.2).toArray).get? b=some o:=λ b o e=>by rw [sortedHeap_old (PH (Heap.lt_size e)) (by rw [Heap.size_push];exact PY (Heap.lt_size e))];exact kp b o e
  refine ⟨rfl,q ps _ e (List.Perm.refl _) ?_ (F.kept k2) (λ b o _ e=>k2 b o e) he⟩
  match ps,h2 with
  | [],_=>exact List.Pairwise.nil
  | [_],_=>exact PB ..
  | _::_::_,h=>exact absurd (by simp) h
end
end L2
namespace L2
open PySem PySem.W PySem.Calls PySem.Spec PyProof.Rows
section
variable {prog:Program}{w:World}{A:Around}{E:Value->Shared->Prop}{s:Shared}
def q0 (prog:Program) (w:World) (h:Heap) (D:Addr) (ps:List (List Int×Addr)):Prop:= ∃es ep t,du h D es ep t/\es.toList.Perm (ps.map λ p=>(tupleKeyHash (intKind prog w) p.1,Value.ref p.2))/\SG (!w.params.followText "set-order") es.size t
theorem q0.keep {h h':Heap}{D:Addr}{ps:List (List Int×Addr)}(x:q0 prog w h D ps) (k:∀o,h.get? D=some o->h'.get? D=some o):q0 prog w h' D ps:=let ⟨es,ep,t,h1,r⟩:=x;⟨es,ep,t,h1.keep k,r⟩
theorem A6 {M:Addr->Prop}{h:Heap}:∀{l:List (Int×Value)},(∀e∈l,∃k,El prog w M h k e)->∃ps:List (List Int×Addr),l=ps.map (λ p=>(tupleKeyHash (intKind prog w) p.1,Value.ref p.2))/\∀p∈ps,M p.2/\IsTupleKey (intKind prog w) h p.1 p.2
 | [],_=>⟨[],rfl,λ _ z=>nomatch z⟩
 | e::l,hl=>by obtain ⟨ps,rfl,h1⟩:=A6 λ e' he=>hl e' (N6 _ he);obtain ⟨k,a,h2,rfl,h3⟩:=hl e N9;exact ⟨(k,a)::ps,rfl,λ p hp=>(N1.mp hp).elim (λ z=>z▸⟨h2,h3⟩) (h1 p)⟩
theorem ie.toP {M:Addr->Prop}{h:Heap}{D:Addr}{S:List Int->Bool}{n:Nat}(x:ie prog w M h D S n):∃ps:List (List Int×Addr),q0 prog w h D ps/\(∀p∈ps,M p.2/\IsTupleKey (intKind prog w) h p.1 p.2)/\(ps.map (·.1)).Nodup/\(∀k,S k=true<->k∈ps.map (·.1))/\ps.length=n:=by
 obtain ⟨es,ep,t,o1,st,hm,hz⟩:=x;obtain ⟨ps,e,h1⟩:=A6 st.el;refine ⟨ps,⟨es,ep,t,o1,List.Perm.of_eq e,st.tg.fits,st.led,st.tg.ris⟩,h1,?_,λ k=>?_,?_⟩
 ·have z:=st.nd;rw [e,Ou] at z;rw [OD,Ou];refine z.imp_of_mem ?_;intro p p' hp hp' q e2;exact q p.1 ⟨p.2,(h1 p hp).1,rfl,(h1 p hp).2⟩ ⟨p'.2,(h1 p' hp').1,by rw [e2],by rw [e2];exact (h1 p' hp').2⟩
 ·rw [hm k,e,N0]
  constructor
  ·rintro ⟨e',he,z⟩;obtain ⟨p,hp,rfl⟩:=N0.mp he;exact ⟨p,hp,(El.inj (m:=M) ⟨p.2,(h1 p hp).1,rfl,(h1 p hp).2⟩ z)⟩
  ·rintro ⟨p,hp,rfl⟩;exact ⟨_,N0.mpr ⟨p,hp,rfl⟩,p.2,(h1 p hp).1,rfl,(h1 p hp).2⟩
 ·have:=congrArg List.length e;rw [NZ,QB] at this;lia
theorem pV {B:Heap}{L:Addr}{m:Str->Option Value}{D:Addr}{ps:List (List Int×Addr)}{Q:Value->Shared->Prop}(F:Fr B L s.heap m) (hh:A.handled=none) (hS:q0 prog w s.heap D ps) (T:C3 prog w s.heap L ps) (h64:ps.length<64)
  (q:∀(ps':List (List Int×Addr)) (h':Heap) (p:Addr) (e:Nat) d tk,ps'.Perm ps->ps'.Pairwise (λ x y=>dQ x.1 y.1=true)->Fr B L h' m->(∀b o,b≠L->s.heap.get? b=some o->h'.get? b=some o)->s.heap.objs.size<=p->h'.get? p=some (seqObj "list" (ps'.map λ z=>Value.ref z.2).toArray e)->s.toks<=tk->Q (.ref p) {s with heap:=h',drawn:=d,toks:=tk}):
  wpAny (model prog w) A (call (.builtin "sorted") [.ref D]) Q E s:=by
 obtain ⟨es,ep,t,o1,hp,g⟩:=hS;have hz:es.size=ps.length:=by have:=hp.length_eq;simpa using this
 refine Calls.call_function_entry kind_sorted plain_sorted entry_sorted (args_sorted1 _) ?_;unfold Builtin.«sorted»;refine wpAny_bind (m:=checkCount "sorted" 1 1 _) (wpAny_pure ?_);refine wpAny_bind (qQ (by exact hh) o1 g (by rw [sizeLine_eq];lia) λ vs h1 d1 tk1 hv k1 hsz ht1=>?_);obtain ⟨ps1,p1,rfl⟩:=uI (λ p:List Int×Addr=>Value.ref p.2) (hv.trans (by
  have z:=hp.map (·.2);rw [N7] at z;exact z))
 refine wpAny_bind (wpAny_newList ?_ (by rw [NZ,p1.length_eq,sizeLine_eq];lia));have gL:(h1.push (seqObj "list" (ps1.map λ z=>Value.ref z.2).toArray 0)).get? h1.objs.size=some (seqObj "list" (ps1.map λ z=>Value.ref z.2).toArray 0):=Heap.get?_push_size _ rfl;refine wpAny_bind (wpAny_holding (wpAny_call_entry slot_list_sort ⟨_,gL,rfl⟩ entry_list_sort (wpAny_mono (wl (s:={s with heap:=h1,drawn:=d1,toks:=tk1}) (Q:=λ _ s'=>wpAny (model prog w) A.in1 (ret (.ref h1.objs.size)) (λ r s''=> ∃v,r=.done (.ret v)/\Q v s'') E s') (F.kept k1) ((T.perm p1).keep λ b o _ e=>k1 b o e) (by rw [p1.length_eq];exact h64) λ ps' h' c hp' pw F' k' ga=>?_) (λ r s' z=>⟨_,z.1,z.2⟩) λ _ _ z=>z) (args_list_sort _)));exact wpAny_pure ⟨_,rfl,q ps' h' _ c _ _ (hp'.trans p1) pw F' (λ b o n e=>k' b o n (k1 b o e)) (PZ hsz) ga ht1⟩
end
end L2
namespace L2
open PySem PySem.W PySem.Calls PySem.Spec PyProof.Rows
theorem bw.hereS {P:Program}{w:World}{H:Hp}{h:Heap}{a:Addr}{o:HO}(x:bw P w H h a o):∃u,h.get? a=some u:=by
 cases o with
 | lst xs=>obtain ⟨_,_,_,_,e⟩:=x;exact ⟨_,e⟩
 | tup xs=>obtain ⟨_,_,_,o,e,_⟩:=x;exact ⟨_,e⟩
 | dK kvs=>obtain ⟨_,_,_,_,o,_,_,e,_⟩:=x;exact ⟨_,e⟩
 | dT kvs=>obtain ⟨_,_,_,_,o,_,_,e,_⟩:=x;exact ⟨_,e⟩
 | set S n=>obtain ⟨o,_,_,_,e,_⟩:=x;exact ⟨_,e⟩
 | ins C dx fs=>obtain ⟨_,_,_,e,_⟩:=x;exact ⟨_,e⟩
 | own y=>obtain ⟨_,e⟩:=x;exact ⟨_,e⟩
 | xd fs=>obtain ⟨_,⟨_,_,_,e,_⟩,_⟩:=x;exact ⟨_,e⟩
 | rng lo hi=>obtain ⟨_,_,_,e⟩:=x;exact ⟨_,e⟩
 | frz ob u=>obtain ⟨e,_⟩:=x;exact ⟨_,e⟩
 | tbl ps=>exact ⟨_,(show h.get? a=some _ from x)⟩
 | met f y=>exact ⟨_,(show h.get? a=some _ from x)⟩
 | ext φ=>obtain ⟨_,⟨_,e⟩,_⟩:=x;exact ⟨_,e⟩
section
variable {X:Cx}
theorem mt:∀(ps:List (List Int×Addr)),aP (ps.map λ z=>V.ref z.2) (ps.map λ z=>Value.ref z.2)
 | []=>.nil
 | p::ps=>.cons rfl (mt ps)
theorem qG {P:Program}{w:World}:∀{k:List Int}{us:List Value},aP (k.map V.int) us->ItemsAre (intKind P w) k us
 | [],_,.nil=>.nil
 | n::k,_,.cons r t=>by obtain ⟨tk,rfl⟩:=r;exact .cons (intKind_is _ _ _ _) (qG t)
theorem uj {P:Program}{w:World}{H:Hp}{h:Heap}{a:Addr}{k:List Int}(x:bw P w H h a (.tup (k.map V.int))):IsTupleKey (intKind P w) h k a:=by obtain ⟨_,its,r,o,ho,hc,n,hd⟩:=x;exact ⟨o,_,n,ho,hc,hd,qG r⟩
theorem wY {pins:List (Addr×Obj)}{σ:St}{H:Hp}{s:Shared}{Q:VK}(I:aH X pins σ H s) {m:Str->Option Value}(F:Fr X.base X.env.locals s.heap m) {h':Heap}{p:Addr}{e tk:Nat}{d:Drawn}{ps':List (List Int×Addr)}(F':Fr X.base X.env.locals h' m)
  (kp:∀b o,b≠X.env.locals->s.heap.get? b=some o->h'.get? b=some o) (hle:s.heap.objs.size<=p) (ga:h'.get? p=some (seqObj "list" (ps'.map λ z=>Value.ref z.2).toArray e)) (hz:ps'.length<64)
  (q:H p=none->Q (.ref p) (upd H p (.lst (ps'.map λ z=>V.ref z.2)))):EP X pins σ Q (.ref p) {s with heap:=h',drawn:=d,toks:=tk}:=by
 have hD:s.heap.get? p=none:=Heap.get?_none_of_le hle;have hHD:H p=none:=by
  cases z:H p with
  | none=>rfl
  | some u=>
    obtain ⟨o,e⟩:=(I.hok p u z).hereS;rw [hD] at e;cases e
 refine ⟨.ref p,upd H p (.lst (ps'.map λ z=>V.ref z.2)),?_,rfl,q hHD⟩;have hlenZ:(ps'.map λ z=>V.ref z.2).length<=sizeLine:=by rw [NZ,sizeLine_eq];lia
 have neD:∀b u,H b=some u->b≠p:=λ b u e=>ar e hHD;have neLH:∀b u,H b=some u->b≠X.env.locals:=λ b u e=>ar e I.free;refine I.step (g':=s.gens) (d':=d) (ch:=[]) (λ _ z=>nomatch z) (λ b o n _ _ e _=>kp b o n e) (λ b o n _ _ e _=>⟨o.slots,kp b o n e⟩) (λ b o _ e n=>?_) (λ b o _ e=>?_)
  (λ b xs e=>by rw [aq (neD b _ e)];exact e) (λ b o u e=>by rw [aq (neD b _ e)];exact e) (λ b ps e=>⟨#[],by rw [aq (neD b _ e),e];simp⟩) (λ m' hm=>?_) (λ b u e=>?_) I.bare
 ·rw [aq (λ z=>by rw [z,hD] at e;cases e)];exact n
 ·by_cases hb:b=X.env.locals
  ·obtain ⟨o',_,_,e',_⟩:=F'.ns;rw [hb];exact ⟨o',e'⟩
  ·exact ⟨o,kp b o hb e⟩
 ·rw [hm.eq_nsMap,<-F.ns.eq_nsMap];exact F'.ns
 ·by_cases hb:b=p
  ·subst hb;rw [ag] at e;cases e;exact ⟨hlenZ,_,_,mt ps',by simpa [seqObj] using ga⟩
  ·rw [aq hb] at e;refine (I.hok b u e).stay (λ b' v hb' z=>kp b' v ?_ z) (λ b' z=>by rw [aq (neD b' _ z)];exact z) λ b' xs z=>by rw [aq (neD b' _ z)];exact z
   rcases hb' with rfl | hb'
   ·exact neLH _ _ e
   ·exact neLH _ _ hb'
def pX (P:Program) (w:World) (K:Frag) (xs:List V) (H:Hp) (Q:VK):Prop:= ∃(d:Addr) (ps:List (List Int×Addr)),xs=[.ref d]/\aK K H d (ps.map λ z=>V.ref z.2)/\(∀p∈ps,H p.2=some (.tup (p.1.map V.int)))/\ps.length+1<307/\
 ∀(q:Addr) (ps':List (List Int×Addr)),H q=none->(∀p∈ps',p∈ps)->(ps'.map (·.1)).Nodup->(∀k,k∈ps'.map (·.1)<->k∈ps.map (·.1))->Q (.ref q) (upd H q (.ext λ h=>q0 P w h q ps'))
def kW (P:Program) (w:World) (xs:List V) (H:Hp) (Q:VK):Prop:= ∃(d:Addr) (ps:List (List Int×Addr)),xs=[.ref d]/\H d=some (.ext λ h=>q0 P w h d ps)/\(∀p∈ps,p.1≠[]/\H p.2=some (.tup (p.1.map V.int)))/\(ps.map (·.1)).Nodup/\ps.length<64/\
 ∀(ps':List (List Int×Addr)) (q:Addr),ps'.Perm ps->ps'.Pairwise (λ x y=>dQ x.1 y.1=true)->H q=none->Q (.ref q) (upd H q (.lst (ps'.map λ z=>V.ref z.2)))
theorem Ik {pins:List (Addr×Obj)}{σ:St}{H:Hp}{s:Shared}(I:aH X pins σ H s) {ps:List (List Int×Addr)}(hp:∀p∈ps,p.1≠[]/\H p.2=some (.tup (p.1.map V.int))) (nd:(ps.map (·.1)).Nodup):C3 X.prog X.w s.heap X.env.locals ps:=
 ⟨λ p h=>⟨ar (hp p h).2 I.free,(hp p h).1,uj (I.hok _ _ (hp p h).2)⟩,nd⟩
theorem qT (hh:X.A.handled=none):aY X (.builtin "sorted") (kW X.prog X.w):=by intro pins s σ H xs us Q I r h;obtain ⟨d,ps,rfl,hd,hp,nd,h64,q⟩:=h;obtain ⟨u,rfl,rx⟩:=dw r;cases rx;obtain ⟨pS,_,_⟩:=(show bw X.prog X.w H s.heap d (.ext _) from I.hok d _ hd);obtain ⟨m,F⟩:=I.fr;refine pV F hh pS (Ik I hp nd) h64 λ ps' h' p e dr tk a1 a2 F' kp hle ga _=>?_;exact wY I F F' kp hle ga (by rw [a1.length_eq];exact h64) (q ps' p a1 a2)
theorem tT (hh:X.A.handled=none) (hu:X.A.units+4<cLine):aY X (.type "set") (pX X.prog X.w X.K):=by
 intro pins s σ H xs us Q I r h;obtain ⟨d,ps,rfl,hq,hp,hb,q⟩:=h;obtain ⟨u,rfl,rx⟩:=dw r;cases rx;obtain ⟨its,r',pl,hz⟩:=I.list hq;have hlen:=r'.length;rw [NZ] at hlen;have hs:its.toArray.size=ps.length:=by rw [N4,<-hlen]
 have hM:∀p∈ps,IsTupleKey (intKind X.prog X.w) s.heap p.1 p.2:=λ p h=>uj (I.hok _ _ (hp p h));refine vM (λ a=> ∃p∈ps,p.2=a) (λ i=>(ps.getD i ([],0)).1) hh pl.isList hu (λ i v hv=>?_) (λ a ⟨p,hp1,e⟩=>?_) (by rw [hs];exact hb) λ h2 tk hS kp=>?_
 ·rw [Pe] at hv;have hi:i<its.length:=(Oe.mp hv).1;have hi2:i<ps.length:=by lia
  have hx:(ps.map λ z=>V.ref z.2)[i]? =some (.ref ps[i].2):=by rw [N3,N2 hi2];rfl
  obtain ⟨u,hu,ru⟩:=r'.get hx;rw [hv] at hu;cases hu;have eg:ps.getD i ([],0)=ps[i]:=by simp [N8,hi2]
  rw [eg];exact ⟨_,ru,⟨_,Of hi2,rfl⟩,hM _ (Of hi2)⟩
 ·obtain ⟨o,_,_,ho,_⟩:=hM p hp1;rw [<-e];exact Heap.lt_size ho
 ·rw [hs] at hS;have k2:∀b u,s.heap.get? b=some u->h2.get? b=some u:=λ b u e=>kp b u (Heap.lt_size e) e;obtain ⟨ps',s1,s2,s3,s4,_⟩:=hS.toP;have ho:∃o,h2.get? s.heap.objs.size=some o:=let ⟨_,_,_,⟨o,h1,_⟩,_⟩:=s1;⟨o,h1⟩;refine ⟨.ref s.heap.objs.size,_,I.laid (t':=tk) k2 (PF _) (show bw X.prog X.w _ h2 _ (.ext λ h=>q0 X.prog X.w h s.heap.objs.size ps') from ⟨s1,ho,λ h1 h2 e k=>e.keep k⟩),rfl,q _ ps' (I.hok.fresh (PF _)) (λ p h=>?_) s3 λ k=>?_⟩
  ·obtain ⟨⟨p2,h2p,e2⟩,kk⟩:=s2 p h;obtain ⟨o,items,n,g1,rr⟩:=hM p2 h2p;have:p2.1=p.1:=IsTupleKey.inj (knd:=intKind X.prog X.w) (h:=h2) (a:=p.2) (e2▸⟨o,items,n,k2 _ _ g1,rr⟩) kk;have:p2=p:=Prod.ext this e2;exact this▸h2p
  ·rw [<-s4 k,decide_eq_true_eq,lC,N0,N0]
   constructor
   ·rintro ⟨i,hi,rfl⟩;have hi2:=Ob.mp hi;exact ⟨ps[i],Of hi2,by simp [N8,hi2]⟩
   ·rintro ⟨p,h,rfl⟩;obtain ⟨i,hi,rfl⟩:=OF h;exact ⟨i,Ob.mpr hi,by simp [N8,hi]⟩
end
end L2
namespace L2
open PySem PySem.Spec PyProof.Rows
section
variable {X:Cx}{a b c e o:Expr}{ta tb tc te to:TE}{p p2 pos:Pos}{es:List Expr}{t:TA}
def M6 (to te:TE):TE:=λ σ H Q=>to σ H λ x H1=>match x with
 | .ref l=>(∃xs,H1 l=some (.lst xs))/\te σ H1 λ y H2=> ∃b xs zs,y=.ref b/\H2 l=some (.lst xs)/\H2 b=some (.lst zs)/\xs.length+zs.length<=sizeLine/\Q .non (upd H2 l (.lst (xs++zs)))
 | _=>False
theorem Bh {apos cpos:Pos}(ho:PE X o to) (he:PE X e te) (hbase:attributeBase o "extend" X.env (eval o X.env)=eval o X.env:=by rfl)
  (hfew:((backTo cpos (starEach [e] X.env)).all (λ x=> !x.1)&&(backToKw cpos (keywordEach [] X.env)).all (λ x=>x.1.isSome)
   &&decide ([e].length+([]:List Keyword).length+(if ([]:List Keyword).isEmpty then 0 else 1)<30))=true:=by rfl)
  (hline:(apos.endLine == cpos.line)=true:=by rfl) (hs:starEach [e] X.env=(false,eval e X.env)::starEach [] X.env:=by rfl) (hplain:(backTo cpos (starEach [] X.env)).any (·.1)=false:=by rfl):
  PE X (.Call (.Attribute o "extend" apos) [e] [] cpos) (M6 to te):=by
 intro pins s σ H Q I h;refine wpAny_Call_method_late hbase hfew hline rfl (bL (ho pins s σ H _ I h) λ v s1 ⟨x,H1,I1,r1,q1⟩=>?_);cases x with
 | ref l=>
   obtain ⟨⟨xs0,e0⟩,q1⟩:=q1;have ty:JW X.K "list" (.ref l) H1:=.inl ⟨rfl,xs0,aK.of e0⟩;obtain ⟨h1,h2⟩:=kN I1 r1 ty;refine ⟨"list","list.extend",PySem.F.plainAttrs_list,PySem.F.slot_list_extend,PySem.F.type_list_extend,h1,h2,?_⟩;have hA:=(pa_cons he pa_nil hs:PA X [e] (bo te cZ)) cpos pins s1 σ H1 (λ vs H2=>kG (.ref l) vs H2 Q) I1 (by
    show te σ H1 λ y H2=>kG (.ref l) [y] H2 Q;have:(λ (y:V) (H2:Hp)=> ∃b xs zs,y=.ref b/\H2 l=some (.lst xs)/\H2 b=some (.lst zs)/\xs.length+zs.length<=sizeLine/\Q .non (upd H2 l (.lst (xs++zs))))=λ y H2=>kG (.ref l) [y] H2 Q:=by
     funext y H2;apply propext
     constructor
     ·rintro ⟨b,xs,zs,rfl,z⟩;exact ⟨l,b,xs,zs,rfl,rfl,z⟩
     ·rintro ⟨l',b,xs,zs,e1,e2,z⟩;cases e1;have:y=.ref b:=by injection e2
      exact ⟨b,xs,zs,this,z⟩
    rw [<-this];exact q1)
   rw [hs] at hA ⊢;refine Calls.callWith_builtin (by show (false||(backTo cpos (starEach [] X.env)).any (·.1))=false;rw [hplain]<;>rfl) (Calls.evalArgs_plain ?_)
   exact bL hA λ us s2 ⟨vs,H2,I2,r2,q3⟩=>wm pins s2 σ H2 _ vs v us Q I2 r1 r2 q3
 | _=>exact q1.elim
theorem Mv (P:Program) (w:World) (K:Frag) {j:Nat}(hr:cP j X.A) (hP:X.prog=P:=by rfl) (hw:X.w=w:=by rfl) (hK:X.K=K:=by rfl):aY X (.type "set") (pX P w K):=by subst hP hw hK;exact tT hr.hd (by have:=hr.units;lia)
theorem Jf (P:Program) (w:World) {j:Nat}(hr:cP j X.A) (hP:X.prog=P:=by rfl) (hw:X.w=w:=by rfl):aY X (.builtin "sorted") (kW P w):=by subst hP hw;exact qT hr.hd
end
section
variable {P:Program}{w:World}{K:Frag}{σ:St}{H:Hp}{Q:VK}{te to:TE}{D:dC}{u:TS}
theorem rH (h:te σ H λ v H1=>pX P w K [v] H1 λ u H2=>kW P w [u] H2 Q):cB (kW P w) (bo (cB (pX P w K) (bo te cZ)) cZ) σ H Q:=h
def pk (x:Int×Int):List Int:=[x.1,x.2]
theorem IL {x y:Int×Int}(h:pk x=pk y):x=y:=by unfold pk at h;injection h with h1 h2;injection h2 with h2 _;exact Prod.ext h1 h2
theorem rK {d:Addr}{ps:List (List Int×Addr)}(hd:aK K H d (ps.map λ z=>V.ref z.2)) (hp:∀p∈ps,p.1≠[]/\H p.2=some (.tup (p.1.map V.int))) (hl:ps.length+1<307) (h64:∀l:List (List Int),l.Nodup->(∀k,k∈l<->k∈ps.map (·.1))->l.length<64)
  (q:∀(ps':List (List Int×Addr)) (q:Addr) (H':Hp),(∀p∈ps',p∈ps)->(∀k,k∈ps'.map (·.1)<->k∈ps.map (·.1))->ps'.Pairwise (λ x y=>dQ x.1 y.1=true)->H q=none->aj H H'->H' q=some (.lst (ps'.map λ z=>V.ref z.2))->Q (.ref q) H'):pX P w K [.ref d] H λ u H2=>kW P w [u] H2 Q:=by
 refine ⟨d,ps,rfl,hd,λ p h=>(hp p h).2,hl,λ q1 ps1 hq1 sub nd mem=>?_⟩;have z1:ps1.length<64:=by have:=h64 _ nd mem;rwa [NZ] at this
 refine ⟨q1,ps1,rfl,ag,λ p h=>⟨(hp p (sub p h)).1,?_⟩,nd,z1,λ ps2 q2 pm pw hq2=>?_⟩
 ·rw [aq (ar (hp p (sub p h)).2 hq1)];exact (hp p (sub p h)).2
 ·have n12:q2≠q1:=λ z=>by rw [z,ag] at hq2;cases hq2
  have hq2':H q2=none:=by rw [aq n12] at hq2;exact hq2
  refine q ps2 q2 _ (λ p h=>sub p (pm.mem_iff.mp h)) (λ k=>?_) pw hq2' (((aj.refl H).upd hq1).upd hq2) ag;rw [<-mem k];exact (pm.map _).mem_iff
end
def sdV (row:Str) (s:Int):V:=cr (row.cps.toList.getD s.toNat 0)
def eE (row:Str) (sd:Int) (aim:Str):List Int->List (Int×Int)
 | []=>[]
 | g::r=>if sdV row g=.non then (if aim="hit" then eE row sd aim r else (g, -1)::eE row sd aim r) else if¬sdV row g=.int sd/\¬aim="go" then [(g,g)] else []
def lF (row:Str) (sd:Int):List Int->List (Int×Int)
 | g::b::_=>if sdV row g=.int (1 - sd)/\sdV row b=.non then [(b,g)] else []
 | _=>[]
theorem jz (row:Str) (sd:Int) (aim:Str):∀l,(eE row sd aim l).length<=l.length
 | []=>PF _
 | g::r=>by
   have:=jz row sd aim r;unfold eE;split
   ·split<;>simp<;>lia
   ·split<;>simp
theorem mQ (row:Str) (sd:Int):∀l,(lF row sd l).length<=1
 | []=>PJ _
 | [_]=>PJ _
 | g::b::r=>by
   show (if sdV row g=.int (1 - sd)/\sdV row b=.non then [(b,g)] else []).length<=1;split
   ·exact PF _
   ·exact PJ _
def cm (H H':Hp) (q:Addr) (l:List (Int×Int)):Prop:= ∃ps:List (List Int×Addr),ps.map (·.1)=l.map pk/\H' q=some (.lst (ps.map λ z=>V.ref z.2))/\∀p∈ps,H p.2=none/\H' p.2=some (.tup (p.1.map V.int))
end L2
namespace L2
open PySem PySem.Spec PyProof.Rows
theorem kX {row:Str}{sd:Int}{aim:Str}{g:Int}{r:List Int}:eE row sd aim (g::r)=if sdV row g=.non then (if aim="hit" then eE row sd aim r else (g, -1)::eE row sd aim r) else if¬sdV row g=.int sd/\¬aim="go" then [(g,g)] else []:=rfl
structure RowS (row:Str):Prop where
 len:row.length<=64
 asc:∀c∈row.cps.toList,c<128
def zF (K:Frag):Sp:=λ vs H Q _=> ∃(row aim:Str) (sd:Int) (p:Addr) (path:List Int),vs=[.str row,.int sd,.str aim,.ref p]/\aK K H p (path.map V.int)/\RowS row/\(∀g∈path,0<=g/\g<row.length)/\path.length<=8/\
 ∀(q:Addr) (H':Hp),H q=none->cm H H' q (eE row sd aim path)->aj H H'->Q (.ref q) H'
def zJ (K:Frag):Sp:=λ vs H Q _=> ∃(row:Str) (sd:Int) (p:Addr) (path:List Int),vs=[.str row,.int sd,.ref p]/\aK K H p (path.map V.int)/\RowS row/\(∀g∈path,0<=g/\g<row.length)/\(sd=0\/sd=1)/\
 ∀(q:Addr) (H':Hp),H q=none->cm H H' q (lF row sd path)->aj H H'->Q (.ref q) H'
structure CRs (P:Program) (w:World) (K:Frag) (mg:Str->Option Value) (base:Heap):Prop where
 side_of:cj P w K mg base "side_of" ["sign"] 1 kT
theorem RowS.at {row:Str}(R:RowS row) {s:Int}(h0:0<=s) (h1:s<row.length):ke row.cps.toList s=some (row.cps.toList.getD s.toNat 0)/\row.cps.toList.getD s.toNat 0<128:=by
 have hl:s.toNat<row.cps.toList.length:=by have:row.length=row.cps.toList.length:=rfl;lia
 have e:row.cps.toList[s.toNat]? =some (row.cps.toList.getD s.toNat 0):=by rw [N8,N2 hl];rfl
 have z:=bn e;rw [Qk h0] at z;exact ⟨z,R.asc _ (Om e)⟩
theorem cm.nil {H:Hp}{q:Addr}:cm H (upd H q (.lst [])) q []:=⟨[],rfl,ag,λ _ z=>nomatch z⟩
theorem cm.add {H H1:Hp}{q t:Addr}{l:List (Int×Int)}{x y:Int}{ps:List (List Int×Addr)}(h1:ps.map (·.1)=l.map pk) (h2:H1 q=some (.lst (ps.map λ z=>V.ref z.2))) (h3:∀p∈ps,H p.2=none/\H1 p.2=some (.tup (p.1.map V.int))) (s:aj H H1) (ht:H1 t=none):
  cm H (upd (upd H1 t (.tup [.int x,.int y])) q (.lst ((ps.map λ z=>V.ref z.2)++[.ref t]))) q (l++[(x,y)]):=by
 have hqt:q≠t:=λ z=>by rw [<-z,h2] at ht;cases ht
 refine ⟨ps++[([x,y],t)],by rw [Og,Og,h1];rfl,by rw [ag,Og];rfl,λ p hp=>?_⟩
 rcases Oc.mp hp with z | z
 ·obtain ⟨a1,a2⟩:=h3 p z;refine ⟨a1,?_⟩;rw [aq (λ w=>by rw [w] at a2;rw [h2] at a2;cases a2),aq (λ w=>by rw [w,ht] at a2;cases a2)];exact a2
 ·rw [N5.mp z];refine ⟨?_,by rw [aq (Ne.symm hqt),ag];rfl⟩;cases w:H t with
  | none=>rfl
  | some u=>have:=s t u w;rw [ht] at this;cases this
theorem L4 {t u:TT}{σ:St}{H:Hp}{R:Bool->Hp->Prop}(h:t σ H λ c H1=>if c=true then R true H1 else u σ H1 R):L6 t u σ H R:=h
section
variable {K:Frag}{c:Nat}{H:Hp}{Q:VK}
theorem BS {sd:Int}:eA K .NotEq (cr c) (.int sd) H Q=Q (.bl (!decide (cr c=.int sd))) H:=by
 unfold cr
 by_cases h:c=46\/c=35
 ·rw [if_pos h];show Q (.bl true) H=Q (.bl (!decide (V.non=V.int sd))) H;rw [decide_eq_false (by intro z;cases z)];rfl
 ·rw [if_neg h];show Q (.bl (!decide (_=sd))) H=Q (.bl (!decide (V.int _=V.int sd))) H;have:∀i:Int,decide (i=sd)=decide (V.int i=V.int sd):=λ i=>by
   by_cases e:i=sd
   ·rw [decide_eq_true e,decide_eq_true (congrArg V.int e)]
   ·rw [decide_eq_false e,decide_eq_false (λ z=>e (by injection z))]
  rw [this]
theorem rJ:eA K .IsNot (cr c) .non H Q=Q (.bl (!decide (cr c=.non))) H:=by
 unfold cr
 by_cases h:c=46\/c=35
 ·rw [if_pos h];show Q (.bl false) H=Q (.bl (!decide (V.non=V.non))) H;rw [decide_eq_true rfl];rfl
 ·rw [if_neg h];show Q (.bl true) H=Q (.bl (!decide (V.int _=V.non))) H;rw [decide_eq_false (by intro z;cases z)];rfl
end
theorem Gp {t:TT}{ta tb:TE}{σ:St}{H:Hp}{Q:VK}{b:Bool}(hc:Tv t σ H b) (h1:b=true->ta σ H Q) (h2:b=false->tb σ H Q):Nk t ta tb σ H Q:=hc _ (by
 cases b with
 | true=>exact hV (h1 rfl)
 | false=>exact iB (h2 rfl))
def tY (row:Str) (sd:Int) (so ai:Str) (path:List Int):List (Int×Int):=if so="jump" then lF row sd path else eE row sd ai (if so="leap" then path.take 1 else path)
theorem CT (row:Str) (sd:Int) (so ai:Str) {path:List Int}(h:path.length<=8):(tY row sd so ai path).length<=8:=by
 unfold tY;split
 ·have:=mQ row sd path;lia
 ·have:=jz row sd ai (if so="leap" then path.take 1 else path);have:(if so="leap" then path.take 1 else path).length<=8:=by
   split
   ·rw [Ol];lia
   ·exact h
  lia
structure aI where
 kd:Str
 so:Str
 ai:Str
 ax:Int
 up:Int
abbrev aI.vs (r:aI):List V:=[.str r.kd,.str r.so,.str r.ai,.int r.ax,.int r.up]
abbrev aI.dy (r:aI) (sd:Int):Int:=if sd=0 then r.up else -r.up
def pU (K:Frag) (cB:Addr):Sp:=λ vs H Q _=> ∃(b r:Addr) (row:Str) (sq sd wi hi:Int) (hs:List Int) (u:aI),vs=[.ref b,.str row,.int sq,.ref r]/\bM K cB H b wi hi hs/\cJ K H r u.vs/\RowS row/\(row.length:Int)=wi*hi/\0<=sq/\sq<wi*hi/\
 sdV row sq=.int sd/\(sd=0\/sd=1)/\¬(u.ax=0/\u.up=0)/\∀(n:Nat) (q:Addr) (H':Hp),jr wi hi hs sq u.ax (u.dy sd) n->n<=8->H q=none->cm H H' q (tY row sd u.so u.ai (dP wi sq u.ax (u.dy sd) n))->aj H H'->Q (.ref q) H'
structure CRb (P:Program) (w:World) (K:Frag) (mg:Str->Option Value) (base:Heap) (cB:Addr):Prop extends CRs P w K mg base where
 ray:cj P w K mg base "ray" ["board","square","across","up"] 3 (Gq K cB)
 jumped:cj P w K mg base "jumped" ["row","side","path"] 2 (zJ K)
 slid:cj P w K mg base "slid" ["row","side","aim","path"] 2 (zF K)
theorem rX {wi hi:Int}{hs:List Int}{s ax up:Int}{n:Nat}(w1:1<=wi) (R:jr wi hi hs s ax up n):∀g∈dP wi s ax up n,0<=g/\g<wi*hi/\¬g∈hs:=λ g hg=>by
 unfold dP at hg;obtain ⟨j,hj,rfl⟩:=N0.mp hg;obtain ⟨a,b,c,d,e⟩:=R.1 j (Ob.mp hj);refine ⟨?_,?_,e⟩
 ·unfold np;have:=Ql c (by lia:0<=wi);lia
 ·unfold np;have z:(s / wi+((j+1:Nat):Int)*up)*wi<=(hi - 1)*wi:=Qm (by lia) (by lia);rw [Int.sub_mul,Qi,Qg hi wi] at z;lia
theorem cm.from {H H1 H':Hp}{q:Addr}{l:List (Int×Int)}(h:cm H1 H' q l) (s:aj H H1):cm H H' q l:=by
 obtain ⟨ps,a,b,c⟩:=h;refine ⟨ps,a,b,λ p hp=>⟨?_,(c p hp).2⟩⟩;cases w:H p.2 with
 | none=>rfl
 | some u=>have:=s _ u w;rw [(c p hp).1] at this;cases this
theorem Gz {sp:Sp}{t:TA}{D:dC}{σ:St}{H:Hp}(h:t σ H λ vs H1=>sp vs H1 D.rt E0):ce (fC sp t) D σ H:=h
theorem MV (xs:List Int):gk (xs.map V.int) none (some 1)=(xs.take 1).map V.int:=by
 unfold gk;rw [HT.sIx_none];have:HT.sIx (xs.map V.int).length (xs.map V.int).length (some 1)=min 1 (xs.map V.int).length:=HT.sIx_nat _ _ 1;rw [this,OW,P8,Pl];cases xs with
 | nil=>rfl
 | cons a l=>simp
theorem aj.tupY {K:Frag}{H H':Hp}{a:Addr}{xs:List V}(e:aj H H') (h:cJ K H a xs):cJ K H' a xs:=by
 rcases h with (h | ⟨o,h⟩) | h
 ·exact .inl (.inl (e _ _ h))
 ·exact .inl (.inr ⟨o,e _ _ h⟩)
 ·exact .inr h
end L2
namespace L2
open PySem PySem.Spec PyProof.Rows
def dv (H:Hp) (us:List (aI×Addr)):Prop:= ∀z∈us,H z.2=some (.tup z.1.vs)
theorem dv.same {H H':Hp}{us:List (aI×Addr)}(h:dv H us) (s:aj H H'):dv H' us:=λ z hz=>s _ _ (h z hz)
abbrev ck (us:List (aI×Addr)):List V:=us.map λ z=>V.ref z.2
def ofKind (us:List (aI×Addr)) (kd:Str):List (aI×Addr):=us.filter λ z=>decide (z.1.kd=kd)
def No (us:List (aI×Addr)) (kd:Str) (v:V):Bool:=us.any λ z=>decide (V.ref z.2=v/\z.1.kd=kd)
theorem AD {H:Hp}{us:List (aI×Addr)}(h:dv H us) {kd:Str}{z:aI×Addr}(hz:z∈us):No us kd (.ref z.2)=decide (z.1.kd=kd):=by
 unfold No
 by_cases e:z.1.kd=kd
 ·rw [decide_eq_true e,OC];exact ⟨z,hz,decide_eq_true ⟨rfl,e⟩⟩
 ·rw [decide_eq_false e,OM];intro y hy w;obtain ⟨e1,e2⟩:=of_decide_eq_true w;have e1:y.2=z.2:=by injection e1
  have a:=h y hy;rw [e1,h z hz] at a;injection a with a;injection a with a;injection a with a _;injection a with a;exact e (a.trans e2)
theorem sW {H:Hp}{us:List (aI×Addr)}(h:dv H us) {kd:Str}:(ck us).filter (No us kd)=ck (ofKind us kd):=by unfold ck ofKind;rw [Ph];congr 1;refine List.filter_congr λ z hz=>?_;exact AD h hz
def mB (cG:Addr):Sp:=λ vs H Q _=> ∃(g b:Addr) (kd:Str) (ks ts es:List V) (st:Str) (us:List (aI×Addr)),vs=[.ref g,.str kd]/\dW cG H g b ks (ck us) ts es st/\dv H us/\us.length<=24/\
 ∀(q:Addr) (H':Hp),H q=none->H' q=some (.lst (ck (ofKind us kd)))->aj H H'->Q (.ref q) H'
def ig (wi hi:Int) (hs:List Int) (row:Str) (sq sd:Int) (u:aI) (l:List (Int×Int)):Prop:= ∃n:Nat,jr wi hi hs sq u.ax (u.dy sd) n/\n<=8/\l=tY row sd u.so u.ai (dP wi sq u.ax (u.dy sd) n)
theorem ig.uniq {wi hi:Int}{hs:List Int}{row:Str}{sq sd:Int}{u:aI}{l l':List (Int×Int)}(h:ig wi hi hs row sq sd u l) (h':ig wi hi hs row sq sd u l'):l=l':=by obtain ⟨n,a,_,rfl⟩:=h;obtain ⟨m,b,_,rfl⟩:=h';rw [a.uniq b λ _=>Iff.rfl]
theorem ig.len {wi hi:Int}{hs:List Int}{row:Str}{sq sd:Int}{u:aI}{l:List (Int×Int)}(h:ig wi hi hs row sq sd u l):l.length<=8:=by obtain ⟨n,a,b,rfl⟩:=h;exact CT _ _ _ _ (by rw [jb];exact b)
inductive aM (wi hi:Int) (hs:List Int) (row:Str) (sq sd:Int):List (aI×Addr)->List (Int×Int)->Prop
 | nil:aM wi hi hs row sq sd [] []
 | cons {z us l r}:ig wi hi hs row sq sd z.1 l->aM wi hi hs row sq sd us r->aM wi hi hs row sq sd (z::us) (l++r)
theorem aM.uniq {wi hi:Int}{hs:List Int}{row:Str}{sq sd:Int}:∀{us:List (aI×Addr)}{l l':List (Int×Int)},aM wi hi hs row sq sd us l->aM wi hi hs row sq sd us l'->l=l'
 | _,_,_,.nil,.nil=>rfl
 | _,_,_,.cons a b,.cons c d=>by rw [a.uniq c,aM.uniq b d]
theorem aM.len {wi hi:Int}{hs:List Int}{row:Str}{sq sd:Int}:∀{us:List (aI×Addr)}{l:List (Int×Int)},aM wi hi hs row sq sd us l->l.length<=8*us.length
 | _,_,.nil=>PJ _
 | _,_,.cons a b=>by have:=a.len;have:=aM.len b;rw [Oa,Oh];lia
theorem aM.add {wi hi:Int}{hs:List Int}{row:Str}{sq sd:Int}{z:aI×Addr}{l:List (Int×Int)}(h:ig wi hi hs row sq sd z.1 l):∀{us:List (aI×Addr)}{r:List (Int×Int)},aM wi hi hs row sq sd us r->aM wi hi hs row sq sd (us++[z]) (r++l)
 | _,_,.nil=>by
   have:=aM.cons h aM.nil
   rwa [Os] at this
 | _,_,.cons a b=>by rw [OE];exact .cons a (aM.add h b)
def qZ (l l':List (Int×Int)):Prop:=(∀x,x∈l'<->x∈l)/\l'.Pairwise λ x y=>dQ (pk x) (pk y)=true
theorem qZ.uniq {l:List (Int×Int)}:∀{a b:List (Int×Int)},qZ l a->qZ l b->a=b:=by
 have key:∀(a b:List (Int×Int)),(∀x,x∈a<->x∈b)->a.Pairwise (λ x y=>dQ (pk x) (pk y)=true)->b.Pairwise (λ x y=>dQ (pk x) (pk y)=true)->a=b:=by
  intro a
  induction a with
  | nil=>
    intro b h _ _;cases b with
    | nil=>rfl
    | cons y b=>exact absurd ((h y).mpr N9) (by simp)
  | cons x a ih=>
    intro b h pa pb;cases b with
    | nil=>exact absurd ((h x).mp N9) (by simp)
    | cons y b=>
      obtain ⟨a1,a2⟩:=OR.mp pa;obtain ⟨b1,b2⟩:=OR.mp pb;have e:x=y:=by
       rcases N1.mp ((h x).mp N9) with z | z
       ·exact z
       ·rcases N1.mp ((h y).mpr N9) with w | w
        ·exact w.symm
        ·have t1:=b1 x z;have t2:=a1 y w;rw [oG _ _ t1] at t2;cases t2
      subst e;rw [ih b (λ z=>?_) a2 b2]
      constructor
      ·intro hz
       rcases N1.mp ((h z).mp (N6 _ hz)) with w | w
       ·rw [w] at hz;have:=a1 x hz;rw [je] at this;cases this
       ·exact w
      ·intro hz
       rcases N1.mp ((h z).mpr (N6 _ hz)) with w | w
       ·rw [w] at hz;have:=b1 x hz;rw [je] at this;cases this
       ·exact w
 intro a b ha hb;exact key a b (λ x=>(ha.1 x).trans (hb.1 x).symm) ha.2 hb.2
def ny (K:Frag) (cB cG:Addr):Sp:=λ vs H Q _=> ∃(g b:Addr) (row kd:Str) (sq sd wi hi:Int) (hs:List Int) (ks ts es:List V) (st:Str) (us:List (aI×Addr)),vs=[.ref g,.str row,.int sq]/\dW cG H g b ks (ck us) ts es st/\bM K cB H b wi hi hs/\dv H us/\us.length<=12/\(∀z∈us,¬(z.1.ax=0/\z.1.up=0))/\
 RowS row/\(row.length:Int)=wi*hi/\0<=sq/\sq<wi*hi/\sdV row sq=.int sd/\(sd=0\/sd=1)/\j8 (row.cps.toList.getD sq.toNat 0)=.str kd/\(∀l,aM wi hi hs row sq sd (ofKind us kd) l->∀m:List (Int×Int),m.Nodup->(∀x∈m,x∈l)->m.length<64)/\
 ∀(l l':List (Int×Int)) (q:Addr) (H':Hp),aM wi hi hs row sq sd (ofKind us kd) l->qZ l l'->H q=none->cm H H' q l'->aj H H'->Q (.ref q) H'
structure CRg (P:Program) (w:World) (K:Frag) (mg:Str->Option Value) (base:Heap) (cB cG:Addr):Prop where
 kind_of:cj P w K mg base "kind_of" ["sign"] 1 rF
 by_rule:cj P w K mg base "by_rule" ["board","row","square","rule"] 4 (pU K cB)
 Game_rules_of:ku P w K mg base cG "rules_of" ["self","kind"] 1 (mB cG)
theorem Ie {l:List (Int×Int)}:∀{L:List (List Int)},(∀k∈L,k∈l.map pk)->∃m:List (Int×Int),L=m.map pk/\∀x∈m,x∈l
 | [],_=>⟨[],rfl,λ _ z=>nomatch z⟩
 | k::L,h=>by obtain ⟨m,rfl,hm⟩:=Ie λ k' hk'=>h k' (N6 _ hk');obtain ⟨x,hx,rfl⟩:=N0.mp (h k N9);exact ⟨x::m,rfl,λ y hy=>(N1.mp hy).elim (λ z=>z▸hx) (hm y)⟩
theorem cm.cat {H H1 H2:Hp}{q:Addr}{l l2:List (Int×Int)}{ps ps2:List (List Int×Addr)}(h1:ps.map (·.1)=l.map pk) (h2:H2 q=some (.lst (ps.map λ z=>V.ref z.2))) (h3:∀p∈ps,H p.2=none/\H2 p.2=some (.tup (p.1.map V.int))) (s:aj H H1)
  (g1:ps2.map (·.1)=l2.map pk) (g3:∀p∈ps2,H1 p.2=none/\H2 p.2=some (.tup (p.1.map V.int))):cm H (upd H2 q (.lst ((ps.map λ z=>V.ref z.2)++ps2.map λ z=>V.ref z.2))) q (l++l2):=by
 refine ⟨ps++ps2,by rw [Og,Og,h1,g1],by rw [ag,Og],λ p hp=>?_⟩;have ne:∀{p:Addr} {xs:List V},H2 p=some (.tup xs)->p≠q:=λ a e=>by rw [e,h2] at a;cases a
 rcases Oc.mp hp with z | z
 ·obtain ⟨a1,a2⟩:=h3 p z;exact ⟨a1,by rw [aq (ne a2)];exact a2⟩
 ·obtain ⟨a1,a2⟩:=g3 p z;exact ⟨s.free a1,by rw [aq (ne a2)];exact a2⟩
theorem GS {to te:TE}{σ:St}{H:Hp}{D:dC}{l:Addr}{xs:List V}(ho:Ev to σ H (.ref l)) (hl:H l=some (.lst xs)) (q:te σ H λ y H2=> ∃b xs zs,y=.ref b/\H2 l=some (.lst xs)/\H2 b=some (.lst zs)/\xs.length+zs.length<=sizeLine/\D.nx σ (upd H2 l (.lst (xs++zs)))):jY (M6 to te) D σ H:=ho _ ⟨⟨xs,hl⟩,q⟩
theorem M8 {sp:Sp}{t' t:TA}{σ:St}{H:Hp}{R:List V->Hp->Prop}(h:t' σ H λ vs H1=>sp vs H1 (λ x H2=>t σ H2 λ xs H3=>R (x::xs) H3) E0):bo (fC sp t') t σ H R:=h
end L2
namespace L2
open PySem PySem.Spec PyProof.Rows
structure iK (H:Hp) (d:Addr) (ks:List Nat):Prop where
 at_:H d=some (.lst (ks.map strV))
 ltr:∀k∈ks,jV k
 l1:1<=ks.length
 l6:ks.length<=6
 nd:ks.Nodup
theorem iK.same {H H':Hp}{d:Addr}{ks:List Nat}(h:iK H d ks) (s:aj H H'):iK H' d ks:=⟨s _ _ h.at_,h.ltr,h.l1,h.l6,h.nd⟩
theorem uH {ss:List Str}{i:Int}(h0:0<=i) (h1:i<ss.length):∃s,ke (ss.map V.str) i=some (.str s)/\s∈ss:=by obtain ⟨v,e1,e2⟩:=Af (xs:=ss.map V.str) h0 (by rw [NZ];exact h1);obtain ⟨s,hs,rfl⟩:=N0.mp e2;exact ⟨s,e1,hs⟩
theorem iK.pick {H:Hp}{d:Addr}{ks:List Nat}(h:iK H d ks) (i:Int):∃k∈ks,ke (ks.map strV) (i % ((ks.map strV).length:Int))=some (strV k):=by
 have hl:(0:Int)<((ks.map strV).length:Int):=by rw [NZ];have:=h.l1;lia
 obtain ⟨v,e1,e2⟩:=Af (xs:=ks.map strV) (Qb i (by lia)) (Qc i hl);obtain ⟨k,hk,rfl⟩:=N0.mp e2;exact ⟨k,hk,e1⟩
theorem eG {te:TE}{ta:TA}{σ:St}{H:Hp}{v:V}{Q:List V->Hp->Prop}(h:Ev te σ H v) (q:ta σ H (λ xs H2=>Q (v::xs) H2)):bo te ta σ H Q:=h _ q
theorem tupY {t:TA}{σ:St}{H:Hp}{Q:VK}(q:t σ H (λ vs H2=>vs.length<=sizeLine/\∀p,H2 p=none->Q (.ref p) (upd H2 p (.tup vs)))):zx t σ H Q:=q
theorem wj {σ:St}{H:Hp}{Q:List V->Hp->Prop}(q:Q [] H):cZ σ H Q:=q
structure jt (ks:List Nat) (u:aI):Prop where
 kd:∃c∈ks,u.kd=one c
 so:u.so∈sortsL
 ai:u.ai∈aimsL
 jh:u.so="jump"->u.ai="hit"
 ax: -(if u.so="leap" then 3 else 1)<=u.ax/\u.ax<=(if u.so="leap" then 3 else 1)
 up: -(if u.so="leap" then 3 else 1)<=u.up/\u.up<=(if u.so="leap" then 3 else 1)
 n0:¬(u.ax=0/\u.up=0)
def uu:Sp:=λ vs H Q _=> ∃(c:Int) (d:Addr) (ks:List Nat),vs=[.int c,.ref d]/\iK H d ks/\∀(t:Addr) (u:aI) (H':Hp),jt ks u->H t=none->H' t=some (.tup u.vs)->aj H H'->Q (.ref t) H'
theorem wK {ta:TA}{te:TE}{src:List (Option Nat)}{σ rest:St}{H:Hp}{Q:VK}{n:Int}(hl:∀Q':List V->Hp->Prop,(∀H',aj H H'->Q' [.int n] H')->ta σ H Q') (h0:0<=n) (h1:n<=1000) (hs:dG src σ=none::rest) (R:Nat->Hp->V->Prop) (hR:∀i H H' v,R i H v->aj H H'->R i H' v)
  (he:∀(i:Nat) H',i<n.toNat->aj H H'->∀Q:VK,(∀v H2,R i H2 v->aj H' H2->Q v H2)->te (some (.int (0+(i:Int)))::rest) H' Q)
  (q:∀d H' ys,aj H H'->H' d=none->ys.length=n.toNat->(∀i y,ys[i]? =some y->R i H' y)->Q (.ref d) (upd H' d (.lst ys))):tComp (mT ta) (gName 0) iC te src σ H Q:=by
 refine hl _ λ H0 s0=>⟨n,rfl,by lia,by lia,?_⟩;refine jk n.toNat (λ i ys σ' H'=>aj H H'/\(∃v,σ'=v::rest)/\ys.length=i/\∀j y,ys[j]? =some y->R j H' y) (by rw [sizeLine_eq];lia)
  (λ i ys σ H h=>PX h.2.2.1) (λ i ys σ H _ hi=>hi) (λ ys σ H _=>PF _) ⟨s0,⟨none,hs⟩,rfl,λ j y hy=>by simp at hy⟩ ?_ ?_
 ·rintro i ys _ H1 x H2 hi ⟨s1,⟨v0,rfl⟩,hl,hy⟩ ⟨rfl,rfl⟩ Kt Kf ht hf;simp only [gName,iC,PC,if_true];exact (he i _ hi s1 _ λ v H2 rv s2=>ht _ _ _ ⟨s1.trans s2,⟨_,rfl⟩,by rw [Oa,hl];rfl,λ j y hm=>by
   by_cases hj:j<ys.length
   ·rw [ON hj] at hm;exact hR _ _ _ _ (hy j y hm) s2
   ·rw [OT (by lia)] at hm;have e0:j - ys.length=0:=by have:=(Oe.mp hm).1;simp at this;exact this
    rw [e0] at hm;have:v=y:=by simpa using hm
    subst this;have:j=i:=by lia
    subst this;exact rv⟩)
 ·rintro ys _ H1 dd ⟨s1,_,hl,hy⟩ hd;exact q dd H1 ys s1 hd hl hy
def fv (H:Hp) (zs:List ((Str×Str)×Addr)):Prop:= ∀z∈zs,H z.2=some (.tup [.str z.1.1,.str z.1.2])
theorem fv.same {H H':Hp}{zs:List ((Str×Str)×Addr)}(h:fv H zs) (s:aj H H'):fv H' zs:=λ z hz=>s _ _ (h z hz)
abbrev bp (zs:List ((Str×Str)×Addr)):List V:=zs.map λ z=>V.ref z.2
structure lZ (ks:List Nat) (zs:List ((Str×Str)×Addr)):Prop where
 len:zs.length<=6
 kd:∀z∈zs,(∃a∈ks,z.1.1=one a)/\∃b∈ks,z.1.2=one b
 nd:(zs.map λ z=>z.1.1).Nodup
 ap:∀z∈zs,∀y∈zs,¬z.1.2=y.1.1
def pN:Sp:=λ vs H Q _=> ∃(c:Int) (d:Addr) (ks:List Nat),vs=[.int c,.ref d]/\iK H d ks/\∀(q:Addr) (zs:List ((Str×Str)×Addr)) (H':Hp),lZ ks zs->fv H' zs->H q=none->H' q=some (.lst (bp zs))->aj H H'->Q (.ref q) H'
theorem uJ {a b:Nat}(h:one a=one b):a=b:=by unfold one at h;simp only [Str.mk.injEq] at h;have:=congrArg Array.toList h;simpa using this
theorem uE {H:Hp}(F:Nat->Str×Str):∀(ys:List V) (o:Nat),(∀i y,ys[i]? =some y->∃a,y=.ref a/\H a=some (.tup [.str (F (o+i)).1,.str (F (o+i)).2]))->∃zs:List ((Str×Str)×Addr),ys=bp zs/\fv H zs/\zs.length=ys.length/\∀i z,zs[i]? =some z->z.1=F (o+i)
 | [],o,_=>⟨[],rfl,λ _ z=>(nomatch z),rfl,λ i z h=>by simp at h⟩
 | y::ys,o,h=>by
   obtain ⟨a,rfl,ha⟩:=h 0 y rfl;obtain ⟨zs,rfl,h1,h2,h3⟩:=uE F ys (o+1) λ i y hy=>by obtain ⟨a,e1,e2⟩:=h (i+1) y (by simpa using hy);exact ⟨a,e1,by rw [show o+1+i=o+(i+1) by lia];exact e2⟩
   refine ⟨(F o,a)::zs,rfl,λ z hz=>?_,by simp,λ i z hz=>?_⟩
   ·rcases N1.mp hz with rfl | hz
    ·exact ha
    ·exact h1 z hz
   ·cases i with
    | zero=>
      have:(F o,a)=z:=by simpa using hz
      rw [<-this];rfl
    | succ i=>
      rw [h3 i z (by simpa using hz),show o+1+i=o+(i+1) by lia]
end L2
namespace L2
open PySem PySem.Spec PyProof.Rows
theorem mM {H H1 H':Hp}{x dx:Addr}{o1 o2:HO}(s:aj H H1) (nx:H1 x=none) (nd:H1 dx=none) (sb:SameBut x (upd (upd H1 dx o1) x o2) H'):aj H H':=λ b o e=>by have e1:=s b o e;have nbx:=ar e1 nx;have nbd:=ar e1 nd;exact sb b o (by rw [aq nbx,aq nbd];exact e1) nbx
theorem wu {H:Hp}{q:Addr}{ks:List Nat}(h:H q=some (.lst (ks.map strV))) (hl:∀k∈ks,jV k) (nd:ks.Nodup) (k1:1<=ks.length) (k6:ks.length<=6):lE H (.ref q)=true:=by
 have e:lstOf H (.ref q)=some (ks.map strV):=by simp only [lstOf,h]
 unfold lE;rw [e];dsimp only;rw [NZ,decide_eq_true ⟨k1,k6⟩,Qt,Qp];refine ⟨On.mpr λ x hx=>?_,decide_eq_true ?_⟩
 ·obtain ⟨k,hk,rfl⟩:=N0.mp hx;exact decide_eq_true (p:=97<=k/\k<=122) (hl k hk)
 ·rw [N7];exact Ou.mpr (nd.imp λ hab e=>hab (n9.mp e))
theorem cj.imp {P:Program}{w:World}{K:Frag}{mg:Str->Option Value}{base:Heap}{name:Str}{ps:List Str}{k:Nat}{sp sp':Sp}(C:cj P w K mg base name ps k sp) (h:∀vs H Q E,sp' vs H Q E->sp vs H Q E):cj P w K mg base name ps k sp':=by obtain ⟨f,fd,F,a,b,c⟩:=C.ex;exact ⟨f,fd,F.imp h,a,b,c⟩
theorem JN {P:Program}{w:World}{K:Frag}{mg:Str->Option Value}{base:Heap}(C:cj P w K mg base "is_among" ["thing","least","most"] 2 gR):cj P w K mg base "is_among" ["thing","least","most"] 2 Gw:=cj.imp C λ vs H Q E h=>by obtain ⟨t,a,b,rfl,q⟩:=h;exact ⟨.int t,a,b,rfl,trivial,q⟩
theorem Cr {ks:List Nat}{u:aI}(g:jt ks u):iD u.vs (ks.map one)=true:=by
 obtain ⟨c,hc,e⟩:=g.kd;show (wordB (.str u.kd) (ks.map one)&&decide (u.so∈sortsL)&&decide (u.ai∈aimsL)&& !(decide (u.so="jump")&& !decide (u.ai="hit"))&&jZ u.so (.int u.ax) (.int u.up))=true;have h1:wordB (.str u.kd) (ks.map one)=true:=decide_eq_true (N0.mpr ⟨c,hc,e.symm⟩);have h2:(!(decide (u.so="jump")&& !decide (u.ai="hit")))=true:=by
  by_cases z:u.so="jump"
  ·rw [g.jh z];simp
  ·simp [z]
 have h3:jZ u.so (.int u.ax) (.int u.up)=true:=by
  have a:=g.ax;have b:=g.up;have n:=g.n0;unfold jZ amongB limS;have e1:decide (-(if u.so="leap" then (3:Int) else 1)<=u.ax/\u.ax<=if u.so="leap" then 3 else 1)=true:=decide_eq_true a;have e2:decide (-(if u.so="leap" then (3:Int) else 1)<=u.up/\u.up<=if u.so="leap" then 3 else 1)=true:=decide_eq_true b;dsimp only;rw [e1,e2]
  by_cases z:u.ax=0
  ·have z2:¬u.up=0:=λ w=>n ⟨z,w⟩;simp [z,z2]
  ·simp [z]
 rw [h1,decide_eq_true g.so,decide_eq_true g.ai,h2,h3];rfl
theorem sS {H:Hp}{a:Addr}{xs:List V}(h:H a=some (.lst xs)):lstOf H (.ref a)=some xs:=by simp only [lstOf,h]
theorem kP {H:Hp}{a:Addr}{xs:List V}(h:H a=some (.tup xs)):tupOf H (.ref a)=some xs:=by simp only [tupOf,h]
theorem vS {H:Hp}{d:Addr}{us:List (aI×Addr)}{ks:List Nat}(h:H d=some (.lst (ck us))) (R:dv H us) (g:∀z∈us,jt ks z.1) (h24:us.length<=24):dX H (.ref d) (ks.map one)=true:=by unfold dX;rw [sS h];show (decide ((ck us).length<=24)&&(ck us).all λ x=>df H x (ks.map one))=true;rw [NZ,decide_eq_true h24,Qt,On];intro x hx;obtain ⟨z,hz,rfl⟩:=N0.mp hx;unfold df;rw [kP (R z hz)];exact Cr (g z hz)
theorem mH {H:Hp}{d:Addr}{zs:List ((Str×Str)×Addr)}{A B:List Str}(h:H d=some (.lst (bp zs))) (R:fv H zs) (g:∀z∈zs,z.1.1∈A/\z.1.2∈B) (h6:zs.length<=6):pairsB H (.ref d) A B=true:=by unfold pairsB;rw [sS h];show (decide ((bp zs).length<=6)&&(bp zs).all λ x=>dj H x A B)=true;rw [NZ,decide_eq_true h6,Qt,On];intro x hx;obtain ⟨z,hz,rfl⟩:=N0.mp hx;unfold dj;rw [kP (R z hz)];show (decide (z.1.1∈A)&&decide (z.1.2∈B))=true;rw [decide_eq_true (g z hz).1,decide_eq_true (g z hz).2];rfl
theorem vE {H:Hp}{d:Addr}{zs:List ((Str×Str)×Addr)}{ks:List Nat}(h:H d=some (.lst (bp zs))) (R:fv H zs) (g:lZ ks zs):eP H (.ref d) (ks.map one)=true:=by
 unfold eP;rw [mH h R (λ z hz=>?_) g.len,sS h,Qt]
 ·have e1:(bp zs).map (cb H)=zs.map λ z=>z.1.1:=by rw [N7];refine Ov λ z hz=>?_;show cb H (.ref z.2)=_;unfold cb;rw [kP (R z hz)]
  show (!((bp zs).any λ x=>decide (fL H x∈(bp zs).map (cb H)))&&decide (((bp zs).map (cb H)).Nodup))=true;rw [e1,decide_eq_true g.nd,Bool.and_true,Qs,OM];intro x hx w;obtain ⟨z,hz,rfl⟩:=N0.mp hx;have w:=of_decide_eq_true w;have e2:fL H (.ref z.2)=z.1.2:=by unfold fL;rw [kP (R z hz)]
  rw [e2] at w;obtain ⟨y,hy,e⟩:=N0.mp w;exact g.ap z hz y hy e.symm
 ·obtain ⟨⟨a,ha,e1⟩,b,hb,e2⟩:=g.kd z hz;exact ⟨N0.mpr ⟨a,ha,e1.symm⟩,N0.mpr ⟨b,hb,e2.symm⟩⟩
theorem hG (a:Nat):(one a).length<=1000:=by show 1<=1000;decide
theorem IA {s:Str}(h:s∈sortsL):s.length<=1000:=(by decide:∀s∈sortsL,s.length<=1000) s h
theorem JP {s:Str}(h:s∈aimsL):s.length<=1000:=(by decide:∀s∈aimsL,s.length<=1000) s h
theorem JC {s:Str}(h:s∈gF):s.length<=1000:=(by decide:∀s∈gF,s.length<=1000) s h
theorem IG {H:Hp}{d:Addr}{us:List (aI×Addr)}{ks:List Nat}(h:H d=some (.lst (ck us))) (R:dv H us) (g:∀z∈us,jt ks z.1):eC H 2 (.ref d):=by
 refine iV.n (iV.lst h λ x hx=>?_);obtain ⟨z,hz,rfl⟩:=N0.mp hx;refine iV.tup (R z hz) λ y hy=>?_;obtain ⟨c,_,e⟩:=(g z hz).kd;simp only [aI.vs,N1,Od,or_false] at hy
 rcases hy with rfl | rfl | rfl | rfl | rfl
 ·exact iV.flat (show z.1.kd.length<=1000 by rw [e];exact hG c) rfl
 ·exact iV.flat (IA (g z hz).so) rfl
 ·exact iV.flat (JP (g z hz).ai) rfl
 ·exact iV.flat trivial rfl
 ·exact iV.flat trivial rfl
theorem Ab {H:Hp}{d:Addr}{zs:List ((Str×Str)×Addr)}(h:H d=some (.lst (bp zs))) (R:fv H zs) (g:∀z∈zs,z.1.1.length<=1000/\z.1.2.length<=1000):eC H 2 (.ref d):=by
 refine iV.n (iV.lst h λ x hx=>?_);obtain ⟨z,hz,rfl⟩:=N0.mp hx;refine iV.tup (R z hz) λ y hy=>?_;simp only [N1,Od,or_false] at hy
 rcases hy with rfl | rfl
 ·exact iV.flat (g z hz).1 rfl
 ·exact iV.flat (g z hz).2 rfl
theorem Jk {H:Hp}{d:Addr}{ks:List Nat}(h:iK H d ks):eC H 1 (.ref d):=by refine iV.n (iV.lst h.at_ λ x hx=>?_);obtain ⟨c,_,rfl⟩:=N0.mp hx;exact iV.flat (hG c) rfl
structure gq (K:Frag) (cB cG:Addr) (H:Hp) (g b kq:Addr) (wi hi:Int) (hs:List Int) (ks:List Nat) (us:List (aI×Addr)) (ts es:List ((Str×Str)×Addr)) (st:Str):Prop where
 gm:dW cG H g b (ks.map strV) (ck us) (bp ts) (bp es) st
 bd:bM K cB H b wi hi hs
 ltr:∀k∈ks,jV k
 k1:1<=ks.length
 k6:ks.length<=6
 knd:ks.Nodup
 rl:dv H us
 r12:us.length<=12
 rg:∀z∈us,jt ks z.1
 tt:fv H ts
 tg:lZ ks ts
 et:fv H es
 e6:es.length<=6
 eg:∀z∈es,z.1.1∈gF/\∃b∈ks,z.1.2=one b
 sg:st∈gN
theorem gq.same {K:Frag}{cB cG:Addr}{H H':Hp}{g b kq:Addr}{wi hi:Int}{hs:List Int}{ks:List Nat}{us:List (aI×Addr)}{ts es:List ((Str×Str)×Addr)}{st:Str}(x:gq K cB cG H g b kq wi hi hs ks us ts es st) (s:aj H H'):gq K cB cG H' g b kq wi hi hs ks us ts es st:=
 ⟨x.gm.same s,x.bd.same s,x.ltr,x.k1,x.k6,x.knd,x.rl.same s,x.r12,x.rg,x.tt.same s,x.tg,x.et.same s,x.e6,x.eg,x.sg⟩
theorem GE {C:Addr}{sp:Sp}{t:TA}{σ:St}{H:Hp}{Q:VK}(h:t σ H λ vs H1=> ∀x dx,H1 x=none->H1 dx=none->dx≠x->sp (.ref x::vs) (upd (upd H1 dx (.own x)) x (.ins C dx [])) (λ v H2=>v=.non/\Q (.ref x) H2) E0):vq C sp t σ H Q:=h
def uv (K:Frag) (cB cG:Addr):Sp:=λ vs H Q _=> ∃(a:Addr) (ns:List Int),vs=[.ref a]/\aK K H a (ns.map V.int)/\∀(g b kq:Addr) (wi hi:Int) (hs:List Int) (ks:List Nat) (us:List (aI×Addr)) (ts es:List ((Str×Str)×Addr)) (st:Str) (H':Hp),
 gq K cB cG H' g b kq wi hi hs ks us ts es st->hs.length<=2->(hs.length:Int)<wi*hi->aj H H'->Q (.ref g) H'
structure LGg (P:Program) (w:World) (K:Frag) (mg:Str->Option Value) (base:Heap) (cB cG:Addr):Prop extends LG1 P w K mg base where
 _law_board:cj P w K mg base "_law_board" ["_law_script"] 2 (pP K)
 _law_kinds:cj P w K mg base "_law_kinds" ["_law_cell"] 1 pO
 _law_rule:cj P w K mg base "_law_rule" ["_law_cell","_law_kinds_here"] 1 uu
 _law_turns:cj P w K mg base "_law_turns" ["_law_cell","_law_kinds_here"] 1 pN
 Board:m9 P w K mg base "Board" cB ["self","wide","high","holes"] 4 (nz K cB)
 Game:m9 P w K mg base "Game" cG ["self","board","kinds","rules","turns","ends","stuck"] 6 (uw K cG)
theorem dv.add {H H':Hp}{us:List (aI×Addr)}{u:aI}{t:Addr}(h:dv H us) (s:aj H H') (ht:H' t=some (.tup u.vs)):dv H' (us++[(u,t)]):=λ z hz=>by
 rcases Oc.mp hz with w | w
 ·exact s _ _ (h z w)
 ·rw [N5.mp w];exact ht
theorem fv.add {H H':Hp}{zs:List ((Str×Str)×Addr)}{x y:Str}{t:Addr}(h:fv H zs) (s:aj H H') (ht:H' t=some (.tup [.str x,.str y])):fv H' (zs++[((x,y),t)]):=λ z hz=>by
 rcases Oc.mp hz with w | w
 ·exact s _ _ (h z w)
 ·rw [N5.mp w];exact ht
theorem dv.put {H:Hp}{us:List (aI×Addr)}{q:Addr}{xs ys:List V}(h:dv H us) (hq:H q=some (.lst xs)):dv (upd H q (.lst ys)) us:=λ z hz=>by rw [aq (λ w=>by have:=h z hz;rw [w,hq] at this;cases this)];exact h z hz
theorem fv.put {H:Hp}{zs:List ((Str×Str)×Addr)}{q:Addr}{xs ys:List V}(h:fv H zs) (hq:H q=some (.lst xs)):fv (upd H q (.lst ys)) zs:=λ z hz=>by rw [aq (λ w=>by have:=h z hz;rw [w,hq] at this;cases this)];exact h z hz
theorem L9 {C:Addr}{sp:Sp}{t:TA}{σ:St}{H:Hp}{D:dC}(h:vq C sp t σ H D.rt):ce (vq C sp t) D σ H:=h
end L2
namespace L2
open PySem PySem.Spec PyProof.Rows
end L2
namespace L2
open PySem PySem.Spec PyProof.Rows
structure Bw (row:Str) (hs:List Int):Prop extends RowS row where
 sg:∀c∈row.cps.toList,Sg c
 nh:∀s:Int,0<=s->s<row.length->¬s∈hs->¬row.cps.toList.getD s.toNat 0=35
end L2
namespace L2
open PySem PySem.W PySem.Calls PySem.Spec PyProof.Rows
section
variable {prog:Program}{w:World}{A:Around}{E:Value->Shared->Prop}{s:Shared}
end
section
variable {X:Cx}
end
section
variable {X:Cx}{a b:Expr}{ta tb:TE}{pos:Pos}
end
end L2
namespace L2
open PySem PySem.Spec PyProof.Rows
theorem ly {α:Type} [DecidableEq α]:∀{m C:List α},m.Nodup->(∀x∈m,x∈C)->m.length<=C.length
 | [],_,_,_=>PJ _
 | x::m,C,nd,h=>by obtain ⟨n1,n2⟩:=OA.mp nd;have hx:=h x N9;have z:=ly (C:=C.erase x) n2 (λ y hy=>(Pg (a:=y) (b:=x) (λ e=>n1 (by rw [<-e];exact hy))).mpr (h y (N6 _ hy)));rw [Pf hx] at z;have:0<C.length:=O0 hx;rw [Oh];lia
def prG (row:Str) (g:Int):Int×Int:=(g,if sdV row g=.non then -1 else g)
theorem nA (row:Str) (sd:Int) (ai:Str):∀path:List Int,(eE row sd ai path).Sublist (path.map (prG row))
 | []=>List.Sublist.refl _
 | g::r=>by
   rw [kX,Oj];have ih:=nA row sd ai r
   by_cases h:sdV row g=.non
   ·rw [if_pos h]
    by_cases a:ai="hit"
    ·rw [if_pos a];exact ih.cons _
    ·rw [if_neg a];have:prG row g=(g, -1):=by unfold prG;rw [if_pos h]
     rw [this];exact ih.cons₂ _
   ·rw [if_neg h];have:prG row g=(g,g):=by unfold prG;rw [if_neg h]
    rw [this];split
    ·exact (List.nil_sublist _).cons₂ _
    ·exact List.nil_sublist _
theorem A7 {u:aI}{sd:Int}(n0:¬(u.ax=0/\u.up=0)):¬(u.ax=0/\u.dy sd=0):=λ z=>n0 ⟨z.1,by have:=z.2;unfold aI.dy at this;split at this<;>lia⟩
def GV:List (Int×Int):=[(-1, -1),(-1,0),(-1,1),(0, -1),(0,1),(1, -1),(1,0),(1,1)]
theorem CM {x y:Int}(x1: -1<=x) (x2:x<=1) (y1: -1<=y) (y2:y<=1) (n0:¬(x=0/\y=0)):(x,y)∈GV:=by
 have hx:x= -1\/x=0\/x=1:=by lia
 have hy:y= -1\/y=0\/y=1:=by lia
 rcases hx with rfl | rfl | rfl<;>rcases hy with rfl | rfl | rfl<;>first | decide | exact absurd ⟨rfl,rfl⟩ n0
theorem GW {wi hi:Int}{hs:List Int}{row:Str}{sq sd:Int}{ks:List Nat}(w8:wi<=8) (h8:hi<=8) (w1:1<=wi) (s0:0<=sq) (s1:sq<wi*hi):
  ∀{us:List (aI×Addr)} {l:List (Int×Int)},aM wi hi hs row sq sd us l->(∀z∈us,jt ks z.1)->∃(D C:List (Int×Int)) (a:Nat),D.Nodup/\(∀e∈D,e∈GV)/\D.length+a<=us.length/\C.length<=7*D.length+a/\(∀e∈D,∃n,jr wi hi hs sq e.1 e.2 n/\∀g∈dP wi sq e.1 e.2 n,prG row g∈C)/\∀x∈l,x∈C
 | _,_,.nil,_=>⟨[],[],0,Pm,λ _ z=>(nomatch z),PF _,PF _,λ _ z=>(nomatch z),λ _ z=>(nomatch z)⟩
 | _,_,@aM.cons _ _ _ _ _ _ z us l r hl hr,hg=>by
   obtain ⟨D,C,a,c1,c2,c3,c4,c5,c6⟩:=GW w8 h8 w1 s0 s1 hr λ y hy=>hg y (N6 _ hy);have g:=hg z N9;obtain ⟨n,ry,n8,rfl⟩:=hl
   by_cases hs':z.1.so="slide"
   ·have e:tY row sd z.1.so z.1.ai (dP wi sq z.1.ax (z.1.dy sd) n)=eE row sd z.1.ai (dP wi sq z.1.ax (z.1.dy sd) n):=by unfold tY;rw [hs',if_neg (by decide),if_neg (by decide)]
    rw [e];have sub:=λ x hx=>(nA row sd z.1.ai (dP wi sq z.1.ax (z.1.dy sd) n)).subset (a:=x) hx
    by_cases hD:(z.1.ax,z.1.dy sd)∈D
    ·refine ⟨D,C,a,c1,c2,by rw [Oh];lia,c4,c5,λ x hx=>?_⟩
     rcases Oc.mp hx with hx | hx
     ·obtain ⟨m,rm,hm⟩:=c5 _ hD;have:=rm.uniq ry λ _=>Iff.rfl;subst this;obtain ⟨gg,g1,rfl⟩:=N0.mp (sub x hx);exact hm gg g1
     ·exact c6 x hx
    ·have n7:n<=7:=by
      rcases P9 n with h | h
      ·lia
      ·have:=An w8 h8 w1 s0 s1 (A7 g.n0) (ry.1 (n - 1) (by lia));lia
     have ax:=g.ax;have up:=g.up;rw [hs',if_neg (by decide)] at ax up;have dyb: -1<=z.1.dy sd/\z.1.dy sd<=1:=by unfold aI.dy;split<;>lia
     refine ⟨(z.1.ax,z.1.dy sd)::D,(dP wi sq z.1.ax (z.1.dy sd) n).map (prG row)++C,a,OA.mpr ⟨hD,c1⟩,λ e he=>?_,by rw [Oh,Oh];lia,by rw [Oa,NZ,jb,Oh];lia,λ e he=>?_,λ x hx=>?_⟩
     ·rcases N1.mp he with rfl | he
      ·exact CM ax.1 ax.2 dyb.1 dyb.2 (A7 g.n0)
      ·exact c2 e he
     ·rcases N1.mp he with rfl | he
      ·exact ⟨n,ry,λ gg hgg=>Ox _ (N0.mpr ⟨gg,hgg,rfl⟩)⟩
      ·obtain ⟨m,rm,hm⟩:=c5 e he;exact ⟨m,rm,λ gg hgg=>Oi _ (hm gg hgg)⟩
     ·rcases Oc.mp hx with hx | hx
      ·exact Ox _ (sub x hx)
      ·exact Oi _ (c6 x hx)
   ·have l1:(tY row sd z.1.so z.1.ai (dP wi sq z.1.ax (z.1.dy sd) n)).length<=1:=by
     have so:=g.so;simp only [sortsL,N1,Od,or_false] at so;unfold tY
     rcases so with e | e | e
     ·rw [e,if_neg (by decide),if_pos rfl];refine PK (jz ..) ?_;rw [Ol];lia
     ·exact absurd e hs'
     ·rw [e,if_pos rfl];exact mQ ..
    refine ⟨D,tY row sd z.1.so z.1.ai (dP wi sq z.1.ax (z.1.dy sd) n)++C,a+1,c1,c2,by rw [Oh];lia,by rw [Oa];lia,λ e he=>?_,λ x hx=>?_⟩
    ·obtain ⟨m,rm,hm⟩:=c5 e he;exact ⟨m,rm,λ gg hgg=>Oi _ (hm gg hgg)⟩
    ·rcases Oc.mp hx with hx | hx
     ·exact Ox _ hx
     ·exact Oi _ (c6 x hx)
theorem MO {wi hi:Int}{hs:List Int}{row:Str}{sq sd:Int}{ks:List Nat}(w8:wi<=8) (h8:hi<=8) (w1:1<=wi) (s0:0<=sq) (s1:sq<wi*hi) {us:List (aI×Addr)}(h12:us.length<=12) (hg:∀z∈us,jt ks z.1) {l:List (Int×Int)}(h:aM wi hi hs row sq sd us l) (m:List (Int×Int)) (nd:m.Nodup) (hm:∀x∈m,x∈l):m.length<64:=by obtain ⟨D,C,a,c1,c2,c3,c4,_,c6⟩:=GW w8 h8 w1 s0 s1 h hg;have d8:D.length<=8:=ly c1 c2;have:=ly nd λ x hx=>c6 x (hm x hx);lia
def zI (K:Frag) (cB cG:Addr):Sp:=λ vs H Q _=> ∃(g b:Addr) (row kd:Str) (sq sd wi hi:Int) (hs:List Int) (ks ts es:List V) (st:Str) (us:List (aI×Addr)),vs=[.ref g,.str row,.int sq]/\dW cG H g b ks (ck us) ts es st/\bM K cB H b wi hi hs/\dv H us/\us.length<=12/\(∀z∈us,¬(z.1.ax=0/\z.1.up=0))/\
 Bw row hs/\(row.length:Int)=wi*hi/\0<=sq/\sq<wi*hi/\sdV row sq=.int sd/\(sd=0\/sd=1)/\j8 (row.cps.toList.getD sq.toNat 0)=.str kd/\(∀l,aM wi hi hs row sq sd (ofKind us kd) l->∀m:List (Int×Int),m.Nodup->(∀x∈m,x∈l)->m.length<64)/\
 ∀(l l':List (Int×Int)) (q:Addr) (H':Hp),aM wi hi hs row sq sd (ofKind us kd) l->qZ l l'->H q=none->cm H H' q l'->aj H H'->Q (.ref q) H'
end L2
namespace L2
open PySem PySem.Spec PyProof.Rows
theorem oW {K:Frag}{sp:Sp}{t:TA}{vs:List V}{g:TG}{tt:TT}{te:TE}{src:List (Option Nat)}{σ:St}{H:Hp}{Q:VK}(h:Av t σ H vs) (q:sp vs H (λ x H2=> ∃a,x=.ref a/\(∃xs,aK K H2 a xs)/\dn g tt te src σ Q (Ha K a) H2) E0):tComp (qJ K (fC sp t)) g tt te src σ H Q:=h _ q
end L2
namespace L2
open PySem PySem.Spec PyProof.Rows
abbrev iG (ps:List (List Int×Addr)):List V:=ps.map λ z=>V.ref z.2
section
variable {K:Frag}{σ:St}{H:Hp}{ta tb te:TE}
theorem Jy {T:BT}{a:Addr}{xs:List V}(h:Ev te σ H (.ref a)) (ha:H a=some (.lst xs)):Ev (M5 T te) σ H (.bl (dS .list T)):=λ Q q=>h _ (uX ha q)
theorem Jw {a b:Addr}{k:Bool}(h1:Ev ta σ H (.ref a)) (h2:Ev tb σ H (.ref b)) (h:rj K H 20 (.ref a) (.ref b) k):Ev (eB K .NotEq ta tb) σ H (.bl (!k)):=λ Q q=>h1 _ (h2 _ ⟨k,h,q⟩)
theorem tO {op:CmpOp}{R:Bool->Hp->Prop}(h:ta σ H λ x H1=>tb σ H1 λ y H2=>eA K op x y H2 (dt R)):jm (eB K op ta tb) σ H R:=h
end
theorem CF {K:Frag}{H:Hp}{n:Nat}{a b:Addr}(ha:H a=some (.lst [])) (hb:H b=some (.lst [])):rj K H (n+1) (.ref a) (.ref b) true:=by have z:=rj.lst (n:=n) (es:=λ _=>true) (aK.of (K:=K) ha) (aK.of hb) rfl (λ i x y hx=>by simp at hx);exact z
end L2
namespace L2
open PySem PySem.Spec PyProof.Rows
theorem mE {c:Nat}{v:Int}(h:cr c=.int v):j8 c=.str (one (lo1 c))/\(v=0\/v=1):=by
 unfold cr at h;unfold j8;split at h
 ·cases h
 ·rename_i z;rw [if_neg z];injection h with h;refine ⟨rfl,?_⟩;rw [<-h];split
  ·exact .inl rfl
  ·exact .inr rfl
theorem Bk {sp:Sp}{t:TA}{σ:St}{H:Hp}{R:Bool->Hp->Prop}{vs:List V}(h:Av t σ H vs) (q:sp vs H (dt λ c H1=>R (!c) H1) E0):zy (jm (fC sp t)) σ H R:=h _ q
end L2
namespace L2
open PySem PySem.Spec PyProof.Rows
structure gJ (wi hi:Int) (hs:List Int) (ks:List Nat) (z:Str):Prop where
 len:z.length=(wi*hi).toNat
 at_:∀(s c:Nat),z.cps.toList[s]? =some c->fu ks c (if (s:Int)∈hs then 35 else 46)=true
theorem fo {ks:List Nat}{c:Nat}{hs:List Int}{s:Int}(h:fu ks c (if s∈hs then 35 else 46)=true):(s∈hs/\c=35)\/(¬s∈hs/\(c=46\/c∈ks\/c∈ks.map (· - 32))):=by
 unfold fu at h
 by_cases m:s∈hs
 ·rw [if_pos m,if_pos rfl] at h;exact .inl ⟨m,of_decide_eq_true h⟩
 ·rw [if_neg m,if_neg (by decide)] at h;exact .inr ⟨m,of_decide_eq_true h⟩
theorem vn {ks:List Nat}{c:Nat}(hl:∀k∈ks,jV k) (h:c=46\/c∈ks\/c∈ks.map (· - 32)):Sg c/\c≠35:=by
 unfold Sg
 rcases h with h | h | h
 ·lia
 ·have:=hl c h;unfold jV at this;lia
 ·obtain ⟨k,hk,rfl⟩:=N0.mp h;have:=hl k hk;unfold jV at this;lia
theorem gJ.g {wi hi:Int}{hs:List Int}{ks:List Nat}{z:Str}(R:gJ wi hi hs ks z) (hl:∀k∈ks,jV k) (m:wi*hi<=64):Bw z hs:=by
 have sg:∀c∈z.cps.toList,Sg c:=λ c hc=>by
  obtain ⟨s,hs'⟩:=OS hc
  rcases fo (R.at_ s c hs') with ⟨_,h⟩ | ⟨_,h⟩
  ·exact .inr (.inl h)
  ·exact (vn hl h).1
 refine ⟨⟨by rw [R.len];lia,λ c hc=>(sg c hc).lt⟩,sg,λ s s0 s1 hn=>?_⟩;have hlt:s.toNat<z.cps.toList.length:=by have:z.length=z.cps.toList.length:=rfl;lia
 have e:z.cps.toList[s.toNat]? =some (z.cps.toList.getD s.toNat 0):=by rw [N8,N2 hlt];rfl
 have:=R.at_ _ _ e;rw [show ((s.toNat:Nat):Int)=s by lia] at this
 rcases fo this with ⟨h,_⟩ | ⟨_,h⟩
 ·exact absurd h hn
 ·exact (vn hl h).2
theorem gJ.put {wi hi:Int}{hs:List Int}{ks:List Nat}{z:Str}{s:Int}{c:Nat}(R:gJ wi hi hs ks z) (s0:0<=s) (s1:s<z.length) (hn:¬s∈hs) (hc:c=46\/c∈ks\/c∈ks.map (· - 32)):gJ wi hi hs ks (dY z s (one c)):=by
 refine ⟨by rw [fY s0 s1];exact R.len,λ j d hd=>?_⟩;rw [jF s0 s1] at hd;have ll:z.length=z.cps.toList.length:=rfl;have lt:(z.cps.toList.take s.toNat).length=s.toNat:=by rw [Ol];lia
 by_cases h1:j<s.toNat
 ·rw [OE,ON (by lia),O8 h1] at hd;exact R.at_ j d hd
 ·by_cases h2:j=s.toNat
  ·subst h2;rw [OE,OT (by lia),lt,Nat.sub_self] at hd;have:c=d:=by simpa using hd
   subst this;rw [show ((s.toNat:Nat):Int)=s by lia,if_neg hn];unfold fu;rw [if_neg (by decide)];exact decide_eq_true hc
  ·rw [OT (by rw [Oa,lt];show s.toNat+1<=j;lia),Oa,lt,List.getElem?_drop] at hd;have e:s.toNat+1+(j - (s.toNat+[c].length))=j:=by show s.toNat+1+(j - (s.toNat+1))=j;lia
   rw [e] at hd;exact R.at_ j d hd
theorem eZ {te:TE}{D:dC}{σ:St}{H:Hp}(h:te σ H D.rt):ce te D σ H:=h
end L2
namespace L2
open PySem PySem.Spec PyProof.Rows
theorem kM {K:Frag}{te:TE}{src:List (Option Nat)}{σ rest:St}{H:Hp}{Q:VK}{d:Addr}{xs:List V}(hx:H d=some (.lst xs)) (hz:xs.length<=sizeLine) (hs:dG src σ=none::rest) (R:Nat->Hp->V->Prop) (hR:∀i H H' v,R i H v->aj H H'->R i H' v)
  (he:∀(i:Nat) x H',xs[i]? =some x->aj H H'->∀Q:VK,(∀v H2,R i H2 v->aj H' H2->Q v H2)->te (some x::rest) H' Q)
  (q:∀d' H' ys,aj H H'->H' d'=none->ys.length=xs.length->(∀i y,ys[i]? =some y->R i H' y)->Q (.ref d') (upd H' d' (.lst ys))):dn (gName 0) iC te src σ Q (Ha K d) H:=by
 refine jk xs.length (λ i ys σ' H'=>aj H H'/\(∃v,σ'=v::rest)/\ys.length=i/\∀j y,ys[j]? =some y->R j H' y) hz (λ i ys σ H h=>PX h.2.2.1)
  (λ i ys σ H' h hi=>⟨xs,xs[i],aK.of (h.1 _ _ hx),N2 hi⟩) (λ ys σ H' h=>⟨xs,aK.of (h.1 _ _ hx),PF _⟩) ⟨aj.refl H,⟨none,hs⟩,rfl,λ j y e=>by simp at e⟩ ?_ ?_
 ·rintro i ys _ H1 x H2 hi ⟨s1,⟨v0,rfl⟩,hl,hy⟩ ⟨rfl,hyy⟩ Kt Kf ht hf;have ex:=hyy xs (aK.of (s1 _ _ hx));simp only [gName,iC,PC,if_true];refine he i x _ ex s1 _ λ v H2 rv s2=>ht _ _ _ ⟨s1.trans s2,⟨_,rfl⟩,by simp [hl],λ j y e=>?_⟩
  by_cases q:j<ys.length
  ·rw [ON q] at e;exact hR _ _ _ _ (hy j y e) s2
  ·by_cases q2:j=ys.length
   ·subst q2;simp at e;subst e;rw [hl];exact rv
   ·rw [Ot (by simp;lia)] at e;cases e
 ·rintro ys _ H1 dd ⟨s1,_,hl,hy⟩ hd;exact q dd H1 ys s1 hd hl hy
theorem uU {α:Type}{H0 H:Hp}(f:α->List Int):∀(l:List α) (ys:List V),ys.length=l.length->(∀(i:Nat) (y:V),ys[i]? =some y->∃x t,l[i]? =some x/\y=.ref t/\H0 t=none/\H t=some (.tup ((f x).map V.int)))->∃ps:List (List Int×Addr),ys=iG ps/\ps.map (·.1)=l.map f/\∀p∈ps,H0 p.2=none/\H p.2=some (.tup (p.1.map V.int))
 | [],[],_,_=>⟨[],rfl,rfl,λ _ z=>nomatch z⟩
 | x::l,y::ys,hl,h=>by
   obtain ⟨x',t,e1,rfl,e3,e4⟩:=h 0 y rfl;have e1:x=x':=by simpa using e1
   subst e1;obtain ⟨ps,rfl,p2,p3⟩:=uU f l ys (by simpa using hl) λ i y hy=>h (i+1) y (by simpa using hy);refine ⟨(f x,t)::ps,rfl,by rw [Oj,Oj,p2],λ p hp=>?_⟩
   rcases N1.mp hp with rfl | hp
   ·exact ⟨e3,e4⟩
   ·exact p3 p hp
 | [],_::_,hl,_=>by simp at hl
 | _::_,[],hl,_=>by simp at hl
def J1 (wi hi:Int) (hs:List Int) (row:Str) (us:List (aI×Addr)) (sd sq:Int) (l':List (Int×Int)):Prop:= ∃l,aM wi hi hs row sq sd (ofKind us (one (lo1 (row.cps.toList.getD sq.toNat 0)))) l/\qZ l l'
theorem J1.uniq {wi hi:Int}{hs:List Int}{row:Str}{us:List (aI×Addr)}{sd sq:Int}{l l':List (Int×Int)}(h:J1 wi hi hs row us sd sq l) (h':J1 wi hi hs row us sd sq l'):l=l':=by obtain ⟨m,a,b⟩:=h;obtain ⟨m',a',b'⟩:=h';have e:=a.uniq a';subst e;exact b.uniq b'
def tk3 (s:Int) (x:Int×Int):List Int:=[s,x.1,x.2]
inductive kL (wi hi:Int) (hs:List Int) (row:Str) (us:List (aI×Addr)) (sd:Int):List Int->List (List Int)->Prop
 | nil:kL wi hi hs row us sd [] []
 | cons {s ss l m}:J1 wi hi hs row us sd s l->kL wi hi hs row us sd ss m->kL wi hi hs row us sd (s::ss) (l.map (tk3 s)++m)
theorem kL.uniq {wi hi:Int}{hs:List Int}{row:Str}{us:List (aI×Addr)}{sd:Int}:∀{ss:List Int}{m m':List (List Int)},kL wi hi hs row us sd ss m->kL wi hi hs row us sd ss m'->m=m'
 | _,_,_,.nil,.nil=>rfl
 | _,_,_,.cons a b,.cons c d=>by rw [a.uniq c,kL.uniq b d]
theorem kL.add {wi hi:Int}{hs:List Int}{row:Str}{us:List (aI×Addr)}{sd s:Int}{l:List (Int×Int)}(h:J1 wi hi hs row us sd s l):∀{ss:List Int}{m:List (List Int)},kL wi hi hs row us sd ss m->kL wi hi hs row us sd (ss++[s]) (m++l.map (tk3 s))
 | _,_,.nil=>by
   have:=kL.cons h kL.nil
   rwa [Os] at this
 | _,_,.cons a b=>by rw [OE];exact .cons a (kL.add h b)
def vw (H H':Hp) (q:Addr) (m:List (List Int)):Prop:= ∃ps:List (List Int×Addr),ps.map (·.1)=m/\H' q=some (.lst (iG ps))/\∀p∈ps,H p.2=none/\H' p.2=some (.tup (p.1.map V.int))
theorem BM {H H1 H2:Hp}{q:Addr}{m m2:List (List Int)}{ps ps2:List (List Int×Addr)}(h1:ps.map (·.1)=m) (hq:∀xs,¬H2 q=some (.tup xs)) (h3:∀p∈ps,H p.2=none/\H2 p.2=some (.tup (p.1.map V.int))) (s:aj H H1)
  (g1:ps2.map (·.1)=m2) (g3:∀p∈ps2,H1 p.2=none/\H2 p.2=some (.tup (p.1.map V.int))):vw H (upd H2 q (.lst (iG ps++iG ps2))) q (m++m2):=by
 refine ⟨ps++ps2,by rw [Og,h1,g1],by rw [ag,show iG (ps++ps2)=iG ps++iG ps2 from Og ..],λ p hp=>?_⟩;have ne:∀{p:Addr} {xs:List V},H2 p=some (.tup xs)->p≠q:=λ a e=>hq _ (e▸a)
 rcases Oc.mp hp with z | z
 ·obtain ⟨a1,a2⟩:=h3 p z;exact ⟨a1,by rw [aq (ne a2)];exact a2⟩
 ·obtain ⟨a1,a2⟩:=g3 p z;exact ⟨s.free a1,by rw [aq (ne a2)];exact a2⟩
theorem im {row:Str}{sd s:Int}(h:s∈sqsOf row sd):0<=s/\s<row.length/\sdV row s=.int sd:=by obtain ⟨n,hn,rfl⟩:=N0.mp h;obtain ⟨a,b⟩:=Oq.mp hn;have:=Ob.mp a;exact ⟨by lia,by lia,of_decide_eq_true b⟩
theorem mx {row:Str}{sd:Int}:(sqsOf row sd).length<=row.length:=by unfold sqsOf;rw [NZ];refine PK (OK _ _) ?_;rw [Ow];exact PF _
theorem Iy {l l':List (Int×Int)}(h:qZ l l'):l'.Nodup:=by rw [OD];refine h.2.imp λ h e=>?_;rw [e,je] at h;cases h
theorem Cs {K:Frag}{cB cG:Addr}{H:Hp}{g b kq:Addr}{wi hi:Int}{hs:List Int}{ks:List Nat}{us:List (aI×Addr)}{ts es:List ((Str×Str)×Addr)}{st row:Str}{sq sd:Int}{Q:VK}(G:gq K cB cG H g b kq wi hi hs ks us ts es st) (R:Bw row hs) (rl:(row.length:Int)=wi*hi) (s0:0<=sq) (s1:sq<row.length) (hsd:sdV row sq=.int sd)
  (q:∀(l':List (Int×Int)) (q:Addr) (H':Hp),J1 wi hi hs row us sd sq l'->l'.length<64->H q=none->cm H H' q l'->aj H H'->Q (.ref q) H'):ny K cB cG [.ref g,.str row,.int sq] H Q E0/\zI K cB cG [.ref g,.str row,.int sq] H Q E0:=by
 have B:=G.bd;obtain ⟨ekd,sd2⟩:=mE (c:=row.cps.toList.getD sq.toNat 0) hsd;have few:∀l,aM wi hi hs row sq sd (ofKind us (one (lo1 (row.cps.toList.getD sq.toNat 0)))) l->∀m:List (Int×Int),m.Nodup->(∀x∈m,x∈l)->m.length<64:=λ l hl m nd hm=>
  MO B.w8 B.h8 B.w1 s0 (by lia) (PK (OK _ _) G.r12) (λ z hz=>G.rg z (Oq.mp hz).1) hl m nd hm
 have rg0:∀z∈us,¬(z.1.ax=0/\z.1.up=0):=λ z hz=>(G.rg z hz).n0;have k:∀(l l':List (Int×Int)) (q:Addr) (H':Hp),aM wi hi hs row sq sd (ofKind us (one (lo1 (row.cps.toList.getD sq.toNat 0)))) l->qZ l l'->H q=none->cm H H' q l'->aj H H'->Q (.ref q) H':=λ l l' t H' h1 h2 h3 h4 h5=>
  q l' t H' ⟨l,h1,h2⟩ (few l h1 l' (Iy h2) λ x hx=>(h2.1 x).mp hx) h3 h4 h5
 exact ⟨⟨g,b,row,_,sq,sd,wi,hi,hs,ks.map strV,bp ts,bp es,st,us,rfl,G.gm,G.bd,G.rl,G.r12,rg0,R.toRowS,rl,s0,by lia,hsd,sd2,ekd,few,k⟩,
  ⟨g,b,row,_,sq,sd,wi,hi,hs,ks.map strV,bp ts,bp es,st,us,rfl,G.gm,G.bd,G.rl,G.r12,rg0,R,rl,s0,by lia,hsd,sd2,ekd,few,k⟩⟩
def kE (K:Frag) (cB cG:Addr):Sp:=λ vs H Q _=> ∃(g b kq p:Addr) (row:Str) (sd wi hi:Int) (hs:List Int) (ks:List Nat) (us:List (aI×Addr)) (ts es:List ((Str×Str)×Addr)) (st:Str),vs=[.ref g,.ref p]/\gq K cB cG H g b kq wi hi hs ks us ts es st/\cJ K H p [.str row,.int sd]/\Bw row hs/\(row.length:Int)=wi*hi/\
 ∀(m:List (List Int)) (q:Addr) (H':Hp),kL wi hi hs row us sd (sqsOf row sd) m->m.length<=4096->H q=none->vw H H' q m->aj H H'->Q (.ref q) H'
structure CMv (P:Program) (w:World) (K:Frag) (mg:Str->Option Value) (base:Heap) (cB cG:Addr):Prop where
 squares_of:cj P w K mg base "squares_of" ["row","side"] 2 mz
 goals:cj P w K mg base "goals" ["game","row","square"] 5 (ny K cB cG)
theorem BJ {K:Frag}{src:List (Option Nat)}{σ:St}{H0 H:Hp}{Q:VK}{d:Addr}{l':List (Int×Int)}{ps:List (List Int×Addr)}{sq:Int}{te:TE}(s0:aj H0 H) (p1:ps.map (·.1)=l'.map pk) (hx:H d=some (.lst (iG ps))) (p3:∀p∈ps,H p.2=some (.tup (p.1.map V.int))) (l64:l'.length<64) (hs:dG src σ=[none,some (.int sq)])
  (ht:∀(a:Addr) (x y:Int) (H':Hp) (Q:VK),H' a=some (.tup [.int x,.int y])->(∀t,H' t=none->Q (.ref t) (upd H' t (.tup [.int sq,.int x,.int y])))->te [oR a,oJ sq] H' Q)
  (q:∀d' H' ps2,aj H H'->H' d'=none->ps2.map (·.1)=l'.map (tk3 sq)->(∀p∈ps2,H0 p.2=none/\H' p.2=some (.tup (p.1.map V.int)))->Q (.ref d') (upd H' d' (.lst (iG ps2)))):dn (gName 0) iC te src σ Q (Ha K d) H:=by
 have z:=congrArg List.length p1;rw [NZ,NZ] at z;refine kM (rest:=[oJ sq]) hx (by rw [NZ,sizeLine_eq];lia) hs (λ j H' v=> ∃x t,l'[j]? =some x/\v=.ref t/\H0 t=none/\H' t=some (.tup ((tk3 sq x).map V.int))) (λ i H H' v h s=>?_) (λ i x H' hx' s' Q' q'=>?_) (λ d' H' ys s' hd hl hy=>?_)
 ·obtain ⟨x,t,a,b,c,e⟩:=h;exact ⟨x,t,a,b,c,s _ _ e⟩
 ·have hi:i<ps.length:=by
   have:=(Oe.mp hx').1
   rwa [NZ] at this
  have hi2:i<l'.length:=by lia
  rw [N3,N2 hi] at hx';obtain rfl:V.ref ps[i].2=x:=Option.some.inj hx';have e:ps[i].1=pk l'[i]:=by
   have a:(ps.map (·.1))[i]? =some ps[i].1:=by rw [N3,N2 hi];rfl
   rw [p1,N3,N2 hi2] at a;exact (Option.some.inj a).symm
  have h4:=s' _ _ (p3 _ (Of hi));rw [e] at h4;refine ht _ l'[i].1 l'[i].2 H' Q' h4 λ t ht=>q' _ _ ⟨l'[i],t,N2 hi2,rfl,(s0.trans s').free ht,ag⟩ ((aj.refl H').upd ht)
 ·obtain ⟨ps2,rfl,e1,e2⟩:=uU (tk3 sq) l' ys (by rw [hl,NZ];exact z) hy;exact q d' H' ps2 s' hd e1 e2
end L2
namespace L2
open PySem PySem.Spec PyProof.Rows
theorem Bt {ta tb:TE}{σ:St}{H:Hp}{Q:VK}(h:ta σ H (dt λ c H1=>if c=true then tb σ H1 Q else Q (.bl false) H1)):vt ta tb σ H Q:=h
theorem Bf {K:Frag}{op:CmpOp}{ta tb:TE}{σ:St}{H:Hp}{Q:VK}(h:ta σ H λ x H1=>tb σ H1 λ y H2=>eA K op x y H2 Q):eB K op ta tb σ H Q:=h
theorem tX {sp:Sp}{t:TA}{σ:St}{H:Hp}{Q:VK}(h:t σ H λ vs H1=>sp vs H1 Q E0):fC sp t σ H Q:=h
theorem Mw {b:Bool}{A B:Prop}(h:b=true) (a:A):if b=true then A else B:=by rw [if_pos h];exact a
theorem Mx {b:Bool}{A B:Prop}(h:b=false) (a:B):if b=true then A else B:=by rw [if_neg (by rw [h];decide)];exact a
theorem Bs {tb:TE}{σ:St}{H:Hp}{Q:VK}(h:tb σ H Q):dt (λ c H1=>if c=true then tb σ H1 Q else Q (.bl false) H1) (.bl true) H:=by show (if true=true then tb σ H Q else Q (.bl false) H);rw [if_pos rfl];exact h
end L2
namespace L2
open PySem PySem.Spec PyProof.Rows
def zO (c:Nat) (sd:Int):Nat:=if sd=0 then c - 32 else c
def ji (z:Str) (c:Nat) (sd:Int):Bool:=decide (zO c sd∈z.cps.toList)
def farI (hi sd:Int):Int:=if sd=0 then hi - 1 else 0
def tw (row:Str) (wi hi sd:Int):Str:=iS row (some (farI hi sd*wi)) (some (farI hi sd*wi+wi))
def uO (row:Str) (wi hi sd:Int) (en:Str) (c:Nat):Bool:=if en="without" then !ji row c sd else ji (tw row wi hi (1 - sd)) c (1 - sd)
def BI (row:Str) (wi hi sd:Int) (en:Str) (c:Nat):Bool:=if en="without" then !ji row c (1 - sd) else ji (tw row wi hi sd) c sd
def CH (row:Str) (wi hi sd:Int) (en:Str) (c:Nat):V:=if uO row wi hi sd en c=true then .str "lost" else if BI row wi hi sd en c=true then .str "won" else .non
def lO (row:Str) (wi hi sd:Int) (z:(Str×Str)×Addr):V:=CH row wi hi sd z.1.1 (z.1.2.cps.toList.getD 0 0)
def pB (row:Str) (wi hi sd:Int) (es:List ((Str×Str)×Addr)):List V:=es.map (lO row wi hi sd)
def bU:List V->V
 | []=>.non
 | w::ws=>if w=.non then bU ws else w
theorem h9:∀{a b:List V},(∀w∈a,w=.non)->bU (a++b)=bU b
 | [],_,_=>rfl
 | w::a,b,h=>by show (if w=.non then bU (a++b) else w)=_;rw [if_pos (h w N9)];exact h9 λ x hx=>h x (N6 _ hx)
def Nh (wi hi:Int) (hs:List Int) (row:Str) (us:List (aI×Addr)) (es:List ((Str×Str)×Addr)) (st:Str) (sd:Int) (x:V):Prop:=(¬bU (pB row wi hi sd es)=.non->x=bU (pB row wi hi sd es))/\(bU (pB row wi hi sd es)=.non->∃m,kL wi hi hs row us sd (sqsOf row sd) m/\x=if m=[] then .str st else .non)
def rG:Sp:=λ vs H Q _=> ∃(z:Str) (c:Nat) (sd:Int),vs=[.str z,.str (one c),.int sd]/\jV c/\Q (.bl (ji z c sd)) H
def zL (K:Frag) (cB:Addr):Sp:=λ vs H Q _=> ∃(p:Addr) (wi hi:Int) (hs:List Int) (sd:Int),vs=[.ref p,.int sd]/\bM K cB H p wi hi hs/\Q (.int (farI hi sd)) H
def zK (K:Frag) (cB:Addr):Sp:=λ vs H Q _=> ∃(b:Addr) (row:Str) (c:Nat) (sd wi hi:Int) (hs:List Int),vs=[.ref b,.str row,.str (one c),.int sd]/\bM K cB H b wi hi hs/\jV c/\row.length<=64/\Q (.bl (ji (tw row wi hi sd) c sd)) H
def uz (K:Frag) (cB:Addr):Sp:=λ vs H Q _=> ∃(b p e:Addr) (row en:Str) (c:Nat) (sd wi hi:Int) (hs:List Int),vs=[.ref b,.ref p,.ref e]/\bM K cB H b wi hi hs/\cJ K H p [.str row,.int sd]/\cJ K H e [.str en,.str (one c)]/\jV c/\row.length<=64/\Q (CH row wi hi sd en c) H
def kU (K:Frag) (cB cG:Addr):Sp:=λ vs H Q _=> ∃(g b kq p:Addr) (row:Str) (sd wi hi:Int) (hs:List Int) (ks:List Nat) (us:List (aI×Addr)) (ts es:List ((Str×Str)×Addr)) (st:Str),vs=[.ref g,.ref p]/\gq K cB cG H g b kq wi hi hs ks us ts es st/\cJ K H p [.str row,.int sd]/\row.length<=64/\Q (bU (pB row wi hi sd es)) H
def pT (K:Frag) (cB cG:Addr):Sp:=λ vs H Q _=> ∃(g b kq p:Addr) (row:Str) (sd wi hi:Int) (hs:List Int) (ks:List Nat) (us:List (aI×Addr)) (ts es:List ((Str×Str)×Addr)) (st:Str),vs=[.ref g,.ref p]/\gq K cB cG H g b kq wi hi hs ks us ts es st/\cJ K H p [.str row,.int sd]/\Bw row hs/\(row.length:Int)=wi*hi/\(sd=0\/sd=1)/\
 ∀(x:V) (H':Hp),Nh wi hi hs row us es st sd x->aj H H'->Q x H'
structure CE1 (P:Program) (w:World) (K:Frag) (mg:Str->Option Value) (base:Heap):Prop where
 sign_of:cj P w K mg base "sign_of" ["kind","side"] 1 kS
structure CE2 (P:Program) (w:World) (K:Frag) (mg:Str->Option Value) (base:Heap) (cB:Addr):Prop where
 has_kind:cj P w K mg base "has_kind" ["row","kind","side"] 2 rG
 Board_far_row:ku P w K mg base cB "far_row" ["self","side"] 1 (zL K cB)
structure CE3 (P:Program) (w:World) (K:Frag) (mg:Str->Option Value) (base:Heap) (cB:Addr):Prop where
 has_kind:cj P w K mg base "has_kind" ["row","kind","side"] 2 rG
 is_home:cj P w K mg base "is_home" ["board","row","kind","side"] 3 (zK K cB)
structure CE4 (P:Program) (w:World) (K:Frag) (mg:Str->Option Value) (base:Heap) (cB:Addr):Prop where
 by_end:cj P w K mg base "by_end" ["board","place","end"] 4 (uz K cB)
structure CE5 (P:Program) (w:World) (K:Frag) (mg:Str->Option Value) (base:Heap) (cB cG:Addr):Prop where
 by_ends:cj P w K mg base "by_ends" ["game","place"] 5 (kU K cB cG)
 moves:cj P w K mg base "moves" ["game","place"] 6 (kE K cB cG)
theorem CG {K:Frag}{H:Hp}{n:Nat}{a b:Addr}{xs:List V}(ha:H a=some (.lst xs)) (hb:H b=some (.lst [])):rj K H (n+1) (.ref a) (.ref b) (decide (xs=[])):=by
 cases xs with
 | nil=>exact CF ha hb
 | cons x xs=>exact rj.len (aK.of ha) (aK.of hb) (by simp)
end L2
namespace L2
open PySem PySem.Spec PyProof.Rows
section
variable {K:Frag}{σ:St}{H:Hp}{ta tb te:TE}{x:V}
theorem ve (ha:Ev ta σ H x) (hb:Ev tb σ H .non):Ev (eB K .IsNot ta tb) σ H (.bl (!decide (x=.non))):=λ Q q=>ha _ (hb _ (by
 cases x<;>exact q))
theorem A1 (ha:Ev ta σ H x) (hb:Ev tb σ H .non):Ev (eB K .Is ta tb) σ H (.bl (decide (x=.non))):=λ Q q=>ha _ (hb _ (by
 cases x<;>exact q))
end
theorem zw {t u:TT}{σ:St}{H:Hp}{R:Bool->Hp->Prop}(h:t σ H λ c H1=>if c=true then u σ H1 R else R false H1):Ir t u σ H R:=h
theorem Im {t:TT}{σ:St}{H:Hp}{R:Bool->Hp->Prop}(h:t σ H λ c H1=>R (!c) H1):zy t σ H R:=h
theorem L3 {K:Frag}{ta:TE}{σ:St}{H:Hp}{R:Bool->Hp->Prop}(h:ta σ H λ x H1=> ∃k,C2 K x H1 k/\R k H1):M2 K ta σ H R:=h
end L2
namespace L2
open PySem PySem.Spec PyProof.Rows
theorem A4 {K:Frag}{H:Hp}{n:Nat}{q d:Addr}{xs:List Addr}(hq:aK K H q (xs.map V.ref)) (hd:aK K H d (xs.map V.ref)):rj K H (n+1) (.ref q) (.ref d) true:=by
 have z:=rj.lst (n:=n) (es:=λ _=>true) hq hd rfl (λ i x y hx hy=>by
  rw [hx] at hy;cases hy;obtain ⟨a,_,rfl⟩:=N0.mp (Om hx);exact .same)
 rw [show ((List.range (xs.map V.ref).length).all λ _=>true)=true from On.mpr λ _ _=>rfl] at z;exact z
end L2
namespace L2
open PySem PySem.Spec PyProof.Rows
end L2
namespace L2
open PySem PySem.Spec PyProof.Rows
theorem iu:plainId "dict.update.loop"=true:=by decide+kernel
theorem mW:entryFor table "dict.update.loop"=some Builtin.«dict.update.loop» :=entryFor_of_fast (by kernel_rfl)
theorem oF:typeLookup (.type "list") "keys"=pure none:=by rw [typeLookup_type,builtinLookup_eq_fast];kernel_rfl
section
variable {prog:Program}{w:World}{A:Around}{E:Value->Shared->Prop}{s:Shared}
theorem Ce {a:Addr}{o:Obj}{xs:Array Value}{k:Nat}{Q:Option Value->Shared->Prop}(hx:s.heap.get? a=some o) (hc:o.cls=.type "list") (hdat:o.data=.seq xs k) (hd:o.dict=none) (hA:A.handled=none)
  (h:∀h' tk,(∀b ob,s.heap.get? b=some ob->h'.get? b=some ob)->Q none {s with heap:=h',toks:=tk}):wpAny (model prog w) A (getAttr? (.ref a) "keys") Q E s:=by
 obtain ⟨c,dct,dat,sl⟩:=o;simp only at hc hdat hd;subst hc hdat hd;obtain ⟨hp,g,d,tk,os⟩:=s;have hT:∀tk',(⟨hp,g,d,tk',os⟩:Shared).TypeIs (.ref a) "list":=λ _=>⟨_,hx,rfl⟩;have f1:=sub_AttributeError;have f3:=PySem.F.slot_list_getattribute.lookup;have f4:=PySem.F.slot_list_getattribute.bind (.ref a);have f5:=am_list_getattr_none;unfold getAttr? getAttrBy? getAttrBy
 repeat (any_goals (first | assumption | exact hT _ | ((with_reducible show wpAny _ _ (call (Value.builtin "list.__getattribute__") _ _) _ _ _);refine call_meets PySem.F.slot_list_getattribute (hT _) am_entry_list_getattribute (PySem.F.args_list_getattribute_2 _ _) (meets_getattribute_miss_list a xs k sl "keys" _ oF (by decide+kernel) (by decide)) ⟨hx,hA,λ h' tk' e hx'=>?_⟩) | wp_step))
 obtain ⟨t',u',he⟩:=hx'.there;have hTe:∀tk'',(⟨h',g,d,tk'',os⟩:Shared).TypeIs (.ref e) "AttributeError":=λ _=>⟨_,he,rfl⟩;show wpAny _ _ (getattributeRaised _ _ _ _ _ _ _) _ _ _;unfold getattributeRaised
 repeat (any_goals (first | assumption | exact hTe _ | wp_step))
 exact h h' tk' hx'.keeps
variable {K:Type} [DecidableEq K] {knd:KeyKind prog w K}
def fK (kvs:List (K×Value)):List (K×Value)->List (K×Value)
 | []=>kvs
 | p::ps=>fK (stored kvs p.1 p.2) ps
theorem rC {kvs:List (K×Value)}{k:K}{v:Value}:(stored kvs k v).length<=kvs.length+1:=by
 unfold stored;split
 ·rw [NZ];lia
 ·rw [Oa];exact PF _
theorem Be {d it l:Addr}{items:Array Value}{R:Result->Shared->Prop}(hA:A.handled=none) (hdi:d≠it) (hdl:d≠l) (hil:it≠l):
  ∀(rest:List (K×Value)) (i:Nat) (s:Shared) (kvs:List (K×Value)) (tk:Tok),i+rest.length=items.size->s.heap.IsListIter it l i->s.heap.IsList l items->s.heap.DictOf knd d kvs->
  (∀j p,rest[j]? =some p->∃t key,items[i+j]? =some (.ref t)/\s.heap.IsTuple t #[key,p.2]/\knd.is p.1 key=true/\t≠d/\t≠it)->kvs.length+rest.length<=sizeLine->
  (∀s',s'.heap.DictOf knd d (fK kvs rest)->(∀b o,b≠d->b≠it->s.heap.get? b=some o->s'.heap.get? b=some o)->s'.gens=s.gens->s'.drawn=s.drawn->s'.os=s.os->s.toks<=s'.toks->R (.ok (.ret .none)) s')->
  codeAny (model prog w) A (.builtin "dict.update.loop" ⟨[.ref d,.ref it,.int i tk,.none],[]⟩) R s:=by
 intro rest
 induction rest with
 | nil=>
   intro i s kvs tk hi hit hl hd hp hz hR;refine codeAny_builtin mW ?_;rw [Around.under_plainId iu _];show wpAny _ A.in1 (pyNext (.ref it) >>= _) _ _ s;refine wpAny_bind (wpAny_pyNext_list_end (show A.in1.handled=none from hA) hit hl (by rw [QC];simp at hi;lia) λ h' ext=>?_);show wpAny _ _ (Builtin.Dict.addKeywords d [] >>= _) _ _ _;exact wpAny_bind (wpAny_pure (wpAny_pure (hR _ (hd.extBut ext hdi) (λ b o _ hb e=>ext b o hb e) rfl rfl rfl (PF _))))
 | cons p rest ih=>
   intro i s kvs tk hi hit hl hd hp hz hR;obtain ⟨t,key,hx,ht,hk,htd,hti⟩:=hp 0 p rfl;refine codeAny_builtin mW ?_;rw [Around.under_plainId iu _];show wpAny _ A.in1 (pyNext (.ref it) >>= _) _ _ s;refine wpAny_bind (wpAny_pyNext_list_item hit hl hx λ h1 hit1 sb1=>?_);obtain ⟨ot,hot,hct,nt,hdt⟩:=ht;have hot1:h1.get? t=some ot:=(sb1.2 t hti).trans hot;have hT:(⟨h1,s.gens,s.drawn,s.toks,s.os⟩:Shared).TypeIs (.ref t) "tuple":=⟨_,hot1,hct⟩;refine wpAny_bind (wpAny_holding (wpAny_bind (wpAny_tryCatch ?_)));unfold Builtin.Dict.pairItems;refine wpAny_bind (wpAny_typeOf hT ?_);show wpAny _ _ (if _ then _ else _) _ _ _;rw [if_pos (by decide)];refine wpAny_bind (wpAny_seqItems hot1 hdt (wpAny_pure ?_));show wpAny _ _ (holding [key,p.2] (dictSet d key p.2)) _ _ _;have hd1:h1.DictOf knd d kvs:=hd.extBut (λ b o hb e=>(sb1.2 b hb).trans e) hdi;refine wpAny_holding (wpAny_dictSet_pairs hk hd1 (λ h2 hd2 sb2=>?_) (by simp at hz;lia));refine wpAny_pure ⟨plainId_quiet iu _,?_⟩;have hb2:∀b o,b≠d->b≠it->s.heap.get? b=some o->h2.get? b=some o:=λ b o nd ni e=>(sb2.2 b nd).trans ((sb1.2 b ni).trans e);have sl:=rC (kvs:=kvs) (k:=p.1) (v:=p.2);rw [Oh] at hi hz;refine ih (i+1) ⟨h2,s.gens,s.drawn,s.toks+1,s.os⟩ (stored kvs p.1 p.2) _ (by lia) ?_ ?_ hd2 (λ j q hq=>?_) (by lia) (λ s' a1 a2 a3 a4 a5 a6=>?_)
   ·obtain ⟨oi,e1,e2,e3⟩:=hit1;exact ⟨oi,(sb2.2 it (Ne.symm hdi)).trans e1,e2,e3⟩
   ·obtain ⟨ol,e1,e2⟩:=hl;exact ⟨ol,hb2 l ol (Ne.symm hdl) (Ne.symm hil) e1,e2⟩
   ·obtain ⟨t',key',b1,⟨o',c1,c2⟩,b3,b4,b5⟩:=hp (j+1) q (by simpa using hq);exact ⟨t',key',by rw [show i+1+j=i+(j+1) by lia];exact b1,⟨o',hb2 t' o' b4 b5 c1,c2⟩,b3,b4,b5⟩
   ·exact hR s' a1 (λ b o nd ni e=>a2 b o nd ni (hb2 b o nd ni e)) a3 a4 a5 (PK (PN _) a6)
theorem ko {l:Addr}{o:Obj}{items:Array Value}{n:Nat}{Q:Value->Shared->Prop}(hA:A.handled=none) (ho:s.heap.get? l=some o) (hc:o.cls=.type "list") (hdat:o.data=.seq items n) (hdd:o.dict=none) (ps:List (K×Value)) (hlen:ps.length=items.size) (hsz:ps.length<=sizeLine)
  (hp:∀(j:Nat) (p:K×Value),ps[j]? =some p->∃t key,items[j]? =some (Value.ref t)/\s.heap.IsTuple t #[key,p.2]/\knd.is p.1 key=true)
  (h:∀s',s'.heap.DictOf knd s.heap.objs.size (fK [] ps)->(∀b o,s.heap.get? b=some o->s'.heap.get? b=some o)->s'.gens=s.gens->s'.drawn=s.drawn->s'.os=s.os->Q (.ref s.heap.objs.size) s'):
  wpAny (model prog w) A (call (.type "dict") [.ref l]) Q E s:=by
 refine callType_codes (Q₁:=λ obj s₁=>obj=.ref s.heap.objs.size/\s₁={s with heap:=s.heap.push {cls:=.type "dict",data:=.dict #[]}}) F.kt_called_dict (F.kt_typeCall_dict_1 _) F.entry_dict_init (kt_code_dict_new _ ⟨rfl,rfl⟩) ?_;rintro obj s₁ ⟨rfl,rfl⟩;have hnew:(s.heap.push {cls:=.type "dict",data:=.dict #[]}).DictOf knd s.heap.objs.size []:=Heap.DictOf.new s.heap;have ho':(s.heap.push {cls:=.type "dict",data:=.dict #[]}).get? l=some o:=Heap.get?_push_of_some _ ho;refine ⟨hnew.typeIs,F.args_dict_init_2 _ _,?_⟩;unfold Builtin.«dict.__init__»;refine wpAny_bind ?_;unfold Builtin.Dict.selfAndRest;refine wpAny_bind (wpAny_notOrdered_dict hnew.typeIs ?_);show wpAny _ _ (pure (s.heap.objs.size,[Value.ref l])) _ _ _;refine wpAny_pure ?_;show wpAny _ _ (Builtin.Dict.updateFrom "dict.__init__" s.heap.objs.size (.ref l) [] .none) _ _ _;unfold Builtin.Dict.updateFrom;refine wpAny_bind (wpAny_typeOf (show Shared.TypeIs {s with heap:=s.heap.push {cls:=.type "dict",data:=.dict #[]}} (.ref l) "list" from ⟨_,ho',hc⟩) ?_);rw [if_pos (by decide)];refine wpAny_bind (Ce ho' hc hdat hdd (show A.in1.in1.handled=none from hA) λ h1 tk1 k1=>?_);rw [if_pos (by rfl)];have hl1:h1.IsList l items:=⟨o,k1 _ _ ho',hc,n,hdat⟩;have hd1:h1.DictOf knd s.heap.objs.size []:=by obtain ⟨o',es,ep,e1,r⟩:=hnew;exact ⟨o',es,ep,k1 _ _ e1,r⟩
 have ls:l<s.heap.objs.size:=Heap.lt_size ho;have dlt:s.heap.objs.size<h1.objs.size:=by obtain ⟨o',es,ep,e1,r⟩:=hd1;exact Heap.lt_size e1
 refine wpAny_bind (wpAny_rule ?_);refine wpAny_bind (wpAny_pyIter_list hl1 ?_);refine wpAny_pure ⟨plainId_quiet iu _,?_⟩;refine Be (A:=A.in1) hA (PH dlt) (PM ls) (PM (PQ ls dlt)) ps 0 _ [] _ (by lia) ⟨_,Heap.get?_push_size _ rfl,rfl,rfl⟩ (hl1.push _) (hd1.push _) (λ j p hj=>?_) (by simpa using hsz) (λ s' a1 a2 a3 a4 a5 a6=>?_)
 ·obtain ⟨t,key,b1,⟨ot,c1,c2⟩,b3⟩:=hp j p hj;have tl:=Heap.lt_size c1;exact ⟨t,key,by rw [PV];exact b1,⟨ot,Heap.get?_push_of_some _ (k1 _ _ (Heap.get?_push_of_some _ c1)),c2⟩,b3,PH tl,PH (PQ tl dlt)⟩
 ·refine ⟨rfl,h s' a1 (λ b o e=>?_) a3 a4 a5⟩;have bl:=Heap.lt_size e;exact a2 b o (PH bl) (PH (PQ bl dlt)) (Heap.get?_push_of_some _ (k1 _ _ (Heap.get?_push_of_some _ e)))
end
end L2
namespace L2
open PySem PySem.W PySem.Calls PySem.Spec PyProof.Rows
def kvsOf (kvs:List (Key×V)):List (Str×Str)->List (Key×V)
 | []=>kvs
 | p::ps=>kvsOf (nU kvs (.inr p.1) (.str p.2)) ps
theorem mN:∀(ps:List (Str×Str)) (kvs:List (Key×V)),(kvsOf kvs ps).length<=kvs.length+ps.length
 | [],kvs=>PF _
 | p::ps,kvs=>by have a:=mN ps (nU kvs (.inr p.1) (.str p.2));have b:=qC kvs (.inr p.1) (.str p.2);show (kvsOf (nU kvs (.inr p.1) (.str p.2)) ps).length<=_;rw [Oh];lia
theorem Id {a b:Str}{us:List Value}(r:aP [.str a,.str b] us):∃t1 t2,us=[.str a t1,.str b t2]:=by
 cases r with
 | cons r0 r1=>
 cases r1 with
 | cons r2 r3=>
 cases r3;obtain ⟨t1,rfl⟩:=(show∃t,_=Value.str a t from r0);obtain ⟨t2,rfl⟩:=(show∃t,_=Value.str b t from r2);exact ⟨t1,t2,rfl⟩
theorem Ac {h:Heap}:∀(zs:List ((Str×Str)×Addr)),(∀z∈zs,∃t1 t2,h.IsTuple z.2 #[.str z.1.1 t1,.str z.1.2 t2])->∃ps:List (Key×Value),ps.length=zs.length/\(∀(j:Nat) (p:Key×Value),ps[j]? =some p->∃z key,zs[j]? =some z/\h.IsTuple z.2 #[key,p.2]/\aL (kV p.1) key)/\∀(kvs:List (Key×V)) (vs:List (Key×Value)),KV kvs vs->KV (kvsOf kvs (zs.map (·.1))) (fK vs ps)
 | [],_=>⟨[],rfl,λ j p e=>by simp at e,λ kvs vs r=>r⟩
 | z::zs,hz=>by
   obtain ⟨t1,t2,ht⟩:=hz z N9;obtain ⟨ps,p1,p2,p3⟩:=Ac zs λ y hy=>hz y (N6 _ hy);refine ⟨(.inr z.1.1,.str z.1.2 t2)::ps,by simp [p1],λ j p e=>?_,λ kvs vs r=>p3 _ _ (r.put _ ⟨t2,rfl⟩)⟩;cases j with
   | zero=>
     have e:(Sum.inr z.1.1,Value.str z.1.2 t2)=p:=by simpa using e
     subst e;exact ⟨z,_,rfl,ht,t1,rfl⟩
   | succ j=>
     obtain ⟨y,key,a,b⟩:=p2 j p (by simpa using e);exact ⟨y,key,by simpa using a,b⟩
section
variable {X:Cx}
def tK (K:Frag) (xs:List V) (H:Hp) (Q:VK):Prop:= ∃(d:Addr) (zs:List ((Str×Str)×Addr)),xs=[.ref d]/\aK K H d (bp zs)/\(∀z∈zs,cJ K H z.2 [.str z.1.1,.str z.1.2])/\zs.length<=1000/\∀q,H q=none->Q (.ref q) (upd H q (.dK (kvsOf [] (zs.map (·.1)))))
theorem qU (hA:X.A.handled=none):aY X (.type "dict") (tK X.K):=by
 intro pins s σ H xs us Q I rv h;obtain ⟨d,zs,rfl,hd,hp,hz,q⟩:=h;cases rv with
 | cons r0 rn=>
 cases rn;cases r0;obtain ⟨its,r,⟨o,n,e,hc,hdd,hdat⟩,_⟩:=I.list hd;have rl:=r.length;rw [NZ] at rl;obtain ⟨ps,p1,p2,p3⟩:=Ac (h:=s.heap) zs λ z hz'=>by obtain ⟨it2,r2,tp,_⟩:=I.tuple (hp z hz');obtain ⟨t1,t2,rfl⟩:=Id r2;exact ⟨t1,t2,tp⟩
 refine ko (knd:=mixKind X.prog X.w) hA e hc hdat hdd ps (by rw [p1,N4];exact rl) (by rw [p1,sizeLine_eq];lia) (λ j p hj=>?_) (λ s' a1 a2 a3 a4 a5=>?_)
 ·obtain ⟨z,key,b1,b2,b3⟩:=p2 j p hj;refine ⟨z.2,key,?_,b2,GN b3⟩;obtain ⟨u,hu,ru⟩:=r.get (show (bp zs)[j]? =some (V.ref z.2) by rw [N3,b1];rfl);cases ru;simpa using hu
 ·have kl:=mN (zs.map (·.1)) [];rw [NZ] at kl;have hq:H s.heap.objs.size=none:=I.hok.fresh (PF _);obtain ⟨h',g',d',t',os'⟩:=s';obtain rfl:g'=s.gens:=a3;obtain rfl:d'=s.drawn:=a4;obtain rfl:os'=s.os:=a5;have k2:∀b o,s.heap.get? b=some o->h'.get? b=some o:=a2;have dd:h'.DictOf (mixKind X.prog X.w) s.heap.objs.size (fK [] ps):=a1;have kz:(kvsOf [] (zs.map (·.1))).length<=sizeLine:=by rw [sizeLine_eq];have:([]:List (Key×V)).length=0:=rfl;lia
  exact ⟨.ref s.heap.objs.size,upd H s.heap.objs.size (.dK (kvsOf [] (zs.map (·.1)))),I.laid (t':=t') k2 (PF _) (JE kz (beq_eq_false_iff_ne.mpr (Ne.symm (PH I.big))) (p3 [] [] .nil) dd),rfl,q _ hq⟩
theorem AC (K:Frag) {j:Nat}(hr:cP j X.A) (hK:X.K=K:=by rfl):aY X (.type "dict") (tK K):=by subst hK;exact qU hr.hd
end
end L2
namespace L2
open PySem PySem.W PySem.Calls PySem.Spec PyProof.Rows
def Ju (x:V) (xs:List V) (H:Hp) (Q:VK):Prop:= ∃a kvs k y,x=.ref a/\xs=[kV k,y]/\H a=some (.dK kvs)/\Q ((valV kvs k).getD y) H
theorem Ch {X:Cx}:pC X "dict.get" Ju:=by
 intro pins s σ H x xs v us Q I rx rv h;obtain ⟨a,kvs,k,y,rfl,rfl,e,q⟩:=h;cases rx;cases rv with
 | cons r1 rn=>
 cases rn with
 | cons r2 rn2=>
 cases rn2;obtain ⟨z,hd,vs,rel,dd⟩:=MT I.hok e;refine call_meetsIn PySem.F.slot_dict_get dd.typeIs PySem.F.entry_dict_get (PySem.F.args_dict_get_3 _ _ _) (meets_dict_get_default (mixKind X.prog X.w) a (GN r1) hd _) ⟨_,dd.mapOf,?_⟩;exact ⟨(valV kvs k).getD y,H,I.tok _,(rel.val k).getD r2,q⟩
theorem GM {X:Cx}{o e e2:Expr}{to:TE}{t:TA}{apos cpos:Pos}(K:Frag) (ho:PE X o to) (ha:PA X [e,e2] t) (hbase:attributeBase o "get" X.env (eval o X.env)=eval o X.env:=by rfl)
  (hfew:((backTo cpos (starEach [e,e2] X.env)).all (λ x=> !x.1)&&(backToKw cpos (keywordEach [] X.env)).all (λ x=>x.1.isSome)
   &&decide ([e,e2].length+([]:List Keyword).length+(if ([]:List Keyword).isEmpty then 0 else 1)<30))=true:=by rfl)
  (hline:(apos.endLine == cpos.line)=true:=by rfl) (hs:starEach [e,e2] X.env=(false,eval e X.env)::starEach [e2] X.env:=by rfl) (hplain:(backTo cpos (starEach [e2] X.env)).any (·.1)=false:=by rfl) (hK:X.K=K:=by rfl):
  PE X (.Call (.Attribute o "get" apos) [e,e2] [] cpos) (Nx K "dict" Ju to t):=by
 subst hK;exact Mh PySem.F.plainAttrs_dict PySem.F.slot_dict_get PySem.F.type_dict_get Ch ho ha hbase hfew hline hs hplain
end L2
namespace L2
open PySem PySem.Spec PyProof.Rows
def turnV (ts:List ((Str×Str)×Addr)) (kd:Str):V:=(valV (kvsOf [] (ts.map (·.1))) (.inr kd)).getD (.str kd)
theorem A9 {K:Frag}{te:TE}{ta:TA}{σ:St}{H:Hp}{Q:VK}{d:Addr}{zs:List ((Str×Str)×Addr)}{kd:Str}(h:Ev te σ H (.ref d)) (hd:aK K H d (bp zs)) (hp:fv H zs) (hz:zs.length<=1000) (ha:∀H',aj H H'->Av ta σ H' [.str kd,.str kd]) (q:∀H',aj H H'->Q (turnV zs kd) H'):Nx K "dict" Ju (cB (tK K) (bo te cZ)) ta σ H Q:=
 h _ ⟨d,zs,rfl,hd,λ z hz'=>cJ.of (hp z hz'),hz,λ p hq=>⟨.inr (.inr (.inl ⟨rfl,.inl ⟨_,ag⟩⟩)),ha _ ((aj.refl H).upd hq) _ ⟨p,_,.inr kd,.str kd,rfl,rfl,ag,q _ ((aj.refl H).upd hq)⟩⟩⟩
theorem zt {P:V->Prop}{kvs:List (Key×V)}{k:Key}{v:V}(h:∀kv∈kvs,P kv.2) (e:valV kvs k=some v):P v:=by unfold valV at e;obtain ⟨kv,h1,rfl⟩:=QI.mp e;exact h kv (List.mem_of_find?_eq_some h1)
theorem zX {P:V->Prop}{kvs:List (Key×V)}{k:Key}{v:V}(h:∀kv∈kvs,P kv.2) (hv:P v):∀kv∈nU kvs k v,P kv.2:=λ kv hkv=>by
 unfold nU at hkv;split at hkv
 ·obtain ⟨y,hy,rfl⟩:=N0.mp hkv;split
  ·exact hv
  ·exact h y hy
 ·rcases Oc.mp hkv with w | w
  ·exact h kv w
  ·rw [N5.mp w];exact hv
theorem mO {P:V->Prop}:∀(ps:List (Str×Str)) (kvs:List (Key×V)),(∀kv∈kvs,P kv.2)->(∀p∈ps,P (.str p.2))->∀kv∈kvsOf kvs ps,P kv.2
 | [],_,h,_=>h
 | p::ps,kvs,h,hp=>mO ps _ (zX h (hp p N9)) λ q hq=>hp q (N6 _ hq)
theorem kA {ks:List Nat}{ts:List ((Str×Str)×Addr)}(g:lZ ks ts) {k:Nat}(hk:k∈ks):∃c∈ks,turnV ts (one k)=.str (one c):=by
 unfold turnV;cases e:valV (kvsOf [] (ts.map (·.1))) (.inr (one k)) with
 | none=>exact ⟨k,hk,rfl⟩
 | some v=>
   have z:=zt (P:=λ v=> ∃c∈ks,v=.str (one c)) (mO (P:=λ v=> ∃c∈ks,v=.str (one c)) _ [] (λ _ z=>nomatch z) λ p hp=>?_) e
   ·obtain ⟨c,hc,rfl⟩:=z;exact ⟨c,hc,rfl⟩
   ·obtain ⟨y,hy,rfl⟩:=N0.mp hp;obtain ⟨_,c,hc,e2⟩:=g.kd y hy;exact ⟨c,hc,by rw [e2]⟩
def chrV:V->Nat
 | .str z=>z.cps.toList.getD 0 0
 | _=>0
def lX (ts:List ((Str×Str)×Addr)) (wi hi:Int) (c:Nat) (sd gl:Int):Nat:=if gl / wi=farI hi sd then zO (chrV (turnV ts (one (lo1 c)))) sd else c
def pj (ts:List ((Str×Str)×Addr)) (wi hi:Int) (row:Str) (sd s gl t:Int):Str:=dY (if t= -1 then dY row s (one 46) else dY (dY row s (one 46)) t (one 46)) gl (one (lX ts wi hi (row.cps.toList.getD s.toNat 0) sd gl))
def pJ (cG:Addr):Sp:=λ vs H Q _=> ∃(g b:Addr) (kd:Str) (ks rs es:List V) (ts:List ((Str×Str)×Addr)) (st:Str),vs=[.ref g,.str kd]/\dW cG H g b ks rs (bp ts) es st/\fv H ts/\ts.length<=6/\∀H',aj H H'->Q (turnV ts kd) H'
def Gv (K:Frag) (cB cG:Addr):Sp:=λ vs H Q _=> ∃(g b kq:Addr) (c:Nat) (sd gl wi hi:Int) (hs:List Int) (ks:List Nat) (us:List (aI×Addr)) (ts es:List ((Str×Str)×Addr)) (st:Str),vs=[.ref g,.str (one c),.int sd,.int gl]/\gq K cB cG H g b kq wi hi hs ks us ts es st/\(c∈ks\/c∈ks.map (· - 32))/\∀H',aj H H'->Q (.str (one (lX ts wi hi c sd gl))) H'
def iX (K:Frag) (cB cG:Addr):Sp:=λ vs H Q _=> ∃(g b kq p mv:Addr) (row:Str) (sd s gl t wi hi:Int) (hs:List Int) (ks:List Nat) (us:List (aI×Addr)) (ts es:List ((Str×Str)×Addr)) (st:Str),vs=[.ref g,.ref p,.ref mv]/\gq K cB cG H g b kq wi hi hs ks us ts es st/\cJ K H p [.str row,.int sd]/\cJ K H mv [.int s,.int gl,.int t]/\gJ wi hi hs ks row/\0<=s/\s<row.length/\sdV row s=.int sd/\0<=gl/\gl<row.length/\(t= -1\/0<=t/\t<row.length)/\
 ∀(q:Addr) (H':Hp),H q=none->H' q=some (.tup [.str (pj ts wi hi row sd s gl t),.int (1 - sd)])->aj H H'->Q (.ref q) H'
structure CD1 (P:Program) (w:World) (K:Frag) (mg:Str->Option Value) (base:Heap) (cB cG:Addr):Prop where
 kind_of:cj P w K mg base "kind_of" ["sign"] 1 rF
 sign_of:cj P w K mg base "sign_of" ["kind","side"] 1 kS
 row_of:cj P w K mg base "row_of" ["wide","square"] 1 zG
 Board_far_row:ku P w K mg base cB "far_row" ["self","side"] 1 (zL K cB)
 Game_turned:ku P w K mg base cG "turned" ["self","kind"] 1 (pJ cG)
structure CD2 (P:Program) (w:World) (K:Frag) (mg:Str->Option Value) (base:Heap) (cB cG:Addr):Prop where
 arrived:cj P w K mg base "arrived" ["game","sign","side","goal"] 2 (Gv K cB cG)
 put:cj P w K mg base "put" ["row","square","sign"] 1 Gr
theorem jN {ks:List Nat}(hl:∀k∈ks,jV k) {c:Nat}(h:c∈ks\/c∈ks.map (· - 32)):lo1 c∈ks/\c<128/\¬(c=46\/c=35):=by
 rcases h with h | h
 ·have:=hl c h;unfold jV at this;refine ⟨?_,by lia,by lia⟩;have e:lo1 c=c:=by unfold lo1;split<;>lia
  rw [e];exact h
 ·obtain ⟨k,hk,rfl⟩:=N0.mp h;have:=hl k hk;unfold jV at this;refine ⟨?_,by lia,by lia⟩;have e:lo1 (k - 32)=k:=by unfold lo1;split<;>lia
  rw [e];exact hk
end L2
namespace L2
open PySem PySem.Spec PyProof.Rows
theorem Ci {C:Addr}{m:Str}{sp:Sp}{to:TE}{t:TA}{σ:St}{H:Hp}{Q:VK}{p:Addr}(ho:Ev to σ H (.ref p)) (hi:re C m H p) (q:t σ H λ vs H2=>sp (.ref p::vs) H2 Q E0):Bl C m sp to t σ H Q:=ho _ ⟨hi,q⟩
theorem oP {te:TE}{σ:St}{H:Hp}(h:Ev te σ H (.str ".")):Ev te σ H (.str (one 46)):=by
 have e:one 46=".":=by decide+kernel
 rw [e];exact h
end L2
namespace L2
open PySem PySem.Spec PyProof.Rows
theorem CS {row:Str}{sd:Int}{so ai:Str}{path:List Int}{x:Int×Int}(h:x∈tY row sd so ai path):x.1∈path/\(x.2= -1\/x.2∈path):=by
 have sl:∀p:List Int,(∀y∈p,y∈path)->x∈eE row sd ai p->x.1∈path/\(x.2= -1\/x.2∈path):=λ p hp hx=>by
  obtain ⟨g,hg,rfl⟩:=N0.mp ((nA row sd ai p).subset hx);refine ⟨hp g hg,?_⟩;unfold prG;show (if sdV row g=.non then (-1:Int) else g)= -1\/(if sdV row g=.non then (-1:Int) else g)∈path;split
  ·exact .inl rfl
  ·exact .inr (hp g hg)
 unfold tY at h;split at h
 ·match path,h with
  | [],h=>simp [lF] at h
  | [_],h=>simp [lF] at h
  | a::b::r,h=>
    have h:x∈(if sdV row a=.int (1 - sd)/\sdV row b=.non then [(b,a)] else []):=h;split at h
    ·have e:=N5.mp h;rw [e];exact ⟨by simp,.inr (by simp)⟩
    ·simp at h
 ·refine sl _ (λ y hy=>?_) h;split at hy
  ·exact OQ hy
  ·exact hy
structure Nd (wi hi:Int) (hs:List Int) (row:Str) (sd s gl t:Int):Prop where
 s0:0<=s
 s1:s<row.length
 sd:sdV row s=.int sd
 g0:0<=gl
 g1:gl<wi*hi
 gn:¬gl∈hs
 tk:t= -1\/(0<=t/\t<wi*hi/\¬t∈hs)
theorem aM.inn {wi hi:Int}{hs:List Int}{row:Str}{sq sd:Int}(w1:1<=wi):∀{us:List (aI×Addr)}{l:List (Int×Int)},aM wi hi hs row sq sd us l->∀x∈l,(0<=x.1/\x.1<wi*hi/\¬x.1∈hs)/\(x.2= -1\/(0<=x.2/\x.2<wi*hi/\¬x.2∈hs))
 | _,_,.nil,_,h=>nomatch h
 | _,_,.cons a b,x,h=>by
   rcases Oc.mp h with w | w
   ·obtain ⟨n,ry,_,rfl⟩:=a;obtain ⟨h1,h2⟩:=CS w;refine ⟨rX w1 ry _ h1,?_⟩
    rcases h2 with e | e
    ·exact .inl e
    ·exact .inr (rX w1 ry _ e)
   ·exact aM.inn w1 b x w
theorem kL.ok {wi hi:Int}{hs:List Int}{row:Str}{us:List (aI×Addr)}{sd:Int}(w1:1<=wi):∀{ss:List Int}{m:List (List Int)},kL wi hi hs row us sd ss m->(∀s∈ss,0<=s/\s<row.length/\sdV row s=.int sd)->∀k∈m,∃s gl t,k=[s,gl,t]/\Nd wi hi hs row sd s gl t
 | _,_,.nil,_,_,z=>nomatch z
 | _,_,@kL.cons _ _ _ _ _ _ s ss l m a b,hss,k,z=>by
   rcases Oc.mp z with w | w
   ·obtain ⟨x,hx,rfl⟩:=N0.mp w;obtain ⟨l0,hl,hs'⟩:=a;obtain ⟨i1,i2⟩:=hl.inn w1 x ((hs'.1 x).mp hx);obtain ⟨a1,a2,a3⟩:=hss s N9;exact ⟨s,x.1,x.2,rfl,a1,a2,a3,i1.1,i1.2.1,i1.2.2,i2⟩
   ·exact kL.ok w1 b (λ y hy=>hss y (N6 _ hy)) k w
def ua (ts:List ((Str×Str)×Addr)) (wi hi:Int) (row:Str) (sd:Int) (k:List Int):Str×Int:=(pj ts wi hi row sd (k.getD 0 0) (k.getD 1 0) (k.getD 2 0),1 - sd)
abbrev plRefs (ps:List ((Str×Int)×Addr)):List V:=ps.map λ z=>V.ref z.2
def vx (H H':Hp) (q:Addr) (ls:List (Str×Int)):Prop:= ∃ps:List ((Str×Int)×Addr),ps.map (·.1)=ls/\H' q=some (.lst (plRefs ps))/\∀p∈ps,H p.2=none/\H' p.2=some (.tup [.str p.1.1,.int p.1.2])
theorem si {α:Type}{H0 H:Hp}(f:α->Str×Int):∀(l:List α) (ys:List V),ys.length=l.length->(∀(i:Nat) (y:V),ys[i]? =some y->∃x t,l[i]? =some x/\y=.ref t/\H0 t=none/\H t=some (.tup [.str (f x).1,.int (f x).2]))->∃ps:List ((Str×Int)×Addr),ys=plRefs ps/\ps.map (·.1)=l.map f/\∀p∈ps,H0 p.2=none/\H p.2=some (.tup [.str p.1.1,.int p.1.2])
 | [],[],_,_=>⟨[],rfl,rfl,λ _ z=>nomatch z⟩
 | x::l,y::ys,hl,h=>by
   obtain ⟨x',t,e1,rfl,e3,e4⟩:=h 0 y rfl;have e1:x=x':=by simpa using e1
   subst e1;obtain ⟨ps,rfl,p2,p3⟩:=si f l ys (by simpa using hl) λ i y hy=>h (i+1) y (by simpa using hy);refine ⟨(f x,t)::ps,rfl,by rw [Oj,Oj,p2],λ p hp=>?_⟩
   rcases N1.mp hp with rfl | hp
   ·exact ⟨e3,e4⟩
   ·exact p3 p hp
 | [],_::_,hl,_=>by simp at hl
 | _::_,[],hl,_=>by simp at hl
def uf (wi hi:Int) (hs:List Int) (row:Str) (us:List (aI×Addr)) (ts es:List ((Str×Str)×Addr)) (sd:Int) (ls:List (Str×Int)):Prop:=(¬bU (pB row wi hi sd es)=.non/\ls=[])\/(bU (pB row wi hi sd es)=.non/\∃m,kL wi hi hs row us sd (sqsOf row sd) m/\m.length<=4096/\ls=m.map (ua ts wi hi row sd))
theorem uf.uniq {wi hi:Int}{hs:List Int}{row:Str}{us:List (aI×Addr)}{ts es:List ((Str×Str)×Addr)}{sd:Int}{ls ls':List (Str×Int)}(h:uf wi hi hs row us ts es sd ls) (h':uf wi hi hs row us ts es sd ls'):ls=ls':=by
 rcases h with ⟨a,rfl⟩ | ⟨a,m,b,_,rfl⟩
 ·rcases h' with ⟨_,rfl⟩ | ⟨c,_⟩
  ·rfl
  ·exact absurd c a
 ·rcases h' with ⟨c,_⟩ | ⟨_,m',b',_,rfl⟩
  ·exact absurd a c
  ·rw [b.uniq b']
def jx (K:Frag) (cB cG:Addr):Sp:=λ vs H Q _=> ∃(g b kq p:Addr) (row:Str) (sd wi hi:Int) (hs:List Int) (ks:List Nat) (us:List (aI×Addr)) (ts es:List ((Str×Str)×Addr)) (st:Str),vs=[.ref g,.ref p]/\gq K cB cG H g b kq wi hi hs ks us ts es st/\cJ K H p [.str row,.int sd]/\gJ wi hi hs ks row/\(sd=0\/sd=1)/\
 ∀(ls:List (Str×Int)) (q:Addr) (H':Hp),uf wi hi hs row us ts es sd ls->H q=none->vx H H' q ls->aj H H'->Q (.ref q) H'
structure CD3 (P:Program) (w:World) (K:Frag) (mg:Str->Option Value) (base:Heap) (cB cG:Addr):Prop where
 by_ends:cj P w K mg base "by_ends" ["game","place"] 5 (kU K cB cG)
 moves:cj P w K mg base "moves" ["game","place"] 6 (kE K cB cG)
 behind:cj P w K mg base "behind" ["game","place","move"] 3 (iX K cB cG)
theorem C0 {wi hi:Int}{hs:List Int}{ks:List Nat}{ts:List ((Str×Str)×Addr)}{row:Str}{sd s gl t:Int}(R:gJ wi hi hs ks row) (hl:∀k∈ks,jV k) (tg:lZ ks ts) (rl:(row.length:Int)=wi*hi) (hc:row.cps.toList.getD s.toNat 0∈ks\/row.cps.toList.getD s.toNat 0∈ks.map (· - 32)) (sn:¬s∈hs) (h:Nd wi hi hs row sd s gl t):gJ wi hi hs ks (pj ts wi hi row sd s gl t):=by
 have R1:=R.put (c:=46) h.s0 h.s1 sn (.inl rfl);have l1:=fY (c:=46) h.s0 h.s1;have g1:=h.g1;have R2:gJ wi hi hs ks (if t= -1 then dY row s (one 46) else dY (dY row s (one 46)) t (one 46)):=by
  split
  ·exact R1
  ·rename_i ne
   rcases h.tk with e | ⟨t0,t1,tn⟩
   ·exact absurd e ne
   ·exact R1.put t0 (by rw [l1];lia) tn (.inl rfl)
 have l2:=R2.len;unfold pj;refine R2.put h.g0 (by rw [l2];lia) h.gn ?_;unfold lX;split
 ·obtain ⟨c',hc',et⟩:=kA tg (jN hl hc).1;rw [et];unfold zO;split
  ·exact .inr (.inr (N0.mpr ⟨c',hc',rfl⟩))
  ·exact .inr (.inl hc')
 ·exact .inr hc
end L2
namespace L2
open PySem PySem.Spec PyProof.Rows
theorem Au {K:Frag}{t:TA}{ti:TE}{σ:St}{H:Hp}{Q:VK}{vs:List V}{v:V}{i:Int}(h:Av t σ H vs) (hz:vs.length<=1000) (hi:∀H',aj H H'->Ev ti σ H' (.int i)) (e:ke vs i=some v) (q:∀H',aj H H'->Q v H'):CP K (vH t) ti σ H Q:=h _ ⟨PK hz (by decide),λ p hp=>hi _ ((aj.refl H).upd hp) _ ⟨vs,v,.inl (aK.of ag),e,q _ ((aj.refl H).upd hp)⟩⟩
theorem Js {K:Frag}{σ:St}{H:Hp}{i j l:Nat}{d:Addr}{a b c:V}{R:St->Hp->Prop}(h:cJ K H d [a,b,c]) (q:R (((σ.set i (some a)).set j (some b)).set l (some c)) H):tm K 3 (gf (gName i) (gf (gName j) (gf (gName l) wC))) (.ref d) σ H R:=⟨d,_,rfl,h,rfl,_,_,rfl,_,_,rfl,_,_,rfl,rfl,q⟩
theorem g6 {row:Str}{s:Int}{c:Nat}(h0:0<=s) (h1:s<row.length):(dY row s (one c)).cps.toList=row.cps.toList.set s.toNat c:=by
 have hl:s.toNat<row.cps.toList.length:=by have:row.length=row.cps.toList.length:=rfl;lia
 rw [jF h0 h1,List.set_eq_take_append_cons_drop,if_pos hl,OE];rfl
theorem kZ (cs:List Nat) (n c:Nat):(cs.map strV).set n (strV c)=(cs.set n c).map strV:=List.map_set.symm
theorem IC {ks:List Nat}(hl:∀k∈ks,jV k) {c:Nat}{sd:Int}(h:c∈ks\/c∈ks.map (· - 32)) (hs:cr c=.int sd):zO (lo1 c) sd=c:=by
 unfold cr at hs;split at hs
 ·cases hs
 ·injection hs with hs
  rcases h with h | h
  ·have z:=hl c h;unfold jV at z;rw [if_neg (by lia)] at hs;have e:lo1 c=c:=by unfold lo1;split<;>lia
   unfold zO;rw [e,if_neg (by lia)]
  ·obtain ⟨k,hk,rfl⟩:=N0.mp h;have z:=hl k hk;unfold jV at z;rw [if_pos (by lia)] at hs;have e:lo1 (k - 32)=k:=by unfold lo1;split<;>lia
   unfold zO;rw [e,if_pos hs.symm]
theorem Iu {z:Str}{l:List Nat}(h:z.cps.toList=l):(⟨l.toArray⟩:Str)=z:=by subst h;cases z;simp
theorem wU {ks:List Nat}{ts:List ((Str×Str)×Addr)}{wi hi:Int}{hs:List Int}{row:Str}{sd s gl t:Int}(rl:(row.length:Int)=wi*hi) (s0:0<=s) (s1:s<row.length) (g0:0<=gl) (g1:gl<row.length) (ht:t= -1\/0<=t/\t<row.length):
  (pj ts wi hi row sd s gl t).cps.toList=((if 0<=t then (row.cps.toList.set s.toNat 46).set t.toNat 46 else row.cps.toList.set s.toNat 46).set gl.toNat (lX ts wi hi (row.cps.toList.getD s.toNat 0) sd gl)):=by
 have l1:=fY (c:=46) s0 s1;unfold pj
 rcases ht with rfl | ⟨t0,t1⟩
 ·rw [if_pos rfl,if_neg (by decide),g6 g0 (by rw [l1];exact g1),g6 s0 s1]
 ·rw [if_neg (by lia),if_pos t0,g6 g0 (by rw [fY t0 (by rw [l1];exact t1),l1];exact g1),g6 t0 (by rw [l1];exact t1),g6 s0 s1]
end L2
namespace L2
open PySem PySem.Spec PyProof.Rows
theorem BW {wi hi:Int}{hs:List Int}{ks:List Nat}{z:Str}(R:gJ wi hi hs ks z):rowB wi hi hs ks (.str z)=true:=by
 unfold rowB;dsimp only;rw [decide_eq_true (by rw [lP];exact R.len),Qt,On];intro x hx;obtain ⟨i,hi'⟩:=OS hx;rw [List.getElem?_zipWith] at hi';cases e1:z.cps.toList[i]? with
 | none=>rw [e1] at hi';cases hi'
 | some c=>
   cases e2:(emptyT wi hi hs).cps.toList[i]? with
   | none=>rw [e1,e2] at hi';cases hi'
   | some e=>
     rw [e1,e2] at hi';have hx':fu ks c e=x:=Option.some.inj hi';have ee:e=if (i:Int)∈hs then 35 else 46:=by
      unfold emptyT at e2;have e2:((List.range (wi*hi).toNat).map λ (s:Nat)=>if (s:Int)∈hs then 35 else 46)[i]? =some e:=e2;rw [N3] at e2;cases e3:(List.range (wi*hi).toNat)[i]? with
      | none=>rw [e3] at e2;cases e2
      | some j=>
        rw [e3] at e2;have e2:(if (j:Int)∈hs then 35 else 46)=e:=Option.some.inj e2;have:j=i:=by obtain ⟨h1,h2⟩:=Oe.mp e3;rw [PD] at h2;exact h2.symm
        rw [<-e2,this]
     rw [<-hx',ee];exact R.at_ i c e1
theorem JA {K:Frag}{H:Hp}{n:Nat}{a b:Addr}{z:Str}{i:Int}(ha:H a=some (.tup [.str z,.int i])) (hb:H b=some (.tup [.str z,.int i])):vA K H (n+1) (.ref a) (.ref b) true:=by
 by_cases e:a=b
 ·subst e;exact .same
 ·have h:vA K H (n+1) (.ref a) (.ref b) ((List.range (min 2 2)).all (λ j=>if j=0 then jQ (.str z) (.str z) else jQ (.int i) (.int i))&&2 == 2):=.tup (cJ.of ha) (cJ.of hb) e λ j v v' h1 h2=>by
   match j,h1,h2 with
   | 0,h1,h2=>cases h1;cases h2;exact .flat rfl rfl
   | 1,h1,h2=>cases h1;cases h2;exact .flat rfl rfl
  have e1:jQ (.str z) (.str z)=true:=decide_eq_true rfl;have e2:jQ (.int i) (.int i)=true:=decide_eq_true rfl;have ee:((List.range (min 2 2)).all (λ j=>if j=0 then jQ (.str z) (.str z) else jQ (.int i) (.int i))&&2 == 2)=true:=by show ((if 0=0 then jQ (.str z) (.str z) else jQ (.int i) (.int i))&&((if 1=0 then jQ (.str z) (.str z) else jQ (.int i) (.int i))&&true)&&true)=true;rw [e1,e2];rfl
  rwa [ee] at h
def jp (H:Hp) (ps:List ((Str×Int)×Addr)):Prop:= ∀p∈ps,H p.2=some (.tup [.str p.1.1,.int p.1.2])
theorem jp.same {H H':Hp}{ps:List ((Str×Int)×Addr)}(h:jp H ps) (s:aj H H'):jp H' ps:=λ p hp=>s _ _ (h p hp)
theorem vh {K:Frag}{H:Hp}{n:Nat}{q d:Addr}{ps ps':List ((Str×Int)×Addr)}(hq:aK K H q (plRefs ps)) (hd:aK K H d (plRefs ps')) (e:ps.map (·.1)=ps'.map (·.1)) (h1:jp H ps) (h2:jp H ps'):rj K H (n+2) (.ref q) (.ref d) true:=by
 have hl:ps.length=ps'.length:=by have:=congrArg List.length e;rwa [NZ,NZ] at this
 have z:=rj.lst (n:=n+1) (es:=λ _=>true) hq hd (by rw [NZ,NZ];exact hl) (λ i x y hx hy=>by
  have i1:i<ps.length:=by have:=(Oe.mp hx).1;rwa [NZ] at this
  have i2:i<ps'.length:=by lia
  rw [N3,N2 i1] at hx;rw [N3,N2 i2] at hy;cases hx;cases hy;have ek:ps[i].1=ps'[i].1:=by
   have a:(ps.map (·.1))[i]? =some ps[i].1:=by rw [N3,N2 i1];rfl
   have b:(ps'.map (·.1))[i]? =some ps'[i].1:=by rw [N3,N2 i2];rfl
   rw [e,b] at a;exact (Option.some.inj a).symm
  have g1:=h1 _ (Of i1);rw [ek] at g1;exact JA g1 (h2 _ (Of i2)))
 rw [show ((List.range (plRefs ps).length).all λ _=>true)=true from On.mpr λ _ _=>rfl] at z;exact z
theorem Me {H:Hp}{a:Addr}{z:Str}{i:Int}(h:H a=some (.tup [.str z,.int i])) (hz:z.length<=1000):iV H 1 (.ref a):=by
 refine iV.tup h λ y hy=>?_;simp only [N1,Od,or_false] at hy
 rcases hy with rfl | rfl
 ·exact iV.flat hz rfl
 ·exact iV.flat trivial rfl
theorem uf.rows {wi hi:Int}{hs:List Int}{ks:List Nat}{row:Str}{us:List (aI×Addr)}{ts es:List ((Str×Str)×Addr)}{sd:Int}{ls:List (Str×Int)}(w1:1<=wi) (R:gJ wi hi hs ks row) (hl:∀k∈ks,jV k) (tg:lZ ks ts) (rl:(row.length:Int)=wi*hi) (h:uf wi hi hs row us ts es sd ls):∀y∈ls,gJ wi hi hs ks y.1/\y.2=1 - sd:=λ y hy=>by
 rcases h with ⟨_,rfl⟩ | ⟨_,m,hm,_,rfl⟩
 ·cases hy
 ·obtain ⟨k,hk,rfl⟩:=N0.mp hy;obtain ⟨s,gl,t,rfl,ok⟩:=hm.ok w1 (λ s hs=>im hs) k hk;refine ⟨?_,rfl⟩;have hsd:cr (row.cps.toList.getD s.toNat 0)=.int sd:=ok.sd;have hlt:s.toNat<row.cps.toList.length:=by have:row.length=row.cps.toList.length:=rfl;have:=ok.s0;have:=ok.s1;lia
  have e:row.cps.toList[s.toNat]? =some (row.cps.toList.getD s.toNat 0):=by rw [N8,N2 hlt];rfl
  have ca:=R.at_ _ _ e;rw [show ((s.toNat:Nat):Int)=s by have:=ok.s0;lia] at ca
  rcases fo ca with ⟨_,h⟩ | ⟨sn,h | h⟩
  ·rw [h] at hsd;cases hsd
  ·rw [h] at hsd;cases hsd
  ·exact C0 R hl tg rl h sn ok
def nw (K:Frag) (cB cG:Addr):Sp:=λ vs H Q _=> ∃(g b kq p:Addr) (row:Str) (sd wi hi:Int) (hs:List Int) (ks:List Nat) (us:List (aI×Addr)) (ts es:List ((Str×Str)×Addr)) (st:Str),vs=[.ref g,.ref p]/\gq K cB cG H g b kq wi hi hs ks us ts es st/\cJ K H p [.str row,.int sd]/\gJ wi hi hs ks row/\(sd=0\/sd=1)/\∀H',aj H H'->Q (.bl true) H'
structure CD4 (P:Program) (w:World) (K:Frag) (mg:Str->Option Value) (base:Heap) (cB cG:Addr):Prop where
 ending:cj P w K mg base "ending" ["game","place"] 7 (pT K cB cG)
 moves:cj P w K mg base "moves" ["game","place"] 6 (kE K cB cG)
 _law_behind:cj P w K mg base "_law_behind" ["_law_game_here","_law_place","_law_move"] 1 (iX K cB cG)
structure CD5 (P:Program) (w:World) (K:Frag) (mg:Str->Option Value) (base:Heap) (cB cG:Addr):Prop where
 _law_due:cj P w K mg base "_law_due" ["_law_game_here","_law_place"] 8 (jx K cB cG)
 followers:cj P w K mg base "followers" ["game","place"] 7 (jx K cB cG)
 is_place:cj P w K mg base "is_place" ["game","thing"] 6 (pL K cB cG)
theorem My {K:Frag}{x:V}{H:Hp}{Q:VK}(q:Q (.bl (!decide (x=.non))) H):eA K .IsNot x .non H Q:=by cases x<;>exact q
end L2
seal L2.PE L2.PT L2.PA L2.PS L2.vy L2.PG L2.JY L2.PI L2.PO L2.rc L2.PW L2.aY L2.pC L2.iJ L2.NU L2.vz L2.wZ
namespace L2
open PySem PySem.Spec PyProof.Rows
section
variable {P:Program}{w:World}{K:Frag}{mg:Str->Option Value}{base:Heap}
end
theorem Bp {α:Type}{xs:List α}{i:Int}(h0:0<=i) (h1:i<xs.length):∃v,ke xs i=some v/\xs[i.toNat]? =some v:=by
 have hx:xs[i.toNat]? =some (xs[i.toNat]'(by lia)):=N2 (by lia);refine ⟨_,?_,hx⟩;have e:i=((i.toNat:Nat):Int):=by lia
 have:=bn hx;rw [<-e] at this;exact this
end L2
namespace K18
open PySem L2
def bb (i:Nat):Stmt:=PySem.Challenge.pw_playboard_k18_followers.main.body.getD i (.Pass ⟨0,0,0,0⟩)
abbrev eU:Stmt:=bb 5
theorem pY:az ["thing"] ["thing"] (ak eU):=dk
abbrev dI:Stmt:=bb 6
theorem nH:az ["thing"] ["thing"] (ak dI):=dk
abbrev eX:Stmt:=bb 7
theorem qa:az ["thing","least","most"] ["thing","least","most"] (ak eX):=dk
abbrev fP:Stmt:=bb 16
theorem rQ:az ["thing","words"] ["thing","words"] (ak fP):=dk
abbrev cK:Stmt:=bb 17
theorem k3:az ["thing","many"] ["thing","many"] (ak cK):=dk
abbrev db:Stmt:=bb 18
theorem l8:az ["thing","least","most"] ["thing","least","most"] (ak db):=dk
abbrev fQ:Stmt:=bb 19
theorem k5:az ["sort","across","up","longest"] ["sort","across","up"] (ak fQ):=dk
abbrev fR:Stmt:=bb 20
theorem iM:az ["thing","kinds","sort","aim"] ["thing","kinds"] (ak fR):=dk
abbrev fS:Stmt:=bb 21
theorem rR:az ["thing","firsts","seconds"] ["thing","firsts","seconds"] (ak fS):=dk
abbrev cW:Stmt:=bb 22
theorem nN:az ["thing","firsts","seconds"] ["thing","firsts","seconds"] (ak cW):=dk
abbrev cQ:Stmt:=bb 23
theorem j2:az ["thing","kinds","firsts"] ["thing","kinds"] (ak cQ):=dk
abbrev fU:Stmt:=bb 24
theorem rS:az ["thing","kinds"] ["thing","kinds"] (ak fU):=dk
abbrev cX:Stmt:=bb 25
theorem nO:az ["thing"] ["thing"] (ak cX):=dk
abbrev cV:Stmt:=bb 26
theorem nM:az ["thing","kinds"] ["thing","kinds"] (ak cV):=dk
abbrev fM:Stmt:=bb 30
theorem rN:az ["kind","side"] ["kind","side"] (ak fM):=dk
abbrev fO:Stmt:=bb 31
theorem rP:az ["sign"] ["sign"] (ak fO):=dk
abbrev fN:Stmt:=bb 32
theorem rO:az ["sign"] ["sign"] (ak fN):=dk
abbrev cU:Stmt:=bb 33
theorem nJ:az ["board"] ["board"] (ak cU):=dk
abbrev qf:Stmt:=bb 34
theorem IF:az ["row","square","sign"] ["row","square","sign"] (ak qf):=dk
abbrev cz:Stmt:=bb 35
theorem l7:az ["row","side"] ["row","side"] (ak cz):=dk
abbrev eV:Stmt:=bb 36
theorem jA:az ["game","thing","bare","signs"] ["game","thing"] (ak eV):=dk
abbrev eW:Stmt:=bb 37
theorem pZ:az ["game","thing"] ["game","thing"] (ak eW):=dk
abbrev qd:Stmt:=bb 39
theorem nG:az ["board","square","across","up","come_to","here"] ["board","square","across","up"] (ak qd):=dk
abbrev ld:Stmt:=bb 42
theorem kF:az ["row","side","aim","path","found","goal","owner"] ["row","side","aim","path"] (ak ld):=dk
abbrev gW:Stmt:=bb 43
theorem vQ:az ["row","side","path"] ["row","side","path"] (ak gW):=dk
abbrev fV:Stmt:=bb 44
theorem iN:az ["board","row","square","rule","side","path"] ["board","row","square","rule"] (ak fV):=dk
abbrev i9:Stmt:=bb 45
theorem lb:az ["game","row","square","found","rule"] ["game","row","square"] (ak i9):=dk
abbrev dJ:Stmt:=bb 47
theorem nK:az ["wide","square"] ["wide","square"] (ak dJ):=dk
abbrev gU:Stmt:=bb 48
theorem vP:az ["wide","square"] ["wide","square"] (ak gU):=dk
abbrev dH:Stmt:=bb 49
theorem nF:az ["wide","column","row"] ["wide","column","row"] (ak dH):=dk
abbrev ip:Stmt:=bb 51
theorem i6:az ["game","place","row","found","start"] ["game","place"] (ak ip):=dk
abbrev fX:Stmt:=bb 52
theorem rT:az ["game","sign","side","goal"] ["game","sign","side","goal"] (ak fX):=dk
abbrev gZ:Stmt:=bb 53
theorem cS:az ["game","place","move","side","start","goal","taken","sign","row"] ["game","place","move"] (ak gZ):=dk
abbrev eY:Stmt:=bb 55
theorem qb:az ["row","kind","side"] ["row","kind","side"] (ak eY):=dk
abbrev fT:Stmt:=bb 56
theorem la:az ["board","row","kind","side","start"] ["board","row","kind","side"] (ak fT):=dk
abbrev gY:Stmt:=bb 57
theorem cR:az ["board","place","end","row","side","kind","lost","won"] ["board","place","end"] (ak gY):=dk
abbrev fW:Stmt:=bb 58
theorem iO:az ["game","place","end","word"] ["game","place"] (ak fW):=dk
abbrev gX:Stmt:=bb 59
theorem mF:az ["game","place","word"] ["game","place"] (ak gX):=dk
abbrev cT:Stmt:=bb 60
theorem nI:az ["game","place"] ["game","place"] (ak cT):=dk
abbrev cY:Stmt:=bb 63
theorem nP:az ["thing","many"] ["thing","many"] (ak cY):=dk
abbrev bH:Stmt:=fB (bb 64) 0
theorem i7:az ["self","wide","high","holes"] ["self","wide","high","holes"] (ak bH):=dk
abbrev dO:Stmt:=fB (bb 64) 1
theorem nQ:az ["self","square"] ["self","square"] (ak dO):=dk
abbrev gC:Stmt:=fB (bb 64) 2
abbrev cN:Stmt:=fB (bb 64) 3
theorem da:az ["self","square","across","up","column","row","goal"] ["self","square","across","up"] (ak cN):=dk
abbrev cg:Stmt:=fB (bb 64) 4
theorem jD:az ["self","side"] ["self","side"] (ak cg):=dk
abbrev cf:Stmt:=fB (bb 66) 0
theorem jC:az ["self","board","kinds","rules","turns","ends","stuck"] ["self","board","kinds","rules","turns","ends","stuck"] (ak cf):=dk
abbrev bN:Stmt:=fB (bb 66) 1
theorem jB:az ["self","kind"] ["self","kind"] (ak bN):=dk
abbrev cM:Stmt:=fB (bb 66) 2
theorem lc:az ["self","kind"] ["self","kind"] (ak cM):=dk
abbrev cu:Stmt:=bb 68
theorem kh:az ["_law_script","_law_k"] ["_law_script","_law_k"] (ak cu):=dk
abbrev dc:Stmt:=bb 69
theorem l9:az ["_law_cell","_law_k"] ["_law_cell","_law_k"] (ak dc):=dk
abbrev de:Stmt:=bb 70
theorem bj:az ["_law_script","_law_cell","_law_wide","_law_high","_law_holes","_law_k","_law_hole"] ["_law_script"] (ak de):=dk
abbrev cC:Stmt:=bb 71
theorem fE:az ["_law_cell","_law_letters","_law_step"] ["_law_cell"] (ak cC):=dk
abbrev dL:Stmt:=bb 72
theorem bx:az ["_law_cell","_law_kinds_here","_law_more","_law_sort","_law_aim","_law_reach","_law_across","_law_up"] ["_law_cell","_law_kinds_here"] (ak dL):=dk
abbrev cA:Stmt:=bb 73
theorem dD:az ["_law_cell","_law_kinds_here","_law_many","_law_other","_law_turns_here"] ["_law_cell","_law_kinds_here"] (ak cA):=dk
abbrev dN:Stmt:=bb 74
theorem aT:az ["_law_script","_law_wide","_law_high","_law_holes","_law_kinds_here","_law_cell","_law_rules","_law_k","_law_turns_here","_law_ends","_law_more","_law_stuck"] ["_law_script"] (ak dN):=dk
abbrev bZ:Stmt:=bb 75
theorem bh:az ["_law_script","_law_game_here","_law_start","_law_size","_law_free","_law_signs","_law_cell","_law_cells","_law_spots","_law_k","_law_square","_law_more","_law_kind"] ["_law_script","_law_game_here","_law_start"] (ak bZ):=dk
abbrev cL:Stmt:=bb 76
theorem bJ:az ["_law_game_here","_law_place","_law_move","_law_start","_law_goal","_law_taken","_law_kind","_law_signs"] ["_law_game_here","_law_place","_law_move"] (ak cL):=dk
abbrev dz:Stmt:=bb 77
theorem qc:az ["_law_game_here","_law_place"] ["_law_game_here","_law_place"] (ak dz):=dk
abbrev dM:Stmt:=bb 78
theorem c8:az ["_law_game_here","_law_place","_law_due_here","_law_found","_law_one","_law_kept"] ["_law_game_here","_law_place"] (ak dM):=dk
abbrev i8:Stmt:=bb 79
theorem gT:az ["_law_script","_law_game_here","_law_first","_law_place","_law_k","_law_cell","_law_found"] ["_law_script"] (ak i8):=dk
structure Txt (mg:Str->Option Value) (aS aA aE aW:Addr):Prop where
 isinstance:mg "isinstance"=none
 int:mg "int"=none
 bool:mg "bool"=none
 str:mg "str"=none
 list:mg "list"=none
 tuple:mg "tuple"=none
 len:mg "len"=none
 range:mg "range"=none
 all:mg "all"=none
 any:mg "any"=none
 set:mg "set"=none
 dict:mg "dict"=none
 sorted:mg "sorted"=none
 min:mg "min"=none
 enumerate:mg "enumerate"=none
 zip:mg "zip"=none
 NOTHING:∃u,mg "NOTHING"=some u/\aL (.int (-1)) u
 EMPTY:∃u,mg "EMPTY"=some u/\aL (.str ".") u
 HOLE:∃u,mg "HOLE"=some u/\aL (.str "#") u
 MOST_PAIRS:∃u,mg "MOST_PAIRS"=some u/\aL (.int 6) u
 MOST_KINDS:∃u,mg "MOST_KINDS"=some u/\aL (.int 6) u
 MOST_RULES:∃u,mg "MOST_RULES"=some u/\aL (.int 24) u
 LONGEST:∃u,mg "LONGEST"=some u/\aL (.int 8) u
 SORTS:∃u,mg "SORTS"=some u/\aL (.ref aS) u
 AIMS:∃u,mg "AIMS"=some u/\aL (.ref aA) u
 END_WORDS:∃u,mg "END_WORDS"=some u/\aL (.ref aE) u
 STUCK_WORDS:∃u,mg "STUCK_WORDS"=some u/\aL (.ref aW) u
section
variable {P:Program}{w:World}{K:Frag}{mg:Str->Option Value}{base:Heap}{aS aA aE aW:Addr}
theorem qk {f:Addr}{fd:FuncData}(F:bi K "is_whole" "is_whole" eU f fd) (T:Txt mg aS aA aE aW):aQ P w K mg base cE 1 f fd ["thing"] kR:=by
 refine F.ok pY (λ vs H Q E h=>?_) (λ cdv A outer s H vs Q E hr h=>?_)
 ·obtain ⟨v,rfl,_⟩:=h;rfl
 ·obtain ⟨v,rfl,t,q⟩:=h;refine ⟨_,(ah (aw (cI (Cl .int T.isinstance T.int Bn (cv 0)) (dh (tP (Cl .bool T.isinstance T.bool CU (cv 0))))))),?_⟩;show ce _ _ [some v] H;refine aG (cx (lM (ad rfl) t) (λ _=>tz (lM (ad rfl) t))) ?_;rw [zn t];exact q
theorem qo {f:Addr}{fd:FuncData}(F:bi K "is_among" "is_among" eX f fd) (T:Txt mg aS aA aE aW) (C:RG0 P w K mg base):aQ P w K mg base cE 2 f fd ["thing","least","most"] gR:=by
 refine F.ok qa (λ vs H Q E h=>?_) (λ cdv A outer s H vs Q E hr h=>?_)
 ·obtain ⟨v,a,b,rfl,_⟩:=h;rfl
 ·obtain ⟨v,a,b,rfl,t,q⟩:=h;have hu:=bA hr;refine ⟨_,(ah (aw (cI (aB C.is_whole hr (av (cv 0) pa_nil)) (dh (sX K hu (cv 1) (cv 0) (cv 2)))))),?_⟩;show ce _ _ [some v,oJ a,oJ b] H;have hc:=aC (sp:=kR) (σ:=[some v,oJ a,oJ b]) (H:=H) (aa (ad (n:=0) rfl) ao) (λ Q q=>⟨v,rfl,t,q⟩);cases v with
  | int i=>exact aG (cx hc (λ _=>vf (ad rfl) (ad rfl) (λ _=>ad rfl))) q
  | _=>exact aG (cx (b:=false) hc (λ h=>by cases h)) q
theorem sB {f:Addr}{fd:FuncData}(F:bi K "is_word" "is_word" fP f fd) (T:Txt mg aS aA aE aW):aQ P w K mg base cE 1 f fd ["thing","words"] (io K):=by
 refine F.ok rQ (λ vs H Q E h=>?_) (λ cdv A outer s H vs Q E hr h=>?_)
 ·obtain ⟨v,d,ws,rfl,_⟩:=h;rfl
 ·obtain ⟨v,d,ws,rfl,t,hw,q⟩:=h;have hu:=bA hr;refine ⟨_,(ah (aw (cI (Cl .str T.isinstance T.str t6 (cv 0)) (dh (iA K hu (cv 0) (cv 1)))))),?_⟩;show ce _ _ [some v,oR d] H;have hs:=lM (T:=.str) (te:=gG 0) (σ:=[some v,oR d]) (ad rfl) t;rw [rB t] at hs;cases v with
  | str z=>exact aG (cx hs (λ _=>tG (ad rfl) (ad rfl) hw)) q
  | _=>exact aG (cx (b:=false) hs (λ h=>by cases h)) q
theorem lm {f:Addr}{fd:FuncData}(F:bi K "is_tuple_of" "is_tuple_of" cK f fd) (T:Txt mg aS aA aE aW):aQ P w K mg base cE 1 f fd ["thing","many"] gQ:=by
 refine F.ok k3 (λ vs H Q E h=>?_) (λ cdv A outer s H vs Q E hr h=>?_)
 ·obtain ⟨v,n,rfl,_⟩:=h;rfl
 ·obtain ⟨v,n,rfl,t,q⟩:=h;have hu:=bA hr;refine ⟨_,(ah (aw (cI (Cl .tuple T.isinstance T.tuple Bm (cv 0)) (dh (iA K hu (kB (gc K) bK T.len (av (cv 0) pa_nil)) (cv 1)))))),?_⟩;show ce _ _ [some v,oJ n] H;have hs:=lM (T:=.tuple) (te:=gG 0) (σ:=[some v,oJ n]) (ad rfl) t;rw [Ii t] at hs;unfold tupB at q;cases e:tupOf H v with
  | none=>
    rw [e] at hs q;exact aG (cx (b:=false) hs (λ h=>by cases h)) q
  | some xs=>
    rw [e] at hs q;obtain ⟨a,rfl,ha⟩:=eQ e;exact aG (cx hs (λ _=>gE (cH (ad rfl) (.inr (cJ.of ha))) (ad rfl))) q
theorem md {f:Addr}{fd:FuncData}(F:bi K "is_list_of" "is_list_of" db f fd) (T:Txt mg aS aA aE aW):aQ P w K mg base cE 1 f fd ["thing","least","most"] nv:=by
 refine F.ok l8 (λ vs H Q E h=>?_) (λ cdv A outer s H vs Q E hr h=>?_)
 ·obtain ⟨v,a,b,rfl,_⟩:=h;rfl
 ·obtain ⟨v,a,b,rfl,t,q⟩:=h;have hu:=bA hr;refine ⟨_,(ah (aw (cI (Cl .list T.isinstance T.list eO (cv 0)) (dh (sX K hu (cv 1) (kB (gc K) bK T.len (av (cv 0) pa_nil)) (cv 2)))))),?_⟩;show ce _ _ [some v,oJ a,oJ b] H;have hs:=lM (T:=.list) (te:=gG 0) (σ:=[some v,oJ a,oJ b]) (ad rfl) t;rw [Jd t] at hs;unfold jL at q;cases e:lstOf H v with
  | none=>
    rw [e] at hs q;exact aG (cx (b:=false) hs (λ h=>by cases h)) q
  | some xs=>
    rw [e] at hs q;obtain ⟨d,rfl,hd⟩:=fj e;exact aG (cx hs (λ _=>vf (ad rfl) (cH (ad rfl) (.inl (aK.of hd))) (λ _=>ad rfl))) q
theorem sC {f:Addr}{fd:FuncData}(F:bi K "is_step" "is_step" fQ f fd) (T:Txt mg aS aA aE aW) (C:RG1 P w K mg base):aQ P w K mg base cE 3 f fd ["sort","across","up"] um:=by
 refine F.ok k5 (λ vs H Q E h=>?_) (λ cdv A outer s H vs Q E hr h=>?_)
 ·obtain ⟨so,x,y,rfl,_⟩:=h;rfl
 ·obtain ⟨so,x,y,rfl,tx,ty,q⟩:=h;have hu:=bA hr;refine ⟨_,(ae (ay (i:=3) k5.nd rfl (Or.inl rfl) (cw (aU K hu (cv 0) bC) af af))
   (ae (aV (PW.pt (gD (bz (bm (aB C.is_among hr (av (cv 1) (av (tQ (cv 3)) (av (cv 3) pa_nil)))))) (fc (bz (bm (aB C.is_among hr (av (cv 2) (av (tQ (cv 3)) (av (cv 3) pa_nil))))))))) (ah (aw fA)) aD)
   (ah (aw (MY (iA K hu (cv 1) af) (dh (iA K hu (cv 2) af))))))),?_⟩
  show ba _ _ _ [oT so,some x,some y,none] H;refine aJ (v:=.int (limS so)) (λ Q q=>?_) ?_
  ·refine qL (j9 (aZ (fI (ad rfl) al)) (λ _=>al) (λ _=>al)) ?_;unfold limS at q
   by_cases h:so="leap"
   ·rw [if_pos h] at q;rw [decide_eq_true h];exact q
   ·rw [if_neg h] at q;rw [decide_eq_false h];exact q
  unfold jZ at q;generalize limS so=l at q ⊢;refine bf (gM (bX (aZ (aC (aa (ad rfl) (aa (tF (ad rfl)) (aa (ad rfl) ao))) (λ Q q=>⟨x, -l,l,rfl,tx,q⟩)))) (λ _=>bX (aZ (aC (aa (ad rfl) (aa (tF (ad rfl)) (aa (ad rfl) ao))) (λ Q q=>⟨y, -l,l,rfl,ty,q⟩))))) (λ h=>?_) (λ h=>?_)
  ·refine aG al ?_;have e:(amongB x (-l) l&&amongB y (-l) l&& !(decide (x=.int 0)&&decide (y=.int 0)))=false:=by cases h1:amongB x (-l) l<;>cases h2:amongB y (-l) l<;>simp_all
   rw [e] at q;exact q
  ·have h1:amongB x (-l) l=true:=by cases h1:amongB x (-l) l<;>simp_all
   have h2:amongB y (-l) l=true:=by cases h2:amongB y (-l) l<;>simp_all
   cases x with
   | int i=>
     cases y with
     | int j=>
       refine aG (MP (lJ (ad rfl) al) (λ _=>lJ (ad rfl) al)) ?_;rw [h1,h2] at q;have ei:∀k:Int,decide (V.int k=V.int 0)=decide (k=0):=λ k=>by
        by_cases e:k=0
        ·rw [decide_eq_true e,decide_eq_true (congrArg V.int e)]
        ·rw [decide_eq_false e,decide_eq_false (λ z=>e (by injection z))]
       rw [ei,ei] at q;have e:(true&&true&& !(decide (i=0)&&decide (j=0)))=(!decide (i=0)|| !decide (j=0)):=by cases decide (i=0)<;>cases decide (j=0)<;>rfl
       rw [e] at q;exact q
     | _=>cases h2
   | _=>cases h1
theorem sE {f:Addr}{fd:FuncData}(F:bi K "is_pair" "is_pair" fS f fd) (T:Txt mg aS aA aE aW) (C:RG2 P w K mg base):aQ P w K mg base cE 2 f fd ["thing","firsts","seconds"] (uq K):=by
 refine F.ok rR (λ vs H Q E h=>?_) (λ cdv A outer s H vs Q E hr h=>?_)
 ·obtain ⟨v,d,e,A,B,rfl,_⟩:=h;rfl
 ·obtain ⟨v,d,e,A,B,rfl,t,hA,hB,q⟩:=h;have hu:=bA hr;refine ⟨_,(ah (aw (cI (aB C.is_tuple_of hr (av (cv 0) (av af pa_nil))) (cI (aB C.is_word hr (av (ci K (cv 0) af) (av (cv 1) pa_nil))) (dh (aB C.is_word hr (av (ci K (cv 0) af) (av (cv 2) pa_nil)))))))),?_⟩;show ce _ _ [some v,oR d,oR e] H;have hc:=aC (sp:=gQ) (σ:=[some v,oR d,oR e]) (H:=H) (x:=.bl (tupB H v 2)) (aa (ad (n:=0) rfl) (aa (al (x:=.int 2)) ao)) (λ Q q=>⟨v,2,rfl,t.thg,q⟩);unfold dj at q;unfold tupB at hc;cases e1:tupOf H v with
  | none=>
    rw [e1] at hc q;exact aG (cx (b:=false) hc (λ h=>by cases h)) q
  | some xs=>
    rw [e1] at hc q;obtain ⟨a,rfl,ha⟩:=eQ e1;have tx:=t.2 xs (.inl e1)
    by_cases hl:(xs.length:Int)=2
    ·match xs,hl,e1,ha,tx,q,hc with
     | [x,y],_,e1,ha,tx,q,hc=>
       exact aG (cx hc (λ _=>cx (aC (aa (aN (ad rfl) al (.inr (cJ.of ha)) (bn (j:=0) rfl)) (aa (ad rfl) ao)) (λ Q q=>⟨x,d,A,rfl,tx x (by simp),hA,q⟩))
        (λ _=>aC (aa (aN (ad rfl) al (.inr (cJ.of ha)) (bn (j:=1) rfl)) (aa (ad rfl) ao)) (λ Q q=>⟨y,e,B,rfl,tx y (by simp),hB,q⟩)))) q
    ·have e2:qj xs A B=false:=by
      unfold qj;split
      ·exact absurd rfl hl
      ·rfl
     have hc2:Ev (fC gQ (bo (gG 0) (bo (tC (.int 2)) cZ))) [some (.ref a),some (.ref d),some (.ref e)] H (.bl (decide ((xs.length:Int)=2))):=hc;rw [decide_eq_false hl] at hc2;have q2:Q (.bl (qj xs A B)) H:=q;rw [e2] at q2;exact aG (cx (b:=false) hc2 (λ h=>by cases h)) q2
theorem sD {f:Addr}{fd:FuncData}(F:bi K "is_rule" "is_rule" fR f fd) (T:Txt mg aS aA aE aW) (hS:∀H,gH K H aS sortsL) (hA:∀H,gH K H aA aimsL) (C:RG3 P w K mg base):aQ P w K mg base cE 4 f fd ["thing","kinds"] (uo K):=by
 refine F.ok iM (λ vs H Q E h=>?_) (λ cdv A outer s H vs Q E hr h=>?_)
 ·obtain ⟨v,d,ws,rfl,_⟩:=h;rfl
 ·obtain ⟨v,d,ws,rfl,t,hw,q⟩:=h;have hu:=bA hr;refine ⟨_,(ae (aV (PW.pt (gD (bz (bm (aB C.is_tuple_of hr (av (cv 0) (av af pa_nil))))) (fc (bz (bm (aB C.is_word hr (av (ci K (cv 0) af) (av (cv 1) pa_nil)))))))) (ah (aw fA)) aD)
   (ae (ay (i:=2) iM.nd rfl (Or.inl rfl) (ci K (cv 0) af))
   (ae (ay (i:=3) iM.nd rfl (Or.inl rfl) (ci K (cv 0) af))
   (ae (aV (PW.pt (gD (bz (bm (aB C.is_word hr (av (cv 2) (av (kg T.SORTS) pa_nil))))) (fc (bz (bm (aB C.is_word hr (av (cv 3) (av (kg T.AIMS) pa_nil)))))))) (ah (aw fA)) aD)
   (ae (aV (PW.pt (jE (aU K hu (cv 2) bC) (iq (aU K hu (cv 3) bC)))) (ah (aw fA)) aD)
   (ah (aw (aB C.is_step hr (av (cv 2) (av (ci K (cv 0) af) (av (ci K (cv 0) af) pa_nil))))))))))),?_⟩
  show ba _ _ _ [some v,oR d,none,none] H;have rb:tupB H v 5=false->df H v ws=false:=λ h=>by
   unfold tupB at h;unfold df;cases e1:tupOf H v with
   | none=>rfl
   | some xs=>
     rw [e1] at h;have h:¬(xs.length:Int)=5:=of_decide_eq_false h;show iD xs ws=false;unfold iD;split
     ·exact absurd rfl h
     ·rfl
  cases hb0:tupB H v 5 with
  | false=>
    rw [rb hb0] at q;refine bf (gM (b:=false) (bX (aZ (aC (sp:=gQ) (x:=.bl (tupB H v 5)) (aa (ad rfl) (aa al ao)) (λ Q q=>⟨v,5,rfl,t.thg,q⟩)))) (λ h=>?_)) (λ _=>aG al q) (λ h=>?_)
    ·rw [hb0] at h;cases h
    ·rw [hb0] at h;cases h
  | true=>
    obtain ⟨xs,e1,hl⟩:∃xs,tupOf H v=some xs/\(xs.length:Int)=5:=by
     unfold tupB at hb0;cases e1:tupOf H v with
     | none=>rw [e1] at hb0;cases hb0
     | some xs=>rw [e1] at hb0;exact ⟨xs,rfl,of_decide_eq_true hb0⟩
    unfold df at q;rw [e1] at q;have q:Q (.bl (iD xs ws)) H:=q;obtain ⟨a,rfl,ha⟩:=eQ e1;have tx:=t.2 xs (.inl e1)
    match xs,hl,e1,ha,tx,q with
    | [k,so,ai,x,y],_,e1,ha,tx,q=>
      have hq:cJ K H a [k,so,ai,x,y]:=cJ.of ha;have hb:tupB H (.ref a) 5=true:=by unfold tupB;rw [e1];rfl
      refine bf (gM (bX (aZ (aC (sp:=gQ) (x:=.bl (tupB H (.ref a) 5)) (aa (ad rfl) (aa al ao)) (λ Q q=>⟨.ref a,5,rfl,t.thg,q⟩)))) (λ _=>bX (aZ (aC (sp:=io K) (aa (aN (ad rfl) al (.inr hq) (bn (j:=0) rfl)) (aa (ad rfl) ao)) (λ Q q=>⟨k,d,ws,rfl,tx k (by simp),hw,q⟩))))) (λ h=>?_) (λ h=>?_)
      ·rw [hb] at h;have hk:wordB k ws=false:=by
        cases hk:wordB k ws
        ·rfl
        ·rw [hk] at h;cases h
       refine aG al ?_;have e2:iD [k,so,ai,x,y] ws=false:=by
        unfold iD;split
        ·rename_i z;cases z;rw [hk];simp
        ·rfl
       rw [e2] at q;exact q
      ·rw [hb] at h;have hk:wordB k ws=true:=by
        cases hk:wordB k ws
        ·rw [hk] at h;cases h
        ·rfl
       refine aJ (v:=so) (aN (ad rfl) al (.inr hq) (bn (j:=1) rfl)) ?_;refine aJ (v:=ai) (aN (ad rfl) al (.inr hq) (bn (j:=2) rfl)) ?_;refine bf (gM (bX (aZ (aC (sp:=io K) (aa (ad rfl) (aa al ao)) (λ Q q=>⟨so,aS,sortsL,rfl,tx so (by simp),hS H,q⟩)))) (λ _=>bX (aZ (aC (sp:=io K) (aa (ad rfl) (aa al ao)) (λ Q q=>⟨ai,aA,aimsL,rfl,tx ai (by simp),hA H,q⟩))))) (λ h=>?_) (λ h=>?_)
       ·refine aG al ?_;have e2:iD [k,so,ai,x,y] ws=false:=by
         unfold iD;split
         ·rename_i k' so' ai' x' y' z;cases z;have h:(!decide (so'∈sortsL)|| !decide (ai'∈aimsL))=true:=h
          cases h1:decide (so'∈sortsL)<;>cases h2:decide (ai'∈aimsL)<;>simp_all
         ·rfl
        rw [e2] at q;exact q
       ·have h1:wordB so sortsL=true:=by cases h1:wordB so sortsL<;>simp_all
        have h2:wordB ai aimsL=true:=by cases h2:wordB ai aimsL<;>simp_all
        cases so with
        | str so=>
          cases ai with
          | str ai=>
            have h1:decide (so∈sortsL)=true:=h1;have h2:decide (ai∈aimsL)=true:=h2;have eR:iD [k,.str so,.str ai,x,y] ws=(!(decide (so="jump")&& !decide (ai="hit"))&&jZ so x y):=by show (wordB k ws&&decide (so∈sortsL)&&decide (ai∈aimsL)&& !(decide (so="jump")&& !decide (ai="hit"))&&jZ so x y)=_;rw [hk,h1,h2];simp
            rw [eR] at q;refine bf (kO (aZ (fI (ad rfl) al)) (λ _=>aZ (tE (ad rfl) al))) (λ h=>?_) (λ h=>?_)
            ·refine aG al ?_;rw [h] at q;exact q
            ·rw [h] at q;exact cF (aa (ad rfl) (aa (aN (ad rfl) al (.inr hq) (bn (j:=3) rfl)) (aa (aN (ad rfl) al (.inr hq) (bn (j:=4) rfl)) ao))) ⟨so,x,y,rfl,tx x (by simp),tx y (by simp),q⟩
          | _=>cases h2
        | _=>cases h1
theorem oo {f:Addr}{fd:FuncData}(F:bi K "are_pairs" "are_pairs" cW f fd) (T:Txt mg aS aA aE aW) (C:RG4 P w K mg base):aQ P w K mg base cE 3 f fd ["thing","firsts","seconds"] (pM K):=by
 refine F.ok nN (λ vs H Q E h=>?_) (λ cdv A outer s H vs Q E hr h=>?_)
 ·obtain ⟨v,d,e,A,B,rfl,_⟩:=h;rfl
 ·obtain ⟨v,d,e,A,B,rfl,t,hA,hB,q⟩:=h;have hu:=bA hr;refine ⟨_,(ah (aw (cI (aB C.is_list_of hr (av (cv 0) (av af (av (kg T.MOST_PAIRS) pa_nil)))) (dh (kB (AE K) lV T.all (av (dR (bR (N:=["part","firsts","seconds"]) (src:=[none,some 1,some 2]) (ak cW) ["thing","firsts","seconds"]) (qE K (cv 0)) (λ _ _ _=>(aX (i:=0) ["part","firsts","seconds"])) (λ _ _ _=>bu) (λ _ _ _=>(aB C.is_pair hr (av (cv 0) (av (cv 1) (av (cv 2) pa_nil)))))) pa_nil)))))),?_⟩;show ce _ _ [some v,oR d,oR e] H;refine uc (a:=jL H v 0 6) (aC (aa (ad rfl) (aa al (aa al ao))) (λ Q q=>⟨v,0,6,rfl,t.thg,q⟩)) (λ h=>?_) (λ h=>?_)
  ·unfold jL at h;cases e1:lstOf H v with
   | none=>rw [e1] at h;cases h
   | some xs=>
     rw [e1] at h;have h:0<=(xs.length:Int)/\(xs.length:Int)<=6:=of_decide_eq_true h;obtain ⟨a,rfl,ha⟩:=fj e1;have tx:=t.2 xs (.inr e1);refine eM (d:=a) (xs:=xs) (rest:=[oR d,oR e]) (ad rfl) (aK.of ha) (by rw [sizeLine_eq];lia) rfl (λ _=>true) (λ x=>.bl (dj H x A B)) (λ x hx=>cy) (λ x hx _=>?_) (λ p hp=>?_)
     ·exact aC (aa (ad rfl) (aa (ad rfl) (aa (ad rfl) ao))) (λ Q q=>⟨x,d,e,A,B,rfl,tx x hx,hA,hB,q⟩)
     ·refine ⟨xs.map (λ x=>dj H x A B),?_,?_⟩
      ·have e2:(xs.filter λ _=>true).map (λ x=>V.bl (dj H x A B))=(xs.map (λ x=>dj H x A B)).map V.bl:=by rw [Oo.mpr (λ _ _=>rfl),N7];rfl
       rw [<-e2];exact aK.of ag
      ·have k:=q _ ((aj.refl H).upd (o:=.lst ((xs.filter λ _=>true).map (λ x=>V.bl (dj H x A B)))) hp);unfold pairsB at k;rw [e1] at k;have e3:(decide (xs.length<=6)&&xs.all (λ x=>dj H x A B))=(xs.map (λ x=>dj H x A B)).all id:=by rw [decide_eq_true (by lia:xs.length<=6),Pn];rfl
       have k:Q (.bl (decide (xs.length<=6)&&xs.all (λ x=>dj H x A B))) _:=k;rw [e3] at k;exact k
  ·have k:=q H (aj.refl H);have e2:pairsB H v A B=false:=by
    unfold pairsB;unfold jL at h;cases e1:lstOf H v with
    | none=>rfl
    | some xs=>
      rw [e1] at h;have h:¬(0<=(xs.length:Int)/\(xs.length:Int)<=6):=of_decide_eq_false h;show (decide (xs.length<=6)&&_)=false;rw [decide_eq_false (by lia:¬xs.length<=6)];rfl
   rw [e2] at k;exact k
theorem sH {f:Addr}{fd:FuncData}(F:bi K "is_ends" "is_ends" fU f fd) (T:Txt mg aS aA aE aW) (hE:∀H,gH K H aE gF) (C:RG5 P w K mg base):aQ P w K mg base cE 4 f fd ["thing","kinds"] (ux K):=by
 refine F.ok rS (λ vs H Q E h=>?_) (λ cdv A outer s H vs Q E hr h=>?_)
 ·obtain ⟨v,d,ws,rfl,_⟩:=h;rfl
 ·obtain ⟨v,d,ws,rfl,t,hw,q⟩:=h;refine ⟨_,(ah (aw (aB C.are_pairs hr (av (cv 0) (av (kg T.END_WORDS) (av (cv 1) pa_nil)))))),?_⟩;show ce _ _ [some v,oR d] H;exact cF (aa (ad rfl) (aa al (aa (ad rfl) ao))) ⟨v,aE,d,gF,ws,rfl,t,hE H,hw,q⟩
theorem ql {f:Addr}{fd:FuncData}(F:bi K "is_turns" "is_turns" cQ f fd) (T:Txt mg aS aA aE aW) (C:RG5 P w K mg base):aQ P w K mg base cE 4 f fd ["thing","kinds"] (pI K):=by
 refine F.ok j2 (λ vs H Q E h=>?_) (λ cdv A outer s H vs Q E hr h=>?_)
 ·obtain ⟨v,d,ws,rfl,_⟩:=h;rfl
 ·obtain ⟨v,d,ws,rfl,t,hw,q⟩:=h;have hu:=bA hr;refine ⟨_,(ae (aV (bz (bm (aB C.are_pairs hr (av (cv 0) (av (cv 1) (av (cv 1) pa_nil)))))) (ah (aw fA)) aD)
   (ae (ay (i:=2) j2.nd rfl (Or.inr rfl) (dR (bR (N:=["pair"]) (src:=[none]) (ak cQ) ["thing","kinds","firsts"]) (qE K (cv 0)) (λ _ _ _=>(aX (i:=0) ["pair"])) (λ _ _ _=>bu) (λ _ _ _=>(ci K (cv 0) af))))
   (ae (aV (bm (kB (NJ K) JJ T.any (av (dR (bR (N:=["pair","firsts"]) (src:=[none,some 2]) (ak cQ) ["thing","kinds","firsts"]) (qE K (cv 0)) (λ _ _ _=>(aX (i:=0) ["pair","firsts"])) (λ _ _ _=>bu) (λ _ _ _=>(iA K hu (ci K (cv 0) af) (cv 1)))) pa_nil))) (ah (aw fA)) aD)
   (ah (aw (iA K hu (kB lU bK T.len (av (wx (GK K hr) pe T.set (av (cv 2) pa_nil)) pa_nil)) (kB (gc K) bK T.len (av (cv 2) pa_nil)))))))),?_⟩
  show ba _ _ _ [some v,oR d,none] H;refine cp (λ b H'=>b=(!pairsB H v ws ws)/\aj H H') (λ Q q=>jS (aa (ad rfl) (aa (ad rfl) (aa (ad rfl) ao))) ⟨v,d,d,ws,ws,rfl,t,hw,hw,λ H' s=>q _ _ ⟨rfl,s⟩⟩) (λ H1 h=>?_) (λ H1 h=>?_)
  ·obtain ⟨hb,s1⟩:=h;have k:=q H1 s1;have e0:pairsB H v ws ws=false:=by
    cases z:pairsB H v ws ws
    ·rfl
    ·rw [z] at hb;cases hb
   unfold eP at k;rw [e0] at k;exact aG al k
  ·obtain ⟨hb,s1⟩:=h;have e0:pairsB H v ws ws=true:=by
    cases z:pairsB H v ws ws
    ·rw [z] at hb;cases hb
    ·rfl
   unfold eP at q;rw [e0] at q;obtain ⟨xs,e1,l6,hp⟩:=v6 e0;rw [e1] at q;have q:∀H',aj H H'->Q (.bl (!(xs.any λ x=>decide (fL H x∈xs.map (cb H)))&&decide ((xs.map (cb H)).Nodup))) H':=q;obtain ⟨a,rfl,ha⟩:=fj e1;have ha1:=s1 _ _ ha;refine bB (λ u H'=> ∃fq,u=.ref fq/\H' fq=some (.lst ((xs.map (cb H)).map V.str))/\aj H1 H') (λ Q q=>?_) ?_
   ·refine eM (d:=a) (xs:=xs) (rest:=[]) (ad rfl) (aK.of ha1) (by rw [sizeLine_eq];lia) rfl (λ _=>true) (λ x=>.str (cb H x)) (λ x hx=>cy) (λ x hx _=>?_) (λ p hp'=>?_)
    ·obtain ⟨c,f1,f2,rfl,hc⟩:=hp x hx;have e:cb H (.ref c)=f1:=by simp only [cb,tupOf,hc]
     rw [e];exact aN (ad rfl) al (.inr (cJ.of (s1 _ _ hc))) (bn (j:=0) rfl)
    ·have e:(xs.filter λ _=>true).map (λ x=>V.str (cb H x))=(xs.map (cb H)).map V.str:=by rw [Oo.mpr (λ _ _=>rfl),N7];rfl
     rw [e];exact q _ _ ⟨p,rfl,ag,(aj.refl H1).upd hp'⟩
   rintro _ H2 ⟨fq,rfl,hf,s2⟩;have ha2:=s2 _ _ ha1;refine cp (λ b H'=>b=(xs.any λ x=>decide (fL H x∈xs.map (cb H)))/\aj H2 H') (λ Q q=>?_) (λ H3 h=>?_) (λ H3 h=>?_)
   ·refine eM (d:=a) (xs:=xs) (rest:=[oR fq]) (ad rfl) (aK.of ha2) (by rw [sizeLine_eq];lia) rfl (λ _=>true) (λ x=>.bl (decide (fL H x∈xs.map (cb H)))) (λ x hx=>cy) (λ x hx _=>?_) (λ p hp'=>?_)
    ·obtain ⟨c,f1,f2,rfl,hc⟩:=hp x hx;have e:fL H (.ref c)=f2:=by simp only [fL,tupOf,hc]
     rw [e];exact tG (aN (ad rfl) al (.inr (cJ.of (s2 _ _ (s1 _ _ hc)))) (bn (j:=1) rfl)) (ad rfl) (.inl (aK.of hf))
    ·refine ⟨xs.map (λ x=>decide (fL H x∈xs.map (cb H))),?_,?_⟩
     ·have e2:(xs.filter λ _=>true).map (λ x=>V.bl (decide (fL H x∈xs.map (cb H))))=(xs.map (λ x=>decide (fL H x∈xs.map (cb H)))).map V.bl:=by rw [Oo.mpr (λ _ _=>rfl),N7];rfl
      rw [<-e2];exact aK.of ag
     ·have e3:(xs.map (λ x=>decide (fL H x∈xs.map (cb H)))).any id=xs.any λ x=>decide (fL H x∈xs.map (cb H)):=by rw [Pd];rfl
      rw [e3];exact q _ _ ⟨rfl,(aj.refl H2).upd hp'⟩
   ·have k:=q H3 ((s1.trans s2).trans h.2);rw [<-h.1] at k;exact aG al k
   ·have s03:=(s1.trans s2).trans h.2;show ce _ _ [oR a,oR d,oR fq] H3;have hf3:=h.2 _ _ hf;refine Bg (qB (ss:=xs.map (cb H)) (ad rfl) (aK.of hf3) (by rw [NZ];lia) (λ H4 s4=>?_));refine qL (cH (ad rfl) (.inl (aK.of (s4 _ _ hf3)))) ?_;have k:=q H4 (s03.trans s4);rw [<-h.1] at k;have e4:decide ((((jX (xs.map (cb H))).length:Nat):Int)=((((xs.map (cb H)).map V.str).length:Nat):Int))=decide ((xs.map (cb H)).Nodup):=by
     rw [NZ (f:=V.str)]
     by_cases hn:(xs.map (cb H)).Nodup
     ·rw [decide_eq_true hn,decide_eq_true (by rw [(il _).mpr hn])]
     ·rw [decide_eq_false hn,decide_eq_false (λ z=>hn ((il _).mp (by lia)))]
    show Q (.bl (decide ((((jX (xs.map (cb H))).length:Nat):Int)=((((xs.map (cb H)).map V.str).length:Nat):Int)))) H4;rw [e4];exact k
theorem og {f:Addr}{fd:FuncData}(F:bi K "is_letter" "is_letter" dI f fd) (T:Txt mg aS aA aE aW):aQ P w K mg base cE 1 f fd ["thing"] mD:=by
 refine F.ok nH (λ vs H Q E h=>?_) (λ cdv A outer s H vs Q E hr h=>?_)
 ·obtain ⟨v,rfl,_⟩:=h;rfl
 ·obtain ⟨v,rfl,t,q⟩:=h;have hu:=bA hr;refine ⟨_,(ah (aw (cI (Cl .str T.isinstance T.str t6 (cv 0)) (cI (iA K hu (kB (gc K) bK T.len (av (cv 0) pa_nil)) af) (dh (sX K hu bC (cv 0) bC)))))),?_⟩;show ce _ _ [some v] H;have hs:=lM (T:=.str) (te:=gG 0) (σ:=[some v]) (ad rfl) t;rw [rB t] at hs;cases v with
  | str z=>
    refine aG (cx hs (λ _=>cx (gE (oO (ad rfl) (PK (show z.length<=1000 from t) (by decide))) al) (λ _=>CD al (ad rfl) al))) ?_;rw [L8,L7];have e:(true&&(decide ((z.length:Int)=1)&&(!decide (z.cps.toList<[97])&& !decide ([122]<z.cps.toList))))=letB (.str z):=by
     rw [c7]
     match e:z.cps.toList with
     | [c]=>
       simp only [letB,e,Jc];rw [Qq];simp
     | []=>simp only [letB,e];rfl
     | _::_::r=>
       simp only [letB,e];rw [decide_eq_false (by simp only [Oh];lia)];rfl
    have q2:=q;rw [<-e] at q2;exact q2
  | _=>exact aG (cx (b:=false) hs (λ h=>by cases h)) q
theorem oq {f:Addr}{fd:FuncData}(F:bi K "are_kinds" "are_kinds" cX f fd) (T:Txt mg aS aA aE aW) (C:NY P w K mg base):aQ P w K mg base cE 2 f fd ["thing"] pQ:=by
 refine F.ok nO (λ vs H Q E h=>?_) (λ cdv A outer s H vs Q E hr h=>?_)
 ·obtain ⟨v,rfl,_⟩:=h;rfl
 ·obtain ⟨v,rfl,t,q⟩:=h;have hu:=bA hr;refine ⟨_,(ae (aV (PW.pt (gD (bz (bm (aB C.is_list_of hr (av (cv 0) (av af (av (kg T.MOST_KINDS) pa_nil)))))) (fc (bz (bm (kB (AE K) lV T.all (av (dR (bR (N:=["part"]) (src:=[none]) (ak cX) ["thing"]) (qE K (cv 0)) (λ _ _ _=>(aX (i:=0) ["part"])) (λ _ _ _=>bu) (λ _ _ _=>(aB C.is_letter hr (av (cv 0) pa_nil)))) pa_nil))))))) (ah (aw fA)) aD)
   (ah (aw (iA K hu (kB lU bK T.len (av (wx (GK K hr) pe T.set (av (cv 0) pa_nil)) pa_nil)) (kB (gc K) bK T.len (av (cv 0) pa_nil)))))),?_⟩
  show ba _ _ _ [some v] H;have eL:Ev (fC nv (bo (gG 0) (bo (tC (.int 1)) (bo (tC (.int 6)) cZ)))) [some v] H (.bl (jL H v 1 6)):=aC (aa (ad rfl) (aa al (aa al ao))) (λ Q q=>⟨v,1,6,rfl,t.thg,q⟩);unfold lE at q;cases e1:lstOf H v with
  | none=>
    have hb:jL H v 1 6=false:=by unfold jL;rw [e1]
    rw [hb] at eL;rw [e1] at q;refine bf (b:=true) (λ Q q=>bX (aZ eL) _ (hV q)) (λ _=>aG al (q H (aj.refl H))) (λ h=>by cases h)
  | some xs=>
    rw [e1] at q;have q:∀H',aj H H'->Q (.bl (decide (1<=xs.length/\xs.length<=6)&&xs.all letB&&decide ((xs.map gO).Nodup))) H':=q;obtain ⟨a,rfl,ha⟩:=fj e1;have tx:=t.2 xs (.inr e1);have hb:jL H (.ref a) 1 6=decide (1<=xs.length/\xs.length<=6):=by unfold jL;rw [e1];show decide ((1:Int)<=xs.length/\(xs.length:Int)<=6)=_;rw [decide_eq_decide];lia
    rw [hb] at eL
    by_cases hl:1<=xs.length/\xs.length<=6
    ·rw [decide_eq_true hl] at eL q;refine cp (λ b H'=>b=(!xs.all letB)/\aj H H') (λ Q q=>?_) (λ H1 h=>?_) (λ H1 h=>?_)
     ·refine L5 (bX (aZ eL)) ?_;refine eM (d:=a) (xs:=xs) (rest:=[]) (ad rfl) (aK.of ha) (by rw [sizeLine_eq];lia) rfl (λ _=>true) (λ x=>.bl (letB x)) (λ x hx=>cy) (λ x hx _=>?_) (λ p hp=>?_)
      ·exact aC (aa (ad rfl) ao) (λ Q q=>⟨x,rfl,tx x hx,q⟩)
      ·refine ⟨xs.map letB,?_,?_⟩
       ·have e2:(xs.filter λ _=>true).map (λ x=>V.bl (letB x))=(xs.map letB).map V.bl:=by rw [Oo.mpr (λ _ _=>rfl),N7];rfl
        rw [<-e2];exact aK.of ag
       ·have e3:(xs.map letB).all id=xs.all letB:=by rw [Pn];rfl
        rw [e3];exact q _ _ ⟨rfl,(aj.refl H).upd hp⟩
     ·have k:=q H1 h.2;have e0:xs.all letB=false:=by
       cases z:xs.all letB
       ·rfl
       ·rw [z] at h;cases h.1
      rw [e0] at k;exact aG al k
     ·obtain ⟨hq,s1⟩:=h;have e0:xs.all letB=true:=by
       cases z:xs.all letB
       ·rw [z] at hq;cases hq
       ·rfl
      have e5:xs=(xs.map gO).map V.str:=by
       rw [N7];have:∀x∈xs,x=(V.str∘gO) x:=λ x hx=>by obtain ⟨c,rfl,_⟩:=Aw (On.mp e0 x hx);rfl
       exact (List.map_id xs).symm.trans (Ov this)
      have ha1:=s1 _ _ ha;rw [e5] at ha1;show ce _ _ [oR a] H1;refine Bg (qB (ss:=xs.map gO) (ad rfl) (aK.of ha1) (by rw [NZ];lia) (λ H4 s4=>?_));refine qL (cH (ad rfl) (.inl (aK.of (s4 _ _ ha1)))) ?_;have k:=q H4 (s1.trans s4);rw [e0] at k;have e4:decide ((((jX (xs.map gO)).length:Nat):Int)=((((xs.map gO).map V.str).length:Nat):Int))=decide ((xs.map gO).Nodup):=by
       rw [NZ (f:=V.str)]
       by_cases hn:(xs.map gO).Nodup
       ·rw [decide_eq_true hn,decide_eq_true (by rw [(il _).mpr hn])]
       ·rw [decide_eq_false hn,decide_eq_false (λ z=>hn ((il _).mp (by lia)))]
      show Q (.bl (decide ((((jX (xs.map gO)).length:Nat):Int)=((((xs.map gO).map V.str).length:Nat):Int)))) H4;rw [e4];exact k
    ·rw [decide_eq_false hl] at eL q;exact bf (b:=true) (λ Q q=>bX (aZ eL) _ (hV q)) (λ _=>aG al (q H (aj.refl H))) (λ h=>by cases h)
theorem on {f:Addr}{fd:FuncData}(F:bi K "are_rules" "are_rules" cV f fd) (T:Txt mg aS aA aE aW) (C:NY P w K mg base):aQ P w K mg base cE 5 f fd ["thing","kinds"] (pK K):=by
 refine F.ok nM (λ vs H Q E h=>?_) (λ cdv A outer s H vs Q E hr h=>?_)
 ·obtain ⟨v,d,ws,rfl,_⟩:=h;rfl
 ·obtain ⟨v,d,ws,rfl,t,hw,q⟩:=h;have hu:=bA hr;refine ⟨_,(ah (aw (cI (aB C.is_list_of hr (av (cv 0) (av af (av (kg T.MOST_RULES) pa_nil)))) (dh (kB (AE K) lV T.all (av (dR (bR (N:=["part","kinds"]) (src:=[none,some 1]) (ak cV) ["thing","kinds"]) (qE K (cv 0)) (λ _ _ _=>(aX (i:=0) ["part","kinds"])) (λ _ _ _=>bu) (λ _ _ _=>(aB C.is_rule hr (av (cv 0) (av (cv 1) pa_nil))))) pa_nil)))))),?_⟩;show ce _ _ [some v,oR d] H;refine uc (a:=jL H v 0 24) (aC (aa (ad rfl) (aa al (aa al ao))) (λ Q q=>⟨v,0,24,rfl,t.thg,q⟩)) (λ h=>?_) (λ h=>?_)
  ·unfold jL at h;cases e1:lstOf H v with
   | none=>rw [e1] at h;cases h
   | some xs=>
     rw [e1] at h;have h:0<=(xs.length:Int)/\(xs.length:Int)<=24:=of_decide_eq_true h;obtain ⟨a,rfl,ha⟩:=fj e1;have tx:=t.2 xs (.inr e1);refine eM (d:=a) (xs:=xs) (rest:=[oR d]) (ad rfl) (aK.of ha) (by rw [sizeLine_eq];lia) rfl (λ _=>true) (λ x=>.bl (df H x ws)) (λ x hx=>cy) (λ x hx _=>?_) (λ p hp=>?_)
     ·exact aC (aa (ad rfl) (aa (ad rfl) ao)) (λ Q q=>⟨x,d,ws,rfl,tx x hx,hw,q⟩)
     ·refine ⟨xs.map (λ x=>df H x ws),?_,?_⟩
      ·have e2:(xs.filter λ _=>true).map (λ x=>V.bl (df H x ws))=(xs.map (λ x=>df H x ws)).map V.bl:=by rw [Oo.mpr (λ _ _=>rfl),N7];rfl
       rw [<-e2];exact aK.of ag
      ·have k:=q _ ((aj.refl H).upd (o:=.lst ((xs.filter λ _=>true).map (λ x=>V.bl (df H x ws)))) hp);unfold dX at k;rw [e1] at k;have e3:(decide (xs.length<=24)&&xs.all (λ x=>df H x ws))=(xs.map (λ x=>df H x ws)).all id:=by rw [decide_eq_true (by lia:xs.length<=24),Pn];rfl
       have k:Q (.bl (decide (xs.length<=24)&&xs.all (λ x=>df H x ws))) _:=k;rw [e3] at k;exact k
  ·have k:=q H (aj.refl H);have e2:dX H v ws=false:=by
    unfold dX;unfold jL at h;cases e1:lstOf H v with
    | none=>rfl
    | some xs=>
      rw [e1] at h;have h:¬(0<=(xs.length:Int)/\(xs.length:Int)<=24):=of_decide_eq_false h;show (decide (xs.length<=24)&&_)=false;rw [decide_eq_false (by lia:¬xs.length<=24)];rfl
   rw [e2] at k;exact k
theorem oB {f cG:Addr}{fd:FuncData}(F:bi K "__init__" "Game.__init__" cf f fd) (T:Txt mg aS aA aE aW) (hW:∀H,gH K H aW gN) (B:pD K cG) (C:GG2 P w K mg base):aQ P w K mg base cE 6 f fd ["self","board","kinds","rules","turns","ends","stuck"] (uw K cG):=by
 refine F.ok jC (λ vs H Q E h=>?_) (λ cdv A outer s H vs Q E hr h=>?_)
 ·obtain ⟨p,b,kd,rd,td,ed,dx,ws,rs,ts,es,st,rfl,_⟩:=h;rfl
 ·obtain ⟨p,b,kd,rd,td,ed,dx,ws,rs,ts,es,st,rfl,hp,hk,hr',ht,he,tk,tr,tt,te,bk,br,bt,be,hst,lst',q⟩:=h;have hu:=bA hr;have wk:∀H',aj H H'->gH K H' kd ws:=λ H' s=>.inl (aK.of (s _ _ hk));refine ⟨_,(ae (aV (bz (bm (aB C.are_kinds hr (av (cv 2) pa_nil)))) (ah fg) aD)
   (ae (aV (bz (bm (aB C.are_rules hr (av (cv 3) (av (cv 2) pa_nil))))) (ah fg) aD)
   (ae (aV (bz (bm (aB C.is_turns hr (av (cv 4) (av (cv 2) pa_nil))))) (ah fg) aD)
   (ae (aV (bz (bm (aB C.is_ends hr (av (cv 5) (av (cv 2) pa_nil))))) (ah fg) aD)
   (ae (aV (bz (bm (aB C.is_word hr (av (cv 6) (av (kg T.STUCK_WORDS) pa_nil))))) (ah fg) aD)
   (ae (iF K (cv 0) (cv 1))
   (ae (iF K (cv 0) (wx (qF K) eO T.list (av (cv 2) pa_nil)))
   (ae (iF K (cv 0) (wx (qF K) eO T.list (av (cv 3) pa_nil)))
   (ae (iF K (cv 0) (wx (qF K) eO T.list (av (cv 4) pa_nil)))
   (ae (iF K (cv 0) (wx (qF K) eO T.list (av (cv 5) pa_nil)))
   (ah (iF K (cv 0) (cv 6))))))))))))),?_⟩
  show ba _ _ _ [oR p,oR b,oR kd,oR rd,oR td,oR ed,oT st] H;refine cp (λ b H'=>b=false/\aj H H') (λ Q q=>jS (aa (ad rfl) ao) ⟨.ref kd,rfl,tk,λ H' s=>?_⟩) (λ H' h=>by cases h.1) (λ H1 h=>?_)
  ·rw [bk];exact q _ _ ⟨rfl,s⟩
  obtain ⟨_,s1⟩:=h;have eqR:dX H1 (.ref rd) ws=dX H (.ref rd) ws:=qg tr s1;refine cp (λ b H'=>b=false/\aj H1 H') (λ Q q=>jS (aa (ad rfl) (aa (ad rfl) ao)) ⟨.ref rd,kd,ws,rfl,tr.same s1,wk _ s1,λ H' s=>?_⟩) (λ H' h=>by cases h.1) (λ H2 h=>?_)
  ·rw [eqR,br];exact q _ _ ⟨rfl,s⟩
  obtain ⟨_,s2⟩:=h;have s02:=s1.trans s2;have eqT:eP H2 (.ref td) ws=eP H (.ref td) ws:=pE tt s02;refine cp (λ b H'=>b=false/\aj H2 H') (λ Q q=>jS (aa (ad rfl) (aa (ad rfl) ao)) ⟨.ref td,kd,ws,rfl,tt.same s02,wk _ s02,λ H' s=>?_⟩) (λ H' h=>by cases h.1) (λ H3 h=>?_)
  ·rw [eqT,bt];exact q _ _ ⟨rfl,s⟩
  obtain ⟨_,s3⟩:=h;have s03:=s02.trans s3;have eqE:pairsB H3 (.ref ed) gF ws=pairsB H (.ref ed) gF ws:=j4 te s03;refine cp (λ b H'=>b=false/\aj H3 H') (λ Q q=>jS (aa (ad rfl) (aa (ad rfl) ao)) ⟨.ref ed,kd,ws,rfl,te.same s03,wk _ s03,λ H' s=>?_⟩) (λ H' h=>by cases h.1) (λ H4 h=>?_)
  ·rw [eqE,be];exact q _ _ ⟨rfl,s⟩
  obtain ⟨_,s4⟩:=h;have s04:=s03.trans s4;refine bf (bX (aZ (aC (aa (ad rfl) (aa al ao)) (λ Q q=>⟨.str st,aW,gN,rfl,lst',hW H4,q⟩)))) (λ h=>?_) (λ _=>?_)
  ·have e:wordB (.str st) gN=true:=decide_eq_true hst;rw [e] at h;cases h
  have gl:=λ b k r t e=>Jt (b:=b) (k:=k) (r:=r) (t:=t) (e:=e);have nk:p≠kd:=fZ hp hk (by intro z;cases z);have nr:p≠rd:=fZ hp hr' (by intro z;cases z);have nt:p≠td:=fZ hp ht (by intro z;cases z);have ne':p≠ed:=fZ hp he (by intro z;cases z);have h4:∀(G:Hp),SameBut p H G->G kd=some (.lst (ws.map V.str))/\G rd=some (.lst rs)/\G td=some (.lst ts)/\G ed=some (.lst es):=λ G sb=>⟨sb _ _ hk nk.symm,sb _ _ hr' nr.symm,sb _ _ ht nt.symm,sb _ _ he ne'.symm⟩;refine rD (ad rfl) (ad rfl) (s04 _ _ hp) B.cl B.board (by decide) ?_;generalize hG5:upd H4 p (HO.ins cG dx (putF "board" (V.ref b) []))=G5;have p5:G5 p=some (.ins cG dx (gf1 b)):=hG5▸ag;have b5:SameBut p H G5:=hG5▸s04.but.self;have nfree:∀(G:Hp) (q:Addr),SameBut p H G->G p≠none->G q=none->H q=none:=λ G q sb hpp hq=>by
   cases e:H q with
   | none=>rfl
   | some o=>
     by_cases z:q=p
     ·rw [z] at hq;exact absurd hq hpp
     ·have:=sb q o e z;rw [hq] at this;cases this
  refine kD (ad rfl) (h4 _ b5).1 (λ H'=>ad rfl) p5 B.cl B.kinds (by have:=(gl b 0 0 0 0).1;lia) (λ kq hkq=>?_);have nkq:p≠kq:=ar p5 hkq;generalize hG6:upd (upd G5 kq (HO.lst (ws.map V.str))) p (HO.ins cG dx (putF "kinds" (V.ref kq) (gf1 b)))=G6;have p6:G6 p=some (.ins cG dx (gf2 b kq)):=hG6▸ag;have k6:G6 kq=some (.lst (ws.map V.str)):=by rw [<-hG6,aq nkq.symm,ag]
  have b6:SameBut p H G6:=hG6▸(b5.new (nfree _ _ b5 (by rw [p5];simp) hkq)).self;refine kD (ad rfl) (h4 _ b6).2.1 (λ H'=>ad rfl) p6 B.cl B.rules (by have:=(gl b kq 0 0 0).2.1;lia) (λ rq hrq=>?_);have nrq:p≠rq:=ar p6 hrq;generalize hG7:upd (upd G6 rq (HO.lst rs)) p (HO.ins cG dx (putF "rules" (V.ref rq) (gf2 b kq)))=G7;have p7:G7 p=some (.ins cG dx (gf3 b kq rq)):=hG7▸ag;have r7:G7 rq=some (.lst rs):=by rw [<-hG7,aq nrq.symm,ag]
  have k7:G7 kq=some (.lst (ws.map V.str)):=by rw [<-hG7,aq nkq.symm,aq (ar k6 hrq)];exact k6
  have b7:SameBut p H G7:=hG7▸(b6.new (nfree _ _ b6 (by rw [p6];simp) hrq)).self;refine kD (ad rfl) (h4 _ b7).2.2.1 (λ H'=>ad rfl) p7 B.cl B.turns (by have:=(gl b kq rq 0 0).2.2.1;lia) (λ tq htq=>?_);have ntq:p≠tq:=ar p7 htq;generalize hG8:upd (upd G7 tq (HO.lst ts)) p (HO.ins cG dx (putF "turns" (V.ref tq) (gf3 b kq rq)))=G8;have p8:G8 p=some (.ins cG dx (gf4 b kq rq tq)):=hG8▸ag;have t8:G8 tq=some (.lst ts):=by rw [<-hG8,aq ntq.symm,ag]
  have r8:G8 rq=some (.lst rs):=by rw [<-hG8,aq nrq.symm,aq (ar r7 htq)];exact r7
  have k8:G8 kq=some (.lst (ws.map V.str)):=by rw [<-hG8,aq nkq.symm,aq (ar k7 htq)];exact k7
  have b8:SameBut p H G8:=hG8▸(b7.new (nfree _ _ b7 (by rw [p7];simp) htq)).self;refine kD (ad rfl) (h4 _ b8).2.2.2 (λ H'=>ad rfl) p8 B.cl B.ends (by have:=(gl b kq rq tq 0).2.2.2.1;lia) (λ eq heq=>?_);have neq:p≠eq:=ar p8 heq;generalize hG9:upd (upd G8 eq (HO.lst es)) p (HO.ins cG dx (putF "ends" (V.ref eq) (gf4 b kq rq tq)))=G9;have p9:G9 p=some (.ins cG dx (BD b kq rq tq eq)):=hG9▸ag;have e9:G9 eq=some (.lst es):=by rw [<-hG9,aq neq.symm,ag]
  have t9:G9 tq=some (.lst ts):=by rw [<-hG9,aq ntq.symm,aq (ar t8 heq)];exact t8
  have r9:G9 rq=some (.lst rs):=by rw [<-hG9,aq nrq.symm,aq (ar r8 heq)];exact r8
  have k9:G9 kq=some (.lst (ws.map V.str)):=by rw [<-hG9,aq nkq.symm,aq (ar k8 heq)];exact k8
  have b9:SameBut p H G9:=hG9▸(b8.new (nfree _ _ b8 (by rw [p8];simp) heq)).self;refine ul (λ v H'=>v=.str st/\H'=G9) (λ Q q=>qL (v:=.str st) (ad rfl) (q _ _ ⟨rfl,rfl⟩)) p cG dx (λ H' Q q=>ad rfl Q q) B.cl B.stuck ?_;rintro _ _ ⟨rfl,rfl⟩;refine ⟨_,p9,by have:=(gl b kq rq tq eq).2.2.2.2;lia,?_⟩;refine q _ ⟨dx,kq,rq,tq,eq,ag,?_,?_,?_,?_⟩ b9.self
  ·rw [aq nkq.symm];exact k9
  ·rw [aq nrq.symm];exact r9
  ·rw [aq ntq.symm];exact t9
  ·rw [aq neq.symm];exact e9
end
end K18
namespace K18
open PySem L2
section
variable {P:Program}{w:World}{K:Frag}{mg:Str->Option Value}{base:Heap}{aS aA aE aW:Addr}
theorem ou {f:Addr}{fd:FuncData}(F:bi K "are_holes" "are_holes" cY f fd) (T:Txt mg aS aA aE aW) (C:CA P w K mg base):aQ P w K mg base cE 3 f fd ["thing","many"] pR:=by
 refine F.ok nP (λ vs H Q E h=>?_) (λ cdv A outer s H vs Q E hr h=>?_)
 ·obtain ⟨d,m,hs,rfl,_⟩:=h;rfl
 ·obtain ⟨d,m,hs,rfl,hd,good,nd,hl,m64,k⟩:=h;have hu:=bA hr;have hS:aK K H d (hs.map V.int):=aK.of hd;refine ⟨_,(ae (aV (PW.pt (gD (bz (bm (Cl .list T.isinstance T.list eO (cv 0)))) (fc (aU K hu (kB (gc K) bK T.len (av (cv 0) pa_nil)) (cv 1))))) (ah (aw fA)) aD)
   (ae (aV (bz (bm (kB (AE K) lV T.all (av (dR (bR (N:=["hole","many"]) (src:=[none,some 1]) (ak cY) ["thing","many"]) (qE K (cv 0)) (λ _ _ _=>(aX (i:=0) ["hole","many"])) (λ _ _ _=>bu) (λ _ _ _=>(aB C.is_among hr (av (cv 0) (av af (av (am (cv 1) af) pa_nil)))))) pa_nil)))) (ah (aw fA)) aD)
   (ah (aw (iA K hu (kB tW bK T.len (av (wx (NH K hr) pe T.set (av (cv 0) pa_nil)) pa_nil)) (kB (gc K) bK T.len (av (cv 0) pa_nil))))))),?_⟩
  show ba _ _ _ [oR d,oJ m] H;refine bf (gM (bX (aZ (Jx (ad rfl) hd))) (λ _=>(aZ (GU (cH (ad rfl) (.inl hS)) (ad rfl))))) (λ h=>?_) (λ _=>?_)
  ·have h:decide (m<=((hs.map V.int).length:Int))=true:=h;have h:=of_decide_eq_true h;rw [NZ] at h;lia
  refine cp (λ b H'=>b=false/\aj H H') (λ Q q=>?_) (λ H' h=>by cases h.1) (λ H1 h=>?_)
  ·refine eM (d:=d) (xs:=hs.map V.int) (rest:=[oJ m]) (ad rfl) hS (by rw [NZ,sizeLine_eq];lia) rfl (λ _=>true) (λ _=>.bl true) (λ x hx=>cy) (λ x hx _=>?_) (λ d' hd'=>?_)
   ·obtain ⟨z,hz,rfl⟩:=N0.mp hx;have g:=good z hz;refine aC (aa (ad rfl) (aa al (aa (dA (ad rfl) al) ao))) (λ Q q=>⟨z,0,m - 1,rfl,?_⟩);rw [decide_eq_true (by lia:0<=z/\z<=m - 1)];exact q
   ·refine ⟨List.replicate hs.length true,?_,?_⟩
    ·have e:((hs.map V.int).filter λ _=>true).map (λ _=>V.bl true)=(List.replicate hs.length true).map V.bl:=by rw [Oo.mpr (λ _ _=>rfl),N7,List.map_replicate];show hs.map (λ _=>V.bl true)=_;rw [List.map_const']
     rw [<-e];exact aK.of ag
    ·have e:(List.replicate hs.length true).all id=true:=by simp
     rw [e];exact q _ _ ⟨rfl,(aj.refl H).upd hd'⟩
  obtain ⟨_,s1⟩:=h;have hS1:=s1.seq hS;simp only [ce,eB,cB,bo,cZ];refine qL (ad rfl) ?_;refine ⟨hs,hS1,by have:scanBound=4096:=rfl;lia,λ q hq=>?_⟩;refine ⟨_,_,ag,?_⟩;have s2:aj H1 (upd H1 q (.set (λ k=>(uniq hs).any (· == k)) (uniq hs).length)):=(aj.refl H1).upd hq;refine qL (v:=.ref d) (ad rfl) ⟨_,.inl (s2.seq hS1),?_⟩;rw [NZ,(zu hs).mpr nd];show Q (.bl (decide ((hs.length:Int)=hs.length))) _;rw [decide_eq_true rfl];exact k _ (s1.trans ((aj.refl H1).upd hq))
theorem mn {f cB:Addr}{fd:FuncData}(F:bi K "__init__" "Board.__init__" bH f fd) (T:Txt mg aS aA aE aW) (B:ij K cB) (C:CB2 P w K mg base):aQ P w K mg base cE 4 f fd ["self","wide","high","holes"] (nz K cB):=by
 refine F.ok i7 (λ vs H Q E h=>?_) (λ cdv A outer s H vs Q E hr h=>?_)
 ·obtain ⟨p,d,dx,wi,hi,hs,rfl,_⟩:=h;rfl
 ·obtain ⟨p,d,dx,wi,hi,hs,rfl,hp,hd,w1,w8,h1,h8,good,nd,hl,k⟩:=h;have hu:=bA hr;have m1:wi*hi<=8*8:=Qf w8 h8 (by lia) (by lia);have m0:0<=wi*hi:=Ql (by lia) (by lia);have npd:p≠d:=fZ hp hd (by intro z;cases z);refine ⟨_,(ae (aV (PW.pt (gD (bz (bm (aB C.is_among hr (av (cv 1) (av af (av (kg T.LONGEST) pa_nil)))))) (fc (bz (bm (aB C.is_among hr (av (cv 2) (av af (av (kg T.LONGEST) pa_nil))))))))) (ah fg) aD)
   (ae (aV (bz (bm (aB C.are_holes hr (av (cv 3) (av (am (cv 1) (cv 2)) pa_nil))))) (ah fg) aD)
   (ae (iF K (cv 0) (cv 1))
   (ae (iF K (cv 0) (cv 2))
   (ae (iF K (cv 0) (kB (Mu K) mZ T.sorted (av (cv 3) pa_nil)))
   (ah (iF K (cv 0) (dR (bR (N:=["square","self"]) (src:=[none,some 0]) (ak bH) ["self","wide","high","holes"]) (BB T.range (av (am (cv 1) (cv 2)) pa_nil)) (λ _ _ _=>(aX (i:=0) ["square","self"])) (λ _ _ _=>bu) (λ _ _ _=>(iA K hu (cv 0) (bT K (cv 1)))))))))))),?_⟩
  show ba _ _ _ [oR p,oJ wi,oJ hi,oR d] H;refine bf (gM (bX (aZ (aC (aa (ad rfl) (aa al (aa al ao))) (λ Q q=>⟨wi,1,8,rfl,q⟩)))) (λ _=>(bX (aZ (aC (aa (ad rfl) (aa al (aa al ao))) (λ Q q=>⟨hi,1,8,rfl,q⟩)))))) (λ h=>?_) (λ _=>?_)
  ·rw [decide_eq_true (⟨w1,w8⟩:1<=wi/\wi<=8),decide_eq_true (⟨h1,h8⟩:1<=hi/\hi<=8)] at h;cases h
  refine cp (λ b H'=>b=false/\aj H H') (λ Q q=>?_) (λ H' h=>by cases h.1) (λ H1 h=>?_)
  ·exact jS (aa (ad rfl) (aa (dm (ad rfl) (ad rfl) (.inl ⟨by lia,by lia⟩)) ao)) ⟨d,wi*hi,hs,rfl,hd,good,nd,hl,by lia,λ H' s=>q _ _ ⟨rfl,s⟩⟩
  obtain ⟨_,s1⟩:=h;refine rD (ad rfl) (ad rfl) (s1 _ _ hp) B.cl B.wide (by decide) ?_;have a1:=bG "wide" (V.int wi) [];have a2:=bG "high" (V.int hi) (putF "wide" (V.int wi) []);simp only [List.length_nil] at a1;refine rD (ad rfl) (ad rfl) ag B.cl B.high (by lia) ?_;generalize hH3:upd (upd H1 p (HO.ins cB dx (putF "wide" (V.int wi) []))) p (HO.ins cB dx (putF "high" (V.int hi) (putF "wide" (V.int wi) [])))=H3;have p3:H3 p=some (.ins cB dx (putF "high" (V.int hi) (putF "wide" (V.int wi) []))):=hH3▸ag;have s3:SameBut p H H3:=hH3▸(s1.but.self.self);have d3:H3 d=some (.lst (hs.map V.int)):=s3 _ _ hd npd.symm;refine BO (λ v H'=> ∃(hs':List Int) (q:Addr),v=.ref q/\hs'.Perm hs/\hs'.Pairwise (·<=·)/\H3 q=none/\H'=upd H3 q (.lst (hs'.map V.int))) (λ Q q=>?_) p cB dx (λ H' Q q=>ad rfl Q q) B.cl B.holes ?_
  ·exact NS (ad rfl) ⟨hs,aK.of d3,by lia,λ hs' q' h1 h2 h3=>q _ _ ⟨hs',q',rfl,h1,h2,h3,rfl⟩⟩
  rintro _ _ ⟨hs',q,rfl,pm,sr,hq,rfl⟩;have npq:p≠q:=ar p3 hq;have a3:=bG "holes" (V.ref q) (putF "high" (V.int hi) (putF "wide" (V.int wi) []));refine ⟨_,(by rw [aq npq];exact p3),(by lia),?_⟩;generalize hH4:upd (upd H3 q (HO.lst (hs'.map V.int))) p (HO.ins cB dx (putF "holes" (V.ref q) (putF "high" (V.int hi) (putF "wide" (V.int wi) []))))=H4;have p4:H4 p=some (.ins cB dx (putF "holes" (V.ref q) (putF "high" (V.int hi) (putF "wide" (V.int wi) [])))):=hH4▸ag;have q4:H4 q=some (.lst (hs'.map V.int)):=by rw [<-hH4,aq npq.symm,ag]
  have hqH:H q=none:=by
   cases e:H q with
   | none=>rfl
   | some o=>
     have:=s3 q o e npq.symm;rw [hq] at this;cases this
  have s4:SameBut p H H4:=hH4▸((s3.new hqH).self);have f4:Fl K H4 p "holes" (.ref q):=⟨cB,dx,_,p4,B.cl,B.holes,by rw [au,if_pos rfl]⟩;refine ul (λ v H'=> ∃(pf:Addr),v=.ref pf/\H4 pf=none/\H'=upd H4 pf (.lst ((firmL wi hi hs').map V.bl))) (λ Q k'=>?_) p cB dx (λ H' Q q=>ad rfl Q q) B.cl B.firm ?_
  ·refine ib (n:=wi*hi) (rest:=[oR p]) (aa (dm (ad rfl) (ad rfl) (.inl ⟨by lia,by lia⟩)) ao) m0 (by rw [sizeLine_eq];lia) (by lia) rfl (λ _=>true) (λ x=>match x with | .int i=>.bl (!decide (i∈hs')) | _=>.non) (λ i hi=>cy) (λ i hi _=>?_) (λ d' hd'=>?_)
   ·exact (tD (ad rfl) (aO (ad rfl) (f4)) (.inl (aK.of q4)))
   ·refine k' _ _ ⟨d',rfl,hd',?_⟩;have e:(((List.range (wi*hi).toNat).map λ (i:Nat)=>V.int (0+(i:Int))).filter λ _=>true).map (λ x=>match x with | .int i=>V.bl (!decide (i∈hs')) | _=>.non)=(firmL wi hi hs').map V.bl:=by rw [Oo.mpr (λ _ _=>rfl),N7];unfold firmL;rw [N7];refine Ov λ i _=>?_;show V.bl (!decide (0+(i:Int)∈hs'))=V.bl (!decide ((i:Int)∈hs'));rw [Qe]
    rw [e]
  rintro _ _ ⟨pf,rfl,hpf,rfl⟩;have npf:p≠pf:=ar p4 hpf;have nqf:q≠pf:=ar q4 hpf;have hfH:H pf=none:=by
   cases e:H pf with
   | none=>rfl
   | some o=>
     have:=s4 pf o e npf.symm;rw [hpf] at this;cases this
  refine ⟨_,(by rw [aq npf];exact p4),(by lia),?_⟩;refine k hs' _ pm ⟨⟨dx,q,pf,ag,by rw [aq npq.symm,aq nqf];exact q4,by rw [aq npf.symm,ag]⟩,w1,w8,h1,h8,λ h hh=>good h (pm.mem_iff.mp hh),sr,pm.nodup_iff.mpr nd⟩ ((s4.new hfH).self)
theorem om {f:Addr}{fd:FuncData}(F:bi K "column_of" "column_of" dJ f fd) (T:Txt mg aS aA aE aW):aQ P w K mg base cE 1 f fd ["wide","square"] Gu:=by
 refine F.ok nK (λ vs H Q E h=>?_) (λ cdv A outer s H vs Q E hr h=>?_)
 ·obtain ⟨a,b,rfl,_⟩:=h;rfl
 ·obtain ⟨a,b,rfl,a0,q⟩:=h;refine ⟨_,(ah (aw (am (cv 1) (cv 0)))),?_⟩;show ce _ _ [oJ a,oJ b] H;exact aG (aR (ad rfl) (ad rfl) (a0)) q
theorem wb {f:Addr}{fd:FuncData}(F:bi K "row_of" "row_of" gU f fd) (T:Txt mg aS aA aE aW):aQ P w K mg base cE 1 f fd ["wide","square"] zG:=by
 refine F.ok vP (λ vs H Q E h=>?_) (λ cdv A outer s H vs Q E hr h=>?_)
 ·obtain ⟨a,b,rfl,_⟩:=h;rfl
 ·obtain ⟨a,b,rfl,a0,a1,q⟩:=h;refine ⟨_,(ah (aw (am (cv 1) (cv 0)))),?_⟩;show ce _ _ [oJ a,oJ b] H;exact aG (bE (ad rfl) (ad rfl) (⟨a0,by lia⟩)) q
theorem oa {f:Addr}{fd:FuncData}(F:bi K "square_at" "square_at" dH f fd) (T:Txt mg aS aA aE aW):aQ P w K mg base cE 1 f fd ["wide","column","row"] zE:=by
 refine F.ok nF (λ vs H Q E h=>?_) (λ cdv A outer s H vs Q E hr h=>?_)
 ·obtain ⟨a,b,c,rfl,_⟩:=h;rfl
 ·obtain ⟨a,b,c,rfl,a0,a1,q⟩:=h;refine ⟨_,(ah (aw (am (am (cv 2) (cv 0)) (cv 1)))),?_⟩;show ce _ _ [oJ a,oJ b,oJ c] H;exact aG (bF (dm (ad rfl) (ad rfl) (.inr ⟨by lia,by lia⟩)) (ad rfl)) q
theorem lv {f cB:Addr}{fd:FuncData}(F:bi K "moved" "Board.moved" cN f fd) (T:Txt mg aS aA aE aW) (B:ij K cB) (C:CB P w K mg base):aQ P w K mg base cE 2 f fd ["self","square","across","up"] (ur K cB):=by
 refine F.ok da (λ vs H Q E h=>?_) (λ cdv A outer s H vs Q E hr h=>?_)
 ·obtain ⟨p,wi,hi,hs,sq,ax,up,rfl,_⟩:=h;rfl
 ·obtain ⟨p,wi,hi,hs,sq,ax,up,rfl,O,k⟩:=h;have hu:=bA hr;have w1:=O.w1;have w8:=O.w8;have fw:=O.wide B;have fh:=O.high B;obtain ⟨pf,ff,hf⟩:=O.firm B;refine ⟨_,(ae (ay (i:=4) da.nd rfl (Or.inl rfl) (am (aB C.column_of hr (av (bT K (cv 0)) (av (cv 1) pa_nil))) (cv 2)))
   (ae (ay (i:=5) da.nd rfl (Or.inl rfl) (am (aB C.row_of hr (av (bT K (cv 0)) (av (cv 1) pa_nil))) (cv 3)))
   (ae (aV (PW.pt (gD (bz (uT K hu af (cv 4) (bT K (cv 0)))) (fc (bz (uT K hu af (cv 5) (bT K (cv 0))))))) (ah (aw di)) aD)
   (ae (ay (i:=6) da.nd rfl (Or.inl rfl) (aB C.square_at hr (av (bT K (cv 0)) (av (cv 4) (av (cv 5) pa_nil)))))
   (ah (aw (cw (bm (ci K (bT K (cv 0)) (cv 6))) (cv 6) di))))))),?_⟩
  show ba _ _ _ [oR p,oJ sq,oJ ax,oJ up,none,none,none] H;refine aJ (bF (aC (aa (aO (ad rfl) (fw)) (aa (ad rfl) ao)) (λ Q q=>⟨wi,sq,rfl,by lia,q⟩)) (ad rfl)) ?_;refine aJ (bF (aC (aa (aO (ad rfl) (fw)) (aa (ad rfl) ao)) (λ Q q=>⟨wi,sq,rfl,by lia,by lia,q⟩)) (ad rfl)) ?_;unfold Nn at k;generalize hc:sq % wi+ax=c at k;generalize hr':sq / wi+up=r at k;refine bf (gM (bX (ui al (ad rfl) (λ _=>(aO (ad rfl) (fw))))) (λ _=>(bX (ui al (ad rfl) (λ _=>(aO (ad rfl) (fh))))))) (λ h=>?_) (λ h=>?_)
  ·show ce _ _ _ _;refine aG al ?_;rw [if_neg (λ z=>by rw [decide_eq_true (⟨z.1,z.2.1⟩:0<=c/\c<wi),decide_eq_true (⟨z.2.2.1,z.2.2.2⟩:0<=r/\r<hi)] at h;cases h)] at k;exact k
  ·have h2:(0<=c/\c<wi)/\(0<=r/\r<hi):=by
    by_cases a:0<=c/\c<wi
    ·by_cases b:0<=r/\r<hi
     ·exact ⟨a,b⟩
     ·rw [decide_eq_true a,decide_eq_false b] at h;cases h
    ·rw [decide_eq_false a] at h;cases h
   rw [if_pos ⟨h2.1.1,h2.1.2,h2.2.1,h2.2.2⟩] at k;refine aJ (aC (aa (aO (ad rfl) (fw)) (aa (ad rfl) (aa (ad rfl) ao))) (λ Q q=>⟨wi,c,r,rfl,by lia,by lia,q⟩)) ?_;have g0:0<=r*wi+c:=by have:=Ql h2.2.1 (by lia:0<=wi);lia
   have g1:r*wi+c<wi*hi:=by
    have:r*wi<=(hi - 1)*wi:=Qm (by lia) (by lia);have e:(hi - 1)*wi=wi*hi - wi:=by rw [Int.sub_mul,Qi,Qg]
    lia
   show ce _ _ _ _;refine aG (v:=if (!decide (r*wi+c∈hs))=true then .int (r*wi+c) else .non) (j9 (aZ (aN (aO (ad rfl) (ff)) (ad rfl) (.inl (aK.of hf)) (vc g0 g1))) (λ _=>(ad rfl)) (λ _=>al)) ?_
   by_cases m:r*wi+c∈hs
   ·rw [decide_eq_true m];rw [if_pos m] at k;exact k
   ·rw [decide_eq_false m];rw [if_neg m] at k;exact k
theorem IY {f cB:Addr}{fd:FuncData}(F:bi K "ray" "ray" qd f fd) (T:Txt mg aS aA aE aW) (B:ij K cB) (C:CB3 P w K mg base cB):aQ P w K mg base cE 3 f fd ["board","square","across","up"] (Gq K cB):=by
 refine F.ok nG (λ vs H Q E h=>?_) (λ cdv A outer s H vs Q E hr h=>?_)
 ·obtain ⟨p,wi,hi,hs,sq,ax,up,rfl,_⟩:=h;rfl
 ·obtain ⟨p,wi,hi,hs,sq,ax,up,rfl,O,s0,s1,n0,k⟩:=h;have hu:=bA hr;have w1:=O.w1;have w8:=O.w8;have m0:=Qb sq (by lia:wi≠0);have m1:=Qc sq (by lia:0<wi);refine ⟨_,(ae (aV (PW.pt (jE (aU K hu (cv 2) af) (iq (aU K hu (cv 3) af)))) (ah (aw (bg pa_nil))) aD)
   (ae (ay (i:=4) nG.nd rfl (Or.inl rfl) (bg pa_nil))
   (ae (ay (i:=5) nG.nd rfl (Or.inl rfl) (lD C.Board_moved hr (cv 0) (av (cv 1) (av (cv 2) (av (cv 3) pa_nil)))))
   (ae (zZ PassesOwn.never (aU K hu (cv 5) di) (ae (eJ (iU (cv 4) (cv 5)))
   (ah (ay (i:=5) nG.nd rfl (Or.inl rfl) (lD C.Board_moved hr (cv 0) (av (cv 5) (av (cv 2) (av (cv 3) pa_nil))))))))
   (ah (aw (cv 4))))))),?_⟩
  show ba _ _ _ [oR p,oJ sq,oJ ax,oJ up,none,none] H;refine bf (kO (aZ (gE (ad rfl) al)) (λ _=>(aZ (gE (ad rfl) al)))) (λ h=>?_) (λ _=>?_)
  ·rw [Qp] at h;exact absurd ⟨of_decide_eq_true h.1,of_decide_eq_true h.2⟩ n0
  refine iL λ q hq=>?_;have sm:aj H (upd H q (.lst [])):=(aj.refl H).upd hq;have O1:=O.same sm;refine aJ (v:=oI (if qv wi hi hs sq ax up 1 then some (np wi sq ax up 1) else none)) (jj (p:=p) (ad rfl) O1.no (aa (ad rfl) (aa (ad rfl) (aa (ad rfl) ao))) (λ Q q=>⟨p,wi,hi,hs,sq,ax,up,rfl,O1,?_⟩)) ?_
  ·have e:=uK (hi:=hi) (hs:=hs) (s:=sq) (ax:=ax) (up:=up) (k:=0) w1 (by simp;exact m0) (by simp;exact m1);rw [zD w1] at e;rw [e];exact q
  refine ⟨λ m σ' H'=> ∃i:Nat,m=8 - i/\i<=8/\(∀j<i,qv wi hi hs sq ax up (j+1))/\σ'=[oR p,oJ sq,oJ ax,oJ up,oR q,some (oI (if qv wi hi hs sq ax up (i+1) then some (np wi sq ax up (i+1)) else none))]/\H' q=some (.lst ((dP wi sq ax up i).map V.int))/\aj H H',
   ⟨8,0,rfl,by lia,λ j hj=>by lia,rfl,ag,sm⟩,?_⟩
  rintro m _ H1 ⟨i,rfl,hi8,hok,rfl,hl,hs1⟩
  by_cases hk:qv wi hi hs sq ax up (i+1)
  ·rw [if_pos hk];have hlt:=An w8 O.h8 w1 s0 s1 n0 hk;refine (aZ (lL (ad rfl) al)) _ (hV ⟨_,λ _ _ h=>h,?_⟩);refine Ix (ad rfl) (ad rfl) hl (by rw [NZ,jb,sizeLine_eq];lia) ?_;have s2:aj H (upd H1 q (.lst ((dP wi sq ax up i).map V.int++[.int (np wi sq ax up (i+1))]))):=hs1.put hq;have O2:=O.same s2;refine fz (v:=oI (if qv wi hi hs sq ax up (i+1+1) then some (np wi sq ax up (i+1+1)) else none)) (jj (p:=p) (ad rfl) O2.no (aa (ad rfl) (aa (ad rfl) (aa (ad rfl) ao))) (λ Q q=>⟨p,wi,hi,hs,np wi sq ax up (i+1),ax,up,rfl,O2,?_⟩)) ?_
   ·rw [uK w1 hk.1 hk.2.1];exact q
   ·refine ⟨8 - (i+1),by lia,i+1,rfl,by lia,λ j hj=>?_,rfl,?_,s2⟩
    ·by_cases e:j=i
     ·subst e;exact hk
     ·exact hok j (by lia)
    ·rw [ag,vU,Og];rfl
  ·rw [if_neg hk];refine (aZ (lK (ad rfl) al)) _ (iB ?_);dsimp only;exact aG (ad rfl) (k i q H1 ⟨hok,hk⟩ hi8 hq hl hs1)
theorem sA {f:Addr}{fd:FuncData}(F:bi K "kind_of" "kind_of" fO f fd) (T:Txt mg aS aA aE aW):aQ P w K mg base cE 1 f fd ["sign"] rF:=by
 refine F.ok rP (λ vs H Q E h=>?_) (λ cdv A outer s H vs Q E hr h=>?_)
 ·obtain ⟨c,rfl,_⟩:=h;rfl
 ·obtain ⟨c,rfl,hc,q⟩:=h;have hu:=bA hr;refine ⟨_,(ah (aw (cw (aU K hu (cv 0) (dg (av (kg T.EMPTY) (av (kg T.HOLE) pa_nil)))) di (jR PySem.F.slot_str_lower PySem.F.type_str_lower Aq (cv 0))))),?_⟩;show ce _ _ [oT (one c)] H;simp only [ce,Nk];refine GO (ad rfl) tH oQ (λ H' s=>?_);have k:=q H' s;unfold j8 at k
  by_cases h:c=46\/c=35
  ·rw [decide_eq_true h];rw [if_pos h] at k;exact hV (qL al k)
  ·rw [decide_eq_false h];rw [if_neg h] at k;exact iB (qL (GT (ad rfl) hc) k)
theorem sy {f:Addr}{fd:FuncData}(F:bi K "side_of" "side_of" fN f fd) (T:Txt mg aS aA aE aW):aQ P w K mg base cE 1 f fd ["sign"] kT:=by
 refine F.ok rO (λ vs H Q E h=>?_) (λ cdv A outer s H vs Q E hr h=>?_)
 ·obtain ⟨c,rfl,_⟩:=h;rfl
 ·obtain ⟨c,rfl,hc,q⟩:=h;have hu:=bA hr;refine ⟨_,(ae (aV (aU K hu (cv 0) (dg (av (kg T.EMPTY) (av (kg T.HOLE) pa_nil)))) (ah (aw di)) aD)
   (ah (aw (cw (bm (jR PySem.F.slot_str_isupper PySem.F.type_str_isupper Jb (cv 0))) af af)))),?_⟩
  show ba _ _ _ [oT (one c)] H;unfold cr at q;refine cp (λ b H'=>b=decide (c=46\/c=35)/\aj H H') (λ Q q=>GO (ad rfl) tH oQ (λ H' s=>q _ _ ⟨rfl,s⟩)) (λ H1 h=>?_) (λ H1 h=>?_)
  ·have k:=q H1 h.2;rw [if_pos (of_decide_eq_true h.1.symm)] at k;exact aG al k
  ·have k:=q H1 h.2;rw [if_neg (of_decide_eq_false h.1.symm)] at k;refine aG (j9 (aZ (MQ (ad rfl) hc)) (λ _=>al) (λ _=>al)) ?_
   by_cases g:65<=c/\c<=90
   ·rw [decide_eq_true g];rw [if_pos g] at k;exact k
   ·rw [decide_eq_false g];rw [if_neg g] at k;exact k
end
end K18
namespace K18
open PySem L2
section
variable {P:Program}{w:World}{K:Frag}{mg:Str->Option Value}{base:Heap}{aS aA aE aW:Addr}
theorem Cc {f:Addr}{fd:FuncData}(F:bi K "slid" "slid" ld f fd) (T:Txt mg aS aA aE aW) (C:CRs P w K mg base):aQ P w K mg base cE 2 f fd ["row","side","aim","path"] (zF K):=by
 refine F.ok kF (λ vs H Q E h=>?_) (λ cdv A outer s H vs Q E hr h=>?_)
 ·obtain ⟨row,aim,sd,p,path,rfl,_⟩:=h;rfl
 ·obtain ⟨row,aim,sd,p,path,rfl,hp,R,hg,h8,k⟩:=h;have hu:=bA hr;have rl:=R.len;refine ⟨_,(ae (ay (i:=4) kF.nd rfl (Or.inl rfl) (bg pa_nil))
   (ae (fF PassesOwn.never rfl (qE K (cv 3)) (bD (i:=5) kF.nd rfl (Or.inl rfl)) (ae (ay (i:=6) kF.nd rfl (Or.inl rfl) (aB C.side_of hr (av (ci K (cv 0) (cv 5)) pa_nil)))
   (ae (aV (aU K hu (cv 6) di) (ae (aV (PW.pt (jE (aU K hu (cv 6) (cv 1)) (iq (aU K hu (cv 2) bC)))) (ah (eJ (iU (cv 4) (dg (av (cv 5) (av (cv 5) pa_nil)))))) aD)
   (ah Aa)) aD)
   (ah (aV (aU K hu (cv 2) bC) (ah (eJ (iU (cv 4) (dg (av (cv 5) (av (kg T.NOTHING) pa_nil)))))) aD)))))
   (ah (aw (cv 4))))),?_⟩
  show ba _ _ _ [oT row,oJ sd,oT aim,oR p,none,none,none] H;refine iL λ q hq=>?_;have sm:aj H (upd H q (.lst [])):=(aj.refl H).upd hq;refine bS (λ σ' H'=>(∃o5 o6,σ'=[oT row,oJ sd,oT aim,oR p,oR q,o5,o6])/\cm H H' q (eE row sd aim path)/\aj H H') (λ K' hK=>?_) ?_
  ·refine hZ (λ v H'=>v=.ref p/\H'=upd H q (.lst [])) (λ Q z=>ad rfl _ (z _ _ ⟨rfl,rfl⟩)) ?_;rintro _ _ ⟨rfl,rfl⟩;refine ⟨p,path.map V.int,rfl,sm.seq hp,λ i σ' H'=> ∃(l:List (Int×Int)),(∃o5 o6,σ'=[oT row,oJ sd,oT aim,oR p,oR q,o5,o6])/\cm H H' q l/\l.length<=i/\l++eE row sd aim (path.drop i)=eE row sd aim path/\aj H H',⟨[],⟨_,_,rfl⟩,cm.nil,PJ _,rfl,sm⟩,?_,?_,?_⟩
   ·rintro i σ' H' _ ⟨_,_,_,_,_,s1⟩;exact s1.seq hp
   ·rintro i x _ H1 hx ⟨l,⟨o5,o6,rfl⟩,⟨ps,p1,p2,p3⟩,ll,el,s1⟩;have hi:i<path.length:=by
     have:=(Oe.mp hx).1
     rwa [NZ] at this
    obtain rfl:x=.int path[i]:=by rw [N3,N2 hi] at hx;exact (Option.some.inj hx).symm
    have hd:path.drop i=path[i]::path.drop (i+1):=OV hi;obtain ⟨g0,g1⟩:=hg _ (Of hi);generalize path[i]=g at hd g0 g1;obtain ⟨at1,at2⟩:=R.at g0 g1;rw [hd,kX] at el;show ba _ _ _ [oT row,oJ sd,oT aim,oR p,oR q,oJ g,o6] H1;refine bB (λ v H'=>v=sdV row g/\aj H1 H') (λ Q z=>(aa (gu (ad rfl) (ad rfl) (by rw [sizeLine_eq];lia) at1) ao) _ ⟨_,rfl,at2,λ H2 s2=>z _ _ ⟨rfl,s2⟩⟩) ?_;rintro _ H2 ⟨rfl,s2⟩;have p2':=s2 _ _ p2;have p3':∀p∈ps,H p.2=none/\H2 p.2=some (.tup (p.1.map V.int)):=λ p h=>⟨(p3 p h).1,s2 _ _ (p3 p h).2⟩;have s3:=s1.trans s2;have lz:(ps.map λ z=>V.ref z.2).length=l.length:=by have:=congrArg List.length p1;rw [NZ,NZ] at this;rw [NZ,this]
    by_cases hn:sdV row g=.non
    ·rw [if_pos hn] at el;refine bf (b:=false) ?_ (λ z=>nomatch z) λ _=>?_
     ·rw [hn];exact aZ (lK (ad rfl) al)
     ·refine kC (aZ (tE (ad rfl) al)) (λ h=>?_) (λ h=>?_)
      ·have ha:¬aim="hit":=λ z=>by rw [z] at h;simp at h
       rw [if_neg ha] at el;refine qX (ad rfl) ⟨_,p2'⟩ (jw (ad rfl) (al (x:=.int (-1))) λ t ht=>?_);have nt:q≠t:=λ z=>by rw [<-z,p2'] at ht;cases ht
       refine ⟨_,by rw [aq nt];exact p2',by rw [lz,sizeLine_eq];lia,l++[(g, -1)],⟨_,_,rfl⟩,cm.add p1 p2' p3' s3 ht,by rw [Oa];show l.length+1<=_;lia,by rw [OE];exact el,?_⟩;exact (s3.upd ht).put hq
      ·have ha:aim="hit":=by simpa using h
       rw [if_pos ha] at el;exact ⟨l,⟨_,_,rfl⟩,⟨ps,p1,p2',p3'⟩,by lia,el,s3⟩
    ·rw [if_neg hn] at el;obtain ⟨v,hv⟩:∃v,sdV row g=.int v:=by
      unfold sdV cr at hn ⊢;split
      ·rename_i z;rw [if_pos z] at hn;exact absurd rfl hn
      ·exact ⟨_,rfl⟩
     rw [hv] at el ⊢;refine bf (b:=true) (aZ (lL (ad rfl) al)) (λ _=>?_) (λ z=>nomatch z);refine bf (kO (aZ (lJ (ad rfl) (ad rfl))) (λ _=>(aZ (tE (ad rfl) al)))) (λ h=>?_) (λ h=>?_)
     ·rw [Qp] at h;have h1:¬v=sd:=λ z=>by have:=h.1;rw [z] at this;simp at this
      have h2:¬aim="go":=λ z=>by have:=h.2;rw [z] at this;simp at this
      rw [if_pos ⟨λ z=>h1 (by injection z),h2⟩] at el;refine qX (ad rfl) ⟨_,p2'⟩ (jw (ad rfl) (ad rfl) λ t ht=>?_);have nt:q≠t:=λ z=>by rw [<-z,p2'] at ht;cases ht
      refine ⟨_,by rw [aq nt];exact p2',by rw [lz,sizeLine_eq];lia,hK _ _ ⟨⟨_,_,rfl⟩,?_,(s3.upd ht).put hq⟩⟩;rw [<-el];exact cm.add p1 p2' p3' s3 ht
     ·have h3:¬(¬v=sd/\¬aim="go"):=λ z=>by simp [z.1,z.2] at h
      rw [if_neg (λ z=>h3 ⟨λ w=>z.1 (by rw [w]),z.2⟩),Os] at el;refine hK _ _ ⟨⟨_,_,rfl⟩,?_,s3⟩;rw [<-el];exact ⟨ps,p1,p2',p3'⟩
   ·rintro σ' H' ⟨l,o,hP,_,el,s1⟩;rw [NZ,List.drop_length] at el;refine hK _ _ ⟨o,?_,s1⟩;rw [<-el];simpa [eE] using hP
  ·rintro _ H1 ⟨⟨o5,o6,rfl⟩,hP,s1⟩;exact aG (ad rfl) (k q H1 hq hP s1)
theorem wc {f:Addr}{fd:FuncData}(F:bi K "jumped" "jumped" gW f fd) (T:Txt mg aS aA aE aW) (C:CRs P w K mg base):aQ P w K mg base cE 2 f fd ["row","side","path"] (zJ K):=by
 refine F.ok vQ (λ vs H Q E h=>?_) (λ cdv A outer s H vs Q E hr h=>?_)
 ·obtain ⟨row,sd,p,path,rfl,_⟩:=h;rfl
 ·obtain ⟨row,sd,p,path,rfl,hp,R,hg,hsd,k⟩:=h;have hu:=bA hr;have rl:=R.len;refine ⟨_,(ae (aV (PW.pt (gD (aU K hu (kB (gc K) bK T.len (av (cv 2) pa_nil)) af) (gD (aU K hu (aB C.side_of hr (av (ci K (cv 0) (ci K (cv 2) af)) pa_nil)) (am af (cv 1))) (fc (aU K hu (aB C.side_of hr (av (ci K (cv 0) (ci K (cv 2) af)) pa_nil)) di))))) (ah (aw (bg pa_nil))) aD)
   (ah (aw (bg (av (dg (av (ci K (cv 2) af) (av (ci K (cv 2) af) pa_nil))) pa_nil))))),?_⟩
  show ba _ _ _ [oT row,oJ sd,oR p] H;refine cp (λ b H'=>aj H H'/\(b=true->lF row sd path=[])/\(b=false->∃g b' r,path=g::b'::r/\lF row sd path=[(b',g)])) (λ Q z=>?_) (λ H' ⟨s1,e,_⟩=>?_) (λ H' ⟨s1,_,e⟩=>?_)
  ·refine Il (b:=decide (((path.map V.int).length:Int)<2)) (aZ (vd (cH (ad rfl) (.inl hp)) al)) (λ h=>z _ _ ⟨aj.refl H,λ _=>?_,λ w=>nomatch w⟩) (λ h=>?_)
   ·have:=of_decide_eq_true h;rw [NZ] at this
    match path,this with
    | [],_=>rfl
    | [_],_=>rfl
    | _::_::_,w=>simp at w;lia
   ·have hl:=of_decide_eq_false h;rw [NZ] at hl;obtain ⟨g,b,r,rfl⟩:∃g b r,path=g::b::r:=by
     match path,hl with
     | [],w=>simp at w
     | [_],w=>simp at w
     | g::b::r,_=>exact ⟨g,b,r,rfl⟩
    obtain ⟨g0,g1⟩:=hg g (by simp);obtain ⟨b0,b1⟩:=hg b (by simp);obtain ⟨x1,x2⟩:=R.at g0 g1;obtain ⟨y1,y2⟩:=R.at b0 b1;refine L4 (A2 (aa (gu (ad rfl) (aN (x:=.int g) (ad rfl) al (.inl hp) (bn (j:=0) rfl)) (by rw [sizeLine_eq];lia) x1) ao) ⟨_,rfl,x2,λ H2 s2=>qL (dA al (ad rfl)) ?_⟩);rw [BS];show if (!decide (sdV row g=.int (1 - sd)))=true then _ else _
    by_cases h1:sdV row g=.int (1 - sd)
    ·rw [decide_eq_true h1];refine iB (A2 (aa (gu (ad rfl) (aN (x:=.int b) (ad rfl) al (.inl (s2.seq hp)) (bn (j:=1) rfl)) (by rw [sizeLine_eq];lia) y1) ao) ⟨_,rfl,y2,λ H3 s3=>qL al ?_⟩);rw [rJ];show Q (!decide (sdV row b=.non)) H3;refine z _ _ ⟨s2.trans s3,λ h2=>?_,λ h2=>⟨g,b,r,rfl,?_⟩⟩
     ·show (if _ then _ else _)=_;rw [if_neg (λ w=>by rw [decide_eq_true w.2] at h2;cases h2)]
     ·show (if _ then _ else _)=_;rw [if_pos ⟨h1,by simpa using h2⟩]
    ·rw [decide_eq_false h1];refine hV (z _ _ ⟨s2,λ _=>?_,λ w=>nomatch w⟩);show (if _ then _ else _)=_;rw [if_neg (λ w=>h1 w.1)]
  ·refine ⟨PJ _,λ q hq=>k q _ (s1.free hq) ?_ (s1.upd hq)⟩;rw [e rfl];exact ⟨[],rfl,ag,λ _ z=>nomatch z⟩
  ·obtain ⟨g,b,r,rfl,e⟩:=e rfl;have hp2:=s1.seq hp;refine j6 (jw (x:=.int b) (y:=.int g) (aN (ad rfl) al (.inl hp2) (bn (j:=1) rfl)) (aN (ad rfl) al (.inl hp2) (bn (j:=0) rfl)) λ t ht=>⟨by show 1<=sizeLine;decide,λ q hq=>?_⟩);have hq1:H' q=none:=by
    by_cases w:q=t
    ·rw [w];exact ht
    ·rw [aq w] at hq;exact hq
   have nt:t≠q:=λ w=>by rw [w,ag] at hq;cases hq
   refine k q _ (s1.free hq1) ?_ ((s1.upd ht).upd hq);rw [e];refine ⟨[([b,g],t)],rfl,ag,λ p hp=>?_⟩;rw [N5.mp hp];exact ⟨s1.free ht,by rw [aq nt,ag];rfl⟩
theorem sJ {f cB:Addr}{fd:FuncData}(F:bi K "by_rule" "by_rule" fV f fd) (T:Txt mg aS aA aE aW) (C:CRb P w K mg base cB):aQ P w K mg base cE 4 f fd ["board","row","square","rule"] (pU K cB):=by
 refine F.ok iN (λ vs H Q E h=>?_) (λ cdv A outer s H vs Q E hr h=>?_)
 ·obtain ⟨b,r,row,sq,sd,wi,hi,hs,u,rfl,_⟩:=h;rfl
 ·obtain ⟨b,r,row,sq,sd,wi,hi,hs,u,rfl,B,hT,R,rl,s0,s1,hsd,sd2,n0,k⟩:=h;have hu:=bA hr;have r64:=R.len;obtain ⟨x1,x2⟩:=R.at s0 (by lia);refine ⟨_,(ae (ay (i:=4) iN.nd rfl (Or.inl rfl) (aB C.side_of hr (av (ci K (cv 1) (cv 2)) pa_nil)))
   (ae (ay (i:=5) iN.nd rfl (Or.inl rfl) (aB C.ray hr (av (cv 0) (av (cv 2) (av (ci K (cv 3) af) (av (cw (aU K hu (cv 4) af) (ci K (cv 3) af) (tQ (ci K (cv 3) af))) pa_nil))))))
   (ae (aV (aU K hu (ci K (cv 3) af) bC) (ah (aw (aB C.jumped hr (av (cv 1) (av (cv 4) (av (cv 5) pa_nil)))))) aD)
   (ah (aw (aB C.slid hr (av (cv 1) (av (cv 4) (av (ci K (cv 3) af) (av (cw (aU K hu (ci K (cv 3) af) bC) (GJ K (cv 5) ir (dF af)) (cv 5)) pa_nil)))))))))),?_⟩
  show ba _ _ _ [oR b,oT row,oJ sq,oR r,none,none] H;refine bB (λ v H'=>v=sdV row sq/\aj H H') (λ Q z=>(aa (gu (ad rfl) (ad rfl) (by rw [sizeLine_eq];lia) x1) ao) _ ⟨_,rfl,x2,λ H2 s2=>z _ _ ⟨rfl,s2⟩⟩) ?_;rintro _ H1 ⟨rfl,q1⟩;rw [hsd];have T1:∀{H'},aj H H'->cJ K H' r u.vs:=λ z=>aj.tupY z hT;have dy0:¬(u.ax=0/\u.dy sd=0):=λ z=>n0 ⟨z.1,by have:=z.2;unfold aI.dy at this;split at this<;>lia⟩;refine bB (λ v H'=> ∃n q,v=.ref q/\jr wi hi hs sq u.ax (u.dy sd) n/\n<=8/\H' q=some (.lst ((dP wi sq u.ax (u.dy sd) n).map V.int))/\aj H1 H')
   (λ Q z=>(aa (ad rfl) (aa (ad rfl) (aa (aN (x:=.int u.ax) (ad rfl) al (.inr (T1 q1)) rfl) (aa (x:=.int (u.dy sd)) (λ Q' z'=>?_) ao)))) _ ⟨b,wi,hi,hs,sq,u.ax,u.dy sd,rfl,B.same q1,s0,s1,dy0,λ n q H' a1 a2 _ a4 a5=>z _ _ ⟨n,q,rfl,a1,a2,a4,a5⟩⟩) ?_
  ·refine Gp (b:=decide (sd=0)) (aZ (gE (ad rfl) al)) (λ h=>?_) (λ h=>?_)
   ·have h:=of_decide_eq_true h;rw [show u.dy sd=u.up by unfold aI.dy;rw [if_pos h]] at z';exact aN (x:=.int u.up) (ad rfl) al (.inr (T1 q1)) rfl _ z'
   ·have h:=of_decide_eq_false h;rw [show u.dy sd= -u.up by unfold aI.dy;rw [if_neg h]] at z';exact tF (aN (x:=.int u.up) (ad rfl) al (.inr (T1 q1)) rfl) _ z'
  rintro _ H2 ⟨n,q,rfl,ry,n8,hq,q2⟩;have q3:=q1.trans q2;have inr:∀g∈dP wi sq u.ax (u.dy sd) n,0<=g/\g<(row.length:Int):=λ g hg=>by obtain ⟨a,b,_⟩:=rX B.w1 ry g hg;lia
  have free:∀{p:Addr},H2 p=none->H p=none:=λ {p} h=>q3.free h;refine bf (b:=decide (u.so="jump")) (aZ (fI (aN (x:=.str u.so) (ad rfl) al (.inr (T1 q3)) rfl) al)) (λ h=>?_) (λ h=>?_)
  ·have h:=of_decide_eq_true h;refine Gz ((aa (ad rfl) (aa (ad rfl) (aa (ad rfl) ao))) _ ⟨row,sd,q,_,rfl,.inl (.inl hq),R,inr,sd2,λ t H' t1 t2 t3=>k n t H' ry n8 (free t1) ?_ (q3.trans t3)⟩);unfold tY;rw [if_pos h];exact t2.from q3
  ·have h:=of_decide_eq_false h;refine Gz ((ad rfl) _ ((ad rfl) _ ((aN (x:=.str u.ai) (ad rfl) al (.inr (T1 q3)) rfl) _ ?_)));refine Gp (b:=decide (u.so="leap")) (aZ (fI (aN (x:=.str u.so) (ad rfl) al (.inr (T1 q3)) rfl) al)) (λ h2=>?_) (λ h2=>?_)
   ·have h2:=of_decide_eq_true h2;refine pW (lo:=none) (hi:=some 1) (ad rfl) uF (j3 al) (.inl (.inl hq)) λ p hp=>?_;have q4:aj H (upd H2 p (.lst (gk ((dP wi sq u.ax (u.dy sd) n).map V.int) none (some 1)))):=q3.upd hp;have ec:gk ((dP wi sq u.ax (u.dy sd) n).map V.int) none (some 1)=((dP wi sq u.ax (u.dy sd) n).take 1).map V.int:=by exact MV _
    refine ⟨row,u.ai,sd,p,(dP wi sq u.ax (u.dy sd) n).take 1,rfl,.inl (.inl (by rw [ec];exact ag)),R,λ g hg=>inr g (OQ hg),by rw [Ol];lia,λ t H' t1 t2 t3=>k n t H' ry n8 (q4.free t1) ?_ (q4.trans t3)⟩;unfold tY;rw [if_neg h,if_pos h2];exact t2.from q4
   ·have h2:=of_decide_eq_false h2;refine (ad rfl) _ ⟨row,u.ai,sd,q,_,rfl,.inl (.inl hq),R,inr,by rw [jb];exact n8,λ t H' t1 t2 t3=>k n t H' ry n8 (free t1) ?_ (q3.trans t3)⟩;unfold tY;rw [if_neg h,if_neg h2];exact t2.from q3
end
end K18
namespace K18
open PySem L2
section
variable {P:Program}{w:World}{K:Frag}{mg:Str->Option Value}{base:Heap}{aS aA aE aW:Addr}
theorem jJ {f cG:Addr}{fd:FuncData}(F:bi K "rules_of" "Game.rules_of" bN f fd) (T:Txt mg aS aA aE aW) (D:pD K cG):aQ P w K mg base cE 1 f fd ["self","kind"] (mB cG):=by
 refine F.ok jB (λ vs H Q E h=>?_) (λ cdv A outer s H vs Q E hr h=>?_)
 ·obtain ⟨g,b,kd,ks,ts,es,st,us,rfl,_⟩:=h;rfl
 ·obtain ⟨g,b,kd,ks,ts,es,st,us,rfl,G,R,h24,k⟩:=h;have hu:=bA hr;obtain ⟨rq,fl,hrq⟩:=G.rules D;refine ⟨_,(ah (aw (dR (bR (N:=["rule","kind"]) (src:=[none,some 1]) (ak bN) ["self","kind"]) (qE K (bT K (cv 0))) (λ _ _ _=>(aX (i:=0) ["rule","kind"])) (λ _ _ _=>(lh (aU K hu (ci K (cv 0) af) (cv 1)))) (λ _ _ _=>(cv 0))))),?_⟩;show tComp _ _ _ _ _ [oR g,oT kd] H Q;refine eM (d:=rq) (xs:=ck us) (rest:=[oT kd]) (aO (ad rfl) fl) (aK.of hrq) (by rw [NZ,sizeLine_eq];lia) rfl (No us kd) (λ v=>v) (λ x hx=>?_) (λ x hx _=>ad rfl) (λ d hd=>?_)
  ·obtain ⟨z,hz,rfl⟩:=N0.mp hx;rw [AD R hz];exact aZ (fI (aN (x:=.str z.1.kd) (ad rfl) al (.inr (.inl (.inl (R z hz)))) rfl) (ad rfl))
  ·rw [sW R,List.map_id'']
   ·exact k d _ hd ag ((aj.refl H).upd hd)
   ·exact λ _=>rfl
theorem Am {f cB cG:Addr}{fd:FuncData}(F:bi K "goals" "goals" i9 f fd) (T:Txt mg aS aA aE aW) (D:pD K cG) (C:CRg P w K mg base cB cG):aQ P w K mg base cE 5 f fd ["game","row","square"] (ny K cB cG):=by
 refine F.ok lb (λ vs H Q E h=>?_) (λ cdv A outer s H vs Q E hr h=>?_)
 ·obtain ⟨g,b,row,kd,sq,sd,wi,hi,hs,ks,ts,es,st,us,rfl,_⟩:=h;rfl
 ·obtain ⟨g,b,row,kd,sq,sd,wi,hi,hs,ks,ts,es,st,us,rfl,G,B,U,u12,un0,R,rl,s0,s1,hsd,sd2,hkd,few,k⟩:=h;have hu:=bA hr;have r64:=R.len;obtain ⟨x1,x2⟩:=R.at s0 (by lia);have ol:(ofKind us kd).length<=12:=PK (OK _ _) u12;have osub:∀z∈ofKind us kd,z∈us:=λ z hz=>(Oq.mp hz).1;refine ⟨_,(ae (ay (i:=3) lb.nd rfl (Or.inl rfl) (bg pa_nil))
   (ae (fF PassesOwn.never rfl (qE K (lD C.Game_rules_of hr (cv 0) (av (aB C.kind_of hr (av (ci K (cv 1) (cv 2)) pa_nil)) pa_nil))) (bD (i:=4) lb.nd rfl (Or.inl rfl)) (ah (eJ (Bh (cv 3) (aB C.by_rule hr (av (bT K (cv 0)) (av (cv 1) (av (cv 2) (av (cv 4) pa_nil)))))))))
   (ah (aw (kB (Jf P w hr) mZ T.sorted (av (wx (Mv P w K hr) pe T.set (av (cv 3) pa_nil)) pa_nil)))))),?_⟩
  show ba _ _ _ [oR g,oT row,oJ sq,none,none] H;refine iL λ q hq=>?_;have sm:aj H (upd H q (.lst [])):=(aj.refl H).upd hq;refine bS (λ σ' H'=>(∃o,σ'=[oR g,oT row,oJ sq,oR q,o])/\(∃l,aM wi hi hs row sq sd (ofKind us kd) l/\cm H H' q l)/\aj H H') (λ K' hK=>?_) ?_
  ·refine hZ (λ v H'=> ∃d,v=.ref d/\H' d=some (.lst (ck (ofKind us kd)))/\d≠q/\aj (upd H q (.lst [])) H') (λ Q z=>?_) ?_
   ·refine (show Ev (gG 0) _ _ (.ref g) from ad rfl) _ ⟨(G.same sm).no,M8 ((aa (gu (ad rfl) (ad rfl) (by rw [sizeLine_eq];lia) x1) ao) _ ⟨_,rfl,x2,λ H2 s2=>?_⟩)⟩;rw [hkd];refine ⟨g,b,kd,ks,ts,es,st,us,rfl,(G.same sm).same s2,(U.same sm).same s2,by lia,λ d H' d1 d2 d3=>z _ _ ⟨d,rfl,d2,λ e=>?_,s2.trans d3⟩⟩;rw [e,s2 _ _ ag] at d1;cases d1
   ·rintro _ H1 ⟨d,rfl,hd,ndq,s1'⟩;refine ⟨d,ck (ofKind us kd),rfl,aK.of hd,λ i σ' H'=>(∃o,σ'=[oR g,oT row,oJ sq,oR q,o])/\(∃l,aM wi hi hs row sq sd ((ofKind us kd).take i) l/\cm H H' q l)/\aj H H'/\H' d=some (.lst (ck (ofKind us kd))),⟨⟨_,rfl⟩,⟨[],.nil,[],rfl,s1' _ _ ag,λ _ z=>nomatch z⟩,sm.trans s1',hd⟩,?_,?_,?_⟩
    ·rintro i σ' H' _ ⟨_,_,_,h⟩;exact aK.of h
    ·rintro i x _ H2 hx ⟨⟨o,rfl⟩,⟨l,hl,ps,p1,p2,p3⟩,s2,hd2⟩;have hi':i<(ofKind us kd).length:=by
      have:=(Oe.mp hx).1
      rwa [NZ] at this
     obtain rfl:x=.ref (ofKind us kd)[i].2:=by rw [N3,N2 hi'] at hx;exact (Option.some.inj hx).symm
     have tk:(ofKind us kd).take (i+1)=(ofKind us kd).take i++[(ofKind us kd)[i]]:=by rw [Po hi']
     have hz:=osub _ (Of hi');generalize (ofKind us kd)[i]=zz at tk hz;have ll:=hl.len;rw [Ol] at ll;show jY _ _ [oR g,oT row,oJ sq,oR q,oR zz.2] H2;refine GS (ad rfl) p2 ((aa (aO (ad rfl) ((G.same s2).board D)) (aa (ad rfl) (aa (ad rfl) (aa (ad rfl) ao)))) _ ⟨b,zz.2,row,sq,sd,wi,hi,hs,zz.1,rfl,B.same s2,.inl (.inl ((U.same s2) zz hz)),R,rl,s0,s1,hsd,sd2,un0 zz hz,λ n t H3 ry n8 ht hP s3=>?_⟩);obtain ⟨ps2,g1,g2,g3⟩:=hP;have lr:ig wi hi hs row sq sd zz.1 (tY row sd zz.1.so zz.1.ai (dP wi sq zz.1.ax (zz.1.dy sd) n)):=⟨n,ry,n8,rfl⟩;have lr8:=lr.len;have z1:=congrArg List.length p1;have z2:=congrArg List.length g1;rw [NZ,NZ] at z1 z2;refine ⟨t,_,_,rfl,s3 _ _ p2,g2,by rw [NZ,NZ,sizeLine_eq];lia,⟨_,rfl⟩,⟨_,?_,cm.cat p1 (s3 _ _ p2) (λ p hp=>⟨(p3 p hp).1,s3 _ _ (p3 p hp).2⟩) s2 g1 g3⟩,(s2.trans s3).put hq,?_⟩
     ·rw [tk];exact aM.add lr hl
     ·rw [aq ndq];exact s3 _ _ hd2
    ·rintro σ' H' ⟨o,⟨l,hl,hP⟩,s2,_⟩;rw [NZ,OZ] at hl;exact hK _ _ ⟨o,⟨l,hl,hP⟩,s2⟩
  ·rintro _ H1 ⟨⟨o,rfl⟩,⟨l,hl,ps,p1,p2,p3⟩,s2⟩;have ll:=hl.len;have z1:=congrArg List.length p1;rw [NZ,NZ] at z1;refine rH ((ad rfl) _ (rK (aK.of p2) (λ p hp=>⟨?_,(p3 p hp).2⟩) (by lia) (λ L nd mem=>?_) λ ps' q' H' sub mem pw hq' s3 hq2=>?_))
   ·have:p.1∈l.map pk:=by rw [<-p1];exact N0.mpr ⟨p,hp,rfl⟩
    obtain ⟨x,_,e⟩:=N0.mp this;rw [<-e];exact λ z=>nomatch z
   ·obtain ⟨m,rfl,hm⟩:=Ie (l:=l) λ k hk=>by rw [<-p1];exact (mem k).mp hk
    rw [NZ];refine few l hl m ?_ hm;rw [OD,Ou] at nd;exact nd.imp λ z e=>z (by rw [e])
   ·obtain ⟨l',e,hm⟩:=Ie (l:=l) (L:=ps'.map (·.1)) λ k hk=>by rw [<-p1];exact (mem k).mp hk
    refine k l l' q' H' hl ⟨λ x=>⟨hm x,λ hx=>?_⟩,?_⟩ (s2.free hq') ⟨ps',e,hq2,λ p hp=>⟨(p3 p (sub p hp)).1,s3 _ _ (p3 p (sub p hp)).2⟩⟩ (s2.trans s3)
    ·have:pk x∈ps'.map (·.1):=(mem _).mpr (by rw [p1];exact N0.mpr ⟨x,hx,rfl⟩);rw [e] at this;obtain ⟨y,hy,ey⟩:=N0.mp this;exact IL ey▸hy
    ·have z:(ps'.map (·.1)).Pairwise λ x y=>dQ x y=true:=Ou.mpr pw;rw [e] at z;exact Ou.mp z
end
end K18
namespace K18
open PySem L2
section
variable {P:Program}{w:World}{K:Frag}{mg:Str->Option Value}{base:Heap}{aS aA aE aW:Addr}
theorem km {f:Addr}{fd:FuncData}(F:bi K "_law_cell_at" "_law_cell_at" cu f fd) (T:Txt mg aS aA aE aW):aQ P w K mg base cE 1 f fd ["_law_script","_law_k"] (iW K):=by
 refine F.ok kh (λ vs H Q E h=>?_) (λ cdv A outer s H vs Q E hr h=>?_)
 ·obtain ⟨a,ns,k,rfl,_⟩:=h;rfl
 ·obtain ⟨a,ns,k,rfl,hS,k0,q⟩:=h;have hu:=bA hr;refine ⟨_,(ae (aV (aU K hu (cv 1) (kB (gc K) bK T.len (av (cv 0) pa_nil))) (ah (aw (ci K (cv 0) (cv 1)))) aD)
   (ah (aw af))),?_⟩
  show ba _ _ _ [oR a,oJ k] H;unfold cellAt at q;refine bf (aZ (vd (ad rfl) (cH (ad rfl) (.inl hS)))) (λ h=>?_) (λ h=>?_)
  ·have h:=of_decide_eq_true h;rw [NZ] at h;have hlt:k.toNat<ns.length:=by lia
   have e:(ns.map V.int)[k.toNat]? =some (.int (ns.getD k.toNat 0)):=by rw [N3,N8,N2 hlt];rfl
   have e2:=bn e;have ei:((k.toNat:Nat):Int)=k:=by lia
   rw [ei] at e2;exact aG (aN (ad rfl) (ad rfl) (.inl hS) e2) q
  ·have h:=of_decide_eq_false h;rw [NZ] at h;rw [N8,Ot (by lia)] at q;exact aG al q
theorem mf {f:Addr}{fd:FuncData}(F:bi K "_law_mixed" "_law_mixed" dc f fd) (T:Txt mg aS aA aE aW):aQ P w K mg base cE 1 f fd ["_law_cell","_law_k"] nu:=by
 refine F.ok l9 (λ vs H Q E h=>?_) (λ cdv A outer s H vs Q E hr h=>?_)
 ·obtain ⟨c,k,rfl,_⟩:=h;rfl
 ·obtain ⟨c,k,rfl,q⟩:=h;refine ⟨_,(ah (aw (am (am (am (am (cv 0) (am af (cv 1))) af) af) af))),?_⟩;show ce _ _ [oJ c,oJ k] H;exact aG (aR (dm (bF (bF (ad rfl) (dm al (ad rfl) (.inl ⟨by decide,by decide⟩))) al) al (.inr ⟨by decide,by decide⟩)) al (by decide)) q
theorem mh {f:Addr}{fd:FuncData}(F:bi K "_law_kinds" "_law_kinds" cC f fd) (T:Txt mg aS aA aE aW):aQ P w K mg base cE 1 f fd ["_law_cell"] pO:=by
 refine F.ok fE (λ vs H Q E h=>?_) (λ cdv A outer s H vs Q E hr h=>?_)
 ·obtain ⟨c,rfl,_⟩:=h;rfl
 ·obtain ⟨c,rfl,k⟩:=h;have hu:=bA hr;refine ⟨_,(ae (ay (i:=1) fE.nd rfl (Or.inr rfl) bC)
   (ae (ay (i:=2) fE.nd rfl (Or.inr rfl) (ci K (bg (cD rfl)) (am (am (cv 0) af) af)))
   (ah (aw (dR (bR (N:=["_law_k","_law_letters","_law_cell","_law_step"]) (src:=[none,some 1,some 0,some 2]) (ak cC) ["_law_cell","_law_letters","_law_step"]) (BB T.range (av (ci K (bg (cD rfl)) (am (cv 0) af)) pa_nil)) (λ _ _ _=>(aX (i:=0) ["_law_k","_law_letters","_law_cell","_law_step"])) (λ _ _ _=>bu) (λ _ _ _=>(ci K (cv 1) (am (am (am (cv 2) af) (am (cv 3) (cv 0))) af)))))))),?_⟩
  show ba _ _ _ [oJ c,none,none] H;refine aJ al ?_;refine bB (λ v H'=> ∃st:Int,v=.int st/\st∈([1,3,5,7,9,11]:List Int)/\aj H H') (λ Q q=>?_) ?_
  ·obtain ⟨n,e,hn⟩:=li (ns:=[1,3,5,7,9,11]) (i:=c / 208 % 6) (by lia) (by show _<(6:Int);lia);exact j7 iI (by decide) (λ H'=>(aR (bE (ad rfl) al ⟨by decide,by decide⟩) al (by decide))) e (λ H' s=>q _ _ ⟨n,rfl,hn,s⟩)
  rintro _ H1 ⟨st,rfl,hst,s1⟩;obtain ⟨n,e,hn⟩:=li (ns:=[1,2,2,3,3,1,6,4]) (i:=c % 8) (by lia) (by show _<(8:Int);lia);have hn6:1<=n/\n<=6:=by simp only [N1,Od,or_false] at hn;lia
  show ce _ _ [oJ c,oT ("abcdefghijklmnopqrstuvwxyz"),oJ st] H1;refine wL (n:=n) (rest:=[oT ("abcdefghijklmnopqrstuvwxyz"),oJ c,oJ st]) (λ Q q=>uC iI (by decide) (λ H'=>(aR (ad rfl) al (by decide))) e q) (by lia) (by rw [sizeLine_eq];lia) (by lia) rfl (λ _=>true)
   (λ x=>match x with | .int i=>strV (97+((c / 8+st*i) % 26).toNat) | _=>.non) (λ i H' s hi=>cy) (λ i H' s hi _=>?_) (λ H' d s hd=>?_)
  ·have hlt:0<=0+(i:Int)/\0+(i:Int)<6:=by lia
   exact gu (ad rfl) (aR (bF (bE (ad rfl) al ⟨by decide,by decide⟩) (dm (ad rfl) (ad rfl) (.inr ⟨by lia,by lia⟩))) al (by decide)) (by decide) (JR (by lia) (by lia))
  ·have e2:(((List.range n.toNat).map λ (i:Nat)=>V.int (0+(i:Int))).filter λ _=>true).map (λ x=>match x with | .int i=>strV (97+((c / 8+st*i) % 26).toNat) | _=>.non)=(iR (c / 8) st n.toNat).map strV:=by rw [Oo.mpr (λ _ _=>rfl),N7];unfold iR;rw [N7];refine Ov λ i _=>?_;show strV (97+((c / 8+st*(0+(i:Int))) % 26).toNat)=strV (97+((c / 8+st*(i:Int)) % 26).toNat);rw [Qe]
   rw [e2];have hl:(iR (c / 8) st n.toNat).length=n.toNat:=by unfold iR;simp
   exact k d _ _ ((s1.trans s).free hd) ag sV (wt (by lia) hst) (by lia) (by lia) ((s1.trans s).upd hd)
theorem mj {f:Addr}{fd:FuncData}(F:bi K "_law_board" "_law_board" de f fd) (T:Txt mg aS aA aE aW) (C:LG1 P w K mg base):aQ P w K mg base cE 2 f fd ["_law_script"] (pP K):=by
 refine F.ok bj (λ vs H Q E h=>?_) (λ cdv A outer s H vs Q E hr h=>?_)
 ·obtain ⟨a,ns,rfl,_⟩:=h;rfl
 ·obtain ⟨a,ns,rfl,hS,k⟩:=h;have hu:=bA hr;refine ⟨_,(ae (ay (i:=1) bj.nd rfl (Or.inl rfl) (aB C._law_cell_at hr (av (cv 0) (av af pa_nil))))
   (ae (ay (i:=2) bj.nd rfl (Or.inl rfl) (am af (am (cv 1) af)))
   (ae (ay (i:=3) bj.nd rfl (Or.inl rfl) (am af (am (am (cv 1) af) af)))
   (ae (aV (aU K hu (am (am (cv 1) af) af) af) (ae (ay (i:=2) bj.nd rfl (Or.inl rfl) (am af (am (am (cv 1) af) af)))
   (ah (ay (i:=3) bj.nd rfl (Or.inl rfl) (am af (am (am (cv 1) af) af))))) aD)
   (ae (ay (i:=1) bj.nd rfl (Or.inl rfl) (aB C._law_cell_at hr (av (cv 0) (av af pa_nil))))
   (ae (ay (i:=4) bj.nd rfl (Or.inl rfl) (bg pa_nil))
   (ae (fF PassesOwn.never rfl (BB T.range (av (ci K (bg (cD rfl)) (am (cv 1) af)) pa_nil)) (bD (i:=5) bj.nd rfl (Or.inl rfl)) (ae (ay (i:=6) bj.nd rfl (Or.inl rfl) (am (aB C._law_mixed hr (av (am (cv 1) af) (av (cv 5) pa_nil))) (am (cv 2) (cv 3))))
   (ah (aV (PW.pt (jE (aU K hu (cv 6) (cv 4)) (iq (aU K hu (am (kB (gc K) bK T.len (av (cv 4) pa_nil)) af) (am (cv 2) (cv 3)))))) (ah (eJ (iU (cv 4) (cv 6)))) aD))))
   (ah (aw (dg (av (cv 2) (av (cv 3) (av (cv 4) pa_nil))))))))))))),?_⟩
  show ba _ _ _ [oR a,none,none,none,none,none,none] H;refine aJ (aC (aa (ad rfl) (aa al ao)) (λ Q q=>⟨a,ns,0,rfl,hS,by decide,q⟩)) ?_;generalize cellAt ns 0=c;refine aJ (bF al (aR (ad rfl) al (by decide))) ?_;refine aJ (bF al (aR (bE (ad rfl) al ⟨by decide,by decide⟩) al (by decide))) ?_;refine bS (λ σ' H'=> ∃wi hi:Int,1<=wi/\wi<=8/\1<=hi/\hi<=8/\σ'=[oR a,oJ c,oJ wi,oJ hi,none,none,none]/\H'=H) (λ K' hK=>?_) ?_
  ·refine kC (aZ (gE (aR (bE (ad rfl) al ⟨by decide,by decide⟩) al (by decide)) al)) (λ _=>?_) (λ _=>hK _ _ ⟨_,_,by lia,by lia,by lia,by lia,rfl,rfl⟩);refine aJ (bF al (aR (bE (ad rfl) al ⟨by decide,by decide⟩) al (by decide))) ?_;exact fz (bF al (aR (bE (ad rfl) al ⟨by decide,by decide⟩) al (by decide))) (hK _ _ ⟨_,_,by lia,by lia,by lia,by lia,rfl,rfl⟩)
  rintro _ H1 ⟨wi,hi,w1,w8,h1,h8,rfl,rfl⟩;have m1:wi*hi<=8*8:=Qf w8 h8 (by lia) (by lia);have m0:1*1<=wi*hi:=Qf w1 h1 (by lia) (by lia);refine aJ (aC (aa (ad rfl) (aa al ao)) (λ Q q=>⟨a,ns,1,rfl,hS,by decide,q⟩)) ?_;generalize cellAt ns 1=c1;refine iL λ q1 hq1=>?_;have sm:aj H1 (upd H1 q1 (.lst [])):=(aj.refl H1).upd hq1;obtain ⟨n,e,hn⟩:=li (ns:=[0,0,1,2]) (i:=c1 % 4) (by lia) (by show _<(4:Int);lia);have hn2:0<=n/\n<=2:=by simp only [N1,Od,or_false] at hn;lia
  refine bS (λ σ' H'=> ∃hs:List Int,(∃o5 o6,σ'=[oR a,oJ c1,oJ wi,oJ hi,oR q1,o5,o6])/\H' q1=some (.lst (hs.map V.int))/\(∀h∈hs,0<=h/\h<wi*hi)/\hs.Nodup/\(hs.length:Int)<wi*hi/\hs.length<=2/\aj H1 H') (λ K' hK=>?_) ?_
  ·refine jP n (λ Q q=>uC iI (by decide) (λ H'=>(aR (ad rfl) al (by decide))) e q) (by lia) (by lia)
    (λ i σ' H'=> ∃hs:List Int,(∃o5 o6,σ'=[oR a,oJ c1,oJ wi,oJ hi,oR q1,o5,o6])/\H' q1=some (.lst (hs.map V.int))/\(∀h∈hs,0<=h/\h<wi*hi)/\hs.Nodup/\(hs.length:Int)<wi*hi/\hs.length<=i/\aj H1 H')
    (λ H' s=>⟨[],⟨_,_,rfl⟩,s _ _ ag,(λ h hh=>by cases hh),Pm,by show (0:Int)<_;lia,PF _,sm.trans s⟩) ?_ (λ σ' H' h=>?_)
   ·rintro i _ H3 hi' ⟨hs,⟨o5,o6,rfl⟩,h3,gd,nd,hl,hl2,s3⟩;show ba _ _ _ [oR a,oJ c1,oJ wi,oJ hi,oR q1,oJ (0+(i:Int)),o6] H3;generalize 0+(i:Int)=j;refine aJ (aR (aC (aa (bE (ad rfl) al ⟨by decide,by decide⟩) (aa (ad rfl) ao)) (λ Q q=>⟨_,_,rfl,q⟩)) (dm (ad rfl) (ad rfl) (.inl ⟨by lia,by lia⟩)) (by lia)) ?_;generalize hsq:mixed (c1 / 4) j % (wi*hi)=sq;have sq0:0<=sq:=hsq▸Qb _ (by lia);have sq1:sq<wi*hi:=hsq▸Qc _ (by lia);refine kC (kO (aZ (tD (ad rfl) (ad rfl) (.inl (aK.of h3)))) (λ _=>(aZ (vd (bF (cH (ad rfl) (.inl (aK.of h3))) al) (dm (ad rfl) (ad rfl) (.inl ⟨by lia,by lia⟩)))))) (λ h=>?_) (λ _=>⟨hs,⟨_,_,rfl⟩,h3,gd,nd,hl,by lia,s3⟩);rw [Qp] at h;have hni:¬sq∈hs:=λ z=>by have h1:=h.1;rw [decide_eq_true z] at h1;cases h1
    have hl':=of_decide_eq_true h.2;rw [NZ] at hl';refine BP (ad rfl) (ad rfl) h3 (by rw [NZ,sizeLine_eq];lia) ⟨hs++[sq],⟨_,_,rfl⟩,?_,λ h hh=>?_,?_,?_,?_,s3.put hq1⟩
    ·rw [ag,Og];rfl
    ·rcases Oc.mp hh with z | z
     ·exact gd h z
     ·rw [N5.mp z];exact ⟨sq0,sq1⟩
    ·rw [OY];refine ⟨nd,by simp,λ x hx y hy e=>?_⟩;rw [N5.mp hy] at e;exact hni (e▸hx)
    ·rw [Oa];show ((hs.length+1:Nat):Int)<_;lia
    ·rw [Oa];show hs.length+1<=_;lia
   ·obtain ⟨hs,o,h3,gd,nd,hl,hl2,s3⟩:=h;exact hK _ _ ⟨hs,o,h3,gd,nd,hl,by lia,s3⟩
  rintro _ H3 ⟨hs,⟨o5,o6,rfl⟩,h3,gd,nd,hl,hl2,s3⟩;show ce _ _ [oR a,oJ c1,oJ wi,oJ hi,oR q1,o5,o6] H3;refine zv (ad rfl) (ad rfl) (ad rfl) (λ t ht=>?_);exact k t q1 wi hi hs _ w1 w8 h1 h8 ag (by rw [aq (ar h3 ht)];exact h3) gd nd hl hl2 hq1 (s3.free ht) (s3.upd ht)
end
end K18
namespace K18
open PySem L2
section
variable {P:Program}{w:World}{K:Frag}{mg:Str->Option Value}{base:Heap}{aS aA aE aW:Addr}
theorem ow {f:Addr}{fd:FuncData}(F:bi K "_law_rule" "_law_rule" dL f fd) (T:Txt mg aS aA aE aW):aQ P w K mg base cE 1 f fd ["_law_cell","_law_kinds_here"] uu:=by
 refine F.ok bx (λ vs H Q E h=>?_) (λ cdv A outer s H vs Q E hr h=>?_)
 ·obtain ⟨c,d,ks,rfl,_⟩:=h;rfl
 ·obtain ⟨c,d,ks,rfl,hk,q⟩:=h;have hu:=bA hr;have hpos:(0:Int)<((ks.map strV).length:Int):=by rw [NZ];have:=hk.l1;lia
  have h6:((ks.map strV).length:Int)<=6:=by rw [NZ];have:=hk.l6;lia
  refine ⟨_,(ae (ay (i:=2) bx.nd rfl (Or.inl rfl) (am (cv 0) (kB (gc K) bK T.len (av (cv 1) pa_nil))))
   (ae (ay (i:=3) bx.nd rfl (Or.inl rfl) (ci K (bg (cD rfl)) (am (cv 2) af)))
   (ae (ay (i:=4) bx.nd rfl (Or.inl rfl) (ci K (bg (cD rfl)) (am (am (cv 2) af) af)))
   (ae (ay (i:=5) bx.nd rfl (Or.inl rfl) af)
   (ae (aV (aU K hu (cv 3) bC) (ah (ay (i:=4) bx.nd rfl (Or.inl rfl) bC)) aD)
   (ae (aV (aU K hu (cv 3) bC) (ah (ay (i:=5) bx.nd rfl (Or.inl rfl) (ci K (bg (cD rfl)) (am (am (cv 2) af) af)))) aD)
   (ae (ay (i:=6) bx.nd rfl (Or.inl rfl) (am (am (am (cv 2) af) (am (am af (cv 5)) af)) (cv 5)))
   (ae (ay (i:=7) bx.nd rfl (Or.inl rfl) (am (am (am (cv 2) af) (am (am af (cv 5)) af)) (cv 5)))
   (ae (aV (PW.pt (jE (aU K hu (cv 6) af) (iq (aU K hu (cv 7) af)))) (ah (ay (i:=7) bx.nd rfl (Or.inl rfl) af)) aD)
   (ah (aw (dg (av (ci K (cv 1) (am (cv 0) (kB (gc K) bK T.len (av (cv 1) pa_nil)))) (av (cv 3) (av (cv 4) (av (cv 6) (av (cv 7) pa_nil))))))))))))))))),?_⟩
  show ba _ _ _ [oJ c,oR d,none,none,none,none,none,none] H;refine aJ (bE (ad rfl) (cH (ad rfl) (.inl (aK.of hk.at_))) ⟨by lia,by lia⟩) ?_;generalize c / ((ks.map strV).length:Int)=m;refine bB (λ v H'=> ∃so:Str,v=.str so/\so∈sortsL/\aj H H') (λ Q q=>?_) ?_
  ·obtain ⟨n,e,hn⟩:=uH (ss:=sortsL) (i:=m % 3) (by lia) (by show _<(3:Int);lia);exact j7 iI (by decide) (λ H'=>(aR (ad rfl) al (by decide))) e (λ H' s=>q _ _ ⟨n,rfl,hn,s⟩)
  rintro _ H1 ⟨so,rfl,hso,s1⟩;refine bB (λ v H'=> ∃ai:Str,v=.str ai/\ai∈aimsL/\aj H1 H') (λ Q q=>?_) ?_
  ·obtain ⟨n,e,hn⟩:=uH (ss:=aimsL) (i:=m / 3 % 3) (by lia) (by show _<(3:Int);lia);exact j7 iI (by decide) (λ H'=>(aR (bE (ad rfl) al ⟨by decide,by decide⟩) al (by decide))) e (λ H' s=>q _ _ ⟨n,rfl,hn,s⟩)
  rintro _ H2 ⟨ai,rfl,hai,s2⟩;refine aJ al ?_;show ba _ _ _ [oJ c,oR d,oJ m,oT so,oT ai,oJ 1,none,none] H2;refine eI (λ σ' H'=>H'=H2/\∃ai:Str,σ'=[oJ c,oR d,oJ m,oT so,oT ai,oJ 1,none,none]/\ai∈aimsL/\(so="jump"->ai="hit")) ?_ (λ go=>?_)
  rotate_left
  ·exact bf (aZ (fI (ad rfl) al)) (λ h=>fz al (go _ _ ⟨rfl,"hit",rfl,by decide,λ _=>rfl⟩)) (λ h=>go _ _ ⟨rfl,ai,rfl,hai,λ z=>absurd z (of_decide_eq_false h)⟩)
  rintro _ H2 ⟨rfl,ai,rfl,hai,hjh⟩;refine eI (λ σ' H'=>aj H2 H'/\∃fr:Int,σ'=[oJ c,oR d,oJ m,oT so,oT ai,oJ fr,none,none]/\1<=fr/\fr<=(if so="leap" then 3 else 1)) ?_ (λ go=>?_)
  rotate_left
  ·refine bf (aZ (fI (ad rfl) al)) (λ h=>?_) (λ h=>go _ _ ⟨aj.refl _,1,rfl,by decide,by split<;>lia⟩);obtain ⟨n,e,hn⟩:=li (ns:=[1,2,3]) (i:=m / 9 % 3) (by lia) (by show _<(3:Int);lia);have hn6:1<=n/\n<=3:=by simp only [N1,Od,or_false] at hn;lia
   exact pz (j7 iI (by decide) (λ H'=>(aR (bE (ad rfl) al ⟨by decide,by decide⟩) al (by decide))) e (λ H' s=>go _ _ ⟨s,n,rfl,hn6.1,by rw [if_pos (of_decide_eq_true h)];exact hn6.2⟩))
  rintro _ H3 ⟨s3,fr,rfl,f0,f1⟩;have fr3:fr<=3:=by split at f1<;>lia
  refine aJ (dA (aR (bE (ad rfl) al ⟨by decide,by decide⟩) (bF (dm al (ad rfl) (.inl ⟨by decide,by decide⟩)) al) (by lia)) (ad rfl)) ?_;refine aJ (dA (aR (bE (ad rfl) al ⟨by decide,by decide⟩) (bF (dm al (ad rfl) (.inl ⟨by decide,by decide⟩)) al) (by lia)) (ad rfl)) ?_;have a0:=Qb (m / 27) (by lia:2*fr+1≠0);have a1:=Qc (m / 27) (by lia:0<2*fr+1);have b0:=Qb (m / 189) (by lia:2*fr+1≠0);have b1:=Qc (m / 189) (by lia:0<2*fr+1);have hax: -fr<=m / 27 % (2*fr+1) - fr/\m / 27 % (2*fr+1) - fr<=fr:=by lia
  have hup: -fr<=m / 189 % (2*fr+1) - fr/\m / 189 % (2*fr+1) - fr<=fr:=by lia
  generalize m / 27 % (2*fr+1) - fr=ax at hax;generalize m / 189 % (2*fr+1) - fr=up at hup;show ba _ _ _ [oJ c,oR d,oJ m,oT so,oT ai,oJ fr,oJ ax,oJ up] H3;refine eI (λ σ' H'=>H'=H3/\∃up:Int,σ'=[oJ c,oR d,oJ m,oT so,oT ai,oJ fr,oJ ax,oJ up]/\-fr<=up/\up<=fr/\¬(ax=0/\up=0)) ?_ (λ go=>?_)
  rotate_left
  ·refine bf (kO (aZ (gE (ad rfl) al)) (λ _=>aZ (gE (ad rfl) al))) (λ h=>fz al (go _ _ ⟨rfl,1,rfl,by lia,by lia,by lia⟩)) (λ h=>go _ _ ⟨rfl,up,rfl,hup.1,hup.2,λ z=>by simp [z.1,z.2] at h⟩)
  rintro _ H3 ⟨rfl,up,rfl,u0,u1,n0⟩;have s03:=(s1.trans s2).trans s3;have hk3:=hk.same s03;obtain ⟨k,hkm,ek⟩:=hk3.pick c;refine tupY (eG (aN (ad rfl) (aR (ad rfl) (cH (ad rfl) (.inl (aK.of hk3.at_))) hpos) (.inl (aK.of hk3.at_)) ek) (eG (ad rfl) (eG (ad rfl) (eG (ad rfl) (eG (ad rfl) (wj ⟨by show 5<=sizeLine;decide,λ p hp=>?_⟩))))));exact q p ⟨one k,so,ai,ax,up⟩ _ ⟨⟨k,hkm,rfl⟩,hso,hai,hjh,⟨by show -(if so="leap" then 3 else 1)<=ax;lia,Int.le_trans hax.2 f1⟩,⟨by show -(if so="leap" then 3 else 1)<=up;lia,Int.le_trans u1 f1⟩,n0⟩ (s03.free hp) ag (s03.upd hp)
theorem me {f:Addr}{fd:FuncData}(F:bi K "_law_turns" "_law_turns" cA f fd) (T:Txt mg aS aA aE aW):aQ P w K mg base cE 1 f fd ["_law_cell","_law_kinds_here"] pN:=by
 refine F.ok dD (λ vs H Q E h=>?_) (λ cdv A outer s H vs Q E hr h=>?_)
 ·obtain ⟨c,d,ks,rfl,_⟩:=h;rfl
 ·obtain ⟨c,d,ks,rfl,hk,q⟩:=h;have hu:=bA hr;have hl1:=hk.l1;have hl6:=hk.l6;refine ⟨_,(ae (ay (i:=2) dD.nd rfl (Or.inr rfl) (kB (gc K) bK T.len (av (cv 1) pa_nil)))
   (ae (aV (PW.pt (gD (aU K hu (am (cv 0) af) af) (fc (aU K hu (cv 2) af)))) (ah (aw (bg pa_nil))) aD)
   (ae (ay (i:=3) dD.nd rfl (Or.inr rfl) (ci K (cv 1) (am (am (cv 0) af) (cv 2))))
   (ae (kH (i:=4) rfl (bR (N:=["_law_k","_law_other","_law_kinds_here","_law_many","_law_cell"]) (src:=[none,some 3,some 1,some 2,some 0]) (ak cA) ["_law_cell","_law_kinds_here","_law_many","_law_other","_law_turns_here"]) (BB T.range (av (am (cv 2) af) pa_nil)) (λ _ _ _=>(aX (i:=0) ["_law_k","_law_other","_law_kinds_here","_law_many","_law_cell"])) (λ _ _ _=>bu) (λ _ _ _=>(dg (av (ci K (cv 2) (am (am (am (am (cv 4) af) af) (cv 0)) (cv 3))) (av (cv 1) pa_nil)))) dD.nd rfl (Or.inl rfl) rfl (Or.inl rfl))
   (ah (aw (GJ K (cv 4) ir (dF (am af (am (am (cv 0) af) af)))))))))),?_⟩
  show ba _ _ _ [oJ c,oR d,none,none,none] H;refine aJ (cH (ad rfl) (.inl (aK.of hk.at_))) ?_;rw [NZ];refine bf (gM (aZ (lJ (aR (ad rfl) al (by decide)) al)) (λ _=>(aZ (vd (ad rfl) al)))) (λ h=>?_) (λ h=>?_)
  ·refine ⟨PJ _,λ p hp=>q p [] _ ⟨PJ _,λ _ z=>(nomatch z),Pm,λ _ z=>(nomatch z)⟩ (λ _ z=>(nomatch z)) hp ag ((aj.refl H).upd hp)⟩
  ·have hm:2<=ks.length:=by rw [Bool.or_eq_false_iff] at h;have:=of_decide_eq_false h.2;lia
   have at_:∀i:Int,0<=i->i<ks.length->ke (ks.map strV) i=some (strV (ks.getD i.toNat 0))/\ks.getD i.toNat 0∈ks:=λ i h0 h1=>by
    have hi:i.toNat<ks.length:=by lia
    have e:ks[i.toNat]? =some (ks.getD i.toNat 0):=by rw [N8,N2 hi];rfl
    have z:=bn (xs:=ks.map strV) (j:=i.toNat) (v:=strV (ks.getD i.toNat 0)) (by rw [N3,e];rfl);rw [Qk h0] at z;exact ⟨z,Om e⟩
   have inj:∀i j:Int,0<=i->i<ks.length->0<=j->j<ks.length->ks.getD i.toNat 0=ks.getD j.toNat 0->i=j:=λ i j a b c' d' e=>by
    have hi:i.toNat<ks.length:=by lia
    have hj:j.toNat<ks.length:=by lia
    rw [N8,N8,N2 hi,N2 hj] at e;have:=(O4 hk.nd).mp (by simpa using e);lia
   have o0:=Qb (c / 3) (by lia:(ks.length:Int)≠0);have o1:=Qc (c / 3) (by lia:(0:Int)<ks.length);obtain ⟨eo,mo⟩:=at_ _ o0 o1;refine aJ (v:=strV (ks.getD (c / 3 % (ks.length:Int)).toNat 0)) (aN (ad rfl) (aR (bE (ad rfl) al ⟨by decide,by decide⟩) (ad rfl) (by lia)) (.inl (aK.of hk.at_)) eo) ?_;generalize hi0:c / 3 % (ks.length:Int)=i0 at o0 o1 eo mo;refine bB (λ v H'=> ∃(p:Addr) (zs:List ((Str×Str)×Addr)),v=.ref p/\H' p=some (.lst (bp zs))/\fv H' zs/\zs.length=ks.length - 1/\(∀(i:Nat) z,zs[i]? =some z->z.1=(one (ks.getD ((c / 3+1+(i:Int)) % (ks.length:Int)).toNat 0),one (ks.getD i0.toNat 0)))/\aj H H') (λ Q z=>?_) ?_
   ·refine wK (n:=(ks.length:Int) - 1) (λ Q' z'=>(aa (dA (ad rfl) al) ao) _ (z' _ (aj.refl _))) (by lia) (by lia) rfl
     (λ i H' v=> ∃a,v=.ref a/\H' a=some (.tup [.str (one (ks.getD ((c / 3+1+(i:Int)) % (ks.length:Int)).toNat 0)),.str (one (ks.getD i0.toNat 0))])) (λ i H1 H2 v ⟨a,e1,e2⟩ s=>⟨a,e1,s _ _ e2⟩) (λ i H' hi s Q2 z2=>?_) (λ p H' ys s hp hl hy=>?_)
    ·have j0:=Qb (c / 3+1+(i:Int)) (by lia:(ks.length:Int)≠0);have j1:=Qc (c / 3+1+(i:Int)) (by lia:(0:Int)<ks.length);refine jw (x:=strV (ks.getD ((c / 3+1+(i:Int)) % (ks.length:Int)).toNat 0)) (y:=strV (ks.getD i0.toNat 0)) (aN (ad rfl) (aR (bF (bF (bE (ad rfl) al ⟨by decide,by decide⟩) al) (ad rfl)) (ad rfl) (by lia)) (.inl (aK.of (hk.same s).at_)) ?_) (ad rfl) λ a ha=>z2 _ _ ⟨a,rfl,ag⟩ ((aj.refl _).upd ha);rw [Qe];exact (at_ _ j0 j1).1
    ·obtain ⟨zs,rfl,h1,h2,h3⟩:=uE (λ i=>(one (ks.getD ((c / 3+1+(i:Int)) % (ks.length:Int)).toNat 0),one (ks.getD i0.toNat 0))) ys 0 λ i y hi=>by rw [PV];exact hy i y hi
     refine z _ _ ⟨p,zs,rfl,ag,h1.same ((aj.refl _).upd hp),by rw [h2,hl];lia,λ i z hz=>by have:=h3 i z hz;rwa [PV] at this,s.upd hp⟩
   rintro _ H1 ⟨p,zs,rfl,hp,hz,zl,za,s1⟩;have kk:∃n:Nat,1+c / 18 % 2=(n:Int)/\1<=n/\n<=2:=⟨(1+c / 18 % 2).toNat,by lia,by lia,by lia⟩;obtain ⟨n,en,n1,n2⟩:=kk;refine pW (lo:=none) (hi:=some (n:Int)) (ad rfl) uF (j3 ?_) (.inl (.inl hp)) λ t ht=>?_
   ·rw [<-en];exact (bF al (aR (bE (ad rfl) al ⟨by decide,by decide⟩) al (by decide)))
   have ec:gk (bp zs) none (some (n:Int))=bp (zs.take n):=by unfold gk;rw [HT.sIx_none,HT.sIx_nat,OW,P8];show List.take (min n (List.map (λ z=>V.ref z.2) zs).length) (List.map (λ z=>V.ref z.2) zs)=List.map (λ z=>V.ref z.2) (List.take n zs);rw [Pl];exact List.take_eq_take_iff.mpr (by lia)
   rw [ec];have s2:aj H (upd H1 t (.lst (bp (zs.take n)))):=s1.upd ht;have val:∀(i:Nat) z,(zs.take n)[i]? =some z->i<n/\i<ks.length - 1/\z.1=(one (ks.getD ((c / 3+1+(i:Int)) % (ks.length:Int)).toNat 0),one (ks.getD i0.toNat 0)):=λ i z h=>by have hi:=(Oe.mp h).1;rw [Ol] at hi;rw [O8 (by lia)] at h;exact ⟨by lia,by lia,za i z h⟩
   have ixr:∀i:Nat,i<ks.length - 1->¬(c / 3+1+(i:Int)) % (ks.length:Int)=i0:=λ i hi e=>by rw [<-hi0] at e;have e2:=Qn.mp e;rw [show c / 3+1+(i:Int) - c / 3=1+i by lia,Qj (by lia) (by lia)] at e2;lia
   refine q t (zs.take n) _ ⟨by rw [Ol];lia,λ z h=>?_,?_,λ z h y h' e=>?_⟩ (λ z h=>((aj.refl H1).upd ht) _ _ (hz z (OQ h))) (s1.free ht) ag s2
   ·obtain ⟨i,hi⟩:=OS h;obtain ⟨_,_,e⟩:=val i z hi;rw [e];exact ⟨⟨_,(at_ _ (Qb _ (by lia)) (Qc _ (by lia))).2,rfl⟩,_,mo,rfl⟩
   ·rw [OD,Ou,O3];intro i j hi hj hij e;obtain ⟨a1,a2,a3⟩:=val i _ (N2 hi);obtain ⟨b1,b2,b3⟩:=val j _ (N2 hj);rw [a3,b3] at e;have e:=inj _ _ (Qb _ (by lia)) (Qc _ (by lia)) (Qb _ (by lia)) (Qc _ (by lia)) (uJ e);have e2:=Qn.mp e.symm;rw [show c / 3+1+(j:Int) - (c / 3+1+(i:Int))=(j:Int) - i by lia,Qj (by lia) (by lia)] at e2;lia
   ·obtain ⟨i,hi⟩:=OS h;obtain ⟨j,hj⟩:=OS h';obtain ⟨_,_,a3⟩:=val i z hi;obtain ⟨_,b2,b3⟩:=val j y hj;rw [a3,b3] at e;exact ixr j b2 (inj _ _ o0 o1 (Qb _ (by lia)) (Qc _ (by lia)) (uJ e)).symm
end
end K18
namespace K18
open PySem L2
section
variable {P:Program}{w:World}{K:Frag}{mg:Str->Option Value}{base:Heap}{aS aA aE aW:Addr}
theorem oA {f cB cG:Addr}{fd:FuncData}(F:bi K "_law_game" "_law_game" dN f fd) (T:Txt mg aS aA aE aW) (C:LGg P w K mg base cB cG):aQ P w K mg base cE 8 f fd ["_law_script"] (uv K cB cG):=by
 refine F.ok aT (λ vs H Q E h=>?_) (λ cdv A outer s H vs Q E hr h=>?_)
 ·obtain ⟨a,ns,rfl,_⟩:=h;rfl
 ·obtain ⟨a,ns,rfl,hS,k⟩:=h;have hu:=bA hr;refine ⟨_,(ae (jG (aB C._law_board hr (av (cv 0) pa_nil)) (JX K (n:=3) (bO (bD (i:=1) aT.nd rfl (Or.inl rfl)) (bO (bD (i:=2) aT.nd rfl (Or.inl rfl)) (bO (bD (i:=3) aT.nd rfl (Or.inl rfl)) iw)))))
   (ae (ay (i:=4) aT.nd rfl (Or.inl rfl) (aB C._law_kinds hr (av (aB C._law_cell_at hr (av (cv 0) (av af pa_nil))) pa_nil)))
   (ae (ay (i:=5) aT.nd rfl (Or.inl rfl) (aB C._law_cell_at hr (av (cv 0) (av af pa_nil))))
   (ae (ay (i:=6) aT.nd rfl (Or.inl rfl) (bg pa_nil))
   (ae (fF PassesOwn.never rfl (BB T.range (av (ci K (bg (cD rfl)) (am (cv 5) af)) pa_nil)) (bD (i:=7) aT.nd rfl (Or.inl rfl)) (ah (eJ (iU (cv 6) (aB C._law_rule hr (av (aB C._law_mixed hr (av (am (aB C._law_cell_at hr (av (cv 0) (av (am af (am (cv 7) af)) pa_nil))) (cv 5)) (av (cv 7) pa_nil))) (av (cv 4) pa_nil)))))))
   (ae (ay (i:=8) aT.nd rfl (Or.inl rfl) (aB C._law_turns hr (av (aB C._law_cell_at hr (av (cv 0) (av af pa_nil))) (av (cv 4) pa_nil))))
   (ae (ay (i:=5) aT.nd rfl (Or.inl rfl) (aB C._law_cell_at hr (av (cv 0) (av af pa_nil))))
   (ae (ay (i:=9) aT.nd rfl (Or.inl rfl) (bg pa_nil))
   (ae (fF PassesOwn.never rfl (BB T.range (av (ci K (bg (cD rfl)) (am (cv 5) af)) pa_nil)) (bD (i:=7) aT.nd rfl (Or.inl rfl)) (ae (ay (i:=10) aT.nd rfl (Or.inl rfl) (aB C._law_mixed hr (av (cv 5) (av (cv 7) pa_nil))))
   (ah (eJ (iU (cv 9) (dg (av (ci K (bg (av bC (av bC pa_nil))) (am (cv 10) af)) (av (ci K (cv 4) (am (am (cv 10) af) (kB (gc K) bK T.len (av (cv 4) pa_nil)))) pa_nil))))))))
   (ae (ay (i:=11) aT.nd rfl (Or.inl rfl) (ci K (bg (cD rfl)) (am (am (cv 5) af) af)))
   (ah (aw (GL C.Game hr (av (GL C.Board hr (av (cv 1) (av (cv 2) (av (cv 3) pa_nil)))) (av (cv 4) (av (cv 6) (av (cv 8) (av (cv 9) (av (cv 11) pa_nil))))))))))))))))))),?_⟩
  show ba _ _ _ [oR a,none,none,none,none,none,none,none,none,none,none,none] H;refine bS (λ σ' H'=> ∃(wi hi:Int) (d:Addr) (hs:List Int),σ'=[oR a,oJ wi,oJ hi,oR d,none,none,none,none,none,none,none,none]/\1<=wi/\wi<=8/\1<=hi/\hi<=8/\H' d=some (.lst (hs.map V.int))/\(∀h∈hs,0<=h/\h<wi*hi)/\hs.Nodup/\(hs.length:Int)<wi*hi/\hs.length<=2/\aj H H') (λ K' hK=>?_) ?_
  ·refine JL (aa (ad rfl) ao) ⟨a,ns,rfl,hS,λ t d wi hi hs H' w1 w8 h1 h8 et ed gd nd ln l2 nq nt s=>?_⟩;exact MH et (hK _ _ ⟨wi,hi,d,hs,rfl,w1,w8,h1,h8,ed,gd,nd,ln,l2,s⟩)
  rintro _ H1 ⟨wi,hi,d,hs,rfl,w1,w8,h1,h8,ed,gd,nd,ln,l2,s1⟩;have hS1:=s1.seq hS;refine bB (λ v H'=> ∃(kq:Addr) (ks:List Nat),v=.ref kq/\iK H' kq ks/\aj H1 H') (λ Q q=>?_) ?_
  ·exact cF (aa (aC (aa (ad rfl) (aa al ao)) (λ Q q=>⟨a,ns,2,rfl,hS1,by decide,q⟩)) ao) ⟨_,rfl,λ kq ks H' z1 z2 z3 z4 z5 z6 z7=>q _ _ ⟨kq,ks,rfl,⟨z2,z3,z5,z6,z4⟩,z7⟩⟩
  rintro _ H2 ⟨kq,ks,rfl,ek,s2⟩;have hS2:=s2.seq hS1;refine aJ (aC (aa (ad rfl) (aa al ao)) (λ Q q=>⟨a,ns,3,rfl,hS2,by decide,q⟩)) ?_;generalize cellAt ns 3=c3;refine iL λ rq hrq=>?_;have sr:aj H2 (upd H2 rq (.lst [])):=(aj.refl H2).upd hrq;obtain ⟨n,e,hn⟩:=li (ns:=[4,5,6,3,8,2,12,0]) (i:=c3 % 8) (by lia) (by show _<(8:Int);lia);have hn2:0<=n/\n<=12:=by simp only [N1,Od,or_false] at hn;lia
  refine bS (λ σ' H'=> ∃us:List (aI×Addr),(∃o7,σ'=[oR a,oJ wi,oJ hi,oR d,oR kq,oJ c3,oR rq,o7,none,none,none,none])/\H' rq=some (.lst (ck us))/\dv H' us/\(∀z∈us,jt ks z.1)/\us.length<=12/\aj H2 H') (λ K' hK=>?_) ?_
  ·refine jP n (λ Q q=>uC iI (by decide) (λ H'=>(aR (ad rfl) al (by decide))) e q) (by lia) (by lia)
    (λ i σ' H'=> ∃us:List (aI×Addr),(∃o7,σ'=[oR a,oJ wi,oJ hi,oR d,oR kq,oJ c3,oR rq,o7,none,none,none,none])/\H' rq=some (.lst (ck us))/\dv H' us/\(∀z∈us,jt ks z.1)/\us.length=i/\aj H2 H')
    (λ H' s=>⟨[],⟨_,rfl⟩,s _ _ ag,λ _ z=>(nomatch z),λ _ z=>(nomatch z),rfl,sr.trans s⟩) ?_ (λ σ' H' h=>?_)
   ·rintro i _ H3 hi' ⟨us,⟨o7,rfl⟩,h3,hR,hg,hl,s3⟩;show jY _ _ [oR a,oJ wi,oJ hi,oR d,oR kq,oJ c3,oR rq,oJ (0+(i:Int)),none,none,none,none] H3;rw [Qe];have hS3:=s3.seq hS2;refine qX (ad rfl) ⟨_,h3⟩ (cF (aa (aC (aa (bF (aC (aa (ad rfl) (aa (bF al (aR (ad rfl) al (by decide))) ao)) (λ Q q=>⟨a,ns,4+(i:Int) % 4,rfl,hS3,by lia,q⟩)) (ad rfl)) (aa (ad rfl) ao)) (λ Q q=>⟨_,_,rfl,q⟩)) (aa (ad rfl) ao)) ⟨_,kq,ks,rfl,ek.same s3,λ t u H4 g1 g2 g3 g4=>⟨_,g4 _ _ h3,by rw [NZ,hl,sizeLine_eq];lia,us++[(u,t)],⟨_,rfl⟩,?_,?_,λ z hz=>?_,by rw [Oa,hl];rfl,(s3.trans g4).put hrq⟩⟩)
    ·rw [ag,show ck (us++[(u,t)])=ck us++[V.ref t] from Og ..]
    ·exact (hR.add g4 g3).put (g4 _ _ h3)
    ·rcases Oc.mp hz with w | w
     ·exact hg z w
     ·rw [N5.mp w];exact g1
   ·obtain ⟨us,o,x1,x2,x3,x4,x5⟩:=h;exact hK _ _ ⟨us,o,x1,x2,x3,by lia,x5⟩
  rintro _ H3 ⟨us,⟨o7,rfl⟩,h3,hR,hg,hl,s3⟩;have hS3:=s3.seq hS2;refine bB (λ v H'=> ∃(tq:Addr) (ts:List ((Str×Str)×Addr)),v=.ref tq/\lZ ks ts/\fv H' ts/\H' tq=some (.lst (bp ts))/\aj H3 H') (λ Q q=>?_) ?_
  ·exact cF (aa (aC (aa (ad rfl) (aa al ao)) (λ Q q=>⟨a,ns,8,rfl,hS3,by decide,q⟩)) (aa (ad rfl) ao)) ⟨_,kq,ks,rfl,ek.same s3,λ tq ts H' g1 g2 g3 g4 g5=>q _ _ ⟨tq,ts,rfl,g1,g2,g4,g5⟩⟩
  rintro _ H4 ⟨tq,ts,rfl,tg,tp,et,s4⟩;have hS4:=s4.seq hS3;refine aJ (aC (aa (ad rfl) (aa al ao)) (λ Q q=>⟨a,ns,9,rfl,hS4,by decide,q⟩)) ?_;generalize cellAt ns 9=c9;refine iL λ eq heq=>?_;have se:aj H4 (upd H4 eq (.lst [])):=(aj.refl H4).upd heq;obtain ⟨n2,e2,hn3⟩:=li (ns:=[0,1,2,3,0,6]) (i:=c9 % 6) (by lia) (by show _<(6:Int);lia);have hn4:0<=n2/\n2<=6:=by simp only [N1,Od,or_false] at hn3;lia
  have hpos:(0:Int)<((ks.map strV).length:Int):=by rw [NZ];have:=ek.l1;lia
  refine bS (λ σ' H'=> ∃es:List ((Str×Str)×Addr),(∃o7 o10,σ'=[oR a,oJ wi,oJ hi,oR d,oR kq,oJ c9,oR rq,o7,oR tq,oR eq,o10,none])/\H' eq=some (.lst (bp es))/\fv H' es/\(∀z∈es,z.1.1∈gF/\∃b∈ks,z.1.2=one b)/\es.length<=6/\aj H4 H') (λ K' hK=>?_) ?_
  ·refine jP n2 (λ Q q=>uC iI (by decide) (λ H'=>(aR (ad rfl) al (by decide))) e2 q) (by lia) (by lia)
    (λ i σ' H'=> ∃es:List ((Str×Str)×Addr),(∃o7 o10,σ'=[oR a,oJ wi,oJ hi,oR d,oR kq,oJ c9,oR rq,o7,oR tq,oR eq,o10,none])/\H' eq=some (.lst (bp es))/\fv H' es/\(∀z∈es,z.1.1∈gF/\∃b∈ks,z.1.2=one b)/\es.length=i/\aj H4 H')
    (λ H' s=>⟨[],⟨_,_,rfl⟩,s _ _ ag,λ _ z=>(nomatch z),λ _ z=>(nomatch z),rfl,se.trans s⟩) ?_ (λ σ' H' h=>?_)
   ·rintro i _ H5 hi' ⟨es,⟨o7',o10,rfl⟩,h5,hP,hg5,hl5,s5⟩;show ba _ _ _ [oR a,oJ wi,oJ hi,oR d,oR kq,oJ c9,oR rq,oJ (0+(i:Int)),oR tq,oR eq,o10,none] H5;refine aJ (aC (aa (ad rfl) (aa (ad rfl) ao)) (λ Q q=>⟨_,_,rfl,q⟩)) ?_;generalize mixed c9 (0+(i:Int))=mm;obtain ⟨en,ee,he⟩:=uH (ss:=gF) (i:=mm % 2) (by lia) (by show _<(2:Int);lia);have ek5:∀{H'},aj H5 H'->iK H' kq ks:=λ z=>ek.same (((s3.trans s4).trans s5).trans z);obtain ⟨kc,kcm,kce⟩:=(ek5 (aj.refl _)).pick (mm / 2);refine qX (ad rfl) ⟨_,h5⟩ (tupY (gw (j7 iI (by decide) (λ H'=>(aR (ad rfl) al (by decide))) ee (λ H6 s6=>eG (aN (ad rfl) (aR (bE (ad rfl) al ⟨by decide,by decide⟩) (cH (ad rfl) (.inl (aK.of (ek5 s6).at_))) hpos) (.inl (aK.of (ek5 s6).at_)) kce) (wj ⟨by show 2<=sizeLine;decide,λ t ht=>?_⟩)))));have h56:=s6 _ _ h5;have s67:=s6.upd (o:=.tup [.str en,strV kc]) ht;refine ⟨_,s67 _ _ h5,by rw [NZ,hl5,sizeLine_eq];lia,es++[((en,one kc),t)],⟨_,_,rfl⟩,?_,(hP.add s67 ag).put (s67 _ _ h5),λ z hz=>?_,by rw [Oa,hl5];rfl,(s5.trans s67).put heq⟩
    ·rw [ag,show bp (es++[((en,one kc),t)])=bp es++[V.ref t] from Og ..]
    ·rcases Oc.mp hz with w | w
     ·exact hg5 z w
     ·rw [N5.mp w];exact ⟨he,kc,kcm,rfl⟩
   ·obtain ⟨es,o,x1,x2,x3,x4,x5⟩:=h;exact hK _ _ ⟨es,o,x1,x2,x3,by lia,x5⟩
  rintro _ H5 ⟨es,⟨o7',o10,rfl⟩,h5,hP,hg5,hl5,s5⟩;refine bB (λ v H'=> ∃st:Str,v=.str st/\st∈gN/\aj H5 H') (λ Q q=>?_) ?_
  ·obtain ⟨n,e,hn⟩:=uH (ss:=gN) (i:=c9 / 6 % 3) (by lia) (by show _<(3:Int);lia);exact j7 iI (by decide) (λ H'=>(aR (bE (ad rfl) al ⟨by decide,by decide⟩) al (by decide))) e (λ H' s=>q _ _ ⟨n,rfl,hn,s⟩)
  rintro _ H6 ⟨st,rfl,hst,s6⟩;have s26:aj H2 H6:=((s3.trans s4).trans s5).trans s6;have ed6:=(s2.trans s26) _ _ ed;refine L9 (GE (gw (GE (eG (ad rfl) (eG (ad rfl) (eG (ad rfl) (wj λ x dx nx ndx ne=>?_)))))));refine ⟨x,d,dx,wi,hi,hs,rfl,ag,by rw [aq (ar ed6 nx),aq (ar ed6 ndx)];exact ed6,w1,w8,h1,h8,gd,nd,ln,λ hs' H7 pm O sb=>⟨rfl,?_⟩⟩;have s7:aj H6 H7:=mM (aj.refl H6) nx ndx sb;refine eG (ad rfl) (eG (ad rfl) (eG (ad rfl) (eG (ad rfl) (eG (ad rfl) (wj λ g gx ng ngx nne=>?_)))));have sF:aj H7 (upd (upd H7 gx (.own g)) g (.ins cG gx [])):=((aj.refl H7).upd ngx).upd (by rw [aq (Ne.symm nne)];exact ng);have ekF:=ek.same ((s26.trans s7).trans sF);have q3:=(((s4.trans s5).trans s6).trans s7).trans sF;have q4:=((s5.trans s6).trans s7).trans sF;have q5:=(s6.trans s7).trans sF;have mm:(ks.map one).map V.str=ks.map strV:=by rw [N7];rfl
  have tln:∀z∈ts,z.1.1.length<=1000/\z.1.2.length<=1000:=λ z hz=>by obtain ⟨⟨a,_,e1⟩,b,_,e2⟩:=tg.kd z hz;rw [e1,e2];exact ⟨hG a,hG b⟩
  have eln:∀z∈es,z.1.1.length<=1000/\z.1.2.length<=1000:=λ z hz=>by obtain ⟨e1,b,_,e2⟩:=hg5 z hz;rw [e2];exact ⟨JC e1,hG b⟩
  refine ⟨g,x,kq,rq,tq,eq,gx,ks.map one,ck us,bp ts,bp es,st,rfl,ag,by rw [mm];exact ekF.at_,q3 _ _ h3,q4 _ _ et,q5 _ _ h5,Jk ekF,IG (q3 _ _ h3) (hR.same q3) hg,Ab (q4 _ _ et) (tp.same q4) tln,Ab (q5 _ _ h5) (hP.same q5) eln,
   wu ekF.at_ ek.ltr ek.nd ek.l1 ek.l6,vS (q3 _ _ h3) (hR.same q3) hg (by lia),vE (q4 _ _ et) (tp.same q4) tg,mH (q5 _ _ h5) (hP.same q5) (λ z hz=>⟨(hg5 z hz).1,?_⟩) hl5,hst,(by decide:∀s∈gN,s.length<=1000) st hst,λ H8 G sb'=>⟨rfl,?_⟩⟩
  ·obtain ⟨b,hb,e2⟩:=(hg5 z hz).2;exact N0.mpr ⟨b,hb,e2.symm⟩
  ·rw [mm] at G;have s8:aj H7 H8:=mM (aj.refl H7) ng ngx sb';have t3:=(((s4.trans s5).trans s6).trans s7).trans s8;have t4:=((s5.trans s6).trans s7).trans s8;have t5:=(s6.trans s7).trans s8;exact k g x kq wi hi hs' ks us ts es st H8 ⟨G,O.same s8,ek.ltr,ek.l1,ek.l6,ek.nd,hR.same t3,hl,hg,tp.same t4,tg,hP.same t5,hl5,hg5,hst⟩ (by rw [pm.length_eq];exact l2) (by rw [pm.length_eq];exact ln) (((s1.trans s2).trans s3).trans t3)
end
end K18
namespace K18
open PySem L2
theorem GD {xs:List V}{i:Int}(h0:0<=i) (h1:i<xs.length):∃v,ke xs i=some v/\v∈xs:=by obtain ⟨v,e1,e2⟩:=Bp (xs:=xs) h0 h1;exact ⟨v,e1,Om e2⟩
def zH (K:Frag) (cB cG:Addr):Sp:=λ vs H Q _=> ∃(a g b:Addr) (ns:List Int) (st:Int) (wi hi:Int) (hs:List Int) (ks:List Nat) (rs ts es:List V) (sw:Str),vs=[.ref a,.ref g,.int st]/\aK K H a (ns.map V.int)/\0<=st/\st<=100/\dW cG H g b (ks.map strV) rs ts es sw/\bM K cB H b wi hi hs/\(∀k∈ks,jV k)/\1<=ks.length/\ks.length<=6/\(hs.length:Int)<wi*hi/\
 ∀(z:Str) (H':Hp),z.length=(wi*hi).toNat->(∀(s c:Nat),z.cps.toList[s]? =some c->fu ks c (if (s:Int)∈hs then 35 else 46)=true)->aj H H'->Q (.str z) H'
theorem AF {K:Frag}{H:Hp}{Q:VK}{d:Addr}{cs:List Nat}(h:H d=some (.lst (cs.map strV))) (hl:cs.length<=1000) (q:Q (.str ⟨cs.toArray⟩) H):mS K (.str "") [.ref d] H Q:=by
 rw [zU];refine ⟨cs.map one,aK.of (by rw [N7];exact h),?_,?_⟩
 ·rw [N7];have es:∀l:List Nat,(l.map ((λ x:Str=>x.length)∘one)).sum=l.length:=λ l=>by
   induction l with
   | nil=>rfl
   | cons a r ih=>rw [Oj,List.sum_cons,ih,Oh];show 1+r.length=_;lia
  have ez:("":Str).length=0:=by decide+kernel
  have hz:sizeLine=sizeLine:=rfl;rw [es,ez];show cs.length+(cs.map one).length*0<=16777216;lia
 ·rw [mR];exact q
theorem mY (F:List Int) (lo hi:Option Int):∃ss:List Int,gk (F.map V.int) lo hi=ss.map V.int/\(∀s∈ss,s∈F)/\ss.length<=F.length:=by
 refine ⟨(F.drop (HT.sIx (F.map V.int).length 0 lo)).take (HT.sIx (F.map V.int).length (F.map V.int).length hi - HT.sIx (F.map V.int).length 0 lo),?_,λ s hs=>Pr (OQ hs),?_⟩
 ·unfold gk;rw [Pl,List.map_drop]
 ·rw [Ol,OO];lia
def gI (F:List Int) (x:V):Int:=F.getD (match x with | .int i=>(i % (F.length:Int)).toNat | _=>0) 0
theorem MJ {F:List Int}(h:0<F.length) (x:V):gI F x∈F:=by
 have key:∀j,j<F.length->F.getD j 0∈F:=λ j hj=>by rw [N8,N2 hj];exact Of _
 unfold gI;cases x with
 | int i=>
   have h0:=Qb i (by lia:(F.length:Int)≠0);have h1:=Qc i (by lia:(0:Int)<F.length);refine key _ ?_;dsimp only;lia
 | _=>exact key _ h
theorem ML {F:List Int}(h:0<F.length) (i:Int):ke (F.map V.int) (i % ((F.map V.int).length:Int))=some (.int (gI F (.int i))):=by
 rw [NZ];have h0:=Qb i (by lia:(F.length:Int)≠0);have h1:=Qc i (by lia:(0:Int)<F.length);obtain ⟨v,e1,e2⟩:=Bp (xs:=F.map V.int) h0 (by rw [NZ];exact h1);rw [e1];rw [N3] at e2;unfold gI;dsimp only;rw [N8];cases e:F[(i % (F.length:Int)).toNat]? with
 | none=>rw [e] at e2;cases e2
 | some z=>rw [e] at e2;exact e2.symm
def bareL (n:Nat) (hs:List Int):List Nat:=(List.range n).map λ (s:Nat)=>if (s:Int)∈hs then 35 else 46
def Gy (hs:List Int):V->V
 | .int i=>strV (if i∈hs then 35 else 46)
 | _=>.non
section
variable {P:Program}{w:World}{K:Frag}{mg:Str->Option Value}{base:Heap}{aS aA aE aW:Addr}
theorem qr {f cB cG:Addr}{fd:FuncData}(F:bi K "_law_row" "_law_row" bZ f fd) (T:Txt mg aS aA aE aW) (B:ij K cB) (D:pD K cG) (C:LG1 P w K mg base):aQ P w K mg base cE 2 f fd ["_law_script","_law_game_here","_law_start"] (zH K cB cG):=by
 refine F.ok bh (λ vs H Q E h=>?_) (λ cdv A outer s H vs Q E hr h=>?_)
 ·obtain ⟨a,g,b,ns,st,wi,hi,hs,ks,rs,ts,es,sw,rfl,_⟩:=h;rfl
 ·obtain ⟨a,g,b,ns,st,wi,hi,hs,ks,rs,ts,es,sw,rfl,hS,st0,st1,G,O,hlt,k1,k6,ln,q⟩:=h;have hu:=bA hr;refine ⟨_,(ae (ay (i:=3) bh.nd rfl (Or.inl rfl) (am (bT K (bT K (cv 1))) (bT K (bT K (cv 1)))))
   (ae (ay (i:=4) bh.nd rfl (Or.inr rfl) (dR (bR (N:=["_law_square","_law_game_here"]) (src:=[none,some 1]) (ak bZ) ["_law_script","_law_game_here","_law_start","_law_size","_law_free","_law_signs","_law_cell","_law_cells","_law_spots","_law_k","_law_square","_law_more","_law_kind"]) (BB T.range (av (cv 3) pa_nil)) (λ _ _ _=>(aX (i:=0) ["_law_square","_law_game_here"])) (λ _ _ _=>(lh (aU K hu (cv 0) (bT K (bT K (cv 1)))))) (λ _ _ _=>(cv 0))))
   (ae (kH (i:=5) rfl (bR (N:=["_law_square","_law_game_here"]) (src:=[none,some 1]) (ak bZ) ["_law_script","_law_game_here","_law_start","_law_size","_law_free","_law_signs","_law_cell","_law_cells","_law_spots","_law_k","_law_square","_law_more","_law_kind"]) (BB T.range (av (cv 3) pa_nil)) (λ _ _ _=>(aX (i:=0) ["_law_square","_law_game_here"])) (λ _ _ _=>bu) (λ _ _ _=>(ci K bC (wx wP Bn T.int (av (iA K hu (cv 0) (bT K (bT K (cv 1)))) pa_nil)))) bh.nd rfl (Or.inl rfl) rfl (Or.inl rfl))
   (ae (ay (i:=6) bh.nd rfl (Or.inl rfl) (aB C._law_cell_at hr (av (cv 0) (av (cv 2) pa_nil))))
   (ae (kH (i:=7) rfl (bR (N:=["_law_k","_law_script","_law_start"]) (src:=[none,some 0,some 2]) (ak bZ) ["_law_script","_law_game_here","_law_start","_law_size","_law_free","_law_signs","_law_cell","_law_cells","_law_spots","_law_k","_law_square","_law_more","_law_kind"]) (BB T.range (av af pa_nil)) (λ _ _ _=>(aX (i:=0) ["_law_k","_law_script","_law_start"])) (λ _ _ _=>bu) (λ _ _ _=>(aB C._law_mixed hr (av (aB C._law_cell_at hr (av (cv 1) (av (am (am (cv 2) af) (cv 0)) pa_nil))) (av (cv 0) pa_nil)))) bh.nd rfl (Or.inl rfl) rfl (Or.inl rfl))
   (ae (kH (i:=8) rfl (bR (N:=["_law_more","_law_free"]) (src:=[none,some 4]) (ak bZ) ["_law_script","_law_game_here","_law_start","_law_size","_law_free","_law_signs","_law_cell","_law_cells","_law_spots","_law_k","_law_square","_law_more","_law_kind"]) (qE K (GJ K (cv 7) ir (dF (am af (am (cv 6) af))))) (λ _ _ _=>(aX (i:=0) ["_law_more","_law_free"])) (λ _ _ _=>bu) (λ _ _ _=>(ci K (cv 1) (am (cv 0) (kB (gc K) bK T.len (av (cv 1) pa_nil))))) bh.nd rfl (Or.inl rfl) rfl (Or.inl rfl))
   (ae (aV (aU K hu (am (am (cv 6) af) af) af) (ah (ay (i:=8) bh.nd rfl (Or.inl rfl) (GJ K (cv 4) ir (dF af)))) aD)
   (ae (aV (aU K hu (am (am (cv 6) af) af) af) (ah (ay (i:=8) bh.nd rfl (Or.inl rfl) (bg pa_nil))) aD)
   (ae (fF PassesOwn.never rfl (AB K T.enumerate (cv 8)) (JX K (n:=2) (bO (bD (i:=9) bh.nd rfl (Or.inl rfl)) (bO (bD (i:=10) bh.nd rfl (Or.inl rfl)) iw))) (ae (ay (i:=11) bh.nd rfl (Or.inl rfl) (am (ci K (cv 7) (am (cv 9) af)) (am af (am (cv 9) af))))
   (ae (ay (i:=12) bh.nd rfl (Or.inl rfl) (ci K (bT K (cv 1)) (am (am (cv 11) af) (kB (gc K) bK T.len (av (bT K (cv 1)) pa_nil)))))
   (ah (jG (ci K (bg (av (jR PySem.F.slot_str_upper PySem.F.type_str_upper sN (cv 12)) (av (cv 12) pa_nil))) (am (am (cv 11) af) af)) (nY (cv 5) (cv 10) iZ))))))
   (ah (aw (NG PySem.F.slot_str_join PySem.F.type_str_join (AA K) bC (av (cv 5) pa_nil))))))))))))),?_⟩
  show ba _ _ _ [oR a,oR g,oJ st,none,none,none,none,none,none,none,none,none,none] H;have mm:=O.many;have w1:=O.w1;have w8:=O.w8;have fb:∀(H':Hp) (σ:St) (j:Nat),σ[j]? =some (some (V.ref g))->aj H H'->Ev (JH K (gG j) "board") σ H' (.ref b):=λ H' σ j h s=>aO (ad h) ((G.same s).board D);refine aJ (dm (aO (fb H _ 1 rfl (aj.refl H)) (O.wide B)) (aO (fb H _ 1 rfl (aj.refl H)) (O.high B)) (.inl ⟨by lia,by lia⟩)) ?_;obtain ⟨hq,fh,eh⟩:=O.holes B;refine bB (λ v H'=> ∃fq,v=.ref fq/\H' fq=some (.lst ((eF wi hi hs).map V.int))/\aj H H') (λ Q q=>?_) ?_
  ·refine ib (n:=wi*hi) (rest:=[oR g]) (aa (ad rfl) ao) (by lia) (by rw [sizeLine_eq];lia) (by lia) rfl (AU hs) (λ v=>v) (λ i hi=>?_) (λ i hi _=>ad rfl) (λ q' hq'=>?_)
   ·exact aZ (tD (ad rfl) (aO (fb H _ 1 rfl (aj.refl H)) fh) (.inl (aK.of eh)))
   ·rw [tu];exact q _ _ ⟨q',rfl,ag,(aj.refl H).upd hq'⟩
  rintro _ H1 ⟨fq,rfl,ef,s1⟩;obtain ⟨hq1,fh1,eh1⟩:=(O.same s1).holes B;refine bB (λ v H'=> ∃sq,v=.ref sq/\H1 sq=none/\H' sq=some (.lst ((bareL (wi*hi).toNat hs).map strV))/\aj H1 H') (λ Q q=>?_) ?_
  ·refine ib (n:=wi*hi) (rest:=[oR g]) (aa (ad rfl) ao) (by lia) (by rw [sizeLine_eq];lia) (by lia) rfl (λ _=>true) (Gy hs) (λ i hi=>cy) (λ i hi' _=>?_) (λ q' hq'=>?_)
   ·have e:strV (if decide (0+(i:Int)∈hs)=true then 35 else 46)=Gy hs (.int (0+(i:Int))):=by
     show _=strV (if 0+(i:Int)∈hs then 35 else 46)
     by_cases m:0+(i:Int)∈hs
     ·rw [if_pos m,if_pos (decide_eq_true m)]
     ·rw [if_neg m,decide_eq_false m];rfl
    rw [<-e];exact gu al (CC (MR (ad rfl) (aO (fb H1 _ 1 rfl s1) fh1) (.inl (aK.of eh1)))) (by decide) (MU _)
   ·refine q _ _ ⟨q',rfl,hq',?_,(aj.refl H1).upd hq'⟩;rw [ag,Oo.mpr (λ _ _=>rfl),N7];unfold bareL;rw [N7];congr 2;refine Ov λ i _=>?_;show strV (if 0+(i:Int)∈hs then 35 else 46)=strV (if (i:Int)∈hs then 35 else 46);rw [Qe]
  rintro _ H2 ⟨sq,rfl,sqn,esq,s2⟩;have s02:=s1.trans s2;refine aJ (aC (sp:=iW K) (aa (ad rfl) (aa (ad rfl) ao)) (λ Q q=>⟨a,ns,st,rfl,s02.seq hS,st0,q⟩)) ?_;generalize cellAt ns st=c;refine bB (λ v H'=> ∃(cq:Addr) (cs:List Int),v=.ref cq/\H' cq=some (.lst (cs.map V.int))/\cs.length=6/\aj H2 H') (λ Q q=>?_) ?_
  ·refine ib (n:=6) (rest:=[oR a,oJ st]) (aa al ao) (by lia) (by decide) (by decide) rfl (λ _=>true) (λ x=>match x with | .int i=>.int (mixed (cellAt ns (st+1+i)) i) | _=>.non) (λ i hi=>cy) (λ i hi' _=>?_) (λ q' hq'=>?_)
   ·exact aC (sp:=nu) (aa (aC (sp:=iW K) (aa (ad rfl) (aa (bF (bF (ad rfl) al) (ad rfl)) ao)) (λ Q q=>⟨a,ns,_,rfl,s02.seq hS,by lia,q⟩)) (aa (ad rfl) ao)) (λ Q q=>⟨_,_,rfl,q⟩)
   ·refine q _ _ ⟨q',(List.range 6).map λ (i:Nat)=>mixed (cellAt ns (st+1+(0+(i:Int)))) (0+(i:Int)),rfl,?_,by rw [NZ,Ow],(aj.refl H2).upd hq'⟩;rw [ag,Oo.mpr (λ _ _=>rfl),N7,N7];rfl
  rintro _ H3 ⟨cq,cs,rfl,ecs,l6,s3⟩;have s03:=s02.trans s3;have esq3:=s3 _ _ esq;have ef3:=(s2.trans s3) _ _ ef;have fpos:=wE ln;show ba _ _ _ [oR a,oR g,oJ st,oJ (wi*hi),oR fq,oR sq,oJ c,oR cq,none,none,none,none,none] H3;have flen:(eF wi hi hs).length<=64:=by unfold eF;have:=OK (λ i=> !decide (i∈hs)) ((List.range (wi*hi).toNat).map λ (i:Nat)=>(i:Int));rw [NZ,Ow] at this;lia
  have nsq:∀p,H3 p=none->p≠sq:=λ p hp e=>by rw [e,esq3] at hp;cases hp
  refine bB (λ v H'=> ∃(pq:Addr) (ss:List Int),v=.ref pq/\H' pq=some (.lst (ss.map V.int))/\pq≠sq/\(∀s∈ss,s∈eF wi hi hs)/\ss.length<=64/\aj H3 H') (λ Q q=>?_) ?_
  ·refine pW (lo:=none) (hi:=some (1+c % 6)) (ad rfl) (λ Q q=>q) (λ Q q=>qL (bF al (aR (ad rfl) al (by decide))) q) (aK.of ecs) (λ p hp=>?_);have s4:=(aj.refl H3).upd (o:=.lst (gk (cs.map V.int) none (some (1+c % 6)))) hp;have cl:(gk (cs.map V.int) none (some (1+c % 6))).length<=6:=by have:=kb (cs.map V.int) none (some (1+c % 6));rw [NZ] at this;lia
   have ef4:aK K _ fq ((eF wi hi hs).map V.int):=aK.of (s4 _ _ ef3);refine eM (tl:=tC (.ref p)) (d:=p) (xs:=gk (cs.map V.int) none (some (1+c % 6))) (rest:=[oR fq]) al (aK.of ag) (by rw [sizeLine_eq];lia) rfl (λ _=>true) (λ x=>.int (gI (eF wi hi hs) x)) (λ x hx=>cy) (λ x hx _=>?_) (λ p2 hp2=>?_)
   ·obtain ⟨i,_,rfl⟩:=N0.mp (Bb hx);exact aN (ad rfl) (aR (ad rfl) (cH (ad rfl) (.inl ef4)) (by rw [NZ];lia)) (.inl ef4) (ML fpos i)
   ·refine q _ _ ⟨p2,(gk (cs.map V.int) none (some (1+c % 6))).map (gI (eF wi hi hs)),rfl,?_,nsq _ (s4.free hp2),λ s hs'=>?_,by rw [NZ];lia,s4.upd hp2⟩
    ·rw [ag,Oo.mpr (λ _ _=>rfl),N7];rfl
    ·obtain ⟨x,_,rfl⟩:=N0.mp hs';exact MJ fpos x
  rintro _ H4 ⟨pq,ss,rfl,epq,npq,hss,lss,s4⟩;show ba _ _ _ [oR a,oR g,oJ st,oJ (wi*hi),oR fq,oR sq,oJ c,oR cq,oR pq,none,none,none,none] H4;have ef4:=s4 _ _ ef3;refine eI (λ σ' H'=> ∃(pq:Addr) (ss:List Int),σ'=[oR a,oR g,oJ st,oJ (wi*hi),oR fq,oR sq,oJ c,oR cq,oR pq,none,none,none,none]/\H' pq=some (.lst (ss.map V.int))/\pq≠sq/\(∀s∈ss,s∈eF wi hi hs)/\ss.length<=64/\aj H3 H') ?_ (λ go=>?_)
  rotate_left
  ·refine bf (aZ (gE (aR (bE (ad rfl) al ⟨by decide,by decide⟩) al (by decide)) al)) (λ _=>?_) (λ _=>go _ _ ⟨pq,ss,rfl,epq,npq,hss,lss,s4⟩);obtain ⟨ss2,e2,h2,l2⟩:=mY (eF wi hi hs) none (some 12);exact pz (pW (lo:=none) (hi:=some 12) (ad rfl) (λ Q q=>q) (λ Q q=>qL al q) (aK.of ef4) (λ p hp=>go _ _ ⟨p,ss2,rfl,by rw [ag,e2],nsq _ (s4.free hp),h2,by lia,s4.upd hp⟩))
  rintro _ H4 ⟨pq,ss,rfl,epq,npq,hss,lss,s4⟩;refine eI (λ σ' H'=> ∃(pq:Addr) (ss:List Int),σ'=[oR a,oR g,oJ st,oJ (wi*hi),oR fq,oR sq,oJ c,oR cq,oR pq,none,none,none,none]/\H' pq=some (.lst (ss.map V.int))/\pq≠sq/\(∀s∈ss,s∈eF wi hi hs)/\ss.length<=64/\aj H3 H') ?_ (λ go=>?_)
  rotate_left
  ·refine bf (aZ (gE (aR (bE (ad rfl) al ⟨by decide,by decide⟩) al (by decide)) al)) (λ _=>?_) (λ _=>go _ _ ⟨pq,ss,rfl,epq,npq,hss,lss,s4⟩);exact pz (j6 (hJ ⟨PJ _,λ p hp=>go _ _ ⟨p,[],rfl,ag,nsq _ (s4.free hp),λ s hs=>(by cases hs),PJ _,s4.upd hp⟩⟩))
  rintro _ H4 ⟨pq,ss,rfl,epq,npq,hss,lss,s4⟩;have esq4:=s4 _ _ esq3;have hsn:H sq=none:=s1.free sqn;have s04:=s03.trans s4;have back:∀H',SameBut sq H4 H'->aj H H':=λ H' sb d o e=>sb d o (s04 d o e) (λ z=>by rw [z,hsn] at e;cases e);have ncq:cq≠sq:=λ z=>by
   have h1:H3 sq=some (.lst (cs.map V.int)):=z▸ecs;rw [esq3] at h1;have h2:(bareL (wi*hi).toNat hs).map strV=cs.map V.int:=by injection h1 with h1;injection h1
   cases cs with
   | nil=>simp at l6
   | cons x r=>
     cases hb:bareL (wi*hi).toNat hs with
     | nil=>rw [hb] at h2;cases h2
     | cons y r2=>rw [hb] at h2;injection h2 with h2 _;cases h2
  refine bS (λ σ' H'=> ∃(zs:List Nat) (o9 o10 o11 o12:Option V),σ'=[oR a,oR g,oJ st,oJ (wi*hi),oR fq,oR sq,oJ c,oR cq,oR pq,o9,o10,o11,o12]/\H' sq=some (.lst (zs.map strV))/\zs.length=(wi*hi).toNat/\(∀(s c:Nat),zs[s]? =some c->fu ks c (if (s:Int)∈hs then 35 else 46)=true)/\SameBut sq H4 H') (λ K' hK=>?_) ?_
  ·refine qK (λ q' H'=>q'=pq/\H'=H4) (λ Q q=>qL (v:=.ref pq) (ad rfl) (q _ _ ⟨rfl,rfl⟩)) ?_;rintro q' H' ⟨rfl,rfl⟩;refine ⟨ss.map V.int,aK.of epq,λ i σ' H''=> ∃(zs:List Nat) (o9 o10 o11 o12:Option V),σ'=[oR a,oR g,oJ st,oJ (wi*hi),oR fq,oR sq,oJ c,oR cq,oR q',o9,o10,o11,o12]/\H'' sq=some (.lst (zs.map strV))/\zs.length=(wi*hi).toNat/\(∀(s c:Nat),zs[s]? =some c->fu ks c (if (s:Int)∈hs then 35 else 46)=true)/\SameBut sq H' H'',
    ⟨bareL (wi*hi).toNat hs,_,_,_,_,rfl,esq4,?_,?_,SameBut.refl _⟩,?_,?_,?_⟩
   ·unfold bareL;rw [NZ,Ow]
   ·intro s c' h;unfold bareL at h;rw [N3] at h;cases hr:(List.range (wi*hi).toNat)[s]? with
    | none=>rw [hr] at h;cases h
    | some s'=>
      rw [hr] at h;have e1:s'=s:=by have:=Oe.mp hr;obtain ⟨h1,h2⟩:=this;rw [PD] at h2;exact h2.symm
      subst e1;have h:(if (s':Int)∈hs then 35 else 46)=c':=by injection h
      rw [<-h];unfold fu
      by_cases m:(s':Int)∈hs
      ·rw [if_pos m];rfl
      ·rw [if_neg m,if_neg (by decide)];exact decide_eq_true (.inl rfl)
   ·rintro i σ' H'' ⟨_,_,_,_,_,_,_,_,_,sb⟩;exact aK.of (sb _ _ epq npq)
   ·rintro i x _ H5 t hx ⟨zs,o9,o10,o11,o12,rfl,e5,lz,gz,sb⟩ nt;obtain ⟨z,hz,rfl⟩:=N0.mp (Om hx);refine GP ag ?_;obtain ⟨z0,z1,z2⟩:=AV (hss z hz);have s6:=(aj.refl H5).upd (o:=.tup [.int (i:Int),.int z]) nt;generalize upd H5 t (HO.tup [V.int (i:Int),V.int z])=H6 at s6;have sb6:SameBut sq H' H6:=sb.trans s6.but;have ecs6:aK K H6 cq (cs.map V.int):=aK.of (sb6 _ _ (s4 _ _ ecs) ncq);have s06:=back H6 sb6;have e6:=s6 _ _ e5;show ba _ _ _ [oR a,oR g,oJ st,oJ (wi*hi),oR fq,oR sq,oJ c,oR cq,oR q',oJ (i:Int),oJ z,o11,o12] H6;obtain ⟨n1,en1,_⟩:=li (ns:=cs) (i:=(i:Int) % 6) (by lia) (by lia);refine aJ (bF (aN (ad rfl) (aR (ad rfl) al (by decide)) (.inl ecs6) en1) (dm al (bE (ad rfl) al ⟨by decide,by decide⟩) (.inl ⟨by decide,by decide⟩))) ?_;generalize n1+4099*((i:Int) / 6)=more;obtain ⟨kq,fk,ek⟩:=(G.same s06).kinds D;have kpos:(0:Int)<((ks.map strV).length:Int):=by rw [NZ];lia
    obtain ⟨kv,ekv,mkv⟩:=GD (xs:=ks.map strV) (i:=more / 64 % ((ks.map strV).length:Int)) (Qb _ (by lia)) (Qc _ kpos);obtain ⟨k,hk,rfl⟩:=N0.mp mkv;refine aJ (aN (aO (ad rfl) fk) (aR (bE (ad rfl) al ⟨by decide,by decide⟩) (cH (aO (ad rfl) fk) (.inl (aK.of ek))) kpos) (.inl (aK.of ek)) ekv) ?_;show tAsg _ _ _ [some (.ref a),some (.ref g),some (.int st),some (.int (wi*hi)),some (.ref fq),some (.ref sq),some (.int c),some (.ref cq),some (.ref q'),some (.int (i:Int)),some (.int z),some (.int more),some (strV k)] H6;obtain ⟨v,ev,mv⟩:=GD (xs:=[strV (k - 32),strV k]) (i:=more / 512 % 2) (by lia) (by show _<(2:Int);lia);refine uD (l:=sq) (i:=z) (P:=λ v H'=>aj H6 H'/\∃c,v=strV c/\(c∈ks\/c∈ks.map (· - 32))) (λ Q q=>j7 (aa (AZ (ad rfl) (hlt k hk)) (aa (ad rfl) ao)) (by show 2<=1000;decide) (λ H'=>(aR (bE (ad rfl) al ⟨by decide,by decide⟩) al (by decide))) ev (λ H' s=>q _ _ ⟨s,?_⟩)) (λ u H7 h=>?_)
    ·simp only [N1,Od,or_false] at mv
     rcases mv with rfl | rfl
     ·exact ⟨_,rfl,.inr (N0.mpr ⟨k,hk,rfl⟩)⟩
     ·exact ⟨_,rfl,.inl hk⟩
    ·obtain ⟨s7,c',rfl,hc'⟩:=h;refine ⟨ad rfl,ad rfl,zs.map strV,s7 _ _ e6,z0,by rw [NZ];lia,zs.set z.toNat c',_,_,_,_,rfl,?_,by rw [OB];exact lz,λ s c2 h2=>?_,(sb6.trans s7.but).self⟩
     ·rw [ag,List.map_set]
     ·by_cases hs2:s=z.toNat
      ·subst hs2;rw [O5 (by lia)] at h2;cases h2;rw [if_neg (by rw [Qk z0];exact z2)];unfold fu;rw [if_neg (by decide)];exact decide_eq_true (.inr hc')
      ·rw [O6 (λ e=>hs2 e.symm)] at h2;exact gz s c2 h2
   ·rintro σ' H'' h;exact hK _ _ h
  rintro _ H5 ⟨zs,o9,o10,o11,o12,rfl,e5,lz,gz,sb⟩;show ce _ _ [oR a,oR g,oJ st,oJ (wi*hi),oR fq,oR sq,oJ c,oR cq,oR pq,o9,o10,o11,o12] H5;refine zN al (qL (ad rfl) (AF e5 (by lia) (q _ _ ?_ (λ s c' h=>gz s c' h) (back _ sb))));show zs.toArray.size=_;rw [N4];exact lz
end
end K18
namespace K18
open PySem L2
section
variable {P:Program}{w:World}{K:Frag}{mg:Str->Option Value}{base:Heap}{aS aA aE aW:Addr}
theorem sx {f:Addr}{fd:FuncData}(F:bi K "sign_of" "sign_of" fM f fd) (T:Txt mg aS aA aE aW):aQ P w K mg base cE 1 f fd ["kind","side"] kS:=by
 refine F.ok rN (λ vs H Q E h=>?_) (λ cdv A outer s H vs Q E hr h=>?_)
 ·obtain ⟨c,sd,rfl,_⟩:=h;rfl
 ·obtain ⟨c,sd,rfl,hc,q⟩:=h;have hu:=bA hr;refine ⟨_,(ah (aw (cw (aU K hu (cv 1) af) (jR PySem.F.slot_str_upper PySem.F.type_str_upper sN (cv 0)) (cv 0)))),?_⟩;show ce _ _ [oT (one c),oJ sd] H;refine aG (j9 (aZ (gE (ad rfl) al)) (λ _=>AZ (ad rfl) hc) (λ _=>ad rfl)) ?_
  by_cases h:sd=0
  ·rw [decide_eq_true h];rw [if_pos h] at q;exact q
  ·rw [decide_eq_false h];rw [if_neg h] at q;exact q
theorem ma {f:Addr}{fd:FuncData}(F:bi K "squares_of" "squares_of" cz f fd) (T:Txt mg aS aA aE aW) (C:CP1 P w K mg base):aQ P w K mg base cE 2 f fd ["row","side"] mz:=by
 refine F.ok l7 (λ vs H Q E h=>?_) (λ cdv A outer s H vs Q E hr h=>?_)
 ·obtain ⟨row,sd,rfl,_⟩:=h;rfl
 ·obtain ⟨row,sd,rfl,hz,ha,q⟩:=h;have hu:=bA hr;refine ⟨_,(ah (aw (dR (bR (N:=["square","sign","side"]) (src:=[none,none,some 1]) (ak cz) ["row","side"]) (AB K T.enumerate (cv 0)) (λ _ _ _=>(JX K (n:=2) (bO (aX (i:=0) ["square","sign","side"]) (bO (aX (i:=1) ["square","sign","side"]) iw)))) (λ _ _ _=>(lh (aU K hu (aB C.side_of hr (av (cv 1) pa_nil)) (cv 2)))) (λ _ _ _=>(cv 0))))),?_⟩;show tComp _ _ _ _ _ [oT row,oJ sd] H Q;refine Bd (z:=row) (rest:=[oJ sd]) (ad rfl) (by lia) rfl (λ i c=>decide (cr c=.int sd)) (λ i c=>.int (i:Int)) (λ i c H' hc s R r=>?_) (λ i c H' hc hp s=>ad rfl) (λ H' d s hd=>?_)
  ·refine A2 (aa (ad rfl) ao) ⟨c,rfl,ha c (Om hc),λ H2 s2=>qL (v:=.int sd) (ad rfl) ?_⟩;rw [BU];exact r H2 s2
  ·have e:CJ row.cps.toList (λ i c=>decide (cr c=.int sd)) (λ i c=>.int (i:Int)) row.length=(sqsOf row sd).map V.int:=by unfold CJ sqsOf;rw [N7];rfl
   rw [e];exact q d _ (s.free hd) ag (s.upd hd)
theorem Al {f cB cG:Addr}{fd:FuncData}(F:bi K "moves" "moves" ip f fd) (T:Txt mg aS aA aE aW) (C:CMv P w K mg base cB cG):aQ P w K mg base cE 6 f fd ["game","place"] (kE K cB cG):=by
 refine F.ok i6 (λ vs H Q E h=>?_) (λ cdv A outer s H vs Q E hr h=>?_)
 ·obtain ⟨g,b,kq,p,row,sd,wi,hi,hs,ks,us,ts,es,st,rfl,_⟩:=h;rfl
 ·obtain ⟨g,b,kq,p,row,sd,wi,hi,hs,ks,us,ts,es,st,rfl,G,hp,R,rl,k⟩:=h;have hu:=bA hr;have r64:=R.len;refine ⟨_,(ae (ay (i:=2) i6.nd rfl (Or.inl rfl) (ci K (cv 1) af))
   (ae (ay (i:=3) i6.nd rfl (Or.inl rfl) (bg pa_nil))
   (ae (fF PassesOwn.never rfl (qE K (aB C.squares_of hr (av (cv 2) (av (ci K (cv 1) af) pa_nil)))) (bD (i:=4) i6.nd rfl (Or.inr rfl)) (ah (eJ (Bh (cv 3) (dR (bR (N:=["pair","start"]) (src:=[none,some 4]) (ak ip) ["game","place","row","found","start"]) (qE K (aB C.goals hr (av (cv 0) (av (cv 2) (av (cv 4) pa_nil))))) (λ _ _ _=>(aX (i:=0) ["pair","start"])) (λ _ _ _=>bu) (λ _ _ _=>(dg (av (cv 1) (av (ci K (cv 0) af) (av (ci K (cv 0) af) pa_nil))))))))))
   (ah (aw (cv 3)))))),?_⟩
  show ba _ _ _ [oR g,oR p,none,none,none] H;refine aJ (aN (x:=.str row) (ad rfl) al (.inr hp) rfl) ?_;refine iL λ q hq=>?_;have sm:aj H (upd H q (.lst [])):=(aj.refl H).upd hq;show ba _ _ _ [oR g,oR p,oT row,oR q,none] _;refine bS (λ σ' H'=>(∃o,σ'=[oR g,oR p,oT row,oR q,o])/\(∃m,kL wi hi hs row us sd (sqsOf row sd) m/\m.length<=4096/\vw H H' q m)/\aj H H') (λ K' hK=>?_) ?_
  ·refine hZ (λ v H'=> ∃d,v=.ref d/\H' d=some (.lst ((sqsOf row sd).map V.int))/\d≠q/\aj (upd H q (.lst [])) H') (λ Q z=>?_) ?_
   ·refine cF (aa (ad rfl) (aa (aN (x:=.int sd) (ad rfl) al (.inr (sm.tupY hp)) rfl) ao)) ⟨row,sd,rfl,by lia,R.asc,λ d H' d1 d2 d3=>z _ _ ⟨d,rfl,d2,λ e=>?_,d3⟩⟩;rw [e,ag] at d1;cases d1
   ·rintro _ H1 ⟨d,rfl,hd,ndq,s1'⟩;refine ⟨d,(sqsOf row sd).map V.int,rfl,aK.of hd,λ i σ' H'=>(∃o,σ'=[oR g,oR p,oT row,oR q,o])/\(∃m,kL wi hi hs row us sd ((sqsOf row sd).take i) m/\m.length<=64*i/\vw H H' q m)/\aj H H'/\H' d=some (.lst ((sqsOf row sd).map V.int)),⟨⟨_,rfl⟩,⟨[],.nil,PJ _,[],rfl,s1' _ _ ag,λ _ z=>nomatch z⟩,sm.trans s1',hd⟩,?_,?_,?_⟩
    ·rintro i σ' H' _ ⟨_,_,_,h⟩;exact aK.of h
    ·rintro i x _ H2 hx ⟨⟨o,rfl⟩,⟨m,hm,ml,ps,p1,p2,p3⟩,s2,hd2⟩;have hi':i<(sqsOf row sd).length:=by
      have:=(Oe.mp hx).1
      rwa [NZ] at this
     obtain rfl:x=.int (sqsOf row sd)[i]:=by rw [N3,N2 hi'] at hx;exact (Option.some.inj hx).symm
     have tk:(sqsOf row sd).take (i+1)=(sqsOf row sd).take i++[(sqsOf row sd)[i]]:=by rw [Po hi']
     obtain ⟨z0,z1,z2⟩:=im (Of hi');have i64:i<64:=PL hi' (PK mx r64);generalize (sqsOf row sd)[i]=sq at tk z0 z1 z2;show jY _ _ [oR g,oR p,oT row,oR q,oJ sq] H2;refine GS (ad rfl) p2 (oW (aa (ad rfl) (aa (ad rfl) (aa (ad rfl) ao))) (Cs (G.same s2) R rl z0 z1 z2 λ l' t H3 hg l64 ht hP s3=>?_).1);obtain ⟨ps2,g1,g2,g3⟩:=hP;refine ⟨t,rfl,⟨_,aK.of g2⟩,BJ s3 g1 g2 (λ p hp=>(g3 p hp).2) l64 rfl (λ a x y H' Q' ha q'=>zv (ad rfl) (aN (x:=.int x) (ad rfl) al (.inr (cJ.of ha)) rfl) (aN (x:=.int y) (ad rfl) al (.inr (cJ.of ha)) rfl) q') (λ d' H4 ps3 s4 hd' e1 e2=>?_)⟩;have sF:aj H2 (upd H4 d' (.lst (iG ps3))):=(s3.trans s4).upd hd';have y1:=congrArg List.length p1;have y2:=congrArg List.length e1;rw [NZ] at y1;rw [NZ,NZ] at y2;refine ⟨d',_,_,rfl,sF _ _ p2,ag,by rw [NZ,NZ,sizeLine_eq];lia,⟨_,rfl⟩,⟨_,?_,?_,BM p1 (λ xs w=>by rw [sF _ _ p2] at w;cases w) (λ p hp=>⟨(p3 p hp).1,sF _ _ (p3 p hp).2⟩) s2 e1 (λ p hp=>⟨(e2 p hp).1,?_⟩)⟩,(s2.trans sF).put hq,?_⟩
     ·rw [tk];exact kL.add hg hm
     ·rw [Oa,NZ];lia
     ·rw [aq (ar (e2 p hp).2 hd')];exact (e2 p hp).2
     ·rw [aq ndq];exact sF _ _ hd2
    ·rintro σ' H' ⟨o,⟨m,hm,ml,hT⟩,s2,_⟩;rw [NZ,OZ] at hm;rw [NZ] at ml;have:=mx (row:=row) (sd:=sd);exact hK _ _ ⟨o,⟨m,hm,by lia,hT⟩,s2⟩
  ·rintro _ H1 ⟨⟨o,rfl⟩,⟨m,hm,ml,hT⟩,s2⟩;exact aG (ad rfl) (k m q H1 hm ml hq hT s2)
end
end K18
namespace K18
open PySem L2
section
variable {P:Program}{w:World}{K:Frag}{mg:Str->Option Value}{base:Heap}{aS aA aE aW:Addr}
theorem qq {f:Addr}{fd:FuncData}(F:bi K "has_kind" "has_kind" eY f fd) (T:Txt mg aS aA aE aW) (C:CE1 P w K mg base):aQ P w K mg base cE 2 f fd ["row","kind","side"] rG:=by
 refine F.ok qb (λ vs H Q E h=>?_) (λ cdv A outer s H vs Q E hr h=>?_)
 ·obtain ⟨z,c,sd,rfl,_⟩:=h;rfl
 ·obtain ⟨z,c,sd,rfl,hc,q⟩:=h;have hu:=bA hr;refine ⟨_,(ah (aw (iA K hu (aB C.sign_of hr (av (cv 1) (av (cv 2) pa_nil))) (cv 0)))),?_⟩;show ce _ _ [oT z,oT (one c),oJ sd] H;exact aG (Jz (c:=zO c sd) (aC (aa (ad rfl) (aa (ad rfl) ao)) (λ Q q=>⟨c,sd,rfl,hc,q⟩)) (ad rfl)) q
theorem jK {f cB:Addr}{fd:FuncData}(F:bi K "far_row" "Board.far_row" cg f fd) (T:Txt mg aS aA aE aW) (B:ij K cB):aQ P w K mg base cE 1 f fd ["self","side"] (zL K cB):=by
 refine F.ok jD (λ vs H Q E h=>?_) (λ cdv A outer s H vs Q E hr h=>?_)
 ·obtain ⟨p,wi,hi,hs,sd,rfl,_⟩:=h;rfl
 ·obtain ⟨p,wi,hi,hs,sd,rfl,O,q⟩:=h;have hu:=bA hr;refine ⟨_,(ah (aw (cw (aU K hu (cv 1) af) (am (bT K (cv 0)) af) af))),?_⟩;show ce _ _ [oR p,oJ sd] H;refine aG (j9 (aZ (gE (ad rfl) al)) (λ _=>dA (aO (ad rfl) (O.high B)) al) (λ _=>al)) ?_;unfold farI at q
  by_cases h:sd=0
  ·rw [decide_eq_true h];rw [if_pos h] at q;exact q
  ·rw [decide_eq_false h];rw [if_neg h] at q;exact q
theorem sG {f cB:Addr}{fd:FuncData}(F:bi K "is_home" "is_home" fT f fd) (T:Txt mg aS aA aE aW) (B:ij K cB) (C:CE2 P w K mg base cB):aQ P w K mg base cE 3 f fd ["board","row","kind","side"] (zK K cB):=by
 refine F.ok la (λ vs H Q E h=>?_) (λ cdv A outer s H vs Q E hr h=>?_)
 ·obtain ⟨b,row,c,sd,wi,hi,hs,rfl,_⟩:=h;rfl
 ·obtain ⟨b,row,c,sd,wi,hi,hs,rfl,O,hc,rl,q⟩:=h;have hu:=bA hr;have w1:=O.w1;have w8:=O.w8;have h1:=O.h1;have h8:=O.h8;have fb:0<=farI hi sd/\farI hi sd<=8:=by unfold farI;split<;>lia
  refine ⟨_,(ae (ay (i:=4) la.nd rfl (Or.inl rfl) (am (lD C.Board_far_row hr (cv 0) (av (cv 3) pa_nil)) (bT K (cv 0))))
   (ah (aw (aB C.has_kind hr (av (GJ K (cv 1) (dF (cv 4)) (dF (am (cv 4) (bT K (cv 0))))) (av (cv 2) (av (cv 3) pa_nil))))))),?_⟩
  show ba _ _ _ [oR b,oT row,oT (one c),oJ sd,none] H;refine aJ (dm (i:=farI hi sd) (j:=wi) (jj (ad rfl) O.no (aa (ad rfl) ao) (λ Q q=>⟨b,wi,hi,hs,sd,rfl,O,q⟩)) (aO (ad rfl) (O.wide B)) (.inr ⟨by lia,by lia⟩)) ?_;exact aG (aC (aa (A0 (ad rfl) (j3 (ad rfl)) (j3 (bF (ad rfl) (aO (ad rfl) (O.wide B)))) (by rw [sizeLine_eq];lia)) (aa (ad rfl) (aa (ad rfl) ao))) (λ Q q=>⟨_,c,sd,rfl,hc,q⟩)) q
theorem wf {f cB:Addr}{fd:FuncData}(F:bi K "by_end" "by_end" gY f fd) (T:Txt mg aS aA aE aW) (C:CE3 P w K mg base cB):aQ P w K mg base cE 4 f fd ["board","place","end"] (uz K cB):=by
 refine F.ok cR (λ vs H Q E h=>?_) (λ cdv A outer s H vs Q E hr h=>?_)
 ·obtain ⟨b,p,e,row,en,c,sd,wi,hi,hs,rfl,_⟩:=h;rfl
 ·obtain ⟨b,p,e,row,en,c,sd,wi,hi,hs,rfl,O,hp,he,hc,rl,q⟩:=h;have hu:=bA hr;refine ⟨_,(ae (ay (i:=3) cR.nd rfl (Or.inl rfl) (ci K (cv 1) af))
   (ae (ay (i:=4) cR.nd rfl (Or.inl rfl) (ci K (cv 1) af))
   (ae (ay (i:=5) cR.nd rfl (Or.inl rfl) (ci K (cv 2) af))
   (ae (aV (aU K hu (ci K (cv 2) af) bC) (ae (ay (i:=6) cR.nd rfl (Or.inl rfl) (tP (aB C.has_kind hr (av (cv 3) (av (cv 5) (av (cv 4) pa_nil))))))
   (ah (ay (i:=7) cR.nd rfl (Or.inl rfl) (tP (aB C.has_kind hr (av (cv 3) (av (cv 5) (av (am af (cv 4)) pa_nil)))))))) (ae (ay (i:=6) cR.nd rfl (Or.inl rfl) (aB C.is_home hr (av (cv 0) (av (cv 3) (av (cv 5) (av (am af (cv 4)) pa_nil))))))
   (ah (ay (i:=7) cR.nd rfl (Or.inl rfl) (aB C.is_home hr (av (cv 0) (av (cv 3) (av (cv 5) (av (cv 4) pa_nil)))))))))
   (ae (aV (bm (cv 6)) (ah (aw bC)) aD)
   (ah (aw (cw (bm (cv 7)) bC di)))))))),?_⟩
  show ba _ _ _ [oR b,oR p,oR e,none,none,none,none,none] H;refine aJ (aN (x:=.str row) (ad rfl) al (.inr hp) rfl) ?_;refine aJ (aN (x:=.int sd) (ad rfl) al (.inr hp) rfl) ?_;refine aJ (aN (x:=.str (one c)) (ad rfl) al (.inr he) rfl) ?_;refine eI (λ σ' H'=>H'=H/\σ'=[oR b,oR p,oR e,oT row,oJ sd,oT (one c),some (.bl (uO row wi hi sd en c)),some (.bl (BI row wi hi sd en c))]) ?_ (λ go=>?_)
  rotate_left
  ·show ba _ _ _ [oR b,oR p,oR e,oT row,oJ sd,oT (one c),none,none] H;refine Iw (aZ (fI (aN (x:=.str en) (ad rfl) al (.inr he) rfl) al)) (λ h=>?_) (λ h=>?_)
   ·have h:=of_decide_eq_true h;refine aJ (tz (aC (x:=.bl (ji row c sd)) (aa (ad rfl) (aa (ad rfl) (aa (ad rfl) ao))) (λ Q q=>⟨row,c,sd,rfl,hc,q⟩))) (fz (tz (aC (x:=.bl (ji row c (1 - sd))) (aa (ad rfl) (aa (ad rfl) (aa (dA al (ad rfl)) ao))) (λ Q q=>⟨row,c,1 - sd,rfl,hc,q⟩))) ?_);refine go [oR b,oR p,oR e,oT row,oJ sd,oT (one c),some (.bl (!ji row c sd)),some (.bl (!ji row c (1 - sd)))] H ⟨rfl,?_⟩;unfold uO BI;rw [if_pos h,if_pos h]
   ·have h:=of_decide_eq_false h;refine aJ (aC (x:=.bl (ji (tw row wi hi (1 - sd)) c (1 - sd))) (aa (ad rfl) (aa (ad rfl) (aa (ad rfl) (aa (dA al (ad rfl)) ao)))) (λ Q q=>⟨b,row,c,1 - sd,wi,hi,hs,rfl,O,hc,rl,q⟩)) (fz (aC (x:=.bl (ji (tw row wi hi sd) c sd)) (aa (ad rfl) (aa (ad rfl) (aa (ad rfl) (aa (ad rfl) ao)))) (λ Q q=>⟨b,row,c,sd,wi,hi,hs,rfl,O,hc,rl,q⟩)) ?_);refine go [oR b,oR p,oR e,oT row,oJ sd,oT (one c),some (.bl (ji (tw row wi hi (1 - sd)) c (1 - sd))),some (.bl (ji (tw row wi hi sd) c sd))] H ⟨rfl,?_⟩;unfold uO BI;rw [if_neg h,if_neg h]
  rintro _ _ ⟨rfl,rfl⟩;unfold CH at q;refine bf (aZ (ad rfl)) (λ h=>?_) (λ h=>?_)
  ·rw [if_pos h] at q;exact aG al q
  ·rw [if_neg (by rw [h];decide)] at q;exact aG (j9 (aZ (ad rfl)) (λ _=>al) (λ _=>al)) q
theorem sK {f cB cG:Addr}{fd:FuncData}(F:bi K "by_ends" "by_ends" fW f fd) (T:Txt mg aS aA aE aW) (D:pD K cG) (C:CE4 P w K mg base cB):aQ P w K mg base cE 5 f fd ["game","place"] (kU K cB cG):=by
 refine F.ok iO (λ vs H Q E h=>?_) (λ cdv A outer s H vs Q E hr h=>?_)
 ·obtain ⟨g,b,kq,p,row,sd,wi,hi,hs,ks,us,ts,es,st,rfl,_⟩:=h;rfl
 ·obtain ⟨g,b,kq,p,row,sd,wi,hi,hs,ks,us,ts,es,st,rfl,G,hp,rl,k⟩:=h;have hu:=bA hr;obtain ⟨qe,fe,he⟩:=G.gm.ends D;refine ⟨_,(ae (fF PassesOwn.never rfl (qE K (bT K (cv 0))) (bD (i:=2) iO.nd rfl (Or.inl rfl)) (ae (ay (i:=3) iO.nd rfl (Or.inl rfl) (aB C.by_end hr (av (bT K (cv 0)) (av (cv 1) (av (cv 2) pa_nil)))))
   (ah (aV (aU K hu (cv 3) di) (ah (aw (cv 3))) aD))))
   (ah (aw di))),?_⟩
  show ba _ _ _ [oR g,oR p,none,none] H;refine bS (λ σ' H'=>H=H'/\bU (pB row wi hi sd es)=.non/\∃o1 o2,σ'=[oR g,oR p,o1,o2]) (λ K' hK=>?_) ?_
  ·refine hZ (λ v H'=>v=.ref qe/\H=H') (λ Q z=>(aO (ad rfl) fe) _ (z _ _ ⟨rfl,rfl⟩)) ?_;rintro _ _ ⟨rfl,rfl⟩;refine ⟨qe,bp es,rfl,aK.of he,λ i σ' H'=>H=H'/\(∀z∈es.take i,lO row wi hi sd z=.non)/\∃o1 o2,σ'=[oR g,oR p,o1,o2],⟨rfl,λ _ z=>(nomatch z),_,_,rfl⟩,?_,?_,?_⟩
   ·rintro i σ' H' _ ⟨rfl,_⟩;exact aK.of he
   ·rintro i x _ _ hx ⟨rfl,hn,o1,o2,rfl⟩;have hi':i<es.length:=by
     have:=(Oe.mp hx).1
     rwa [NZ] at this
    obtain rfl:x=.ref es[i].2:=by rw [N3,N2 hi'] at hx;exact (Option.some.inj hx).symm
    have tk:es.take (i+1)=es.take i++[es[i]]:=by rw [Po hi']
    have dr:es=es.take i++es[i]::es.drop (i+1):=by rw [<-OV hi',Px]
    have hm:=Of hi';generalize es[i]=z at tk dr hm;obtain ⟨_,c,hc,ec⟩:=G.eg z hm;have ht:=G.et z hm;rw [ec] at ht;have ez:lO row wi hi sd z=CH row wi hi sd z.1.1 c:=by unfold lO;rw [ec];rfl
    show ba _ _ _ [oR g,oR p,oR z.2,o2] H;refine aJ (aC (x:=lO row wi hi sd z) (aa (aO (ad rfl) (G.gm.board D)) (aa (ad rfl) (aa (ad rfl) ao))) (λ Q q=>⟨b,p,z.2,row,z.1.1,c,sd,wi,hi,hs,rfl,G.bd,hp,cJ.of ht,G.ltr c hc,rl,by rw [<-ez];exact q⟩)) ?_;have ff:lO row wi hi sd z≠.non->bU (pB row wi hi sd es)=lO row wi hi sd z:=λ hne=>by
     unfold pB;rw [dr,Og,h9]
     ·show (if lO row wi hi sd z=.non then _ else lO row wi hi sd z)=_;rw [if_neg hne]
     ·intro w hw;obtain ⟨y,hy,rfl⟩:=N0.mp hw;exact hn y hy
    refine kC (aZ (ve (ad rfl) al)) (λ h=>?_) (λ h=>?_)
    ·have hne:¬lO row wi hi sd z=.non:=of_decide_eq_false (by rw [<-Qs];exact h);refine aG (ad rfl) ?_;rw [ff hne] at k;exact k
    ·have hnn:lO row wi hi sd z=.non:=of_decide_eq_true (by rw [Qu] at h;exact h);refine ⟨rfl,λ y hy=>?_,_,_,rfl⟩;rw [tk] at hy
     rcases Oc.mp hy with w | w
     ·exact hn y w
     ·rw [N5.mp w];exact hnn
   ·rintro σ' H' ⟨rfl,hn,o⟩;rw [NZ,OZ] at hn;refine hK _ _ ⟨rfl,?_,o⟩;have z:=h9 (a:=pB row wi hi sd es) (b:=[]) λ w hw=>by obtain ⟨y,hy,rfl⟩:=N0.mp hw;exact hn y hy
    rw [Os] at z;exact z
  ·rintro _ _ ⟨rfl,hn,o1,o2,rfl⟩;rw [hn] at k;exact aG al k
theorem we {f cB cG:Addr}{fd:FuncData}(F:bi K "ending" "ending" gX f fd) (T:Txt mg aS aA aE aW) (D:pD K cG) (C:CE5 P w K mg base cB cG):aQ P w K mg base cE 7 f fd ["game","place"] (pT K cB cG):=by
 refine F.ok mF (λ vs H Q E h=>?_) (λ cdv A outer s H vs Q E hr h=>?_)
 ·obtain ⟨g,b,kq,p,row,sd,wi,hi,hs,ks,us,ts,es,st,rfl,_⟩:=h;rfl
 ·obtain ⟨g,b,kq,p,row,sd,wi,hi,hs,ks,us,ts,es,st,rfl,G,hp,R,rl,sd2,k⟩:=h;have hu:=bA hr;refine ⟨_,(ae (ay (i:=2) mF.nd rfl (Or.inl rfl) (aB C.by_ends hr (av (cv 0) (av (cv 1) pa_nil))))
   (ae (aV (PW.pt (jE (aU K hu (cv 2) di) (iq (bz (NF K (aB C.moves hr (av (cv 0) (av (cv 1) pa_nil)))))))) (ah (aw (bT K (cv 0)))) aD)
   (ah (aw (cv 2))))),?_⟩
  show ba _ _ _ [oR g,oR p,none] H;refine aJ (aC (x:=bU (pB row wi hi sd es)) (aa (ad rfl) (aa (ad rfl) ao)) (λ Q q=>⟨g,b,kq,p,row,sd,wi,hi,hs,ks,us,ts,es,st,rfl,G,hp,R.len,q⟩)) ?_;show ba _ _ _ [oR g,oR p,some (bU (pB row wi hi sd es))] H
  by_cases e:bU (pB row wi hi sd es)=.non
  ·refine cp (λ t H'=>(∃m:List (List Int),kL wi hi hs row us sd (sqsOf row sd) m/\t=decide (m=[]))/\aj H H') (λ R' z=>zw ((aZ (A1 (ad rfl) al)) _ (Mw (decide_eq_true e) (Im (L3 (cF (aa (ad rfl) (aa (ad rfl) ao)) ⟨g,b,kq,p,row,sd,wi,hi,hs,ks,us,ts,es,st,rfl,G,hp,R,rl,λ m q H' hm ml hq hT s=>?_⟩)))))) (λ H' h=>?_) (λ H' h=>?_)
   ·obtain ⟨ps,p1,p2,p3⟩:=hT;refine ⟨_,.inl ⟨_,aK.of p2,rfl⟩,z _ _ ⟨⟨m,hm,?_⟩,s⟩⟩;rw [<-p1];cases ps<;>rfl
   ·obtain ⟨⟨m,hm,hb⟩,s⟩:=h;refine aG (aO (ad rfl) ((G.same s).gm.stuck D)) (k _ _ ⟨λ z=>absurd e z,λ _=>⟨m,hm,?_⟩⟩ s);rw [if_pos (of_decide_eq_true hb.symm)]
   ·obtain ⟨⟨m,hm,hb⟩,s⟩:=h;refine aG (ad rfl) (k _ _ ⟨λ z=>absurd e z,λ _=>⟨m,hm,?_⟩⟩ s);rw [if_neg (of_decide_eq_false hb.symm)];exact e
  ·refine cp (λ t H'=>t=false/\H'=H) (λ R' z=>zw ((aZ (A1 (ad rfl) al)) _ (Mx (decide_eq_false e) (z _ _ ⟨rfl,rfl⟩)))) (λ H' h=>nomatch h.1) (λ H' h=>?_);obtain ⟨_,rfl⟩:=h;exact aG (ad rfl) (k _ _ ⟨λ _=>rfl,λ z=>absurd z e⟩ (aj.refl _))
end
end K18
namespace K18
open PySem L2
section
variable {P:Program}{w:World}{K:Frag}{mg:Str->Option Value}{base:Heap}{aS aA aE aW:Addr}
theorem IZ {f:Addr}{fd:FuncData}(F:bi K "put" "put" qf f fd) (T:Txt mg aS aA aE aW):aQ P w K mg base cE 1 f fd ["row","square","sign"] Gr:=by
 refine F.ok IF (λ vs H Q E h=>?_) (λ cdv A outer s H vs Q E hr h=>?_)
 ·obtain ⟨row,sq,c,rfl,_⟩:=h;rfl
 ·obtain ⟨row,sq,c,rfl,s0,hz,q⟩:=h;have hu:=bA hr;have z1:row.length<=sizeLine:=PK hz (by decide);have l1:=lQ row none (some sq);have l2:=lQ row (some (sq+1)) none;have l3:(iS row none (some sq)++one c).length=(iS row none (some sq)).length+1:=by rw [c7,nj,Oa,<-c7];rfl
  refine ⟨_,(ah (aw (am (am (GJ K (cv 0) ir (dF (cv 1))) (cv 2)) (GJ K (cv 0) (dF (am (cv 1) af)) ir)))),?_⟩;show ce _ _ [oT row,oJ sq,oT (one c)] H;refine aG (vg (vg (A0 (ad rfl) uF (j3 (ad rfl)) z1) (ad rfl) ?_) (A0 (ad rfl) (j3 (bF (ad rfl) al)) uF z1) ?_) q
  ·show _+1<=sizeLine;rw [sizeLine_eq];lia
  ·rw [l3,sizeLine_eq];lia
theorem lu {f cG:Addr}{fd:FuncData}(F:bi K "turned" "Game.turned" cM f fd) (T:Txt mg aS aA aE aW) (D:pD K cG):aQ P w K mg base cE 1 f fd ["self","kind"] (pJ cG):=by
 refine F.ok lc (λ vs H Q E h=>?_) (λ cdv A outer s H vs Q E hr h=>?_)
 ·obtain ⟨g,b,kd,ks,rs,es,ts,st,rfl,_⟩:=h;rfl
 ·obtain ⟨g,b,kd,ks,rs,es,ts,st,rfl,G,hp,h6,k⟩:=h;have hu:=bA hr;obtain ⟨qt,ft,ht⟩:=G.turns D;refine ⟨_,(ah (aw (GM K (wx (AC K hr) vv T.dict (av (bT K (cv 0)) pa_nil)) (av (cv 1) (av (cv 1) pa_nil))))),?_⟩;show ce _ _ [oR g,oT kd] H;exact eZ (A9 (aO (ad rfl) ft) (aK.of ht) hp (by lia) (λ H' s=>aa (ad rfl) (aa (ad rfl) ao)) k)
theorem sL {f cB cG:Addr}{fd:FuncData}(F:bi K "arrived" "arrived" fX f fd) (T:Txt mg aS aA aE aW) (B:ij K cB) (D:pD K cG) (C:CD1 P w K mg base cB cG):aQ P w K mg base cE 2 f fd ["game","sign","side","goal"] (Gv K cB cG):=by
 refine F.ok rT (λ vs H Q E h=>?_) (λ cdv A outer s H vs Q E hr h=>?_)
 ·obtain ⟨g,b,kq,c,sd,gl,wi,hi,hs,ks,us,ts,es,st,rfl,_⟩:=h;rfl
 ·obtain ⟨g,b,kq,c,sd,gl,wi,hi,hs,ks,us,ts,es,st,rfl,G,hc,k⟩:=h;have hu:=bA hr;have w1:=G.bd.w1;have w8:=G.bd.w8;obtain ⟨lk,c128,cn⟩:=jN G.ltr hc;refine ⟨_,(ae (aV (aU K hu (aB C.row_of hr (av (bT K (bT K (cv 0))) (av (cv 3) pa_nil))) (lD C.Board_far_row hr (bT K (cv 0)) (av (cv 2) pa_nil))) (ah (aw (cv 1))) aD)
   (ah (aw (aB C.sign_of hr (av (lD C.Game_turned hr (cv 0) (av (aB C.kind_of hr (av (cv 1) pa_nil)) pa_nil)) (av (cv 2) pa_nil)))))),?_⟩
  show ba _ _ _ [oR g,oT (one c),oJ sd,oJ gl] H;have fb:=G.gm.board D;unfold lX at k;refine bf (aZ (lJ (aC (x:=.int (gl / wi)) (aa (aO (aO (ad rfl) fb) (G.bd.wide B)) (aa (ad rfl) ao)) (λ Q q=>⟨wi,gl,rfl,by lia,by lia,q⟩)) (jj (x:=.int (farI hi sd)) (aO (ad rfl) fb) G.bd.no (aa (ad rfl) ao) (λ Q q=>⟨b,wi,hi,hs,sd,rfl,G.bd,q⟩)))) (λ h=>?_) (λ h=>?_)
  ·have h:¬gl / wi=farI hi sd:=of_decide_eq_false (by rw [<-Qs];exact h);rw [if_neg h] at k;exact aG (ad rfl) (k _ (aj.refl H))
  ·have h:gl / wi=farI hi sd:=of_decide_eq_true (by rw [Qu] at h;exact h);rw [if_pos h] at k;obtain ⟨c',hc',et⟩:=kA G.tg lk;rw [et] at k;have ek:j8 c=.str (one (PyProof.Rows.lo1 c)):=by unfold j8;rw [if_neg cn]
   refine eZ (tX (gw (Ci (ad rfl) G.gm.no (gw (cF (aa (ad rfl) ao) ⟨c,rfl,c128,λ H1 s1=>?_⟩)))));rw [ek];refine hJ ⟨g,b,one (PyProof.Rows.lo1 c),ks.map strV,ck us,bp es,ts,st,rfl,(G.same s1).gm,(G.same s1).tt,G.tg.len,λ H2 s2=>?_⟩;rw [et];exact iT (ad rfl) (hJ ⟨c',sd,rfl,G.ltr c' hc',k _ (s1.trans s2)⟩)
theorem wg {f cB cG:Addr}{fd:FuncData}(F:bi K "behind" "behind" gZ f fd) (T:Txt mg aS aA aE aW) (C:CD2 P w K mg base cB cG):aQ P w K mg base cE 3 f fd ["game","place","move"] (iX K cB cG):=by
 refine F.ok cS (λ vs H Q E h=>?_) (λ cdv A outer s H vs Q E hr h=>?_)
 ·obtain ⟨g,b,kq,p,mv,row,sd,s,gl,t,wi,hi,hs,ks,us,ts,es,st,rfl,_⟩:=h;rfl
 ·obtain ⟨g,b,kq,p,mv,row,sd,s,gl,t,wi,hi,hs,ks,us,ts,es,st,rfl,G,hp,hm,R,s0,s1,hsd,g0,g1,ht,k⟩:=h;have hu:=bA hr;have mm:=G.bd.many;have rl:=R.len;have RG:=R.g G.ltr mm.2;have r64:=RG.len;obtain ⟨x1,x2⟩:=RG.toRowS.at s0 s1;have cc:row.cps.toList.getD s.toNat 0∈ks\/row.cps.toList.getD s.toNat 0∈ks.map (· - 32):=by
   have hlt:s.toNat<row.cps.toList.length:=by have:row.length=row.cps.toList.length:=rfl;lia
   have e:row.cps.toList[s.toNat]? =some (row.cps.toList.getD s.toNat 0):=by rw [N8,N2 hlt];rfl
   have n:=R.at_ _ _ e;have hsd:cr (row.cps.toList.getD s.toNat 0)=.int sd:=hsd
   rcases fo n with ⟨_,h⟩ | ⟨_,h | h⟩
   ·rw [h] at hsd;cases hsd
   ·rw [h] at hsd;cases hsd
   ·exact h
  refine ⟨_,(ae (ay (i:=3) cS.nd rfl (Or.inl rfl) (ci K (cv 1) af))
   (ae (ay (i:=4) cS.nd rfl (Or.inl rfl) (ci K (cv 2) af))
   (ae (ay (i:=5) cS.nd rfl (Or.inl rfl) (ci K (cv 2) af))
   (ae (ay (i:=6) cS.nd rfl (Or.inl rfl) (ci K (cv 2) af))
   (ae (ay (i:=7) cS.nd rfl (Or.inl rfl) (aB C.arrived hr (av (cv 0) (av (ci K (ci K (cv 1) af) (cv 4)) (av (cv 3) (av (cv 5) pa_nil))))))
   (ae (ay (i:=8) cS.nd rfl (Or.inl rfl) (aB C.put hr (av (ci K (cv 1) af) (av (cv 4) (av (kg T.EMPTY) pa_nil)))))
   (ae (aV (aU K hu (cv 6) (kg T.NOTHING)) (ah (ay (i:=8) cS.nd rfl (Or.inl rfl) (aB C.put hr (av (cv 8) (av (cv 6) (av (kg T.EMPTY) pa_nil)))))) aD)
   (ah (aw (dg (av (aB C.put hr (av (cv 8) (av (cv 5) (av (cv 7) pa_nil)))) (av (am af (cv 3)) pa_nil)))))))))))),?_⟩
  show ba _ _ _ [oR g,oR p,oR mv,none,none,none,none,none,none] H;refine aJ (aN (x:=.int sd) (ad rfl) al (.inr hp) rfl) ?_;refine aJ (aN (x:=.int s) (ad rfl) al (.inr hm) rfl) ?_;refine aJ (aN (x:=.int gl) (ad rfl) al (.inr hm) rfl) ?_;refine aJ (aN (x:=.int t) (ad rfl) al (.inr hm) rfl) ?_;refine bB (λ v H'=>v=.str (one (lX ts wi hi (row.cps.toList.getD s.toNat 0) sd gl))/\aj H H') (λ Q q=>?_) ?_
  ·exact cF (aa (ad rfl) (aa (gu (aN (x:=.str row) (ad rfl) al (.inr hp) rfl) (ad rfl) (by rw [sizeLine_eq];lia) x1) (aa (ad rfl) (aa (ad rfl) ao)))) ⟨g,b,kq,_,sd,gl,wi,hi,hs,ks,us,ts,es,st,rfl,G,cc,λ H' s=>q _ _ ⟨rfl,s⟩⟩
  rintro _ H1 ⟨rfl,s1'⟩;refine aJ (aC (x:=.str (dY row s (one 46))) (aa (aN (x:=.str row) (ad rfl) al (.inr (s1'.tupY hp)) rfl) (aa (ad rfl) (aa (oP al) ao))) (λ Q q=>⟨row,s,46,rfl,s0,by lia,q⟩)) ?_;have l1:=fY (c:=46) s0 s1;refine eI (λ σ' H'=>H'=H1/\σ'=[oR g,oR p,oR mv,oJ sd,oJ s,oJ gl,oJ t,oT (one (lX ts wi hi (row.cps.toList.getD s.toNat 0) sd gl)),oT (if t= -1 then dY row s (one 46) else dY (dY row s (one 46)) t (one 46))]) ?_ (λ go=>?_)
  rotate_left
  ·refine bf (aZ (lJ (ad rfl) al)) (λ h=>?_) (λ h=>?_)
   ·have h:¬t= -1:=of_decide_eq_false (by rw [<-Qs];exact h);refine fz (aC (x:=.str (dY (dY row s (one 46)) t (one 46))) (aa (ad rfl) (aa (ad rfl) (aa (oP al) ao))) (λ Q q=>⟨_,t,46,rfl,by lia,by rw [l1];lia,q⟩)) ?_;refine go [oR g,oR p,oR mv,oJ sd,oJ s,oJ gl,oJ t,oT (one (lX ts wi hi (row.cps.toList.getD s.toNat 0) sd gl)),oT (dY (dY row s (one 46)) t (one 46))] H1 ⟨rfl,?_⟩;rw [if_neg h]
   ·have h:t= -1:=of_decide_eq_true (by rw [Qu] at h;exact h);refine go [oR g,oR p,oR mv,oJ sd,oJ s,oJ gl,oJ t,oT (one (lX ts wi hi (row.cps.toList.getD s.toNat 0) sd gl)),oT (dY row s (one 46))] H1 ⟨rfl,?_⟩;rw [if_pos h]
  rintro _ _ ⟨rfl,rfl⟩;have l2:(if t= -1 then dY row s (one 46) else dY (dY row s (one 46)) t (one 46)).length=row.length:=by
   split
   ·exact l1
   ·rw [fY (by lia) (by rw [l1];lia),l1]
  refine eZ (jw (aC (x:=.str (pj ts wi hi row sd s gl t)) (aa (ad rfl) (aa (ad rfl) (aa (ad rfl) ao))) (λ Q q=>⟨_,gl,_,rfl,g0,by rw [l2];lia,q⟩)) (dA al (ad rfl)) λ q hq=>k q _ (s1'.free hq) ag (s1'.upd hq))
end
end K18
namespace K18
open PySem L2
section
variable {P:Program}{w:World}{K:Frag}{mg:Str->Option Value}{base:Heap}{aS aA aE aW:Addr}
theorem oh {f cB cG:Addr}{fd:FuncData}(F:bi K "followers" "followers" cT f fd) (T:Txt mg aS aA aE aW) (C:CD3 P w K mg base cB cG):aQ P w K mg base cE 7 f fd ["game","place"] (jx K cB cG):=by
 refine F.ok nI (λ vs H Q E h=>?_) (λ cdv A outer s H vs Q E hr h=>?_)
 ·obtain ⟨g,b,kq,p,row,sd,wi,hi,hs,ks,us,ts,es,st,rfl,_⟩:=h;rfl
 ·obtain ⟨g,b,kq,p,row,sd,wi,hi,hs,ks,us,ts,es,st,rfl,G,hp,R,sd2,k⟩:=h;have hu:=bA hr;have mm:=G.bd.many;have rlen:=R.len;have RG:=R.g G.ltr mm.2;have rl:(row.length:Int)=wi*hi:=by rw [rlen];lia
  refine ⟨_,(ae (aV (aU K hu (aB C.by_ends hr (av (cv 0) (av (cv 1) pa_nil))) di) (ah (aw (bg pa_nil))) aD)
   (ah (aw (dR (bR (N:=["move","game","place"]) (src:=[none,some 0,some 1]) (ak cT) ["game","place"]) (qE K (aB C.moves hr (av (cv 0) (av (cv 1) pa_nil)))) (λ _ _ _=>(aX (i:=0) ["move","game","place"])) (λ _ _ _=>bu) (λ _ _ _=>(aB C.behind hr (av (cv 1) (av (cv 2) (av (cv 0) pa_nil))))))))),?_⟩
  show ba _ _ _ [oR g,oR p] H;refine bf (aZ (ve (aC (x:=bU (pB row wi hi sd es)) (aa (ad rfl) (aa (ad rfl) ao)) (λ Q q=>⟨g,b,kq,p,row,sd,wi,hi,hs,ks,us,ts,es,st,rfl,G,hp,RG.len,q⟩)) al)) (λ h=>?_) (λ h=>?_)
  ·have hne:¬bU (pB row wi hi sd es)=.non:=of_decide_eq_false (by rw [<-Qs];exact h);exact eZ (j6 (hJ ⟨PJ _,λ q hq=>k [] q _ (.inl ⟨hne,rfl⟩) hq ⟨[],rfl,ag,λ _ z=>nomatch z⟩ ((aj.refl H).upd hq)⟩))
  ·have hnn:bU (pB row wi hi sd es)=.non:=of_decide_eq_true (by rw [Qu] at h;exact h);refine eZ (oW (aa (ad rfl) (aa (ad rfl) ao)) ⟨g,b,kq,p,row,sd,wi,hi,hs,ks,us,ts,es,st,rfl,G,hp,RG,rl,λ m q H1 hm ml hq hT s1=>?_⟩);obtain ⟨ps,p1,p2,p3⟩:=hT;have y1:=congrArg List.length p1;rw [NZ] at y1;have okm:=hm.ok G.bd.w1 (λ s hs=>im hs);refine ⟨q,rfl,⟨_,aK.of p2⟩,kM (rest:=[oR g,oR p]) p2 (by rw [NZ,sizeLine_eq];lia) rfl (λ j H' v=> ∃x t,m[j]? =some x/\v=.ref t/\H t=none/\H' t=some (.tup [.str (ua ts wi hi row sd x).1,.int (ua ts wi hi row sd x).2])) (λ i H H' v h s=>?_) (λ i x H' hx s' Q' q'=>?_) (λ d' H' ys s' hd hl hy=>?_)⟩
   ·obtain ⟨x,t,a1,a2,a3,a4⟩:=h;exact ⟨x,t,a1,a2,a3,s _ _ a4⟩
   ·have hi':i<ps.length:=by
     have:=(Oe.mp hx).1
     rwa [NZ] at this
    rw [N3,N2 hi'] at hx;obtain rfl:V.ref ps[i].2=x:=Option.some.inj hx;have hm':=Of hi';have mi:m[i]? =some ps[i].1:=by rw [<-p1,N3,N2 hi'];rfl
    generalize ps[i]=z at hm' mi;obtain ⟨s,gl,t,ek,ok⟩:=okm z.1 (Om mi);have ht:=s' _ _ (p3 z hm').2;rw [ek] at ht;have s1':=s1.trans s';refine cF (aa (ad rfl) (aa (ad rfl) (aa (ad rfl) ao))) ⟨g,b,kq,p,z.2,row,sd,s,gl,t,wi,hi,hs,ks,us,ts,es,st,rfl,G.same s1',s1'.tupY hp,cJ.of ht,R,ok.s0,ok.s1,ok.sd,ok.g0,by have:=ok.g1;lia,?_,λ r H2 hr h2 s2=>q' _ _ ⟨z.1,r,mi,rfl,s1'.free hr,?_⟩ s2⟩
    ·rcases ok.tk with e | ⟨t0,t1,_⟩
     ·exact .inl e
     ·exact .inr ⟨t0,by lia⟩
    ·rw [ek];exact h2
   ·obtain ⟨ps2,rfl,e1,e2⟩:=si (ua ts wi hi row sd) m ys (by rw [hl,NZ];exact y1) hy;have sF:=s1.trans s';refine k _ d' _ (.inr ⟨hnn,m,hm,ml,rfl⟩) (sF.free hd) ⟨ps2,e1,ag,λ p hp=>⟨(e2 p hp).1,?_⟩⟩ (sF.upd hd);rw [aq (ar (e2 p hp).2 hd)];exact (e2 p hp).2
end
end K18
namespace K18
open PySem L2
section
variable {P:Program}{w:World}{K:Frag}{mg:Str->Option Value}{base:Heap}{aS aA aE aW:Addr}
theorem lq {f cB cG:Addr}{fd:FuncData}(F:bi K "_law_behind" "_law_behind" cL f fd) (T:Txt mg aS aA aE aW) (B:ij K cB) (D:pD K cG):aQ P w K mg base cE 1 f fd ["_law_game_here","_law_place","_law_move"] (iX K cB cG):=by
 refine F.ok bJ (λ vs H Q E h=>?_) (λ cdv A outer s H vs Q E hr h=>?_)
 ·obtain ⟨g,b,kq,p,mv,row,sd,s,gl,t,wi,hi,hs,ks,us,ts,es,st,rfl,_⟩:=h;rfl
 ·obtain ⟨g,b,kq,p,mv,row,sd,s,gl,t,wi,hi,hs,ks,us,ts,es,st,rfl,G,hp,hm,R,s0,s1,hsd,g0,g1,ht,k⟩:=h;have hu:=bA hr;have mm:=G.bd.many;have w1:=G.bd.w1;have w8:=G.bd.w8;have rlen:=R.len;have RG:=R.g G.ltr mm.2;have r64:=RG.len;have rl:(row.length:Int)=wi*hi:=by rw [rlen];lia
  obtain ⟨x1,x2⟩:=RG.toRowS.at s0 s1;have hsd':cr (row.cps.toList.getD s.toNat 0)=.int sd:=hsd;have sd2:=(mE hsd').2;have cc:row.cps.toList.getD s.toNat 0∈ks\/row.cps.toList.getD s.toNat 0∈ks.map (· - 32):=by
   have hlt:s.toNat<row.cps.toList.length:=by have:row.length=row.cps.toList.length:=rfl;lia
   have e:row.cps.toList[s.toNat]? =some (row.cps.toList.getD s.toNat 0):=by rw [N8,N2 hlt];rfl
   rcases fo (R.at_ _ _ e) with ⟨_,h⟩ | ⟨_,h | h⟩
   ·rw [h] at hsd';cases hsd'
   ·rw [h] at hsd';cases hsd'
   ·exact h
  have bl:=wU (ks:=ks) (ts:=ts) (hs:=hs) (sd:=sd) rl s0 s1 g0 g1 ht;have arr:lX ts wi hi (row.cps.toList.getD s.toNat 0) sd gl=zO (if gl / wi=farI hi sd then chrV (turnV ts (one (PyProof.Rows.lo1 (row.cps.toList.getD s.toNat 0)))) else PyProof.Rows.lo1 (row.cps.toList.getD s.toNat 0)) sd:=by
   unfold lX;split
   ·rfl
   ·exact (IC G.ltr cc hsd').symm
  obtain ⟨lk,c128,cn⟩:=jN G.ltr cc;generalize hC:row.cps.toList.getD s.toNat 0=c at x1 x2 hsd' cc bl arr lk c128 cn;refine ⟨_,(ae (jG (cv 2) (JX K (n:=3) (bO (bD (i:=3) bJ.nd rfl (Or.inl rfl)) (bO (bD (i:=4) bJ.nd rfl (Or.inl rfl)) (bO (bD (i:=5) bJ.nd rfl (Or.inl rfl)) iw)))))
   (ae (ay (i:=6) bJ.nd rfl (Or.inl rfl) (jR PySem.F.slot_str_lower PySem.F.type_str_lower Aq (ci K (ci K (cv 1) af) (cv 3))))
   (ae (aV (aU K hu (am (cv 4) (bT K (bT K (cv 0)))) (ci K (bg (av (am (bT K (bT K (cv 0))) af) (av af pa_nil))) (ci K (cv 1) af))) (ah (ay (i:=6) bJ.nd rfl (Or.inl rfl) (GM K (wx (AC K hr) vv T.dict (av (bT K (cv 0)) pa_nil)) (av (cv 6) (av (cv 6) pa_nil))))) aD)
   (ae (ay (i:=7) bJ.nd rfl (Or.inl rfl) (wx (tV rfl) eO T.list (av (ci K (cv 1) af) pa_nil)))
   (ae (jG bC (nY (cv 7) (cv 3) iZ))
   (ae (aV (aU K hu (cv 5) af) (ah (jG bC (nY (cv 7) (cv 5) iZ))) aD)
   (ae (jG (ci K (bg (av (jR PySem.F.slot_str_upper PySem.F.type_str_upper sN (cv 6)) (av (cv 6) pa_nil))) (ci K (cv 1) af)) (nY (cv 7) (cv 4) iZ))
   (ah (aw (dg (av (NG PySem.F.slot_str_join PySem.F.type_str_join (AA K) bC (av (cv 7) pa_nil)) (av (am af (ci K (cv 1) af)) pa_nil)))))))))))),?_⟩
  show ba _ _ _ [oR g,oR p,oR mv,none,none,none,none,none] H;have p0:∀{H':Hp} {σ:St} {te:TE},aj H H'->Ev te σ H' (.ref p)->Ev (CP K te (tC (.int 0))) σ H' (.str row):=λ s e=>aN (x:=.str row) e al (.inr (s.tupY hp)) rfl;have p1:∀{H':Hp} {σ:St} {te:TE},aj H H'->Ev te σ H' (.ref p)->Ev (CP K te (tC (.int 1))) σ H' (.int sd):=λ s e=>aN (x:=.int sd) e al (.inr (s.tupY hp)) rfl;refine bS (λ σ' H'=>H=H'/\σ'=[oR g,oR p,oR mv,oJ s,oJ gl,oJ t,none,none]) (λ K' hK=>(ad rfl) _ (Js hm (hK _ _ ⟨rfl,rfl⟩))) ?_;rintro _ _ ⟨rfl,rfl⟩;refine aJ (GT (gu (p0 (aj.refl H) (ad rfl)) (ad rfl) (by rw [sizeLine_eq];lia) x1) c128) ?_;obtain ⟨kc,hkc,ekc⟩:∃kc∈ks,(if gl / wi=farI hi sd then chrV (turnV ts (one (PyProof.Rows.lo1 c))) else PyProof.Rows.lo1 c)=kc:=by
   split
   ·obtain ⟨c',hc',et⟩:=kA G.tg lk;exact ⟨c',hc',by rw [et];rfl⟩
   ·exact ⟨_,lk,rfl⟩
  rw [ekc] at arr;refine eI (λ σ' H'=>aj H H'/\σ'=[oR g,oR p,oR mv,oJ s,oJ gl,oJ t,oT (one kc),none]) ?_ (λ go=>?_)
  rotate_left
  ·show ba _ _ _ [oR g,oR p,oR mv,oJ s,oJ gl,oJ t,oT (one (PyProof.Rows.lo1 c)),none] H;refine cp (λ z H'=>z=decide (gl / wi=farI hi sd)/\aj H H') (λ R' z=>tO ((bE (ad rfl) (aO (aO (ad rfl) (G.gm.board D)) (G.bd.wide B)) ⟨by lia,by lia⟩) _ (Au (vs:=[.int (hi - 1),.int 0]) (i:=sd) (v:=.int (farI hi sd)) (aa (dA (aO (aO (ad rfl) (G.gm.board D)) (G.bd.high B)) al) (aa al ao)) (by show 2<=1000;decide) (λ H' s'=>p1 s' (ad rfl)) ?_ (λ H' s'=>z _ _ ⟨rfl,s'⟩)))) (λ H' h=>?_) (λ H' h=>?_)
   ·unfold farI
    rcases sd2 with rfl | rfl<;>rfl
   ·rw [if_pos (of_decide_eq_true h.1.symm)] at ekc;obtain ⟨qt,ft,hqt⟩:=(G.same h.2).gm.turns D;refine pz (A9 (aO (ad rfl) ft) (aK.of hqt) (G.same h.2).tt (by have:=G.tg.len;lia) (λ H2 s2=>aa (ad rfl) (aa (ad rfl) ao)) (λ H2 s2=>?_));obtain ⟨c',hc',et⟩:=kA G.tg lk;rw [et] at ekc ⊢;refine go [oR g,oR p,oR mv,oJ s,oJ gl,oJ t,oT (one c'),none] H2 ⟨h.2.trans s2,?_⟩;have:c'=kc:=ekc;rw [this]
   ·rw [if_neg (of_decide_eq_false h.1.symm)] at ekc;refine go [oR g,oR p,oR mv,oJ s,oJ gl,oJ t,oT (one (PyProof.Rows.lo1 c)),none] H' ⟨h.2,?_⟩;rw [ekc]
  rintro _ H1 ⟨sh,rfl⟩;refine bB (λ v H'=> ∃q,v=.ref q/\H1 q=none/\H' q=some (.lst (row.cps.toList.map strV))/\aj H1 H') (λ Q q=>(aa (p0 sh (ad rfl)) ao) _ ⟨by lia,λ l hl=>q _ _ ⟨l,rfl,hl,ag,(aj.refl H1).upd hl⟩⟩) ?_;rintro _ H2 ⟨q,rfl,nq,eq,s2⟩;have rll:row.cps.toList.length=row.length:=rfl;refine bS (λ σ' H'=>σ'=[oR g,oR p,oR mv,oJ s,oJ gl,oJ t,oT (one kc),oR q]/\H' q=some (.lst ((row.cps.toList.set s.toNat 46).map strV))/\aj H1 H') (λ K' hK=>?_) ?_
  ·refine uD (l:=q) (i:=s) (P:=λ v H'=>v=strV 46/\H2=H') (λ Q z=>(oP al) _ (z _ _ ⟨rfl,rfl⟩)) ?_;rintro _ _ ⟨rfl,rfl⟩;refine ⟨ad rfl,ad rfl,_,eq,s0,by rw [NZ,rll];exact s1,hK _ _ ⟨rfl,by rw [ag,kZ],s2.put nq⟩⟩
  rintro _ H3 ⟨rfl,e3,s3⟩;refine eI (λ σ' H'=>σ'=[oR g,oR p,oR mv,oJ s,oJ gl,oJ t,oT (one kc),oR q]/\H' q=some (.lst ((if 0<=t then (row.cps.toList.set s.toNat 46).set t.toNat 46 else row.cps.toList.set s.toNat 46).map strV))/\aj H1 H') ?_ (λ go=>?_)
  rotate_left
  ·refine bf (aZ (GU (ad rfl) al)) (λ h=>?_) (λ h=>?_)
   ·have h:=of_decide_eq_true h;refine uD (l:=q) (i:=t) (P:=λ v H'=>v=strV 46/\H3=H') (λ Q z=>(oP al) _ (z _ _ ⟨rfl,rfl⟩)) ?_;rintro _ _ ⟨rfl,rfl⟩;refine ⟨ad rfl,ad rfl,_,e3,h,by rw [NZ,OB,rll];lia,?_⟩;refine go _ _ ⟨rfl,?_,s3.put nq⟩;rw [ag,kZ,if_pos h]
   ·have h:=of_decide_eq_false h;refine go _ _ ⟨rfl,?_,s3⟩;rw [if_neg h];exact e3
  rintro _ H4 ⟨rfl,e4,s4⟩;have l4:(if 0<=t then (row.cps.toList.set s.toNat 46).set t.toNat 46 else row.cps.toList.set s.toNat 46).length=row.length:=by
   split
   ·rw [OB,OB,rll]
   ·rw [OB,rll]
  have s04:=sh.trans s4;refine bS (λ σ' H'=>σ'=[oR g,oR p,oR mv,oJ s,oJ gl,oJ t,oT (one kc),oR q]/\H' q=some (.lst ((pj ts wi hi row sd s gl t).cps.toList.map strV))/\aj H1 H') (λ K' hK=>?_) ?_
  ·refine uD (l:=q) (i:=gl) (P:=λ v H'=>v=strV (zO kc sd)/\aj H4 H') (λ Q z=>?_) ?_
   ·refine Au (vs:=[.str (one (kc - 32)),.str (one kc)]) (i:=sd) (v:=strV (zO kc sd)) (aa (AZ (ad rfl) (G.ltr kc hkc)) (aa (ad rfl) ao)) (by show 2<=1000;decide) (λ H' s'=>p1 (s04.trans s') (ad rfl)) ?_ (λ H' s'=>z _ _ ⟨rfl,s'⟩);unfold zO
    rcases sd2 with rfl | rfl<;>rfl
   ·rintro _ H5 ⟨rfl,s5⟩;refine ⟨ad rfl,ad rfl,_,s5 _ _ e4,g0,by rw [NZ,l4];exact g1,hK _ _ ⟨rfl,?_,(s4.trans s5).put nq⟩⟩;rw [ag,kZ,bl,arr]
  rintro _ H5 ⟨rfl,e5,s5⟩;have s05:=sh.trans s5;have lB:(pj ts wi hi row sd s gl t).cps.toList.length<=1000:=by rw [bl,OB,l4];lia
  refine eZ (tupY (gw (zN al ((ad rfl) _ (AF e5 lB ?_)))));rw [Iu rfl];exact eG (dA al (p1 s05 (ad rfl))) (wj ⟨by show 2<=sizeLine;decide,λ r hr'=>k r _ (s05.free hr') ag (s05.upd hr')⟩)
end
end K18
namespace K18
open PySem L2
section
variable {P:Program}{w:World}{K:Frag}{mg:Str->Option Value}{base:Heap}{aS aA aE aW:Addr}
theorem oC {f cB:Addr}{fd:FuncData}(F:bi K "has" "Board.has" dO f fd) (T:Txt mg aS aA aE aW) (B:ij K cB) (C:CA P w K mg base):aQ P w K mg base cE 3 f fd ["self","square"] (Gs K cB):=by
 refine F.ok nQ (λ vs H Q E h=>?_) (λ cdv A outer s H vs Q E hr h=>?_)
 ·obtain ⟨p,wi,hi,hs,sq,rfl,_⟩:=h;rfl
 ·obtain ⟨p,wi,hi,hs,sq,rfl,O,k⟩:=h;have hu:=bA hr;obtain ⟨pf,ff,hf⟩:=O.firm B;have mm:=O.many;have hl:(((firmL wi hi hs).map V.bl).length:Int)=wi*hi:=by rw [NZ,AY];lia
  refine ⟨_,(ah (aw (cI (aB C.is_among hr (av (cv 1) (av af (av (am (kB (gc K) bK T.len (av (bT K (cv 0)) pa_nil)) af) pa_nil)))) (dh (ci K (bT K (cv 0)) (cv 1)))))),?_⟩;show ce _ _ [oR p,oJ sq] H;refine aG (cx (b:= !decide (sq∈hs)) (aC (aa (ad rfl) (aa al (aa (dA (cH (aO (ad rfl) ff) (.inl (aK.of hf))) al) ao))) (λ Q q=>⟨sq,0,_,rfl,q⟩)) (λ h=>?_)) ?_
  ·have h:=of_decide_eq_true h;rw [hl] at h;exact aN (aO (ad rfl) ff) (ad rfl) (.inl (aK.of hf)) (vc h.1 (by lia))
  ·rw [hl];have e:(decide (0<=sq/\sq<=wi*hi - 1)&& !decide (sq∈hs))=decide (0<=sq/\sq<wi*hi/\¬sq∈hs):=by
    rw [Qq];simp only [Qp,decide_eq_true_eq,Qs,decide_eq_false_iff_not]
    constructor
    ·rintro ⟨⟨a,b⟩,c⟩;exact ⟨a,by lia,c⟩
    ·rintro ⟨a,b,c⟩;exact ⟨⟨a,by lia⟩,c⟩
   show Q (.bl (decide (0<=sq/\sq<=wi*hi - 1)&& !decide (sq∈hs))) H;rw [e];exact k
theorem oj {f cB:Addr}{fd:FuncData}(F:bi K "empty_row" "empty_row" cU f fd) (T:Txt mg aS aA aE aW) (B:ij K cB) (C:CP2 P w K mg base cB):aQ P w K mg base cE 4 f fd ["board"] (uy K cB):=by
 refine F.ok nJ (λ vs H Q E h=>?_) (λ cdv A outer s H vs Q E hr h=>?_)
 ·obtain ⟨p,wi,hi,hs,rfl,_⟩:=h;rfl
 ·obtain ⟨p,wi,hi,hs,rfl,O,k⟩:=h;have hu:=bA hr;have mm:=O.many;have fw:=O.wide B;have fh:=O.high B;have w8:=O.w8;have w1:=O.w1;refine ⟨_,(ah (aw (NG PySem.F.slot_str_join PySem.F.type_str_join (AA K) bC (av (dR (bR (N:=["square","board"]) (src:=[none,some 0]) (ak cU) ["board"]) (BB T.range (av (am (bT K (cv 0)) (bT K (cv 0))) pa_nil)) (λ _ _ _=>(aX (i:=0) ["square","board"])) (λ _ _ _=>bu) (λ _ _ _=>(cw (bm (lD C.Board_has hr (cv 1) (av (cv 0) pa_nil))) (kg T.EMPTY) (kg T.HOLE)))) pa_nil)))),?_⟩;show ce _ _ [oR p] H;refine zN al ?_;refine ib (n:=wi*hi) (rest:=[oR p]) (aa (dm (aO (ad rfl) fw) (aO (ad rfl) fh) (.inl ⟨by lia,by lia⟩)) ao) (by lia) (by rw [sizeLine_eq];lia) (by lia) rfl (λ _=>true)
   (λ x=>match x with | .int i=>if i∈hs then .str (one 35) else .str (one 46) | _=>.non) (λ i hi=>cy) (λ i hi' _=>?_) (λ d hd=>?_)
  ·have e:(if decide (0<=0+(i:Int)/\0+(i:Int)<wi*hi/\¬(0+(i:Int))∈hs)=true then V.str (one 46) else V.str (one 35))=(if 0+(i:Int)∈hs then V.str (one 35) else V.str (one 46)):=by
    by_cases m:0+(i:Int)∈hs
    ·rw [if_pos m,if_neg (by rw [decide_eq_true_eq];exact λ z=>z.2.2 m)]
    ·rw [if_neg m,if_pos (by rw [decide_eq_true_eq];exact ⟨by lia,by lia,m⟩)]
   show Ev _ _ _ (if 0+(i:Int)∈hs then V.str (one 35) else V.str (one 46));rw [<-e];exact j9 (aZ (jj (p:=p) (ad rfl) O.no (aa (ad rfl) ao) (λ Q q=>⟨p,wi,hi,hs,_,rfl,O,q⟩))) (λ _=>tH) (λ _=>oQ)
  ·have e:(((List.range (wi*hi).toNat).map λ (i:Nat)=>V.int (0+(i:Int))).filter λ _=>true).map (λ x=>match x with | .int i=>if i∈hs then V.str (one 35) else V.str (one 46) | _=>.non)=(((List.range (wi*hi).toNat).map λ (s:Nat)=>if (s:Int)∈hs then 35 else 46).map one).map V.str:=by rw [Oo.mpr (λ _ _=>rfl),N7,N7,N7];refine Ov λ i _=>?_;show (if 0+(i:Int)∈hs then V.str (one 35) else V.str (one 46))=V.str (one (if (i:Int)∈hs then 35 else 46));rw [Qe];split<;>rfl
   rw [e];show mS K (.str "") [.ref d] _ Q;rw [zU];refine ⟨_,aK.of ag,?_,?_⟩
   ·rw [N7];have es:∀l:List Nat,(l.map ((λ x:Str=>x.length)∘one)).sum=l.length:=λ l=>by
     induction l with
     | nil=>rfl
     | cons a r ih=>rw [Oj,List.sum_cons,ih,Oh];show 1+r.length=_;lia
    have ez:("":Str).length=0:=by decide+kernel
    rw [es,ez,NZ,Ow];lia
   ·rw [mR];exact k _ ((aj.refl H).upd hd)
theorem wd {f cB cG:Addr}{fd:FuncData}(F:bi K "is_row" "is_row" eV f fd) (T:Txt mg aS aA aE aW) (B:ij K cB) (D:pD K cG) (C:CR1 P w K mg base cB):aQ P w K mg base cE 5 f fd ["game","thing"] (rE K cB cG):=by
 refine F.ok jA (λ vs H Q E h=>?_) (λ cdv A outer s H vs Q E hr h=>?_)
 ·obtain ⟨g,b,v,wi,hi,hs,ks,rs,ts,es,st,rfl,_⟩:=h;rfl
 ·obtain ⟨g,b,v,wi,hi,hs,ks,rs,ts,es,st,rfl,G,O,hl,h6,t,q⟩:=h;have hu:=bA hr;refine ⟨_,(ae (ay (i:=2) jA.nd rfl (Or.inl rfl) (aB C.empty_row hr (av (bT K (cv 0)) pa_nil)))
   (ae (aV (PW.pt (gD (bz (bm (Cl .str T.isinstance T.str t6 (cv 1)))) (fc (aU K hu (kB (gc K) bK T.len (av (cv 1) pa_nil)) (kB (gc K) bK T.len (av (cv 2) pa_nil)))))) (ah (aw fA)) aD)
   (ae (ay (i:=3) jA.nd rfl (Or.inr rfl) (am (am (bg (av (kg T.EMPTY) pa_nil)) (bT K (cv 0))) (dR (bR (N:=["kind"]) (src:=[none]) (ak eV) ["game","thing","bare","signs"]) (qE K (bT K (cv 0))) (λ _ _ _=>(aX (i:=0) ["kind"])) (λ _ _ _=>bu) (λ _ _ _=>(aB C.sign_of hr (av (cv 0) (av af pa_nil)))))))
   (ah (aw (kB (AE K) lV T.all (av (dR (bR (N:=["sign","under","signs"]) (src:=[none,none,some 3]) (ak eV) ["game","thing","bare","signs"]) (NE T.zip (av (cv 1) (av (cv 2) pa_nil))) (λ _ _ _=>(JX K (n:=2) (bO (aX (i:=0) ["sign","under","signs"]) (bO (aX (i:=1) ["sign","under","signs"]) iw)))) (λ _ _ _=>bu) (λ _ _ _=>(cw (aU K hu (cv 1) (kg T.HOLE)) (iA K hu (cv 0) (kg T.HOLE)) (iA K hu (cv 0) (cv 2))))) pa_nil))))))),?_⟩
  show ba _ _ _ [oR g,some v,none,none] H;have mm:=O.many;refine bB (λ u H'=>u=.str (emptyT wi hi hs)/\aj H H') (λ Q q=>cF (aa (aO (ad rfl) (G.board D)) ao) ⟨b,wi,hi,hs,rfl,O,λ H' s=>q _ _ ⟨rfl,s⟩⟩) ?_;rintro _ H1 ⟨rfl,s1⟩;have t1:=t.same s1;have hel:(emptyT wi hi hs).length<=64:=by rw [lP];lia
  have hs0:=lM (T:=.str) (te:=gG 1) (σ:=[oR g,some v,oT (emptyT wi hi hs),none]) (ad rfl) t1;rw [rB t1] at hs0;cases v with
  | str z=>
    have hz:z.length<=1000:=t;refine bf (gM (bX (aZ hs0)) (λ _=>aZ (lJ (oO (ad rfl) (PK hz (by decide))) (oO (ad rfl) (PK hel (by decide)))))) (λ h=>?_) (λ h=>?_)
    ·have hne:¬z.length=(emptyT wi hi hs).length:=λ e=>by rw [e] at h;simp at h
     have k:=q H1 s1;have e:rowB wi hi hs ks (.str z)=false:=by unfold rowB;dsimp only;rw [decide_eq_false hne];rfl
     rw [e] at k;exact aG al k
    ·have heq:z.length=(emptyT wi hi hs).length:=by
      have h:(!decide ((z.length:Int)=(emptyT wi hi hs).length))=false:=h;have:((z.length:Int)=(emptyT wi hi hs).length):=of_decide_eq_true (by cases hd:decide ((z.length:Int)=(emptyT wi hi hs).length) with | true=>rfl | false=>rw [hd] at h;cases h)
      lia
     obtain ⟨kq,fk,hkq⟩:=(G.same s1).kinds D;refine bB (λ u H'=> ∃sq,u=.ref sq/\H' sq=some (.lst (([46]++ks++ks.map (· - 32)).map strV))/\aj H1 H') (λ Q q=>?_) ?_
     ·refine vp (vp (j6 (iT al (hJ ⟨by show 1<=sizeLine;decide,λ p hp=>?_⟩))));have s2:=(aj.refl H1).upd (o:=.lst [.str "."]) hp;obtain ⟨kq2,fk2,hkq2⟩:=((G.same s1).same s2).kinds D;refine qL (aO (ad rfl) fk2) (vo ag hkq2 (by rw [NZ];show 1+ks.length<=1000;lia) (λ p2 hp2=>?_));have s3:=s2.upd (o:=.lst ([.str "."]++ks.map strV)) hp2;obtain ⟨kq3,fk3,hkq3⟩:=((G.same s1).same s3).kinds D;refine eM (d:=kq3) (xs:=ks.map strV) (rest:=[]) (aO (ad rfl) fk3) (aK.of hkq3) (by rw [NZ,sizeLine_eq];lia) rfl (λ _=>true) upV (λ x hx=>cy) (λ x hx _=>?_) (λ p3 hp3=>?_)
      ·obtain ⟨k,hk,rfl⟩:=N0.mp hx;exact aC (sp:=kS) (aa (ad rfl) (aa al ao)) (λ Q q=>⟨k,0,rfl,hl k hk,by rw [if_pos rfl];exact q⟩)
      ·refine vo (by rw [aq (ar ag hp3),ag]) ag ?_ (λ p4 hp4=>q _ _ ⟨p4,rfl,?_,(s3.upd hp3).upd hp4⟩)
       ·rw [Oa,NZ,Oo.mpr (λ _ _=>rfl),NZ,NZ];show 1+ks.length+ks.length<=1000;lia
       ·rw [ag,Oo.mpr (λ _ _=>rfl),N7,Og,Og,N7,CK];rfl
     rintro _ H2 ⟨sq,rfl,hsq,s2⟩;show ce _ _ [oR g,oT z,oT (emptyT wi hi hs),oR sq] H2;have hws:∀H',aj H2 H'->aK K H' sq ((([46]++ks++ks.map (· - 32)).map one).map V.str):=λ H' s=>by rw [N7];exact aK.of (s _ _ hsq)
     refine wJ (rest:=[oR sq]) (aa (ad rfl) (aa (ad rfl) ao)) heq hz rfl (λ c e=>.bl (fu ks c e)) (λ i c e H' hc he s'=>?_) (λ H' dq s' hd=>?_)
     ·refine λ Q q=>qL (j9 (aZ (fI (ad rfl) al)) (λ _=>fI (ad rfl) al) (λ _=>tG (ad rfl) (ad rfl) (.inl (hws H' s')))) ?_;unfold fu at q;rw [AK,oU (n9 (a:=e) (b:=35)),oU (n9 (a:=c) (b:=35))]
      by_cases h35:e=35
      ·rw [if_pos h35] at q;rw [decide_eq_true h35];exact q
      ·rw [if_neg h35] at q;rw [decide_eq_false h35];rw [oU (p:=one c∈List.map one ([46]++ks++ks.map (· - 32))) (q:=c=46\/c∈ks\/c∈ks.map (· - 32))]
       ·exact q
       ·constructor
        ·intro h;obtain ⟨c',h1,h2⟩:=N0.mp h;have e2:=n9.mp h2;subst e2;simpa [or_assoc] using h1
        ·intro h;exact N0.mpr ⟨c,by simpa [or_assoc] using h,rfl⟩
     ·refine ⟨List.zipWith (fu ks) z.cps.toList (emptyT wi hi hs).cps.toList,?_,?_⟩
      ·rw [List.map_zipWith];exact aK.of ag
      ·have k:=q _ (((s1.trans s2).trans s').upd (o:=.lst (List.zipWith (λ c e=>V.bl (fu ks c e)) z.cps.toList (emptyT wi hi hs).cps.toList)) hd);unfold rowB at k;dsimp only at k;rw [decide_eq_true heq,Qt] at k;exact k
  | _=>
    refine bf (gM (b:=false) (bX (aZ hs0)) (λ h=>by cases h)) (λ _=>aG al (q H1 s1)) (λ h=>by cases h)
theorem qm {f cB cG:Addr}{fd:FuncData}(F:bi K "is_place" "is_place" eW f fd) (T:Txt mg aS aA aE aW) (C:CR2 P w K mg base cB cG):aQ P w K mg base cE 6 f fd ["game","thing"] (pL K cB cG):=by
 refine F.ok pZ (λ vs H Q E h=>?_) (λ cdv A outer s H vs Q E hr h=>?_)
 ·obtain ⟨g,b,v,wi,hi,hs,ks,rs,ts,es,st,rfl,_⟩:=h;rfl
 ·obtain ⟨g,b,v,wi,hi,hs,ks,rs,ts,es,st,rfl,G,O,hl,h6,t,q⟩:=h;have hu:=bA hr;refine ⟨_,(ah (aw (cI (aB C.is_tuple_of hr (av (cv 1) (av af pa_nil))) (cI (aB C.is_row hr (av (cv 0) (av (ci K (cv 1) af) pa_nil))) (dh (aB C.is_among hr (av (ci K (cv 1) af) (av af (av af pa_nil))))))))),?_⟩;show ce _ _ [oR g,some v] H;refine uc (a:=tupB H v 2) (aC (sp:=gQ) (aa (ad rfl) (aa al ao)) (λ Q q=>⟨v,2,rfl,t.thg,q⟩)) (λ h=>?_) (λ h=>?_)
  ·unfold tupB at h;cases e1:tupOf H v with
   | none=>rw [e1] at h;cases h
   | some xs=>
     rw [e1] at h;obtain ⟨a,rfl,ha⟩:=eQ e1;have h:(xs.length:Int)=2:=of_decide_eq_true h;have tx:=t.2 xs (.inl e1)
     match xs,h,e1,ha,tx,q with
     | [x,y],_,e1,ha,tx,q=>
       refine cF (sp:=rE K cB cG) (aa (ad rfl) (aa (aN (ad rfl) al (.inr (cJ.of ha)) (bn (j:=0) rfl)) ao)) ⟨g,b,x,wi,hi,hs,ks,rs,ts,es,st,rfl,G,O,hl,h6,tx x (by simp),λ H' s'=>?_⟩;have k:=q H' s';rw [lg e1] at k;cases hr2:rowB wi hi hs ks x with
       | false=>
         rw [hr2] at k;exact k
       | true=>
         rw [hr2,Qt] at k;simp only [dt,if_true];exact cF (sp:=gR) (aa (aN (ad rfl) al (.inr (cJ.of (s' _ _ ha))) (bn (j:=1) rfl)) (aa al (aa al ao))) ⟨y,0,1,rfl,(tx y (by simp)).thg.same s',k⟩
  ·have k:=q H (aj.refl H);rw [vZ h] at k;exact k
end
end K18
namespace K18
open PySem L2
section
variable {P:Program}{w:World}{K:Frag}{mg:Str->Option Value}{base:Heap}{aS aA aE aW:Addr}
theorem qu {f cB cG:Addr}{fd:FuncData}(F:bi K "_law_due" "_law_due" dz f fd) (T:Txt mg aS aA aE aW) (C:CD4 P w K mg base cB cG):aQ P w K mg base cE 8 f fd ["_law_game_here","_law_place"] (jx K cB cG):=by
 refine F.ok qc (λ vs H Q E h=>?_) (λ cdv A outer s H vs Q E hr h=>?_)
 ·obtain ⟨g,b,kq,p,row,sd,wi,hi,hs,ks,us,ts,es,st,rfl,_⟩:=h;rfl
 ·obtain ⟨g,b,kq,p,row,sd,wi,hi,hs,ks,us,ts,es,st,rfl,G,hp,R,sd2,k⟩:=h;have hu:=bA hr;have mm:=G.bd.many;have rlen:=R.len;have RG:=R.g G.ltr mm.2;have rl:(row.length:Int)=wi*hi:=by rw [rlen];lia
  refine ⟨_,(ae (aV (aU K hu (aB C.ending hr (av (cv 0) (av (cv 1) pa_nil))) di) (ah (aw (bg pa_nil))) aD)
   (ah (aw (dR (bR (N:=["_law_move","_law_game_here","_law_place"]) (src:=[none,some 0,some 1]) (ak dz) ["_law_game_here","_law_place"]) (qE K (aB C.moves hr (av (cv 0) (av (cv 1) pa_nil)))) (λ _ _ _=>(aX (i:=0) ["_law_move","_law_game_here","_law_place"])) (λ _ _ _=>bu) (λ _ _ _=>(aB C._law_behind hr (av (cv 1) (av (cv 2) (av (cv 0) pa_nil))))))))),?_⟩
  show ba _ _ _ [oR g,oR p] H;refine cp (λ z H'=>(∃x,Nh wi hi hs row us es st sd x/\z= !decide (x=.non))/\aj H H') (λ R' z=>tO (cF (aa (ad rfl) (aa (ad rfl) ao)) ⟨g,b,kq,p,row,sd,wi,hi,hs,ks,us,ts,es,st,rfl,G,hp,RG,rl,sd2,λ x H' hx s=>al _ (My (z _ _ ⟨⟨x,hx,rfl⟩,s⟩))⟩)) (λ H0 h=>?_) (λ H0 h=>?_)
  ·obtain ⟨⟨x,hx,hz⟩,s0⟩:=h;have hne:¬x=.non:=of_decide_eq_false (by rw [<-Qs];exact hz.symm);refine eZ (j6 (hJ ⟨PJ _,λ q hq=>k [] q _ ?_ (s0.free hq) ⟨[],rfl,ag,λ _ z=>nomatch z⟩ (s0.upd hq)⟩))
   by_cases e:bU (pB row wi hi sd es)=.non
   ·obtain ⟨m,hm,rfl⟩:=hx.2 e
    by_cases em:m=[]
    ·subst em;exact .inr ⟨e,[],hm,PJ _,rfl⟩
    ·rw [if_neg em] at hne;exact absurd rfl hne
   ·exact .inl ⟨e,rfl⟩
  ·obtain ⟨⟨x,hx,hz⟩,s0⟩:=h;have hxn:x=.non:=of_decide_eq_true (by have:=hz.symm;rw [Qu] at this;exact this);have hnn:bU (pB row wi hi sd es)=.non:=by apply Classical.byContradiction;intro e;exact e ((hx.1 e).symm.trans hxn)
   have G0:=G.same s0;refine eZ (oW (aa (ad rfl) (aa (ad rfl) ao)) ⟨g,b,kq,p,row,sd,wi,hi,hs,ks,us,ts,es,st,rfl,G0,s0.tupY hp,RG,rl,λ m q H1 hm ml hq hT s1=>?_⟩);obtain ⟨ps,p1,p2,p3⟩:=hT;have y1:=congrArg List.length p1;rw [NZ] at y1;have okm:=hm.ok G.bd.w1 (λ s hs=>im hs);refine ⟨q,rfl,⟨_,aK.of p2⟩,kM (rest:=[oR g,oR p]) p2 (by rw [NZ,sizeLine_eq];lia) rfl (λ j H' v=> ∃x t,m[j]? =some x/\v=.ref t/\H t=none/\H' t=some (.tup [.str (ua ts wi hi row sd x).1,.int (ua ts wi hi row sd x).2])) (λ i H H' v h s=>?_) (λ i x H' hx s' Q' q'=>?_) (λ d' H' ys s' hd hl hy=>?_)⟩
   ·obtain ⟨x,t,a1,a2,a3,a4⟩:=h;exact ⟨x,t,a1,a2,a3,s _ _ a4⟩
   ·have hi':i<ps.length:=by
     have:=(Oe.mp hx).1
     rwa [NZ] at this
    rw [N3,N2 hi'] at hx;obtain rfl:V.ref ps[i].2=x:=Option.some.inj hx;have hm':=Of hi';have mi:m[i]? =some ps[i].1:=by rw [<-p1,N3,N2 hi'];rfl
    generalize ps[i]=z at hm' mi;obtain ⟨s,gl,t,ek,ok⟩:=okm z.1 (Om mi);have ht:=s' _ _ (p3 z hm').2;rw [ek] at ht;have s1':=(s0.trans s1).trans s';refine cF (aa (ad rfl) (aa (ad rfl) (aa (ad rfl) ao))) ⟨g,b,kq,p,z.2,row,sd,s,gl,t,wi,hi,hs,ks,us,ts,es,st,rfl,G.same s1',s1'.tupY hp,cJ.of ht,R,ok.s0,ok.s1,ok.sd,ok.g0,by have:=ok.g1;lia,?_,λ r H2 hr h2 s2=>q' _ _ ⟨z.1,r,mi,rfl,s1'.free hr,?_⟩ s2⟩
    ·rcases ok.tk with e | ⟨t0,t1,_⟩
     ·exact .inl e
     ·exact .inr ⟨t0,by lia⟩
    ·rw [ek];exact h2
   ·obtain ⟨ps2,rfl,e1,e2⟩:=si (ua ts wi hi row sd) m ys (by rw [hl,NZ];exact y1) hy;have sF:=(s0.trans s1).trans s';refine k _ d' _ (.inr ⟨hnn,m,hm,ml,rfl⟩) (sF.free hd) ⟨ps2,e1,ag,λ p hp=>⟨(e2 p hp).1,?_⟩⟩ (sF.upd hd);rw [aq (ar (e2 p hp).2 hd)];exact (e2 p hp).2
theorem oz {f cB cG:Addr}{fd:FuncData}(F:bi K "_law_good" "_law_good" dM f fd) (T:Txt mg aS aA aE aW) (C:CD5 P w K mg base cB cG):aQ P w K mg base cE 9 f fd ["_law_game_here","_law_place"] (nw K cB cG):=by
 refine F.ok c8 (λ vs H Q E h=>?_) (λ cdv A outer s H vs Q E hr h=>?_)
 ·obtain ⟨g,b,kq,p,row,sd,wi,hi,hs,ks,us,ts,es,st,rfl,_⟩:=h;rfl
 ·obtain ⟨g,b,kq,p,row,sd,wi,hi,hs,ks,us,ts,es,st,rfl,G,hp,R,sd2,k⟩:=h;have hu:=bA hr;have mm:=G.bd.many;have rlen:=R.len;have rl:(row.length:Int)=wi*hi:=by rw [rlen];lia
  refine ⟨_,(ae (ay (i:=2) c8.nd rfl (Or.inl rfl) (aB C._law_due hr (av (cv 0) (av (cv 1) pa_nil))))
   (ae (ay (i:=3) c8.nd rfl (Or.inl rfl) (aB C.followers hr (av (cv 0) (av (cv 1) pa_nil))))
   (ae (aV (PW.pt (gD (bz (bm (Cl .list T.isinstance T.list eO (cv 3)))) (fc (aU K hu (cv 3) (cv 2))))) (ah (aw fA)) aD)
   (ae (fF PassesOwn.never rfl (qE K (cv 3)) (bD (i:=4) c8.nd rfl (Or.inl rfl)) (ah (aV (bz (bm (aB C.is_place hr (av (cv 0) (av (cv 4) pa_nil))))) (ah (aw fA)) aD)))
   (ae (ay (i:=5) c8.nd rfl (Or.inl rfl) (wx (qF K) eO T.list (av (cv 3) pa_nil)))
   (ae (eJ (iU (cv 3) (cv 1)))
   (ah (aw (cI (iA K hu (aB C.followers hr (av (cv 0) (av (cv 1) pa_nil))) (cv 5)) (dh (iA K hu (cv 3) (am (cv 5) (bg (av (cv 1) pa_nil)))))))))))))),?_⟩
  show ba _ _ _ [oR g,oR p,none,none,none,none] H;refine bB (λ v H'=> ∃(d:Addr) (ls:List (Str×Int)),v=.ref d/\uf wi hi hs row us ts es sd ls/\vx H H' d ls/\aj H H') (λ Q q=>?_) ?_
  ·exact cF (aa (ad rfl) (aa (ad rfl) ao)) ⟨g,b,kq,p,row,sd,wi,hi,hs,ks,us,ts,es,st,rfl,G,hp,R,sd2,λ ls d H' h1 h3 h4 h5=>q _ _ ⟨d,ls,rfl,h1,h4,h5⟩⟩
  rintro _ H2 ⟨d,ls,rfl,hf,⟨pd,d1,d2,d3⟩,s2⟩;have rows:=hf.rows G.bd.w1 R G.ltr G.tg rl;have ll:ls.length<=4096:=by
   rcases hf with ⟨_,rfl⟩ | ⟨_,m,_,ml,rfl⟩
   ·exact PJ _
   ·rw [NZ];exact ml
  have folY:∀(H':Hp),aj H H'->∀Q:VK,(∀(q:Addr) (H'':Hp),H' q=none->vx H' H'' q ls->aj H' H''->Q (.ref q) H'')->jx K cB cG [.ref g,.ref p] H' Q E0:=λ H' s' Q q=>by refine ⟨g,b,kq,p,row,sd,wi,hi,hs,ks,us,ts,es,st,rfl,G.same s',s'.tupY hp,R,sd2,λ ls' t H'' h1 h3 h4 h5=>?_⟩;have e:=hf.uniq h1;subst e;exact q t H'' h3 h4 h5
  refine bB (λ v H'=> ∃q,v=.ref q/\H2 q=none/\vx H2 H' q ls/\aj H2 H') (λ Q q=>cF (aa (ad rfl) (aa (ad rfl) ao)) (folY H2 s2 _ λ t H' h1 h2 h3=>q _ _ ⟨t,rfl,h1,h2,h3⟩)) ?_;rintro _ H3 ⟨q,rfl,nq,⟨pf,f1,f2,f3⟩,s3⟩;have kd3:jp H3 pd:=λ p hp=>s3 _ _ (d3 p hp).2;have kf3:jp H3 pf:=λ p hp=>(f3 p hp).2;have d23:=s3 _ _ d2;have efd:pf.map (·.1)=pd.map (·.1):=f1.trans d1.symm;have zf:=congrArg List.length f1;rw [NZ] at zf;refine bf (b:=false) (gM (a:=false) (b:=false) (bX (b:=true) (aZ (Jy (ad rfl) f2))) (λ _=>aZ (Jw (k:=true) (ad rfl) (ad rfl) (vh (n:=18) (aK.of f2) (aK.of d23) efd kf3 kd3)))) (λ h=>nomatch h) (λ _=>?_);show ba _ _ _ [oR g,oR p,oR d,oR q,none,none] H3;have s03:=s2.trans s3;refine bS (λ σ' H'=>(∃o,σ'=[oR g,oR p,oR d,oR q,o,none])/\aj H3 H') (λ K' hK=>?_) ?_
  ·refine hZ (λ v H'=>v=.ref q/\H3=H') (λ Q z=>(ad rfl) _ (z _ _ ⟨rfl,rfl⟩)) ?_;rintro _ _ ⟨rfl,rfl⟩;refine ⟨q,plRefs pf,rfl,aK.of f2,λ i σ' H'=>(∃o,σ'=[oR g,oR p,oR d,oR q,o,none])/\aj H3 H',⟨⟨_,rfl⟩,aj.refl _⟩,?_,?_,λ σ' H' h=>hK _ _ h⟩
   ·rintro i σ' H' _ ⟨_,s4⟩;exact aK.of (s4 _ _ f2)
   ·rintro i x _ H4 hx ⟨⟨o,rfl⟩,s4⟩;obtain ⟨z,hz,rfl⟩:=N0.mp (Om hx);have hzl:z.1∈ls:=by rw [<-f1];exact N0.mpr ⟨z,hz,rfl⟩
    obtain ⟨Rz,ez⟩:=rows z.1 hzl;have h4:=(kf3.same s4) z hz;have G4:=G.same (s03.trans s4);have pb:jH wi hi hs ks H4 (.ref z.2)=true:=by rw [lg (kP h4),BW Rz,Qt,ez];exact decide_eq_true (by lia)
    show na _ _ _ _ [oR g,oR p,oR d,oR q,oR z.2,none] H4;refine Iv (λ b H'=>b=false/\aj H4 H') (λ R' y=>Bk (aa (ad rfl) (aa (ad rfl) ao)) ⟨g,b,.ref z.2,wi,hi,hs,ks,ck us,bp ts,bp es,st,rfl,G4.gm,G4.bd,G.ltr,G.k6,(Me h4 (by rw [Rz.len];lia)).n,λ H' s=>?_⟩) (λ H' w=>nomatch w.1) (λ H' w=>⟨⟨_,rfl⟩,s4.trans w.2⟩);rw [pb];exact y _ _ ⟨rfl,s⟩
  rintro _ H4 ⟨⟨o,rfl⟩,s4⟩;have f24:=s4 _ _ f2;refine bB (λ v H'=> ∃kp,v=.ref kp/\H4 kp=none/\H' kp=some (.lst (plRefs pf))/\aj H4 H') (λ Q z=>(aa (show Ev (gG 3) _ _ (.ref q) from ad rfl) ao) _ ⟨_,.inl (aK.of f24),λ l hl=>z _ _ ⟨l,rfl,hl,ag,(aj.refl H4).upd hl⟩⟩) ?_;rintro _ H5 ⟨kp,rfl,nk,ek,s5⟩;have f25:=s5 _ _ f24;have nqk:kp≠q:=λ e=>by rw [e,f24] at nk;cases nk
  refine bS (λ σ' H'=>σ'=[oR g,oR p,oR d,oR q,o,oR kp]/\H' q=some (.lst (plRefs pf++[.ref p]))/\SameBut q H5 H') (λ K2 hK2=>?_) ?_
  ·exact qX (ad rfl) ⟨_,f25⟩ ((ad rfl) _ ⟨_,f25,by rw [NZ,sizeLine_eq];lia,hK2 _ _ ⟨rfl,ag,λ a o e ne=>by rw [aq ne];exact e⟩⟩)
  rintro _ H6 ⟨rfl,q6,sb⟩;have s26:aj H2 H6:=λ a o e=>sb a o (((s3.trans s4).trans s5) _ _ e) (ar e nq);have s06:=s2.trans s26;have k6:=sb _ _ ek nqk;have kf6:jp H6 pf:=λ z hz=>sb _ _ (s5 _ _ (s4 _ _ (kf3 z hz))) (λ e=>by
   have a:=kf3 z hz;rw [e,f2] at a;cases a)
  refine eZ (Bt (Bf (cF (aa (ad rfl) (aa (ad rfl) ao)) (folY H6 s06 _ λ q3 H7 h1 h2 s7=>(show Ev (gG 5) _ _ (.ref kp) from ad rfl) _ ?_))));obtain ⟨pg,g1,g2,g3⟩:=h2;refine ⟨true,vh (n:=18) (aK.of g2) (aK.of (s7 _ _ k6)) (g1.trans f1.symm) (λ p hp=>(g3 p hp).2) (kf6.same s7),Bs ?_⟩;refine Bf ((show Ev (gG 3) _ _ (.ref q) from ad rfl) _ (vp ((show Ev (gG 5) _ _ (.ref kp) from ad rfl) _ (j6 (iT (ad rfl) (hJ ⟨by show 1<=sizeLine;decide,λ r hr'=>?_⟩))))));have s8:aj H7 (upd H7 r (.lst [.ref p])):=(aj.refl H7).upd hr';have e8:(upd H7 r (.lst [.ref p])) r=some (.lst [.ref p]):=ag;generalize upd H7 r (.lst [.ref p])=H8 at s8 e8 ⊢;have s68:=s7.trans s8;refine ⟨kp,r,_,_,rfl,rfl,s68 _ _ k6,e8,by rw [NZ,sizeLine_eq];show _+1<=_;lia,λ c hc=>?_⟩;have sc:=(aj.refl H8).upd (o:=.lst (plRefs pf++[.ref p])) hc;have pr:plRefs pf++[.ref p]=(pf.map (·.2)++[p]).map V.ref:=by rw [Og,N7];rfl
  exact ⟨true,A4 (n:=19) (xs:=pf.map (·.2)++[p]) (aK.of (by rw [<-pr];exact (s68.trans sc) _ _ q6)) (aK.of (by rw [<-pr];exact ag)),k _ ((s06.trans s68).trans sc)⟩
end
end K18
namespace K18
open PySem L2
def ut (K:Frag):Sp:=λ vs H Q _=> ∃(a:Addr) (ns:List Int),vs=[.ref a]/\aK K H a (ns.map V.int)/\ns.length<=63/\∀H',Q (.bl true) H'
structure CL (P:Program) (w:World) (K:Frag) (mg:Str->Option Value) (base:Heap) (cB cG:Addr):Prop extends LG1 P w K mg base where
 _law_game:cj P w K mg base "_law_game" ["_law_script"] 8 (uv K cB cG)
 _law_row:cj P w K mg base "_law_row" ["_law_script","_law_game_here","_law_start"] 2 (zH K cB cG)
 followers:cj P w K mg base "followers" ["game","place"] 7 (jx K cB cG)
 _law_good:cj P w K mg base "_law_good" ["_law_game_here","_law_place"] 9 (nw K cB cG)
section
variable {P:Program}{w:World}{K:Frag}{mg:Str->Option Value}{base:Heap}{aS aA aE aW:Addr}
theorem Ja {f cB cG:Addr}{fd:FuncData}(F:bi K "law" "law" i8 f fd) (T:Txt mg aS aA aE aW) (B:ij K cB) (D:pD K cG) (C:CL P w K mg base cB cG):aQ P w K mg base cE 10 f fd ["_law_script"] (ut K):=by
 refine F.ok gT (λ vs H Q E h=>?_) (λ cdv A outer s H vs Q E hr h=>?_)
 ·obtain ⟨a,ns,rfl,_⟩:=h;rfl
 ·obtain ⟨a,ns,rfl,hS,hlen,k⟩:=h;have hu:=bA hr;refine ⟨_,(ae (ay (i:=1) gT.nd rfl (Or.inl rfl) (aB C._law_game hr (av (cv 0) pa_nil)))
   (ae (ay (i:=2) gT.nd rfl (Or.inl rfl) (dg (av (aB C._law_row hr (av (cv 0) (av (cv 1) (av af pa_nil)))) (av (am (aB C._law_cell_at hr (av (cv 0) (av af pa_nil))) af) pa_nil))))
   (ae (ay (i:=3) gT.nd rfl (Or.inl rfl) (cv 2))
   (ae (fF PassesOwn.never rfl (AB K T.enumerate (am (bg (av (aB C._law_cell_at hr (av (cv 0) (av af pa_nil))) pa_nil)) (GJ K (cv 0) (dF af) (dF af)))) (JX K (n:=2) (bO (bD (i:=4) gT.nd rfl (Or.inl rfl)) (bO (bD (i:=5) gT.nd rfl (Or.inl rfl)) iw))) (ae (aV (bz (bm (aB C._law_good hr (av (cv 1) (av (cv 3) pa_nil))))) (ah (aw fA)) aD)
   (ae (ay (i:=6) gT.nd rfl (Or.inl rfl) (aB C.followers hr (av (cv 1) (av (cv 3) pa_nil))))
   (ae (aV (aU K hu (cv 6) (bg pa_nil)) (ah (aw (cI (aB C._law_good hr (av (cv 1) (av (dg (av (ci K (cv 3) af) (av (am af (ci K (cv 3) af)) pa_nil))) pa_nil))) (dh (aB C._law_good hr (av (cv 1) (av (cv 2) pa_nil))))))) aD)
   (ah (ay (i:=3) gT.nd rfl (Or.inl rfl) (ci K (cv 6) (am (aB C._law_mixed hr (av (cv 5) (av (cv 4) pa_nil))) (kB (gc K) bK T.len (av (cv 6) pa_nil))))))))))
   (ah (aw (aB C._law_good hr (av (cv 1) (av (cv 2) pa_nil))))))))),?_⟩
  show ba _ _ _ [oR a,none,none,none,none,none,none] H;refine bB (λ v H'=> ∃(g b kq:Addr) (wi hi:Int) (hs:List Int) (ks:List Nat) (us:List (aI×Addr)) (ts es:List ((Str×Str)×Addr)) (st:Str),v=.ref g/\gq K cB cG H' g b kq wi hi hs ks us ts es st/\(hs.length:Int)<wi*hi/\aj H H') (λ Q q=>?_) ?_
  ·exact cF (aa (ad rfl) ao) ⟨a,ns,rfl,hS,λ g b kq wi hi hs ks us ts es st H' h1 h2 h3 h4=>q _ _ ⟨g,b,kq,wi,hi,hs,ks,us,ts,es,st,rfl,h1,h3,h4⟩⟩
  rintro _ H1 ⟨g,b,kq,wi,hi,hs,ks,us,ts,es,st,rfl,G,ln,s1⟩;have hS1:=s1.seq hS;have m2:∀i:Int,i % 2=0\/i % 2=1:=λ i=>by lia
  refine bB (λ v H'=> ∃(pl:Addr) (z:Str) (sd:Int),v=.ref pl/\H' pl=some (.tup [.str z,.int sd])/\gJ wi hi hs ks z/\(sd=0\/sd=1)/\aj H1 H') (λ Q q=>?_) ?_
  ·refine tupY (gw (cF (aa (ad rfl) (aa (ad rfl) (aa al ao))) ⟨a,g,b,ns,10,wi,hi,hs,ks,ck us,bp ts,bp es,st,rfl,hS1,by decide,by decide,G.gm,G.bd,G.ltr,G.k1,G.k6,ln,λ z H' e1 e2 s=>?_⟩));exact eG (aR (aC (x:=.int (cellAt ns 17)) (aa (ad rfl) (aa al ao)) (λ Q q=>⟨a,ns,17,rfl,s.seq hS1,by decide,q⟩)) al (by decide)) (wj ⟨by show 2<=sizeLine;decide,λ t ht=>q _ _ ⟨t,z,_,rfl,ag,⟨e1,e2⟩,m2 _,s.upd ht⟩⟩)
  rintro _ H2 ⟨fi,z0,sd0,rfl,efi,R0,sdd0,s2⟩;have hS2:=s2.seq hS1;have goodY:∀(H':Hp) (t:Addr) (y:Str) (v:Int) (Q:VK),aj H1 H'->gJ wi hi hs ks y->(v=0\/v=1)->H' t=some (.tup [.str y,.int v])->(∀H'',aj H' H''->Q (.bl true) H'')->nw K cB cG [.ref g,.ref t] H' Q E0:=λ H' t y v Q s Ry hv ht q=>
   ⟨g,b,kq,t,y,v,wi,hi,hs,ks,us,ts,es,st,rfl,G.same s,cJ.of ht,Ry,hv,q⟩
  refine aJ (ad rfl) ?_;show ba _ _ _ [oR a,oR g,oR fi,oR fi,none,none,none] H2;refine bS (λ σ' H'=>(∃o3 o4 o5 o6,σ'=[oR a,oR g,oR fi,o3,o4,o5,o6])/\aj H2 H') (λ K' hK=>?_) ?_
  ·refine qK (λ q' H'=>(∃cs:List Int,H' q'=some (.lst (cs.map V.int))/\cs.length<=64)/\aj H2 H') (λ Q q=>?_) ?_
   ·refine vp (j6 (iT (aC (x:=.int (cellAt ns 18)) (aa (ad rfl) (aa al ao)) (λ Q q=>⟨a,ns,18,rfl,hS2,by decide,q⟩)) (hJ ⟨by show 1<=sizeLine;decide,λ p hp=>?_⟩)));have sa:=(aj.refl H2).upd (o:=.lst [.int (cellAt ns 18)]) hp;have ea:(upd H2 p (.lst [.int (cellAt ns 18)])) p=some (.lst [.int (cellAt ns 18)]):=ag;generalize upd H2 p (.lst [.int (cellAt ns 18)])=H4 at sa ea ⊢;refine pW (ad rfl) (j3 al) (j3 al) (sa.seq hS2) λ p2 hp2=>?_;have sb:=(aj.refl H4).upd (o:=.lst (gk (ns.map V.int) (some 19) (some 26))) hp2;obtain ⟨ss,es1,es2,es3⟩:=mY ns (some 19) (some 26);refine ⟨p,p2,_,_,rfl,rfl,sb _ _ ea,ag,by rw [es1,NZ,sizeLine_eq];show 1+_<=_;lia,λ d hd=>q _ _ ⟨⟨cellAt ns 18::ss,by rw [ag,es1];rfl,by rw [Oh];lia⟩,(sa.trans sb).upd hd⟩⟩
   rintro q' H4 ⟨⟨cs,eq',cl⟩,s4⟩;refine ⟨_,aK.of eq',λ i σ' H'=>(∃(pl:Addr) (z:Str) (sd:Int) (o4 o5 o6:Option V),σ'=[oR a,oR g,oR fi,oR pl,o4,o5,o6]/\H' pl=some (.tup [.str z,.int sd])/\gJ wi hi hs ks z/\(sd=0\/sd=1))/\aj H4 H',
    ⟨⟨fi,z0,sd0,_,_,_,rfl,s4 _ _ efi,R0,sdd0⟩,aj.refl _⟩,?_,?_,?_⟩
   ·rintro i σ' H' ⟨_,sb⟩;exact aK.of (sb _ _ eq')
   ·rintro i x _ H5 t hx ⟨⟨pl,z,sd,o4,o5,o6,rfl,epl,Rz,sdd⟩,sb⟩ nt;obtain ⟨c,hc,rfl⟩:=N0.mp (Om hx);refine GP ag ?_;have s6:=(aj.refl H5).upd (o:=.tup [.int (i:Int),.int c]) nt;generalize upd H5 t (HO.tup [V.int (i:Int),V.int c])=H6 at s6;have s26:aj H2 H6:=(s4.trans sb).trans s6;have s16:=s2.trans s26;have e6:=s6 _ _ epl;show ba _ _ _ [oR a,oR g,oR fi,oR pl,oJ (i:Int),oJ c,o6] H6;refine cp (λ b H'=>b=false/\aj H6 H') (λ R' y=>Bk (aa (ad rfl) (aa (ad rfl) ao)) (goodY H6 pl z sd _ s16 Rz sdd e6 λ H' s=>y _ _ ⟨rfl,s⟩)) (λ H' w=>nomatch w.1) (λ H7 w=>?_);have s7:=w.2;have s17:=s16.trans s7;have e7:=s7 _ _ e6;refine bB (λ v H'=> ∃(q:Addr) (ls:List (Str×Int)) (ps:List ((Str×Int)×Addr)),v=.ref q/\ps.map (·.1)=ls/\H' q=some (.lst (plRefs ps))/\jp H' ps/\(∀y∈ls,gJ wi hi hs ks y.1/\y.2=1 - sd)/\aj H7 H') (λ Q q=>?_) ?_
    ·have rlz:(z.length:Int)=wi*hi:=by have:=Rz.len;have:=G.bd.many;lia
     exact cF (aa (ad rfl) (aa (ad rfl) ao)) ⟨g,b,kq,pl,z,sd,wi,hi,hs,ks,us,ts,es,st,rfl,G.same s17,cJ.of e7,Rz,sdd,λ ls q2 H' h1 h2 h3 h4=>by
      obtain ⟨ps,p1,p2,p3⟩:=h3;exact q _ _ ⟨q2,ls,ps,rfl,p1,p2,λ p hp=>(p3 p hp).2,h1.rows G.bd.w1 Rz G.ltr G.tg rlz,h4⟩⟩
    rintro _ H8 ⟨q,ls,ps,rfl,p1,eq,kp,rows,s8⟩;have s18:=s17.trans s8;refine cp (λ b H'=>b=decide (plRefs ps=[])/\aj H8 H') (λ R' y=>tO ((show Ev (gG 6) _ _ (.ref q) from ad rfl) _ (j6 (hJ ⟨PJ _,λ r hr'=>⟨_,CG (n:=19) (((aj.refl H8).upd (o:=.lst []) hr') _ _ eq) ag,y _ _ ⟨rfl,(aj.refl H8).upd hr'⟩⟩⟩)))) (λ H9 w=>?_) (λ H9 w=>?_)
    ·have s9:=w.2;have s89:=(s7.trans s8).trans s9;have e9:=s89 _ _ e6;refine eZ (Bt (tX (iT (ad rfl) (gw (jw (aN (x:=.str z) (ad rfl) al (.inr (cJ.of e9)) rfl) (dA al (aN (x:=.int sd) (ad rfl) al (.inr (cJ.of e9)) rfl)) λ t1 h1=>hJ ?_)))));have sa:=(aj.refl H9).upd (o:=.tup [.str z,.int (1 - sd)]) h1;have s1a:=((s16.trans s89).trans sa);refine goodY _ t1 z (1 - sd) _ s1a Rz (by lia) ag λ H10 s10=>Bs (tX (iT (ad rfl) (iT (ad rfl) (hJ ?_))));exact goodY _ fi z0 sd0 _ (s1a.trans s10) R0 sdd0 ((((s26.trans s89).trans sa).trans s10) _ _ efi) λ H11 _=>k H11
    ·have s9:=w.2;have hne:¬plRefs ps=[]:=of_decide_eq_false w.1.symm;have lpos:(0:Int)<((plRefs ps).length:Int):=by have:0<(plRefs ps).length:=List.length_pos_iff.mpr hne;lia
     have eq9:=s9 _ _ eq;obtain ⟨v,ev,hv⟩:=Af (xs:=plRefs ps) (i:=mixed c (i:Int) % ((plRefs ps).length:Int)) (Qb _ (by lia)) (Qc _ lpos);obtain ⟨y,hy,rfl⟩:=N0.mp hv;obtain ⟨Ry,ey⟩:=rows y.1 (by rw [<-p1];exact N0.mpr ⟨y,hy,rfl⟩);refine fz (aN (x:=.ref y.2) (ad rfl) (aR (aC (x:=.int (mixed c (i:Int))) (aa (ad rfl) (aa (ad rfl) ao)) (λ Q q=>⟨_,_,rfl,q⟩)) (cH (ad rfl) (.inl (aK.of eq9))) lpos) (.inl (aK.of eq9)) ev) ?_;exact ⟨⟨y.2,y.1.1,y.1.2,_,_,_,rfl,(kp.same s9) y hy,Ry,by rw [ey];lia⟩,((sb.trans s6).trans (s7.trans s8)).trans s9⟩
   ·rintro σ' H' ⟨⟨pl,z,sd,o4,o5,o6,e,_⟩,sb⟩;exact hK _ _ ⟨⟨_,_,_,_,e⟩,s4.trans sb⟩
  ·rintro _ H4 ⟨⟨o3,o4,o5,o6,rfl⟩,s4⟩;exact eZ (cF (aa (ad rfl) (aa (ad rfl) ao)) (goodY H4 fi z0 sd0 _ (s2.trans s4) R0 sdd0 (s4 _ _ efi) λ H' _=>k H'))
end
end K18
namespace L2
open PySem PySem.W PyProof.Rows
theorem zp {q:Program}{loose:List Str}{XP:(Str->Option Value)->Heap->Prop}{YP:World->Heap->Prop}{α:Type}{Yf:Shared->α}{Ya:World->α}{r:RowW}{d:DefRec}{kwd:List (Str×Expr)}{run:Value->List Value->Sem Value}
  (hY:∀(w:World) (s₀ s₁:Shared),Yf s₀=Ya w->(∀b o,s₀.heap.get? b=some o->s₁.heap.get? b=some o)->YP w s₁.heap) (h:WalkO q loose XP YP r d kwd run):PySem.W.WalkX q loose XP Yf Ya r d kwd run:=
 λ w s₀ s₁ mg mb G y a o pm cd doc dV kV ho hd hcd hD hmg hg args vals as L hpre hlay hrd hwl hlo=>h w s₀ s₁ mg mb G (hY w s₀ s₁ y L.keeps) a o pm cd doc dV kV ho hd hcd hD hmg hg args vals as hpre hlay hrd hwl hlo
theorem BA {P:List Value->Prop}(h:∀a0:Value,P [a0]):∀us:List Value,us.length=1->P us
 | [a0],_=>h a0
theorem jM {P:List Value->Prop}(h:∀a0 a1:Value,P [a0,a1]):∀us:List Value,us.length=2->P us
 | [a0,a1],_=>h a0 a1
theorem uP {P:List Value->Prop}(h:∀a0 a1 a2:Value,P [a0,a1,a2]):∀us:List Value,us.length=3->P us
 | [a0,a1,a2],_=>h a0 a1 a2
theorem Je {P:List Value->Prop}(h:∀a0 a1 a2 a3:Value,P [a0,a1,a2,a3]):∀us:List Value,us.length=4->P us
 | [a0,a1,a2,a3],_=>h a0 a1 a2 a3
theorem ln7 {P:List Value->Prop}(h:∀a0 a1 a2 a3 a4 a5 a6:Value,P [a0,a1,a2,a3,a4,a5,a6]):∀us:List Value,us.length=7->P us
 | [a0,a1,a2,a3,a4,a5,a6],_=>h a0 a1 a2 a3 a4 a5 a6
end L2
namespace L2
open PySem PySem.W PyProof.Rows
def rA:Nat->List Obj->Nat->Nat->PySem.W.BT
 | 0,_,_,_=>.nil
 | f+1,l,a,b=>(l[b]?).elim .nil λ o=>.node o (rA f l (2*a) (a+b)) (rA f l (2*a) (2*a+b))
def toT (s:Shared):SharedT:=⟨rA 12 s.heap.objs.toList 1 0,s.heap.objs.size,s.heap.life,s.gens,s.drawn,s.toks,s.os⟩
theorem Mt {p q:Program}{loose:List Str}{Xt:Shared->Bool}{α:Type}{Yf:Shared->α}{Ya:World->α}{N:Nat}{g0:Bool}{H₀:Params->Heap}{gs₀:Array GenState}{d₀:Drawn}{k₀ m₀:Nat}{ann:Option Value}{n0 nb n nf:Nat}
  {b:List Stmt} {env:Env} {qp p0 p1 p2:Pos} {sa:World->OsState->Shared} {sb sc:World->OsState->SharedT} {sf:World->OsState->Shared}
  (open_:∀w:World,(fencedOpening treeTable p w N).map (λ s=>(s.heap,s.gens,s.drawn,s.toks))=some (H₀ w.params,gs₀,d₀,k₀))
  (size:∀w:World,((H₀ w.params).isNs mainGlobals&&gs₀.size == 0,(H₀ w.params).objs.size,(H₀ w.params).nsMap mainGlobals "__annotations__")=(true,m₀,ann))
  (pre:∀w os,topGo treeTable p w m₀ ann n0 ⟨H₀ w.params,gs₀,d₀,k₀,os⟩ (topStub p)=some (sa w os,⟨denote treeTable (.body b env),.body b env,p0,[topFrame qp]⟩))
  (block:∀w os,segRun treeTable p w m₀ ann 1 nb (sa w os) (blockOf b env (.body b env) p0 [topFrame qp])=some (.next,(sb w os).abs,.body b env,p1))
  (main:∀w os,segRunT treeTable p w m₀ ann 1 n (sb w os) (piecesOf b env (.body b env) p1 [topFrame qp])=some (.next,sc w os,.body b env,p2))
  (fin:∀w os,topRun treeTable p w m₀ ann nf (sc w os).abs ⟨doneF .next,.body b env,p2,[topFrame qp]⟩=some (sf w os))
  (le:Nat.ble (n0+(nb+(n+nf))) N=true)
  (looks:∀w os,((staticsOk (importedModules p.main.body) (H₀ w.params) (sf w os).heap&&namesBound p (sf w os).heap&&gensDone (sf w os)&&laidKept (H₀ w.params) (sf w os).heap),
    openSeen q loose (importedModules p.main.body) Xt g0 (sf w os),Yf (sf w os))=(true,openGood q loose,Ya w)):LeftO p q loose Xt Yf Ya N g0:=λ w=>by
 obtain ⟨⟨h,gs,d,k,os⟩,e,e'⟩:=QI.mp (open_ w);obtain ⟨rfl,rfl,rfl,rfl⟩:h=H₀ w.params/\gs=gs₀/\d=d₀/\k=k₀:=by simpa using e'
 obtain ⟨z1,z2,z3⟩:_/\_/\_:=by simpa only [Prod.mk.injEq] using size w
 obtain ⟨l1,l2,l3⟩:_/\_/\_:=by simpa only [Prod.mk.injEq] using looks w os
 have r1:=piece_app (rest:=[]) (segRun_of (main w os)) (piece_nil (fin w os));rw [Os] at r1;have r3:=go_top (pre w os) (piece_block (block w os) r1);have r:=topRun_mono (N - (n0+(nb+(n+nf)))) _ _ _ _ r3;rw [show n0+(nb+(n+nf))+(N - (n0+(nb+(n+nf))))=N by have:=Qa le;lia] at r;have t:topFrom treeTable p w N ⟨H₀ w.params,gs,d,k,os⟩=some (sf w os):=by
  unfold topFrom;dsimp only;rw [z1,z2,z3,r];show (match staticsOk (importedModules p.main.body) (H₀ w.params) (sf w os).heap&&namesBound p (sf w os).heap&&gensDone (sf w os)&&laidKept (H₀ w.params) (sf w os).heap with | true=>_ | false=>_)=_
  rw [l1]
 unfold openEnds;rw [e];show (topFrom treeTable p w N _).map _=_;rw [t];exact congrArg some (Prod.ext l2 l3)
abbrev MN (name qual:Str) (params:Arguments) (body:List Stmt) (scope:Scope) (globals:Addr) (closure:List (Str×Addr)) (dV kV doc pm:Value) (an:Option Addr) (cdv ct:Value) (bl:Addr):FuncData:=
 {name,qualname:=qual,params,body:=.stmts body,scope,globals,closure,defaults:=dV,kwdefaults:=kV,doc,pyModule:=pm,annotations:=an,code:=cdv,closureTuple:=ct,builtins:=bl}
noncomputable def stT (t:PySem.W.BT) (n k:Nat) (P:Params) (os:OsState):SharedT:=⟨t,n,(boot_heap P).life,Array.mk [],boot_drawn,k,os⟩
theorem wp {p q:Program}{loose:List Str}{Xt:Shared->Bool}{α:Type}{Yf:Shared->α}{Ya:World->α}{N:Nat}{g0:Bool}{H₀:Params->Heap}{gs₀:Array GenState}{d₀:Drawn}{k₀ m₀:Nat}{ann:Option Value}{n0 nb n:Nat}
  {b:List Stmt} {env:Env} {qp p0 p1:Pos} {sa:World->OsState->Shared} {sb:World->OsState->SharedT} {sf:World->OsState->Shared}
  (open_:∀w:World,(fencedOpening treeTable p w N).map (λ s=>(s.heap,s.gens,s.drawn,s.toks))=some (H₀ w.params,gs₀,d₀,k₀))
  (size:∀w:World,((H₀ w.params).isNs mainGlobals&&gs₀.size == 0,(H₀ w.params).objs.size,(H₀ w.params).nsMap mainGlobals "__annotations__")=(true,m₀,ann))
  (pre:∀w os,topGo treeTable p w m₀ ann n0 ⟨H₀ w.params,gs₀,d₀,k₀,os⟩ (topStub p)=some (sa w os,⟨denote treeTable (.body b env),.body b env,p0,[topFrame qp]⟩))
  (block:∀w os,segRun treeTable p w m₀ ann 1 nb (sa w os) (blockOf b env (.body b env) p0 [topFrame qp])=some (.next,(sb w os).abs,.body b env,p1))
  (main:∀w os,topRun treeTable p w m₀ ann n (sb w os).abs (restOf b env (.body b env) p1 [topFrame qp])=some (sf w os))
  (le:Nat.ble (n0+(nb+n)) N=true)
  (looks:∀w os,((staticsOk (importedModules p.main.body) (H₀ w.params) (sf w os).heap&&namesBound p (sf w os).heap&&gensDone (sf w os)&&laidKept (H₀ w.params) (sf w os).heap),
    openSeen q loose (importedModules p.main.body) Xt g0 (sf w os),Yf (sf w os))=(true,openGood q loose,Ya w)):LeftO p q loose Xt Yf Ya N g0:=λ w=>by
 obtain ⟨⟨h,gs,d,k,os⟩,e,e'⟩:=QI.mp (open_ w);obtain ⟨rfl,rfl,rfl,rfl⟩:h=H₀ w.params/\gs=gs₀/\d=d₀/\k=k₀:=by simpa using e'
 obtain ⟨z1,z2,z3⟩:_/\_/\_:=by simpa only [Prod.mk.injEq] using size w
 obtain ⟨l1,l2,l3⟩:_/\_/\_:=by simpa only [Prod.mk.injEq] using looks w os
 have r3:=go_top (pre w os) (piece_block (block w os) (main w os));have r:=topRun_mono (N - (n0+(nb+n))) _ _ _ _ r3;rw [show n0+(nb+n)+(N - (n0+(nb+n)))=N by have:=Qa le;lia] at r;have t:topFrom treeTable p w N ⟨H₀ w.params,gs,d,k,os⟩=some (sf w os):=by
  unfold topFrom;dsimp only;rw [z1,z2,z3,r];show (match staticsOk (importedModules p.main.body) (H₀ w.params) (sf w os).heap&&namesBound p (sf w os).heap&&gensDone (sf w os)&&laidKept (H₀ w.params) (sf w os).heap with | true=>_ | false=>_)=_
  rw [l1]
 unfold openEnds;rw [e];show (topFrom treeTable p w N _).map _=_;rw [t];exact congrArg some (Prod.ext l2 l3)
def u9 (as:List Addr) (s:Shared):List (Option Obj):=as.map s.heap.get?
def u7 (K:Params->Frag) (w:World):List (Option Obj):=(K w.params).map λ p=>some p.2
theorem MD {K:Params->Frag}{as:List Addr}(e:∀P,as=(K P).map (·.1)) (w:World) (s₀ s₁:Shared) (y:u9 as s₀=u7 K w) (k:∀b o,s₀.heap.get? b=some o->s₁.heap.get? b=some o):(K w.params).In s₁.heap:=
 InK.keeps w s₀.heap s₁.heap (InK.of e w s₀ y) k
end L2
namespace K18
open PySem L2
abbrev ζt (x:Array Value) (n:Nat):Obj:=⟨.type "tuple",none,.seq x n,#[]⟩
noncomputable abbrev ζf (a b:Str) (s:Stmt) (d e f m:Value) (n:Option Addr) (c t:Value):Obj:=⟨.type "function",none,.func (QR a b (eK s) (dE s) (ak s) d e f m n c t),#[]⟩
noncomputable abbrev ζr (a b:Str) (s:Stmt):Obj:=⟨.none,none,.func (L2.MN a b (eK s) (dE s) (ak s) 0 [] .none .none .none .none none .none .none 0),#[]⟩
abbrev ζD (a b:Str) (n m l:Nat) (i j k o:Int) (r:Nat) (f:Bool) (p:Int) (q x y z:Nat) (u v:Int) (e:Nat):Obj:=⟨.type "code",none,.fields #[.str a n,.str b m,.str "/claim/cut.py" l,.int i 0,.int j 0,.int 0 0,.int k 0,.int o 0,.ref r,.bool f,.int p 0,.ref q,.none,.ref x,.ref y,.ref z,.int u 0,.int v 0,.str "/claim/cut.py" e],#[]⟩
abbrev ζC (a b:Str) (n m l:Nat) (i j k o:Int) (r:Nat) (f:Bool) (p:Int) (q:Nat) (u v:Int) (e:Nat):Obj:=⟨.type "code",none,.fields #[.str a n,.str b m,.str "/claim/cut.py" l,.int i 0,.int j 0,.int 0 0,.int k 0,.int o 0,.ref r,.bool f,.int p 0,.ref q,.none,.none,.none,.none,.int u 0,.int v 0,.str "/claim/cut.py" e],#[]⟩
noncomputable abbrev ζF (a b:Str) (s:Stmt) (m:Str) (n c:Nat):Obj:=⟨.type "function",none,.func (QR a b (eK s) (dE s) (ak s) .none .none .none (.str m n) none (.ref c) .none),#[]⟩
abbrev ζs (x:Array Value):Obj:=⟨.none,none,.fields x,#[]⟩
abbrev ζc (x:Array Value):Obj:=⟨.type "code",none,.fields x,#[]⟩
abbrev ζe (P:Params) (x:Str) (n:Nat) (v:Value):DictEntry:=⟨PyData.keyHash P x,.str x n,v⟩
abbrev ζl (x:Obj):PySem.W.BT:=.node x .nil .nil
abbrev ζn (x:Obj) (a b:PySem.W.BT):PySem.W.BT:=.node x a b
abbrev ζo:Value:=.int 0 0
abbrev ζm (n:Nat):Value:=.str "/claim/cut.py" n
abbrev ζi (n:Int):Value:=.int n 0
abbrev hP:Program:=PySem.Challenge.pw_playboard_k18_followers
noncomputable def hQ:Program:={hP with main:={hP.main with body:=bb 1::bb 2::bb 3::bb 5::bb 6::bb 7::bb 9::bb 10::bb 11::bb 12::bb 13::bb 14::bb 15::bb 16::bb 17::bb 18::bb 19::bb 20::bb 21::bb 22::bb 23::bb 24::bb 25::bb 26::bb 28::bb 29::bb 30::bb 31::bb 32::bb 33::bb 34::bb 35::bb 36::bb 37::bb 39::bb 41::bb 42::bb 43::bb 44::bb 45::bb 47::bb 48::bb 49::bb 51::bb 52::bb 53::bb 55::bb 56::bb 57::bb 58::bb 59::bb 60::bb 62::bb 63::bb 64::bb 66::bb 68::bb 69::bb 70::bb 71::bb 72::bb 73::bb 74::bb 75::bb 76::bb 77::bb 78::bb 79::[]}}
noncomputable section
variable (P:Params)
def zo3:Obj:=⟨(.type "dict"),none,(.dict #[ζe P "__name__" 165 (.str "playboard.moves" 527),ζe P "__doc__" 166 .none,ζe P "__package__" 167 .none,ζe P "__loader__" 168 (.builtin "__main__.__loader__#opaque"),ζe P "__spec__" 169 .none,ζe P "__annotations__" 170 (.ref 6),ζe P "__builtins__" 171 (.ref 4),ζe P "__file__" 173 (ζm 172),ζe P "__cached__" 174 .none,ζe P "PlayError" 206 (.ref 24),ζe P "BadBoard" 222 (.ref 37),ζe P "BadGame" 238 (.ref 49),ζe P "is_whole" 247 (.ref 58),ζe P "is_letter" 254 (.ref 65),ζe P "is_among" 263 (.ref 72),ζe P "SORTS" 269 (.ref 73),ζe P "AIMS" 273 (.ref 74),ζe P "END_WORDS" 276 (.ref 75),ζe P "STUCK_WORDS" 280 (.ref 76),ζe P "MOST_KINDS" 282 (.int 6 281),ζe P "MOST_RULES" 284 (.int 24 283),ζe P "MOST_PAIRS" 286 (.int 6 285),ζe P "is_word" 294 (.ref 83),ζe P "is_tuple_of" 302 (.ref 90),ζe P "is_list_of" 311 (.ref 97),ζe P "is_step" 321 (.ref 104),ζe P "is_rule" 331 (.ref 111),ζe P "is_pair" 340 (.ref 118),ζe P "are_pairs" 346 (.ref 123),ζe P "is_turns" 352 (.ref 128),ζe P "is_ends" 360 (.ref 135),ζe P "are_kinds" 366 (.ref 140),ζe P "are_rules" 372 (.ref 145),ζe P "EMPTY" 376 (.str "." 375),ζe P "HOLE" 378 (.str "#" 377),ζe P "sign_of" 386 (.ref 152),ζe P "kind_of" 393 (.ref 159),ζe P "side_of" 400 (.ref 166),ζe P "empty_row" 406 (.ref 171),ζe P "put" 415 (.ref 178),ζe P "squares_of" 421 (.ref 183),ζe P "is_row" 427 (.ref 188),ζe P "is_place" 435 (.ref 195),ζe P "ray" 449 (.ref 202),ζe P "NOTHING" 454 (.int (-1) 453),ζe P "slid" 467 (.ref 209),ζe P "jumped" 476 (.ref 216),ζe P "by_rule" 488 (.ref 223),ζe P "goals" 499 (.ref 230),ζe P "column_of" 509 (.ref 237),ζe P "row_of" 517 (.ref 244),ζe P "square_at" 526 (.ref 251),ζe P "moves" 534 (.ref 256),ζe P "arrived" 544 (.ref 263)] 54),#[]⟩
def LZ:Obj:=ζt #[] 0
def Nu:Obj:=ζs #[(ζi 2),ζo,(.ref 20),(ζi 4),ζo,(.ref 33),(ζi 6),ζo,(.ref 45),(ζi 9),ζo,(.ref 57),(ζi 11),ζo,(.ref 64),(ζi 13),ζo,(.ref 71),(ζi 23),ζo,(.ref 82),(ζi 25),ζo,(.ref 89),(ζi 27),ζo,(.ref 96),(ζi 29),ζo,(.ref 103),(ζi 34),ζo,(.ref 110),(ζi 44),ζo,(.ref 117),(ζi 46),ζo,(.ref 122),(ζi 48),ζo,(.ref 127),(ζi 55),ζo,(.ref 134),(ζi 57),ζo,(.ref 139),(ζi 61),ζo,(.ref 144),(ζi 66),ζo,(.ref 151),(ζi 68),ζo,(.ref 158),(ζi 70),ζo,(.ref 165),(ζi 74),ζo,(.ref 170),(ζi 76),ζo,(.ref 177),(ζi 78),ζo,(.ref 182),(ζi 80),ζo,(.ref 187),(ζi 86),ζo,(.ref 194),(ζi 89),ζo,(.ref 201),(ζi 100),ζo,(.ref 208),(ζi 111),ζo,(.ref 215),(ζi 115),ζo,(.ref 222),(ζi 121),ζo,(.ref 229),(ζi 127),ζo,(.ref 236),(ζi 129),ζo,(.ref 243),(ζi 131),ζo,(.ref 250),(ζi 134),ζo,(.ref 255),(ζi 140),ζo,(.ref 262)]
def LY:Obj:=ζC "<module>" "<module>" 182 183 184 1 0 0 0 11 false 181 12 185 1 186
def LX:Obj:=⟨(.type "frame"),none,.plain,#[(some (.ref 13)),(some (.ref 3)),(some (.ref 3)),none,(some (.str "__main__" 164)),none,(some (.ref 0))]⟩
def HZ:Obj:=ζt #[(.type "ValueError")] 0
def LW:Obj:=⟨(.type "builtin_function_or_method"),none,(.fields #[(.builtin "type.__prepare__"),(.type "type")]),#[]⟩
def LV:Obj:=⟨(.type "dict"),none,(.dict #[ζe P "__module__" 196 (.str "playboard.errors" 187),ζe P "__qualname__" 198 (.str "PlayError" 197),ζe P "__firstlineno__" 200 (.int 2 199),ζe P "__static_attributes__" 201 (.ref 22)] 4),#[]⟩
def LU:Obj:=ζt #[] 0
def LT:Obj:=ζs #[]
def LS:Obj:=ζC "PlayError" "PlayError" 191 192 193 2 0 0 0 18 false 181 19 194 2 195
def LR:Obj:=⟨(.type "frame"),none,.plain,#[(some (.ref 20)),(some (.ref 3)),(some (.ref 17)),none,(some (.str "playboard.errors" 187)),none,(some (.ref 0))]⟩
def HY:Obj:=ζt #[] 0
def HX:Obj:=⟨(.type "dict"),none,(.dict #[ζe P "__module__" 196 (.str "playboard.errors" 187),ζe P "__firstlineno__" 200 (.int 2 199),ζe P "__static_attributes__" 201 (.ref 22),ζe P "__weakref__" 203 (.ref 25),ζe P "__doc__" 204 .none] 3),#[]⟩
def HW:Obj:=⟨(.type "type"),none,(.cls ⟨"PlayError",[(.type "ValueError")],[(.ref 24),(.type "ValueError"),(.type "Exception"),(.type "BaseException"),(.type "object")],23,"PlayError",true,[],[(.ref 37),(.ref 49)],false,none,false⟩),#[(some (.ref 15)),none,(some (.str "PlayError" 189)),(some (.str "PlayError" 197)),(some (.builtin "ValueError.__new__")),(some (.bool true))]⟩
def HV:Obj:=⟨(.type "getset_descriptor"),none,(.fields #[(.str "__weakref__" 202),(.ref 24),(.builtin "ExceptionGroup.__weakref__"),.none]),#[]⟩
def LQ:Obj:=⟨(.type "super"),none,(.fields #[(.ref 24),(.ref 24),(.ref 24)]),#[]⟩
def LN:Obj:=⟨(.type "builtin_function_or_method"),none,(.fields #[(.builtin "object.__init_subclass__"),(.ref 24)]),#[]⟩
def HU:Obj:=ζt #[(.ref 24)] 0
def LF:Obj:=⟨(.type "builtin_function_or_method"),none,(.fields #[(.builtin "type.__prepare__"),(.type "type")]),#[]⟩
def LC:Obj:=⟨(.type "dict"),none,(.dict #[ζe P "__module__" 214 (.str "playboard.errors" 187),ζe P "__qualname__" 216 (.str "BadBoard" 215),ζe P "__firstlineno__" 218 (.int 4 217),ζe P "__static_attributes__" 219 (.ref 35)] 4),#[]⟩
def Lx:Obj:=ζt #[] 0
def Lp:Obj:=ζs #[]
def Li:Obj:=ζC "BadBoard" "BadBoard" 209 210 211 4 0 0 0 31 false 181 32 212 4 213
def Le:Obj:=⟨(.type "frame"),none,.plain,#[(some (.ref 33)),(some (.ref 3)),(some (.ref 30)),none,(some (.str "playboard.errors" 187)),none,(some (.ref 0))]⟩
def HS:Obj:=ζt #[] 0
def HR:Obj:=⟨(.type "dict"),none,(.dict #[ζe P "__module__" 214 (.str "playboard.errors" 187),ζe P "__firstlineno__" 218 (.int 4 217),ζe P "__static_attributes__" 219 (.ref 35),ζe P "__doc__" 220 .none] 2),#[]⟩
def HQ:Obj:=⟨(.type "type"),none,(.cls ⟨"BadBoard",[(.ref 24)],[(.ref 37),(.ref 24),(.type "ValueError"),(.type "Exception"),(.type "BaseException"),(.type "object")],36,"BadBoard",true,[],[],false,none,false⟩),#[(some (.ref 28)),none,(some (.str "BadBoard" 207)),(some (.str "BadBoard" 215)),(some (.builtin "ValueError.__new__")),(some (.bool true))]⟩
def KT:Obj:=⟨(.type "super"),none,(.fields #[(.ref 37),(.ref 37),(.ref 37)]),#[]⟩
def KQ:Obj:=⟨(.type "builtin_function_or_method"),none,(.fields #[(.builtin "object.__init_subclass__"),(.ref 37)]),#[]⟩
def HP:Obj:=ζt #[(.ref 24)] 0
def KI:Obj:=⟨(.type "builtin_function_or_method"),none,(.fields #[(.builtin "type.__prepare__"),(.type "type")]),#[]⟩
def KD:Obj:=⟨(.type "dict"),none,(.dict #[ζe P "__module__" 230 (.str "playboard.errors" 187),ζe P "__qualname__" 232 (.str "BadGame" 231),ζe P "__firstlineno__" 234 (.int 6 233),ζe P "__static_attributes__" 235 (.ref 47)] 4),#[]⟩
def Ky:Obj:=ζt #[] 0
def Kv:Obj:=ζs #[]
def Kp:Obj:=ζC "BadGame" "BadGame" 225 226 227 6 0 0 0 43 false 181 44 228 6 229
def Kl:Obj:=⟨(.type "frame"),none,.plain,#[(some (.ref 45)),(some (.ref 3)),(some (.ref 42)),none,(some (.str "playboard.errors" 187)),none,(some (.ref 0))]⟩
def HN:Obj:=ζt #[] 0
def HM:Obj:=⟨(.type "dict"),none,(.dict #[ζe P "__module__" 230 (.str "playboard.errors" 187),ζe P "__firstlineno__" 234 (.int 6 233),ζe P "__static_attributes__" 235 (.ref 47),ζe P "__doc__" 236 .none] 2),#[]⟩
def HL:Obj:=⟨(.type "type"),none,(.cls ⟨"BadGame",[(.ref 24)],[(.ref 49),(.ref 24),(.type "ValueError"),(.type "Exception"),(.type "BaseException"),(.type "object")],48,"BadGame",true,[],[],false,none,false⟩),#[(some (.ref 40)),none,(some (.str "BadGame" 223)),(some (.str "BadGame" 231)),(some (.builtin "ValueError.__new__")),(some (.bool true))]⟩
def Kh:Obj:=⟨(.type "super"),none,(.fields #[(.ref 49),(.ref 49),(.ref 49)]),#[]⟩
def Kg:Obj:=⟨(.type "builtin_function_or_method"),none,(.fields #[(.builtin "object.__init_subclass__"),(.ref 49)]),#[]⟩
def HK:Obj:=ζt #[] 0
def Ke:Obj:=ζs #[]
def HJ:Obj:=ζt #[(.str "thing" 244)] 0
def HI:Obj:=ζt #[] 0
def Kd:Obj:=ζr "is_whole" "is_whole" eU
def HH:Obj:=ζD "is_whole" "is_whole" 241 242 243 9 1 0 3 52 true 181 53 54 55 56 245 9 246
def HG:Obj:=ζF "is_whole" "is_whole" eU "playboard.words" 239 57
def HF:Obj:=ζt #[] 0
def Kc:Obj:=ζs #[]
def HE:Obj:=ζt #[(.str "thing" 251)] 0
def HD:Obj:=ζt #[] 0
def Kb:Obj:=ζr "is_letter" "is_letter" dI
def HC:Obj:=ζD "is_letter" "is_letter" 248 249 250 11 1 0 3 59 true 181 60 61 62 63 252 11 253
def HB:Obj:=ζF "is_letter" "is_letter" dI "playboard.words" 239 64
def HA:Obj:=ζt #[] 0
def Ka:Obj:=ζs #[]
def Hz:Obj:=ζt #[(.str "thing" 258),(.str "least" 259),(.str "most" 260)] 0
def Hy:Obj:=ζt #[] 0
def J9:Obj:=ζr "is_among" "is_among" eX
def Hx:Obj:=ζD "is_among" "is_among" 255 256 257 13 3 0 3 66 true 181 67 68 69 70 261 13 262
def Hw:Obj:=ζF "is_among" "is_among" eX "playboard.words" 239 71
def Hv:Obj:=ζt #[(.str "leap" 266),(.str "slide" 267),(.str "jump" 268)] 0
def Hu:Obj:=ζt #[(.str "go" 270),(.str "hit" 271),(.str "any" 272)] 0
def Ht:Obj:=ζt #[(.str "without" 274),(.str "home" 275)] 0
def Hs:Obj:=ζt #[(.str "lost" 277),(.str "even" 278),(.str "won" 279)] 0
def Hr:Obj:=ζt #[] 0
def J8:Obj:=ζs #[]
def Hq:Obj:=ζt #[(.str "thing" 290),(.str "words" 291)] 0
def Ho:Obj:=ζt #[] 0
def J7:Obj:=ζr "is_word" "is_word" fP
def Hn:Obj:=ζD "is_word" "is_word" 287 288 289 23 2 0 3 77 true 181 78 79 80 81 292 23 293
def Hm:Obj:=ζF "is_word" "is_word" fP "playboard.rules" 264 82
def Hl:Obj:=ζt #[] 0
def J6:Obj:=ζs #[]
def Hk:Obj:=ζt #[(.str "thing" 298),(.str "many" 299)] 0
def Hj:Obj:=ζt #[] 0
def J5:Obj:=ζr "is_tuple_of" "is_tuple_of" cK
def Hi:Obj:=ζD "is_tuple_of" "is_tuple_of" 295 296 297 25 2 0 3 84 true 181 85 86 87 88 300 25 301
def Hh:Obj:=ζF "is_tuple_of" "is_tuple_of" cK "playboard.rules" 264 89
def Hg:Obj:=ζt #[] 0
def J4:Obj:=ζs #[]
def Hf:Obj:=ζt #[(.str "thing" 306),(.str "least" 307),(.str "most" 308)] 0
def He:Obj:=ζt #[] 0
def J3:Obj:=ζr "is_list_of" "is_list_of" db
def Hd:Obj:=ζD "is_list_of" "is_list_of" 303 304 305 27 3 0 3 91 true 181 92 93 94 95 309 27 310
def Hc:Obj:=ζF "is_list_of" "is_list_of" db "playboard.rules" 264 96
def Hb:Obj:=ζt #[] 0
def J2:Obj:=ζs #[]
def zm:Obj:=ζt #[(.str "sort" 315),(.str "across" 316),(.str "up" 317),(.str "longest" 318)] 0
def zk:Obj:=ζt #[] 0
def Gn:Obj:=ζr "is_step" "is_step" fQ
def zj:Obj:=ζD "is_step" "is_step" 312 313 314 29 3 0 3 98 true 181 99 100 101 102 319 29 320
def zi:Obj:=ζF "is_step" "is_step" fQ "playboard.rules" 264 103
def zh:Obj:=ζt #[] 0
def Gm:Obj:=ζs #[]
def zg:Obj:=ζt #[(.str "thing" 325),(.str "kinds" 326),(.str "sort" 327),(.str "aim" 328)] 0
def zd:Obj:=ζt #[] 0
def Gk:Obj:=ζr "is_rule" "is_rule" fR
def zc:Obj:=ζD "is_rule" "is_rule" 322 323 324 34 2 0 3 105 true 181 106 107 108 109 329 34 330
def zb:Obj:=ζF "is_rule" "is_rule" fR "playboard.rules" 264 110
def y9:Obj:=ζt #[] 0
def Gj:Obj:=ζs #[]
def y8:Obj:=ζt #[(.str "thing" 335),(.str "firsts" 336),(.str "seconds" 337)] 0
def y7:Obj:=ζt #[] 0
def Gi:Obj:=ζr "is_pair" "is_pair" fS
def y6:Obj:=ζD "is_pair" "is_pair" 332 333 334 44 3 0 3 112 true 181 113 114 115 116 338 44 339
def y0:Obj:=ζF "is_pair" "is_pair" fS "playboard.rules" 264 117
def yZ:Obj:=ζt #[] 0
def Gh:Obj:=ζs #[]
def Gg:Obj:=ζr "are_pairs" "are_pairs" cW
def yY:Obj:=ζc #[(.str "are_pairs" 341),(.str "are_pairs" 342),(ζm 343),(ζi 46),(ζi 3),ζo,ζo,(ζi 3),(.ref 119),(.bool true),(ζi 181),(.ref 120),.none,.none,.none,(.ref 121),(ζi 344),(ζi 46),(ζm 345)]
def yX:Obj:=ζF "are_pairs" "are_pairs" cW "playboard.rules" 264 122
def yW:Obj:=ζt #[] 0
def Gf:Obj:=ζs #[]
def Ge:Obj:=ζr "is_turns" "is_turns" cQ
def yV:Obj:=ζc #[(.str "is_turns" 347),(.str "is_turns" 348),(ζm 349),(ζi 48),(ζi 2),ζo,ζo,(ζi 3),(.ref 124),(.bool true),(ζi 181),(.ref 125),.none,.none,.none,(.ref 126),(ζi 350),(ζi 48),(ζm 351)]
def yU:Obj:=ζF "is_turns" "is_turns" cQ "playboard.rules" 264 127
def yT:Obj:=ζt #[] 0
def Gd:Obj:=ζs #[]
def yS:Obj:=ζt #[(.str "thing" 356),(.str "kinds" 357)] 0
def yR:Obj:=ζt #[] 0
def Gc:Obj:=ζr "is_ends" "is_ends" fU
def yQ:Obj:=ζD "is_ends" "is_ends" 353 354 355 55 2 0 3 129 true 181 130 131 132 133 358 55 359
def yO:Obj:=ζF "is_ends" "is_ends" fU "playboard.rules" 264 134
def yN:Obj:=ζt #[] 0
def Gb:Obj:=ζs #[]
def Ga:Obj:=ζr "are_kinds" "are_kinds" cX
def yM:Obj:=ζc #[(.str "are_kinds" 361),(.str "are_kinds" 362),(ζm 363),(ζi 57),(ζi 1),ζo,ζo,(ζi 3),(.ref 136),(.bool true),(ζi 181),(.ref 137),.none,.none,.none,(.ref 138),(ζi 364),(ζi 57),(ζm 365)]
def yL:Obj:=ζF "are_kinds" "are_kinds" cX "playboard.rules" 264 139
def yJ:Obj:=ζt #[] 0
def F0:Obj:=ζs #[]
def FZ:Obj:=ζr "are_rules" "are_rules" cV
def yI:Obj:=ζc #[(.str "are_rules" 367),(.str "are_rules" 368),(ζm 369),(ζi 61),(ζi 2),ζo,ζo,(ζi 3),(.ref 141),(.bool true),(ζi 181),(.ref 142),.none,.none,.none,(.ref 143),(ζi 370),(ζi 61),(ζm 371)]
def yH:Obj:=ζF "are_rules" "are_rules" cV "playboard.rules" 264 144
def yG:Obj:=ζt #[] 0
def FY:Obj:=ζs #[]
def yF:Obj:=ζt #[(.str "kind" 382),(.str "side" 383)] 0
def yE:Obj:=ζt #[] 0
def FX:Obj:=ζr "sign_of" "sign_of" fM
def yD:Obj:=ζD "sign_of" "sign_of" 379 380 381 66 2 0 3 146 true 181 147 148 149 150 384 66 385
def yB:Obj:=ζF "sign_of" "sign_of" fM "playboard.places" 373 151
def yz:Obj:=ζt #[] 0
def FW:Obj:=ζs #[]
def yy:Obj:=ζt #[(.str "sign" 390)] 0
def yx:Obj:=ζt #[] 0
def FV:Obj:=ζr "kind_of" "kind_of" fO
def yv:Obj:=ζD "kind_of" "kind_of" 387 388 389 68 1 0 3 153 true 181 154 155 156 157 391 68 392
def yu:Obj:=ζF "kind_of" "kind_of" fO "playboard.places" 373 158
def yt:Obj:=ζt #[] 0
def FU:Obj:=ζs #[]
def yr:Obj:=ζt #[(.str "sign" 397)] 0
def yq:Obj:=ζt #[] 0
def FT:Obj:=ζr "side_of" "side_of" fN
def yp:Obj:=ζD "side_of" "side_of" 394 395 396 70 1 0 3 160 true 181 161 162 163 164 398 70 399
def yo:Obj:=ζF "side_of" "side_of" fN "playboard.places" 373 165
def yn:Obj:=ζt #[] 0
def FS:Obj:=ζs #[]
def FR:Obj:=ζr "empty_row" "empty_row" cU
def ym:Obj:=ζc #[(.str "empty_row" 401),(.str "empty_row" 402),(ζm 403),(ζi 74),(ζi 1),ζo,ζo,(ζi 3),(.ref 167),(.bool true),(ζi 181),(.ref 168),.none,.none,.none,(.ref 169),(ζi 404),(ζi 74),(ζm 405)]
def yl:Obj:=ζF "empty_row" "empty_row" cU "playboard.places" 373 170
def yk:Obj:=ζt #[] 0
def FQ:Obj:=ζs #[]
def yj:Obj:=ζt #[(.str "row" 410),(.str "square" 411),(.str "sign" 412)] 0
def yi:Obj:=ζt #[] 0
def FP:Obj:=ζr "put" "put" qf
def yh:Obj:=ζD "put" "put" 407 408 409 76 3 0 3 172 true 181 173 174 175 176 413 76 414
def yg:Obj:=ζF "put" "put" qf "playboard.places" 373 177
def yf:Obj:=ζt #[] 0
def FO:Obj:=ζs #[]
def FN:Obj:=ζr "squares_of" "squares_of" cz
def yd:Obj:=ζc #[(.str "squares_of" 416),(.str "squares_of" 417),(ζm 418),(ζi 78),(ζi 2),ζo,ζo,(ζi 3),(.ref 179),(.bool true),(ζi 181),(.ref 180),.none,.none,.none,(.ref 181),(ζi 419),(ζi 78),(ζm 420)]
def yb:Obj:=ζF "squares_of" "squares_of" cz "playboard.places" 373 182
def ya:Obj:=ζt #[] 0
def FM:Obj:=ζs #[]
def FL:Obj:=ζr "is_row" "is_row" eV
def x9:Obj:=ζc #[(.str "is_row" 422),(.str "is_row" 423),(ζm 424),(ζi 80),(ζi 2),ζo,ζo,(ζi 3),(.ref 184),(.bool true),(ζi 181),(.ref 185),.none,.none,.none,(.ref 186),(ζi 425),(ζi 80),(ζm 426)]
def x8:Obj:=ζF "is_row" "is_row" eV "playboard.places" 373 187
def x6:Obj:=ζt #[] 0
def FK:Obj:=ζs #[]
def xZ:Obj:=ζt #[(.str "game" 431),(.str "thing" 432)] 0
def xY:Obj:=ζt #[] 0
def FJ:Obj:=ζr "is_place" "is_place" eW
def xX:Obj:=ζD "is_place" "is_place" 428 429 430 86 2 0 3 189 true 181 190 191 192 193 433 86 434
def xW:Obj:=ζF "is_place" "is_place" eW "playboard.places" 373 194
def xV:Obj:=ζt #[] 0
def FI:Obj:=ζs #[]
def xU:Obj:=ζt #[(.str "board" 441),(.str "square" 442),(.str "across" 443),(.str "up" 444),(.str "come_to" 445),(.str "here" 446)] 0
def xT:Obj:=ζt #[] 0
def FH:Obj:=ζr "ray" "ray" qd
def xS:Obj:=ζD "ray" "ray" 438 439 440 89 4 0 3 196 true 181 197 198 199 200 447 89 448
def xR:Obj:=ζF "ray" "ray" qd "playboard.rays" 436 201
def xQ:Obj:=ζt #[] 0
def FG:Obj:=ζs #[]
def xP:Obj:=ζt #[(.str "row" 458),(.str "side" 459),(.str "aim" 460),(.str "path" 461),(.str "found" 462),(.str "goal" 463),(.str "owner" 464)] 0
def xO:Obj:=ζt #[] 0
def FF:Obj:=ζr "slid" "slid" ld
def xN:Obj:=ζD "slid" "slid" 455 456 457 100 4 0 3 203 true 181 204 205 206 207 465 100 466
def xM:Obj:=ζF "slid" "slid" ld "playboard.reach" 450 208
def xL:Obj:=ζt #[] 0
def FE:Obj:=ζs #[]
def xK:Obj:=ζt #[(.str "row" 471),(.str "side" 472),(.str "path" 473)] 0
def xJ:Obj:=ζt #[] 0
def FD:Obj:=ζr "jumped" "jumped" gW
def xI:Obj:=ζD "jumped" "jumped" 468 469 470 111 3 0 3 210 true 181 211 212 213 214 474 111 475
def xH:Obj:=ζF "jumped" "jumped" gW "playboard.reach" 450 215
def xG:Obj:=ζt #[] 0
def FC:Obj:=ζs #[]
def xF:Obj:=ζt #[(.str "board" 480),(.str "row" 481),(.str "square" 482),(.str "rule" 483),(.str "side" 484),(.str "path" 485)] 0
def xE:Obj:=ζt #[] 0
def FB:Obj:=ζr "by_rule" "by_rule" fV
def xD:Obj:=ζD "by_rule" "by_rule" 477 478 479 115 4 0 3 217 true 181 218 219 220 221 486 115 487
def xC:Obj:=ζF "by_rule" "by_rule" fV "playboard.reach" 450 222
def xB:Obj:=ζt #[] 0
def FA:Obj:=ζs #[]
def xA:Obj:=ζt #[(.str "game" 492),(.str "row" 493),(.str "square" 494),(.str "found" 495),(.str "rule" 496)] 0
def xz:Obj:=ζt #[] 0
def Fz:Obj:=ζr "goals" "goals" i9
def xy:Obj:=ζD "goals" "goals" 489 490 491 121 3 0 3 224 true 181 225 226 227 228 497 121 498
def xx:Obj:=ζF "goals" "goals" i9 "playboard.reach" 450 229
def xw:Obj:=ζt #[] 0
def Fy:Obj:=ζs #[]
def xv:Obj:=ζt #[(.str "wide" 505),(.str "square" 506)] 0
def xu:Obj:=ζt #[] 0
def Fx:Obj:=ζr "column_of" "column_of" dJ
def xt:Obj:=ζD "column_of" "column_of" 502 503 504 127 2 0 3 231 true 181 232 233 234 235 507 127 508
def xr:Obj:=ζF "column_of" "column_of" dJ "playboard.squares" 500 236
def xq:Obj:=ζt #[] 0
def Fw:Obj:=ζs #[]
def xp:Obj:=ζt #[(.str "wide" 513),(.str "square" 514)] 0
def xo:Obj:=ζt #[] 0
def Fv:Obj:=ζr "row_of" "row_of" gU
def xn:Obj:=ζD "row_of" "row_of" 510 511 512 129 2 0 3 238 true 181 239 240 241 242 515 129 516
def xm:Obj:=ζF "row_of" "row_of" gU "playboard.squares" 500 243
def xl:Obj:=ζt #[] 0
def Fu:Obj:=ζs #[]
def xk:Obj:=ζt #[(.str "wide" 521),(.str "column" 522),(.str "row" 523)] 0
def xj:Obj:=ζt #[] 0
def Ft:Obj:=ζr "square_at" "square_at" dH
def xi:Obj:=ζD "square_at" "square_at" 518 519 520 131 3 0 3 245 true 181 246 247 248 249 524 131 525
def xh:Obj:=ζF "square_at" "square_at" dH "playboard.squares" 500 250
def xg:Obj:=ζt #[] 0
def Fs:Obj:=ζs #[]
def Fq:Obj:=ζr "moves" "moves" ip
def xf:Obj:=ζc #[(.str "moves" 529),(.str "moves" 530),(ζm 531),(ζi 134),(ζi 2),ζo,ζo,(ζi 3),(.ref 252),(.bool true),(ζi 181),(.ref 253),.none,.none,.none,(.ref 254),(ζi 532),(ζi 134),(ζm 533)]
def xc:Obj:=ζF "moves" "moves" ip "playboard.moves" 527 255
def xb:Obj:=ζt #[] 0
def Fp:Obj:=ζs #[]
def xa:Obj:=ζt #[(.str "game" 538),(.str "sign" 539),(.str "side" 540),(.str "goal" 541)] 0
def w9:Obj:=ζt #[] 0
def Fo:Obj:=ζr "arrived" "arrived" fX
def w6:Obj:=ζD "arrived" "arrived" 535 536 537 140 4 0 3 257 true 181 258 259 260 261 542 140 543
def w5:Obj:=ζF "arrived" "arrived" fX "playboard.moves" 527 262
def DT:Obj:=⟨(.type "dict"),none,(.dict #[ζe P "__name__" 165 (.str "law_playboard_k18_followers" 751),ζe P "__doc__" 166 .none,ζe P "__package__" 167 .none,ζe P "__loader__" 168 (.builtin "__main__.__loader__#opaque"),ζe P "__spec__" 169 .none,ζe P "__annotations__" 170 (.ref 6),ζe P "__builtins__" 171 (.ref 4),ζe P "__file__" 173 (ζm 172),ζe P "__cached__" 174 .none,ζe P "PlayError" 206 (.ref 24),ζe P "BadBoard" 222 (.ref 37),ζe P "BadGame" 238 (.ref 49),ζe P "is_whole" 247 (.ref 58),ζe P "is_letter" 254 (.ref 65),ζe P "is_among" 263 (.ref 72),ζe P "SORTS" 269 (.ref 73),ζe P "AIMS" 273 (.ref 74),ζe P "END_WORDS" 276 (.ref 75),ζe P "STUCK_WORDS" 280 (.ref 76),ζe P "MOST_KINDS" 282 (.int 6 281),ζe P "MOST_RULES" 284 (.int 24 283),ζe P "MOST_PAIRS" 286 (.int 6 285),ζe P "is_word" 294 (.ref 83),ζe P "is_tuple_of" 302 (.ref 90),ζe P "is_list_of" 311 (.ref 97),ζe P "is_step" 321 (.ref 104),ζe P "is_rule" 331 (.ref 111),ζe P "is_pair" 340 (.ref 118),ζe P "are_pairs" 346 (.ref 123),ζe P "is_turns" 352 (.ref 128),ζe P "is_ends" 360 (.ref 135),ζe P "are_kinds" 366 (.ref 140),ζe P "are_rules" 372 (.ref 145),ζe P "EMPTY" 376 (.str "." 375),ζe P "HOLE" 378 (.str "#" 377),ζe P "sign_of" 386 (.ref 152),ζe P "kind_of" 393 (.ref 159),ζe P "side_of" 400 (.ref 166),ζe P "empty_row" 406 (.ref 171),ζe P "put" 415 (.ref 178),ζe P "squares_of" 421 (.ref 183),ζe P "is_row" 427 (.ref 188),ζe P "is_place" 435 (.ref 195),ζe P "ray" 449 (.ref 202),ζe P "NOTHING" 454 (.int (-1) 453),ζe P "slid" 467 (.ref 209),ζe P "jumped" 476 (.ref 216),ζe P "by_rule" 488 (.ref 223),ζe P "goals" 499 (.ref 230),ζe P "column_of" 509 (.ref 237),ζe P "row_of" 517 (.ref 244),ζe P "square_at" 526 (.ref 251),ζe P "moves" 534 (.ref 256),ζe P "arrived" 544 (.ref 263),ζe P "behind" 559 (.ref 270),ζe P "has_kind" 570 (.ref 277),ζe P "is_home" 581 (.ref 284),ζe P "by_end" 595 (.ref 291),ζe P "by_ends" 605 (.ref 298),ζe P "ending" 614 (.ref 305),ζe P "followers" 620 (.ref 310),ζe P "LONGEST" 624 (.int 8 623),ζe P "are_holes" 630 (.ref 315),ζe P "Board" 695 (.ref 356),ζe P "Game" 750 (.ref 389),ζe P "_law_cell_at" 760 (.ref 400),ζe P "_law_mixed" 768 (.ref 407),ζe P "_law_board" 781 (.ref 414),ζe P "_law_kinds" 787 (.ref 419),ζe P "_law_rule" 801 (.ref 426),ζe P "_law_turns" 807 (.ref 431),ζe P "_law_game" 825 (.ref 438),ζe P "_law_row" 831 (.ref 443),ζe P "_law_behind" 845 (.ref 450),ζe P "_law_due" 851 (.ref 455),ζe P "_law_good" 863 (.ref 462),ζe P "law" 876 (.ref 469)] 77),#[]⟩
def Ia:Obj:=ζs #[(ζi 2),ζo,(.ref 20),(ζi 4),ζo,(.ref 33),(ζi 6),ζo,(.ref 45),(ζi 9),ζo,(.ref 57),(ζi 11),ζo,(.ref 64),(ζi 13),ζo,(.ref 71),(ζi 23),ζo,(.ref 82),(ζi 25),ζo,(.ref 89),(ζi 27),ζo,(.ref 96),(ζi 29),ζo,(.ref 103),(ζi 34),ζo,(.ref 110),(ζi 44),ζo,(.ref 117),(ζi 46),ζo,(.ref 122),(ζi 48),ζo,(.ref 127),(ζi 55),ζo,(.ref 134),(ζi 57),ζo,(.ref 139),(ζi 61),ζo,(.ref 144),(ζi 66),ζo,(.ref 151),(ζi 68),ζo,(.ref 158),(ζi 70),ζo,(.ref 165),(ζi 74),ζo,(.ref 170),(ζi 76),ζo,(.ref 177),(ζi 78),ζo,(.ref 182),(ζi 80),ζo,(.ref 187),(ζi 86),ζo,(.ref 194),(ζi 89),ζo,(.ref 201),(ζi 100),ζo,(.ref 208),(ζi 111),ζo,(.ref 215),(ζi 115),ζo,(.ref 222),(ζi 121),ζo,(.ref 229),(ζi 127),ζo,(.ref 236),(ζi 129),ζo,(.ref 243),(ζi 131),ζo,(.ref 250),(ζi 134),ζo,(.ref 255),(ζi 140),ζo,(.ref 262),(ζi 144),ζo,(.ref 269),(ζi 155),ζo,(.ref 276),(ζi 157),ζo,(.ref 283),(ζi 160),ζo,(.ref 290),(ζi 173),ζo,(.ref 297),(ζi 179),ζo,(.ref 304),(ζi 184),ζo,(.ref 309),(ζi 190),ζo,(.ref 314),(ζi 196),ζo,(.ref 321),(ζi 225),ζo,(.ref 366),(ζi 251),ζo,(.ref 399),(ζi 255),ζo,(.ref 406),(ζi 257),ζo,(.ref 413),(ζi 271),ζo,(.ref 418),(ζi 275),ζo,(.ref 425),(ζi 289),ζo,(.ref 430),(ζi 296),ζo,(.ref 437),(ζi 311),ζo,(.ref 442),(ζi 327),ζo,(.ref 449),(ζi 338),ζo,(.ref 454),(ζi 342),ζo,(.ref 461),(ζi 353),ζo,(.ref 468)]
def Fn:Obj:=ζt #[] 0
def LP:Obj:=ζs #[]
def Fm:Obj:=ζt #[(.str "game" 548),(.str "place" 549),(.str "move" 550),(.str "side" 551),(.str "start" 552),(.str "goal" 553),(.str "taken" 554),(.str "sign" 555),(.str "row" 556)] 0
def Fk:Obj:=ζt #[] 0
def LO:Obj:=ζr "behind" "behind" gZ
def Fj:Obj:=ζD "behind" "behind" 545 546 547 144 3 0 3 264 true 181 265 266 267 268 557 144 558
def Fi:Obj:=ζF "behind" "behind" gZ "playboard.moves" 527 269
def Fh:Obj:=ζt #[] 0
def LM:Obj:=ζs #[]
def Fg:Obj:=ζt #[(.str "row" 565),(.str "kind" 566),(.str "side" 567)] 0
def Ff:Obj:=ζt #[] 0
def LL:Obj:=ζr "has_kind" "has_kind" eY
def Fe:Obj:=ζD "has_kind" "has_kind" 562 563 564 155 3 0 3 271 true 181 272 273 274 275 568 155 569
def Fd:Obj:=ζF "has_kind" "has_kind" eY "playboard.ends" 560 276
def Fc:Obj:=ζt #[] 0
def LK:Obj:=ζs #[]
def Fb:Obj:=ζt #[(.str "board" 574),(.str "row" 575),(.str "kind" 576),(.str "side" 577),(.str "start" 578)] 0
def Fa:Obj:=ζt #[] 0
def LJ:Obj:=ζr "is_home" "is_home" fT
def E9:Obj:=ζD "is_home" "is_home" 571 572 573 157 4 0 3 278 true 181 279 280 281 282 579 157 580
def E8:Obj:=ζF "is_home" "is_home" fT "playboard.ends" 560 283
def E7:Obj:=ζt #[] 0
def LI:Obj:=ζs #[]
def E6:Obj:=ζt #[(.str "board" 585),(.str "place" 586),(.str "end" 587),(.str "row" 588),(.str "side" 589),(.str "kind" 590),(.str "lost" 591),(.str "won" 592)] 0
def E5:Obj:=ζt #[] 0
def LH:Obj:=ζr "by_end" "by_end" gY
def E4:Obj:=ζD "by_end" "by_end" 582 583 584 160 3 0 3 285 true 181 286 287 288 289 593 160 594
def E3:Obj:=ζF "by_end" "by_end" gY "playboard.ends" 560 290
def E2:Obj:=ζt #[] 0
def LE:Obj:=ζs #[]
def E1:Obj:=ζt #[(.str "game" 599),(.str "place" 600),(.str "end" 601),(.str "word" 602)] 0
def EZ:Obj:=ζt #[] 0
def LD:Obj:=ζr "by_ends" "by_ends" fW
def EY:Obj:=ζD "by_ends" "by_ends" 596 597 598 173 2 0 3 292 true 181 293 294 295 296 603 173 604
def EX:Obj:=ζF "by_ends" "by_ends" fW "playboard.ends" 560 297
def EW:Obj:=ζt #[] 0
def LB:Obj:=ζs #[]
def EV:Obj:=ζt #[(.str "game" 609),(.str "place" 610),(.str "word" 611)] 0
def EU:Obj:=ζt #[] 0
def LA:Obj:=ζr "ending" "ending" gX
def ET:Obj:=ζD "ending" "ending" 606 607 608 179 2 0 3 299 true 181 300 301 302 303 612 179 613
def ES:Obj:=ζF "ending" "ending" gX "playboard.ends" 560 304
def ER:Obj:=ζt #[] 0
def Lz:Obj:=ζs #[]
def Ly:Obj:=ζr "followers" "followers" cT
def EQ:Obj:=ζc #[(.str "followers" 615),(.str "followers" 616),(ζm 617),(ζi 184),(ζi 2),ζo,ζo,(ζi 3),(.ref 306),(.bool true),(ζi 181),(.ref 307),.none,.none,.none,(.ref 308),(ζi 618),(ζi 184),(ζm 619)]
def EO:Obj:=ζF "followers" "followers" cT "playboard.ends" 560 309
def EN:Obj:=ζt #[] 0
def Lw:Obj:=ζs #[]
def Lv:Obj:=ζr "are_holes" "are_holes" cY
def EM:Obj:=ζc #[(.str "are_holes" 625),(.str "are_holes" 626),(ζm 627),(ζi 190),(ζi 2),ζo,ζo,(ζi 3),(.ref 311),(.bool true),(ζi 181),(.ref 312),.none,.none,.none,(.ref 313),(ζi 628),(ζi 190),(ζm 629)]
def EL:Obj:=ζF "are_holes" "are_holes" cY "playboard.boards" 621 314
def Lu:Obj:=ζt #[] 0
def Ls:Obj:=⟨(.type "builtin_function_or_method"),none,(.fields #[(.builtin "type.__prepare__"),(.type "type")]),#[]⟩
def Lr:Obj:=⟨(.type "dict"),none,(.dict #[ζe P "__module__" 638 (.str "playboard.boards" 621),ζe P "__qualname__" 640 (.str "Board" 639),ζe P "__firstlineno__" 642 (.int 196 641),ζe P "__init__" 648 (.ref 327),ζe P "has" 656 (.ref 334),ζe P "squares" 662 (.ref 339),ζe P "moved" 675 (.ref 346),ζe P "far_row" 683 (.ref 353),ζe P "__static_attributes__" 688 (.ref 354)] 9),#[]⟩
def Lq:Obj:=ζt #[] 0
def Lo:Obj:=ζs #[(ζi 198),(ζi 4),(.ref 326),(ζi 208),(ζi 4),(.ref 333),(ζi 211),(ζi 4),(.ref 338),(ζi 214),(ζi 4),(.ref 345),(ζi 222),(ζi 4),(.ref 352)]
def Ln:Obj:=ζC "Board" "Board" 633 634 635 196 0 0 0 319 false 181 320 636 196 637
def Lm:Obj:=⟨(.type "frame"),none,.plain,#[(some (.ref 321)),(some (.ref 3)),(some (.ref 318)),none,(some (.str "playboard.boards" 621)),none,(some (.ref 0))]⟩
def EK:Obj:=ζt #[] 0
def Ll:Obj:=ζs #[]
def Lk:Obj:=ζr "__init__" "Board.__init__" bH
def EJ:Obj:=ζc #[(.str "__init__" 643),(.str "Board.__init__" 644),(ζm 645),(ζi 198),(ζi 4),ζo,ζo,(ζi 3),(.ref 323),(.bool true),(ζi 181),(.ref 324),.none,.none,.none,(.ref 325),(ζi 646),(ζi 198),(ζm 647)]
def EI:Obj:=ζF "__init__" "Board.__init__" bH "playboard.boards" 621 326
def EH:Obj:=ζt #[] 0
def Lj:Obj:=ζs #[]
def EG:Obj:=ζt #[(.str "self" 652),(.str "square" 653)] 0
def EF:Obj:=ζt #[] 0
def Lh:Obj:=ζr "has" "Board.has" dO
def EE:Obj:=ζD "has" "Board.has" 649 650 651 208 2 0 3 328 true 181 329 330 331 332 654 208 655
def ED:Obj:=ζF "has" "Board.has" dO "playboard.boards" 621 333
def EC:Obj:=ζt #[] 0
def Lg:Obj:=ζs #[]
def Lf:Obj:=ζr "squares" "Board.squares" gC
def EB:Obj:=ζc #[(.str "squares" 657),(.str "Board.squares" 658),(ζm 659),(ζi 211),(ζi 1),ζo,ζo,(ζi 3),(.ref 335),(.bool true),(ζi 181),(.ref 336),.none,.none,.none,(.ref 337),(ζi 660),(ζi 211),(ζm 661)]
def EA:Obj:=ζF "squares" "Board.squares" gC "playboard.boards" 621 338
def Ez:Obj:=ζt #[] 0
def Ld:Obj:=ζs #[]
def Ey:Obj:=ζt #[(.str "self" 666),(.str "square" 667),(.str "across" 668),(.str "up" 669),(.str "column" 670),(.str "row" 671),(.str "goal" 672)] 0
def Ex:Obj:=ζt #[] 0
def Lc:Obj:=ζr "moved" "Board.moved" cN
def Ew:Obj:=ζD "moved" "Board.moved" 663 664 665 214 4 0 3 340 true 181 341 342 343 344 673 214 674
def Eu:Obj:=ζF "moved" "Board.moved" cN "playboard.boards" 621 345
def Et:Obj:=ζt #[] 0
def Lb:Obj:=ζs #[]
def Es:Obj:=ζt #[(.str "self" 679),(.str "side" 680)] 0
def Er:Obj:=ζt #[] 0
def La:Obj:=ζr "far_row" "Board.far_row" cg
def Ep:Obj:=ζD "far_row" "Board.far_row" 676 677 678 222 2 0 3 347 true 181 348 349 350 351 681 222 682
def Eo:Obj:=ζF "far_row" "Board.far_row" cg "playboard.boards" 621 352
def En:Obj:=ζt #[(.str "firm" 684),(.str "high" 685),(.str "holes" 686),(.str "wide" 687)] 0
def Em:Obj:=⟨(.type "dict"),none,(.dict #[ζe P "__module__" 638 (.str "playboard.boards" 621),ζe P "__firstlineno__" 642 (.int 196 641),ζe P "__init__" 648 (.ref 327),ζe P "has" 656 (.ref 334),ζe P "squares" 662 (.ref 339),ζe P "moved" 675 (.ref 346),ζe P "far_row" 683 (.ref 353),ζe P "__static_attributes__" 688 (.ref 354),ζe P "__dict__" 690 (.ref 357),ζe P "__weakref__" 692 (.ref 358),ζe P "__doc__" 693 .none] 4),#[]⟩
def Ek:Obj:=⟨(.type "type"),none,(.cls ⟨"Board",[(.type "object")],[(.ref 356),(.type "object")],355,"Board",true,[],[],false,none,false⟩),#[none,none,(some (.str "Board" 631)),(some (.str "Board" 639)),(some (.builtin "object.__new__")),(some (.bool true))]⟩
def Ej:Obj:=⟨(.type "getset_descriptor"),none,(.fields #[(.str "__dict__" 689),(.ref 356),(.builtin "function.__dict__"),(.builtin "function.__dict__#set")]),#[]⟩
def Ei:Obj:=⟨(.type "getset_descriptor"),none,(.fields #[(.str "__weakref__" 691),(.ref 356),(.builtin "ExceptionGroup.__weakref__"),.none]),#[]⟩
def K9:Obj:=⟨(.type "super"),none,(.fields #[(.ref 356),(.ref 356),(.ref 356)]),#[]⟩
def K8:Obj:=⟨(.type "builtin_function_or_method"),none,(.fields #[(.builtin "object.__init_subclass__"),(.ref 356)]),#[]⟩
def K7:Obj:=ζt #[] 0
def K6:Obj:=⟨(.type "builtin_function_or_method"),none,(.fields #[(.builtin "type.__prepare__"),(.type "type")]),#[]⟩
def K5:Obj:=⟨(.type "dict"),none,(.dict #[ζe P "__module__" 705 (.str "playboard.games" 696),ζe P "__qualname__" 707 (.str "Game" 706),ζe P "__firstlineno__" 709 (.int 225 708),ζe P "__init__" 722 (.ref 374),ζe P "rules_of" 728 (.ref 379),ζe P "turned" 736 (.ref 386),ζe P "__static_attributes__" 743 (.ref 387)] 7),#[]⟩
def K4:Obj:=ζt #[] 0
def K3:Obj:=ζs #[(ζi 227),(ζi 4),(.ref 373),(ζi 245),(ζi 4),(.ref 378),(ζi 248),(ζi 4),(.ref 385)]
def K1:Obj:=ζC "Game" "Game" 700 701 702 225 0 0 0 364 false 181 365 703 225 704
def K0:Obj:=⟨(.type "frame"),none,.plain,#[(some (.ref 366)),(some (.ref 3)),(some (.ref 363)),none,(some (.str "playboard.games" 696)),none,(some (.ref 0))]⟩
def Eh:Obj:=ζt #[] 0
def KZ:Obj:=ζs #[]
def Eg:Obj:=ζt #[(.str "self" 713),(.str "board" 714),(.str "kinds" 715),(.str "rules" 716),(.str "turns" 717),(.str "ends" 718),(.str "stuck" 719)] 0
def Ef:Obj:=ζt #[] 0
def KY:Obj:=ζr "__init__" "Game.__init__" cf
def Ee:Obj:=ζD "__init__" "Game.__init__" 710 711 712 227 7 0 3 368 true 181 369 370 371 372 720 227 721
def Ed:Obj:=ζF "__init__" "Game.__init__" cf "playboard.games" 696 373
def Ec:Obj:=ζt #[] 0
def KW:Obj:=ζs #[]
def KU:Obj:=ζr "rules_of" "Game.rules_of" bN
def Eb:Obj:=ζc #[(.str "rules_of" 723),(.str "Game.rules_of" 724),(ζm 725),(ζi 245),(ζi 2),ζo,ζo,(ζi 3),(.ref 375),(.bool true),(ζi 181),(.ref 376),.none,.none,.none,(.ref 377),(ζi 726),(ζi 245),(ζm 727)]
def Ea:Obj:=ζF "rules_of" "Game.rules_of" bN "playboard.games" 696 378
def D9:Obj:=ζt #[] 0
def KS:Obj:=ζs #[]
def D8:Obj:=ζt #[(.str "self" 732),(.str "kind" 733)] 0
def D7:Obj:=ζt #[] 0
def KR:Obj:=ζr "turned" "Game.turned" cM
def D6:Obj:=ζD "turned" "Game.turned" 729 730 731 248 2 0 3 380 true 181 381 382 383 384 734 248 735
def D5:Obj:=ζF "turned" "Game.turned" cM "playboard.games" 696 385
def D4:Obj:=ζt #[(.str "board" 737),(.str "ends" 738),(.str "kinds" 739),(.str "rules" 740),(.str "stuck" 741),(.str "turns" 742)] 0
def D3:Obj:=⟨(.type "dict"),none,(.dict #[ζe P "__module__" 705 (.str "playboard.games" 696),ζe P "__firstlineno__" 709 (.int 225 708),ζe P "__init__" 722 (.ref 374),ζe P "rules_of" 728 (.ref 379),ζe P "turned" 736 (.ref 386),ζe P "__static_attributes__" 743 (.ref 387),ζe P "__dict__" 745 (.ref 390),ζe P "__weakref__" 747 (.ref 391),ζe P "__doc__" 748 .none] 4),#[]⟩
def D0:Obj:=⟨(.type "type"),none,(.cls ⟨"Game",[(.type "object")],[(.ref 389),(.type "object")],388,"Game",true,[],[],false,none,false⟩),#[none,none,(some (.str "Game" 698)),(some (.str "Game" 706)),(some (.builtin "object.__new__")),(some (.bool true))]⟩
def DZ:Obj:=⟨(.type "getset_descriptor"),none,(.fields #[(.str "__dict__" 744),(.ref 389),(.builtin "function.__dict__"),(.builtin "function.__dict__#set")]),#[]⟩
def DY:Obj:=⟨(.type "getset_descriptor"),none,(.fields #[(.str "__weakref__" 746),(.ref 389),(.builtin "ExceptionGroup.__weakref__"),.none]),#[]⟩
def KP:Obj:=⟨(.type "super"),none,(.fields #[(.ref 389),(.ref 389),(.ref 389)]),#[]⟩
def KO:Obj:=⟨(.type "builtin_function_or_method"),none,(.fields #[(.builtin "object.__init_subclass__"),(.ref 389)]),#[]⟩
def DX:Obj:=ζt #[] 0
def KN:Obj:=ζs #[]
def DW:Obj:=ζt #[(.str "_law_script" 756),(.str "_law_k" 757)] 0
def DV:Obj:=ζt #[] 0
def KM:Obj:=ζr "_law_cell_at" "_law_cell_at" cu
def DU:Obj:=ζD "_law_cell_at" "_law_cell_at" 753 754 755 251 2 0 3 394 true 181 395 396 397 398 758 251 759
def DS:Obj:=ζF "_law_cell_at" "_law_cell_at" cu "law_playboard_k18_followers" 751 399
def DR:Obj:=ζt #[] 0
def KL:Obj:=ζs #[]
def DQ:Obj:=ζt #[(.str "_law_cell" 764),(.str "_law_k" 765)] 0
def DP:Obj:=ζt #[] 0
def KK:Obj:=ζr "_law_mixed" "_law_mixed" dc
def DO:Obj:=ζD "_law_mixed" "_law_mixed" 761 762 763 255 2 0 3 401 true 181 402 403 404 405 766 255 767
def DN:Obj:=ζF "_law_mixed" "_law_mixed" dc "law_playboard_k18_followers" 751 406
def DM:Obj:=ζt #[] 0
def KJ:Obj:=ζs #[]
def DL:Obj:=ζt #[(.str "_law_script" 772),(.str "_law_cell" 773),(.str "_law_wide" 774),(.str "_law_high" 775),(.str "_law_holes" 776),(.str "_law_k" 777),(.str "_law_hole" 778)] 0
def DK:Obj:=ζt #[] 0
def KH:Obj:=ζr "_law_board" "_law_board" de
def DJ:Obj:=ζD "_law_board" "_law_board" 769 770 771 257 1 0 3 408 true 181 409 410 411 412 779 257 780
def DI:Obj:=ζF "_law_board" "_law_board" de "law_playboard_k18_followers" 751 413
def DH:Obj:=ζt #[] 0
def KG:Obj:=ζs #[]
def KF:Obj:=ζr "_law_kinds" "_law_kinds" cC
def DG:Obj:=ζc #[(.str "_law_kinds" 782),(.str "_law_kinds" 783),(ζm 784),(ζi 271),(ζi 1),ζo,ζo,(ζi 3),(.ref 415),(.bool true),(ζi 181),(.ref 416),.none,.none,.none,(.ref 417),(ζi 785),(ζi 271),(ζm 786)]
def DF:Obj:=ζF "_law_kinds" "_law_kinds" cC "law_playboard_k18_followers" 751 418
def DE:Obj:=ζt #[] 0
def KC:Obj:=ζs #[]
def DD:Obj:=ζt #[(.str "_law_cell" 791),(.str "_law_kinds_here" 792),(.str "_law_more" 793),(.str "_law_sort" 794),(.str "_law_aim" 795),(.str "_law_reach" 796),(.str "_law_across" 797),(.str "_law_up" 798)] 0
def DC:Obj:=ζt #[] 0
def KB:Obj:=ζr "_law_rule" "_law_rule" dL
def DB:Obj:=ζD "_law_rule" "_law_rule" 788 789 790 275 2 0 3 420 true 181 421 422 423 424 799 275 800
def Dz:Obj:=ζF "_law_rule" "_law_rule" dL "law_playboard_k18_followers" 751 425
def Dy:Obj:=ζt #[] 0
def KA:Obj:=ζs #[]
def Kz:Obj:=ζr "_law_turns" "_law_turns" cA
def Dx:Obj:=ζc #[(.str "_law_turns" 802),(.str "_law_turns" 803),(ζm 804),(ζi 289),(ζi 2),ζo,ζo,(ζi 3),(.ref 427),(.bool true),(ζi 181),(.ref 428),.none,.none,.none,(.ref 429),(ζi 805),(ζi 289),(ζm 806)]
def Dw:Obj:=ζF "_law_turns" "_law_turns" cA "law_playboard_k18_followers" 751 430
def Dv:Obj:=ζt #[] 0
def Kx:Obj:=ζs #[]
def Du:Obj:=ζt #[(.str "_law_script" 811),(.str "_law_wide" 812),(.str "_law_high" 813),(.str "_law_holes" 814),(.str "_law_kinds_here" 815),(.str "_law_cell" 816),(.str "_law_rules" 817),(.str "_law_k" 818),(.str "_law_turns_here" 819),(.str "_law_ends" 820),(.str "_law_more" 821),(.str "_law_stuck" 822)] 0
def Dt:Obj:=ζt #[] 0
def Kw:Obj:=ζr "_law_game" "_law_game" dN
def Ds:Obj:=ζD "_law_game" "_law_game" 808 809 810 296 1 0 3 432 true 181 433 434 435 436 823 296 824
def Dr:Obj:=ζF "_law_game" "_law_game" dN "law_playboard_k18_followers" 751 437
def Dq:Obj:=ζt #[] 0
def Ku:Obj:=ζs #[]
def Ks:Obj:=ζr "_law_row" "_law_row" bZ
def Dp:Obj:=ζc #[(.str "_law_row" 826),(.str "_law_row" 827),(ζm 828),(ζi 311),(ζi 3),ζo,ζo,(ζi 3),(.ref 439),(.bool true),(ζi 181),(.ref 440),.none,.none,.none,(.ref 441),(ζi 829),(ζi 311),(ζm 830)]
def Do:Obj:=ζF "_law_row" "_law_row" bZ "law_playboard_k18_followers" 751 442
def Dm:Obj:=ζt #[] 0
def Kr:Obj:=ζs #[]
def Dl:Obj:=ζt #[(.str "_law_game_here" 835),(.str "_law_place" 836),(.str "_law_move" 837),(.str "_law_start" 838),(.str "_law_goal" 839),(.str "_law_taken" 840),(.str "_law_kind" 841),(.str "_law_signs" 842)] 0
def Dk:Obj:=ζt #[] 0
def Kq:Obj:=ζr "_law_behind" "_law_behind" cL
def Dj:Obj:=ζD "_law_behind" "_law_behind" 832 833 834 327 3 0 3 444 true 181 445 446 447 448 843 327 844
def Di:Obj:=ζF "_law_behind" "_law_behind" cL "law_playboard_k18_followers" 751 449
def Dh:Obj:=ζt #[] 0
def Ko:Obj:=ζs #[]
def Kn:Obj:=ζr "_law_due" "_law_due" dz
def Dg:Obj:=ζc #[(.str "_law_due" 846),(.str "_law_due" 847),(ζm 848),(ζi 338),(ζi 2),ζo,ζo,(ζi 3),(.ref 451),(.bool true),(ζi 181),(.ref 452),.none,.none,.none,(.ref 453),(ζi 849),(ζi 338),(ζm 850)]
def Df:Obj:=ζF "_law_due" "_law_due" dz "law_playboard_k18_followers" 751 454
def De:Obj:=ζt #[] 0
def Km:Obj:=ζs #[]
def Dd:Obj:=ζt #[(.str "_law_game_here" 855),(.str "_law_place" 856),(.str "_law_due_here" 857),(.str "_law_found" 858),(.str "_law_one" 859),(.str "_law_kept" 860)] 0
def Dc:Obj:=ζt #[] 0
def Kk:Obj:=ζr "_law_good" "_law_good" dM
def Db:Obj:=ζD "_law_good" "_law_good" 852 853 854 342 2 0 3 456 true 181 457 458 459 460 861 342 862
def Da:Obj:=ζF "_law_good" "_law_good" dM "law_playboard_k18_followers" 751 461
def C9:Obj:=ζt #[] 0
def Kj:Obj:=ζs #[]
def C8:Obj:=ζt #[(.str "_law_script" 867),(.str "_law_game_here" 868),(.str "_law_first" 869),(.str "_law_place" 870),(.str "_law_k" 871),(.str "_law_cell" 872),(.str "_law_found" 873)] 0
def C7:Obj:=ζt #[] 0
def Ki:Obj:=ζr "law" "law" i8
def C6:Obj:=ζD "law" "law" 864 865 866 353 1 0 3 463 true 181 464 465 466 467 874 353 875
def C5:Obj:=ζF "law" "law" i8 "law_playboard_k18_followers" 751 468
end
noncomputable def hK (P:Params):Frag:=(nat_lit 2,Ra P)::(nat_lit 3,DT P)::(nat_lit 15,HZ)::(nat_lit 22,HY)::(nat_lit 23,HX P)::(nat_lit 24,HW)::(nat_lit 25,HV)::(nat_lit 28,HU)::(nat_lit 35,HS)::(nat_lit 36,HR P)::(nat_lit 37,HQ)::(nat_lit 40,HP)::(nat_lit 47,HN)::(nat_lit 48,HM P)::(nat_lit 49,HL)::(nat_lit 52,HK)::(nat_lit 54,HJ)::(nat_lit 55,HI)::(nat_lit 57,HH)::(nat_lit 58,HG)::(nat_lit 59,HF)::(nat_lit 61,HE)::(nat_lit 62,HD)::(nat_lit 64,HC)::(nat_lit 65,HB)::(nat_lit 66,HA)::(nat_lit 68,Hz)::(nat_lit 69,Hy)::(nat_lit 71,Hx)::(nat_lit 72,Hw)::(nat_lit 73,Hv)::(nat_lit 74,Hu)::(nat_lit 75,Ht)::(nat_lit 76,Hs)::(nat_lit 77,Hr)::(nat_lit 79,Hq)::(nat_lit 80,Ho)::(nat_lit 82,Hn)::(nat_lit 83,Hm)::(nat_lit 84,Hl)::(nat_lit 86,Hk)::(nat_lit 87,Hj)::(nat_lit 89,Hi)::(nat_lit 90,Hh)::(nat_lit 91,Hg)::(nat_lit 93,Hf)::(nat_lit 94,He)::(nat_lit 96,Hd)::(nat_lit 97,Hc)::(nat_lit 98,Hb)::(nat_lit 100,zm)::(nat_lit 101,zk)::(nat_lit 103,zj)::(nat_lit 104,zi)::(nat_lit 105,zh)::(nat_lit 107,zg)::(nat_lit 108,zd)::(nat_lit 110,zc)::(nat_lit 111,zb)::(nat_lit 112,y9)::(nat_lit 114,y8)::(nat_lit 115,y7)::(nat_lit 117,y6)::(nat_lit 118,y0)::(nat_lit 119,yZ)::(nat_lit 122,yY)::(nat_lit 123,yX)::(nat_lit 124,yW)::(nat_lit 127,yV)::(nat_lit 128,yU)::(nat_lit 129,yT)::(nat_lit 131,yS)::(nat_lit 132,yR)::(nat_lit 134,yQ)::(nat_lit 135,yO)::(nat_lit 136,yN)::(nat_lit 139,yM)::(nat_lit 140,yL)::(nat_lit 141,yJ)::(nat_lit 144,yI)::(nat_lit 145,yH)::(nat_lit 146,yG)::(nat_lit 148,yF)::(nat_lit 149,yE)::(nat_lit 151,yD)::(nat_lit 152,yB)::(nat_lit 153,yz)::(nat_lit 155,yy)::(nat_lit 156,yx)::(nat_lit 158,yv)::(nat_lit 159,yu)::(nat_lit 160,yt)::(nat_lit 162,yr)::(nat_lit 163,yq)::(nat_lit 165,yp)::(nat_lit 166,yo)::(nat_lit 167,yn)::(nat_lit 170,ym)::(nat_lit 171,yl)::(nat_lit 172,yk)::(nat_lit 174,yj)::(nat_lit 175,yi)::(nat_lit 177,yh)::(nat_lit 178,yg)::(nat_lit 179,yf)::(nat_lit 182,yd)::(nat_lit 183,yb)::(nat_lit 184,ya)::(nat_lit 187,x9)::(nat_lit 188,x8)::(nat_lit 189,x6)::(nat_lit 191,xZ)::(nat_lit 192,xY)::(nat_lit 194,xX)::(nat_lit 195,xW)::(nat_lit 196,xV)::(nat_lit 198,xU)::(nat_lit 199,xT)::(nat_lit 201,xS)::(nat_lit 202,xR)::(nat_lit 203,xQ)::(nat_lit 205,xP)::(nat_lit 206,xO)::(nat_lit 208,xN)::(nat_lit 209,xM)::(nat_lit 210,xL)::(nat_lit 212,xK)::(nat_lit 213,xJ)::(nat_lit 215,xI)::(nat_lit 216,xH)::(nat_lit 217,xG)::(nat_lit 219,xF)::(nat_lit 220,xE)::(nat_lit 222,xD)::(nat_lit 223,xC)::(nat_lit 224,xB)::(nat_lit 226,xA)::(nat_lit 227,xz)::(nat_lit 229,xy)::(nat_lit 230,xx)::(nat_lit 231,xw)::(nat_lit 233,xv)::(nat_lit 234,xu)::(nat_lit 236,xt)::(nat_lit 237,xr)::(nat_lit 238,xq)::(nat_lit 240,xp)::(nat_lit 241,xo)::(nat_lit 243,xn)::(nat_lit 244,xm)::(nat_lit 245,xl)::(nat_lit 247,xk)::(nat_lit 248,xj)::(nat_lit 250,xi)::(nat_lit 251,xh)::(nat_lit 252,xg)::(nat_lit 255,xf)::(nat_lit 256,xc)::(nat_lit 257,xb)::(nat_lit 259,xa)::(nat_lit 260,w9)::(nat_lit 262,w6)::(nat_lit 263,w5)::(nat_lit 264,Fn)::(nat_lit 266,Fm)::(nat_lit 267,Fk)::(nat_lit 269,Fj)::(nat_lit 270,Fi)::(nat_lit 271,Fh)::(nat_lit 273,Fg)::(nat_lit 274,Ff)::(nat_lit 276,Fe)::(nat_lit 277,Fd)::(nat_lit 278,Fc)::(nat_lit 280,Fb)::(nat_lit 281,Fa)::(nat_lit 283,E9)::(nat_lit 284,E8)::(nat_lit 285,E7)::(nat_lit 287,E6)::(nat_lit 288,E5)::(nat_lit 290,E4)::(nat_lit 291,E3)::(nat_lit 292,E2)::(nat_lit 294,E1)::(nat_lit 295,EZ)::(nat_lit 297,EY)::(nat_lit 298,EX)::(nat_lit 299,EW)::(nat_lit 301,EV)::(nat_lit 302,EU)::(nat_lit 304,ET)::(nat_lit 305,ES)::(nat_lit 306,ER)::(nat_lit 309,EQ)::(nat_lit 310,EO)::(nat_lit 311,EN)::(nat_lit 314,EM)::(nat_lit 315,EL)::(nat_lit 323,EK)::(nat_lit 326,EJ)::(nat_lit 327,EI)::(nat_lit 328,EH)::(nat_lit 330,EG)::(nat_lit 331,EF)::(nat_lit 333,EE)::(nat_lit 334,ED)::(nat_lit 335,EC)::(nat_lit 338,EB)::(nat_lit 339,EA)::(nat_lit 340,Ez)::(nat_lit 342,Ey)::(nat_lit 343,Ex)::(nat_lit 345,Ew)::(nat_lit 346,Eu)::(nat_lit 347,Et)::(nat_lit 349,Es)::(nat_lit 350,Er)::(nat_lit 352,Ep)::(nat_lit 353,Eo)::(nat_lit 354,En)::(nat_lit 355,Em P)::(nat_lit 356,Ek)::(nat_lit 357,Ej)::(nat_lit 358,Ei)::(nat_lit 368,Eh)::(nat_lit 370,Eg)::(nat_lit 371,Ef)::(nat_lit 373,Ee)::(nat_lit 374,Ed)::(nat_lit 375,Ec)::(nat_lit 378,Eb)::(nat_lit 379,Ea)::(nat_lit 380,D9)::(nat_lit 382,D8)::(nat_lit 383,D7)::(nat_lit 385,D6)::(nat_lit 386,D5)::(nat_lit 387,D4)::(nat_lit 388,D3 P)::(nat_lit 389,D0)::(nat_lit 390,DZ)::(nat_lit 391,DY)::(nat_lit 394,DX)::(nat_lit 396,DW)::(nat_lit 397,DV)::(nat_lit 399,DU)::(nat_lit 400,DS)::(nat_lit 401,DR)::(nat_lit 403,DQ)::(nat_lit 404,DP)::(nat_lit 406,DO)::(nat_lit 407,DN)::(nat_lit 408,DM)::(nat_lit 410,DL)::(nat_lit 411,DK)::(nat_lit 413,DJ)::(nat_lit 414,DI)::(nat_lit 415,DH)::(nat_lit 418,DG)::(nat_lit 419,DF)::(nat_lit 420,DE)::(nat_lit 422,DD)::(nat_lit 423,DC)::(nat_lit 425,DB)::(nat_lit 426,Dz)::(nat_lit 427,Dy)::(nat_lit 430,Dx)::(nat_lit 431,Dw)::(nat_lit 432,Dv)::(nat_lit 434,Du)::(nat_lit 435,Dt)::(nat_lit 437,Ds)::(nat_lit 438,Dr)::(nat_lit 439,Dq)::(nat_lit 442,Dp)::(nat_lit 443,Do)::(nat_lit 444,Dm)::(nat_lit 446,Dl)::(nat_lit 447,Dk)::(nat_lit 449,Dj)::(nat_lit 450,Di)::(nat_lit 451,Dh)::(nat_lit 454,Dg)::(nat_lit 455,Df)::(nat_lit 456,De)::(nat_lit 458,Dd)::(nat_lit 459,Dc)::(nat_lit 461,Db)::(nat_lit 462,Da)::(nat_lit 463,C9)::(nat_lit 465,C8)::(nat_lit 466,C7)::(nat_lit 468,C6)::(nat_lit 469,C5)::[]
noncomputable def hA:List Addr:=nat_lit 2::nat_lit 3::nat_lit 15::nat_lit 22::nat_lit 23::nat_lit 24::nat_lit 25::nat_lit 28::nat_lit 35::nat_lit 36::nat_lit 37::nat_lit 40::nat_lit 47::nat_lit 48::nat_lit 49::nat_lit 52::nat_lit 54::nat_lit 55::nat_lit 57::nat_lit 58::nat_lit 59::nat_lit 61::nat_lit 62::nat_lit 64::nat_lit 65::nat_lit 66::nat_lit 68::nat_lit 69::nat_lit 71::nat_lit 72::nat_lit 73::nat_lit 74::nat_lit 75::nat_lit 76::nat_lit 77::nat_lit 79::nat_lit 80::nat_lit 82::nat_lit 83::nat_lit 84::nat_lit 86::nat_lit 87::nat_lit 89::nat_lit 90::nat_lit 91::nat_lit 93::nat_lit 94::nat_lit 96::nat_lit 97::nat_lit 98::nat_lit 100::nat_lit 101::nat_lit 103::nat_lit 104::nat_lit 105::nat_lit 107::nat_lit 108::nat_lit 110::nat_lit 111::nat_lit 112::nat_lit 114::nat_lit 115::nat_lit 117::nat_lit 118::nat_lit 119::nat_lit 122::nat_lit 123::nat_lit 124::nat_lit 127::nat_lit 128::nat_lit 129::nat_lit 131::nat_lit 132::nat_lit 134::nat_lit 135::nat_lit 136::nat_lit 139::nat_lit 140::nat_lit 141::nat_lit 144::nat_lit 145::nat_lit 146::nat_lit 148::nat_lit 149::nat_lit 151::nat_lit 152::nat_lit 153::nat_lit 155::nat_lit 156::nat_lit 158::nat_lit 159::nat_lit 160::nat_lit 162::nat_lit 163::nat_lit 165::nat_lit 166::nat_lit 167::nat_lit 170::nat_lit 171::nat_lit 172::nat_lit 174::nat_lit 175::nat_lit 177::nat_lit 178::nat_lit 179::nat_lit 182::nat_lit 183::nat_lit 184::nat_lit 187::nat_lit 188::nat_lit 189::nat_lit 191::nat_lit 192::nat_lit 194::nat_lit 195::nat_lit 196::nat_lit 198::nat_lit 199::nat_lit 201::nat_lit 202::nat_lit 203::nat_lit 205::nat_lit 206::nat_lit 208::nat_lit 209::nat_lit 210::nat_lit 212::nat_lit 213::nat_lit 215::nat_lit 216::nat_lit 217::nat_lit 219::nat_lit 220::nat_lit 222::nat_lit 223::nat_lit 224::nat_lit 226::nat_lit 227::nat_lit 229::nat_lit 230::nat_lit 231::nat_lit 233::nat_lit 234::nat_lit 236::nat_lit 237::nat_lit 238::nat_lit 240::nat_lit 241::nat_lit 243::nat_lit 244::nat_lit 245::nat_lit 247::nat_lit 248::nat_lit 250::nat_lit 251::nat_lit 252::nat_lit 255::nat_lit 256::nat_lit 257::nat_lit 259::nat_lit 260::nat_lit 262::nat_lit 263::nat_lit 264::nat_lit 266::nat_lit 267::nat_lit 269::nat_lit 270::nat_lit 271::nat_lit 273::nat_lit 274::nat_lit 276::nat_lit 277::nat_lit 278::nat_lit 280::nat_lit 281::nat_lit 283::nat_lit 284::nat_lit 285::nat_lit 287::nat_lit 288::nat_lit 290::nat_lit 291::nat_lit 292::nat_lit 294::nat_lit 295::nat_lit 297::nat_lit 298::nat_lit 299::nat_lit 301::nat_lit 302::nat_lit 304::nat_lit 305::nat_lit 306::nat_lit 309::nat_lit 310::nat_lit 311::nat_lit 314::nat_lit 315::nat_lit 323::nat_lit 326::nat_lit 327::nat_lit 328::nat_lit 330::nat_lit 331::nat_lit 333::nat_lit 334::nat_lit 335::nat_lit 338::nat_lit 339::nat_lit 340::nat_lit 342::nat_lit 343::nat_lit 345::nat_lit 346::nat_lit 347::nat_lit 349::nat_lit 350::nat_lit 352::nat_lit 353::nat_lit 354::nat_lit 355::nat_lit 356::nat_lit 357::nat_lit 358::nat_lit 368::nat_lit 370::nat_lit 371::nat_lit 373::nat_lit 374::nat_lit 375::nat_lit 378::nat_lit 379::nat_lit 380::nat_lit 382::nat_lit 383::nat_lit 385::nat_lit 386::nat_lit 387::nat_lit 388::nat_lit 389::nat_lit 390::nat_lit 391::nat_lit 394::nat_lit 396::nat_lit 397::nat_lit 399::nat_lit 400::nat_lit 401::nat_lit 403::nat_lit 404::nat_lit 406::nat_lit 407::nat_lit 408::nat_lit 410::nat_lit 411::nat_lit 413::nat_lit 414::nat_lit 415::nat_lit 418::nat_lit 419::nat_lit 420::nat_lit 422::nat_lit 423::nat_lit 425::nat_lit 426::nat_lit 427::nat_lit 430::nat_lit 431::nat_lit 432::nat_lit 434::nat_lit 435::nat_lit 437::nat_lit 438::nat_lit 439::nat_lit 442::nat_lit 443::nat_lit 444::nat_lit 446::nat_lit 447::nat_lit 449::nat_lit 450::nat_lit 451::nat_lit 454::nat_lit 455::nat_lit 456::nat_lit 458::nat_lit 459::nat_lit 461::nat_lit 462::nat_lit 463::nat_lit 465::nat_lit 466::nat_lit 468::nat_lit 469::[]
noncomputable def hE:Env:={scope:=hP.main.scope,locals:=mainNs,globals:=mainNs,cells:=[],code:=(.ref 13),frame:=some 14}
noncomputable def hB:List Stmt:=PySem.W.behindTheImports hP
noncomputable abbrev hC:Code:=.body hB hE
noncomputable abbrev hN:Option Value:=(some (.ref 6))
noncomputable abbrev hF:List Frame:=[PySem.W.topFrame ⟨0,0,0,0⟩]
noncomputable def hS (w:World) (os:OsState):Shared:=⟨Q4 w.params,Array.mk [],PySem.W.boot_drawn,PySem.W.boot_toks,os⟩
noncomputable def MG (w:World) (os:OsState):Shared:=(PySem.W.topGo treeTable hP w 11 hN 12 (hS w os) (Rg hP)).elim (hS w os) λ x=>x.1
noncomputable def MF (w:World) (os:OsState):PySem.W.SharedT:=toT ((Rh treeTable hP w 11 hN 1 1 (MG w os) (Ri hB hE hC ⟨0,0,0,0⟩ hF)).elim (MG w os) λ x=>x.2.1)
theorem hpre (w:World) (os:OsState):PySem.W.topGo treeTable hP w 11 hN 12 (hS w os) (Rg hP)=some (MG w os,⟨denote treeTable hC,hC,⟨0,0,0,0⟩,hF⟩):=by kernel_rfl
theorem NN (w:World) (os:OsState):Rh treeTable hP w 11 hN 1 1 (MG w os) (Ri hB hE hC ⟨0,0,0,0⟩ hF)=some (.next,(MF w os).abs,hC,⟨0,0,0,0⟩):=by kernel_rfl
noncomputable def hL1 (P:Params):PySem.W.BT:=ζn (Rj P) (ζn (Rk P) (ζn (zo3 P) (ζn (Rl P) (ζn HZ (ζn Lx (ζn Kb (ζn yV (ζl xf) .nil) (ζl xZ)) (ζn J3 (ζl yu) (ζl xC))) (ζn HN (ζn Hq (ζl FZ) (ζl FF)) (ζn zb (ζl yi) (ζl Fw)))) (ζn (HX P) (ζn KQ (ζn Hx (ζn yO (ζl w5) .nil) (ζl xT)) (ζn zj (ζl yn) (ζl xw))) (ζn HI (ζn Hj (ζl yD) (ζl xI)) (ζn yZ (ζl yb) (ζl xk))))) (ζn LZ (ζn LT (ζn HS (ζn Ka (ζn yS (ζl xa) .nil) (ζl xW)) (ζn J2 (ζl yq) (ζl xz))) (ζn Kg (ζn Hm (ζl FY) (ζl FE)) (ζn y7 (ζl yf) (ζl xn)))) (ζn LN (ζn Ky (ζn Ht (ζl yM) (ζl xQ)) (ζn zg (ζl yl) (ζl Fx))) (ζn HF (ζn Hg (ζl yy) (ζl xF)) (ζn yX (ζl x9) (ζl xh)))))) (ζn (Rn P) (ζn (Ro P) (ζn (LV P) (ζn Li (ζn HB (ζn yT (ζl xb) .nil) (ζl FJ)) (ζn Hc (ζl FU) (ζl FA))) (ζn HL (ζn J7 (ζl yH) (ζl xM)) (ζn Gj (ζl yh) (ζl xo)))) (ζn HV (ζn KI (ζn Hv (ζl Gb) (ζl xS)) (ζn zh (ζl FR) (ζl xv))) (ζn HH (ζn Hi (ζl yz) (ζl xG)) (ζn Gg (ζl FM) (ζl Ft))))) (ζn LY (ζn LR (ζn HQ (ζn Hy (ζn Gc (ζl Fo) .nil) (ζl FI)) (ζn zk (ζl yp) (ζl xy))) (ζn Ke (ζn J6 (ζl yE) (ζl xJ)) (ζn y6 (ζl FN) (ζl xl)))) (ζn LF (ζn Kp (ζn Hr (ζl yJ) (ζl xP)) (ζn Gk (ζl FQ) (ζl xr))) (ζn HE (ζn Hf (ζl FV) (ζl FB)) (ζn Gf (ζl x6) (ζl Fs))))))) (ζn (Ra P) (ζn (Rp P) (ζn (Rq P) (ζn LW (ζn Lp (ζn HC (ζn yU (ζl xc) .nil) (ζl xY)) (ζn Hd (ζl yt) (ζl xB))) (ζn (HM P) (ζn Ho (ζl yI) (ζl xN)) (ζn y9 (ζl FP) (ζl xp)))) (ζn HW (ζn HP (ζn Hw (ζl yN) (ζl FH)) (ζn zi (ζl FS) (ζl Fy))) (ζn Kd (ζn J5 (ζl yB) (ζl xH)) (ζn Gh (ζl ya) (ζl xj))))) (ζn Nu (ζn LS (ζn (HR P) (ζn Hz (ζn yR (ζl w9) .nil) (ζl xV)) (ζn zm (ζl FT) (ζl Fz))) (ζn HK (ζn Hl (ζl yF) (ζl xK)) (ζn Gi (ζl FO) (ζl xm)))) (ζn HU (ζn Kv (ζn Hs (ζl yL) (ζl FG)) (ζn zd (ζl yk) (ζl xt))) (ζn Kc (ζn J4 (ζl yx) (ζl xE)) (ζn yW (ζl x8) (ζl xg)))))) (ζn (Rr P) (ζn (Rs P) (ζn LU (ζn Le (ζn HA (ζn Gd (ζl Fp) .nil) (ζl xX)) (ζn Hb (ζl yr) (ζl xA))) (ζn Kh (ζn Hn (ζl yG) (ζl xL)) (ζn y8 (ζl yg) (ζl Fv)))) (ζn LQ (ζn (KD P) (ζn Hu (ζl Ga) (ζl xR)) (ζn Gm (ζl ym) (ζl xu))) (ζn HG (ζn Hh (ζl FW) (ζl FC)) (ζn yY (ζl FL) (ζl xi))))) (ζn LX (ζn HY (ζn KT (ζn J9 (ζn yQ (ζl w6) .nil) (ζl xU)) (ζn Gn (ζl yo) (ζl xx))) (ζn HJ (ζn Hk (ζl FX) (ζl FD)) (ζn y0 (ζl yd) (ζl Fu)))) (ζn (LC P) (ζn Kl (ζn J8 (ζl F0) (ζl xO)) (ζn zc (ζl yj) (ζl xq))) (ζn HD (ζn He (ζl yv) (ζl xD)) (ζn Ge (ζl FK) (ζl Fq)))))))
noncomputable def hG1 (w:World) (os:OsState):PySem.W.SharedT:=stT (hL1 w.params) 264 545 w.params os
noncomputable def hT1:List Stmt:=(hB.drop 0).take 53
theorem MC (w:World):(λ os=>Rt treeTable hP w 11 hN 1 1747 (MF w os) ⟨(execs hT1 hE).wrap Q5 Ru id id,hC,⟨0,0,0,0⟩,hF⟩)=λ os=>some (Flow.next,(hG1 w os),hC,⟨140,0,143,52⟩):=by
 rw [PySem.W.Fast.te10110043849684766642,PySem.W.Fast.te12563942051412417395,PySem.W.Fast.te14364793385576792824]
 kernel_rfl
noncomputable def hL2 (P:Params):PySem.W.BT:=ζn (Rj P) (ζn (Rk P) (ζn (DT P) (ζn (Rl P) (ζn HZ (ζn Lx (ζn Kb (ζn yV (ζl xf) (ζl D7)) (ζn xZ (ζl Lq) (ζl Dk))) (ζn J3 (ζn yu (ζl E6) (ζl DH)) (ζn xC (ζl La) .nil))) (ζn HN (ζn Hq (ζn FZ (ζl Fh) (ζl DU)) (ζn FF (ζl EC) (ζl C9))) (ζn zb (ζn yi (ζl LA) (ζl Dw)) (ζn Fw (ζl K0) .nil)))) (ζn (HX P) (ζn KQ (ζn Hx (ζn yO (ζl w5) (ζl DY)) (ζn xT (ζl EI) (ζl Df))) (ζn zj (ζn yn (ζl EZ) (ζl DC)) (ζn xw (ζl K9) .nil))) (ζn HI (ζn Hj (ζn yD (ζl LK) (ζl DN)) (ζn xI (ζl Ex) .nil)) (ζn yZ (ζn yb (ζl EN) (ζl Dq)) (ζn xk (ζl Ec) .nil))))) (ζn LZ (ζn LT (ζn HS (ζn Ka (ζn yS (ζl xa) (ζl D4)) (ζn xW (ζl EK) (ζl Dh))) (ζn J2 (ζn yq (ζl E3) (ζl DF)) (ζn xz (ζl (Em P)) .nil))) (ζn Kg (ζn Hm (ζn FY (ζl LL) (ζl DQ)) (ζn FE (ζl EA) (ζl Ki))) (ζn y7 (ζn yf (ζl Lz) (ζl Dt)) (ζn xn (ζl Ef) .nil)))) (ζn LN (ζn Ky (ζn Ht (ζn yM (ζl Fk) (ζl KN)) (ζn xQ (ζl EF) (ζl Dc))) (ζn zg (ζn yl (ζl EW) (ζl Dy)) (ζn Fx (ζl (K5 P)) .nil))) (ζn HF (ζn Hg (ζn yy (ζl E9) (ζl DK)) (ζn xF (ζl Et) .nil)) (ζn yX (ζn x9 (ζl EL) (ζl Do)) (ζn xh (ζl Ea) .nil)))))) (ζn (Rn P) (ζn (Ro P) (ζn (LV P) (ζn Li (ζn HB (ζn yT (ζl xb) (ζl D6)) (ζn FJ (ζl Ln) (ζl Dj))) (ζn Hc (ζn FU (ζl LH) (ζl KF)) (ζn FA (ζl Eo) .nil))) (ζn HL (ζn J7 (ζn yH (ζl Fg) (ζl DR)) (ζn xM (ζl Lf) (ζl C8))) (ζn Gj (ζn yh (ζl ES) (ζl Kx)) (ζn xo (ζl KZ) .nil)))) (ζn HV (ζn KI (ζn Hv (ζn Gb (ζl LP) (ζl KO)) (ζn xS (ζl Lj) (ζl Km))) (ζn zh (ζn FR (ζl EY) (ζl DB)) (ζn xv (ζl K7) .nil))) (ζn HH (ζn Hi (ζn yz (ζl Fa) (ζl KJ)) (ζn xG (ζl Ew) .nil)) (ζn Gg (ζn FM (ζl Lv) (ζl Ks)) (ζn Ft (ζl KU) .nil))))) (ζn LY (ζn LR (ζn HQ (ζn Hy (ζn Gc (ζl Fo) (ζl D0)) (ζn FI (ζl Lk) (ζl Kn))) (ζn zk (ζn yp (ζl LE) (ζl KC)) (ζn xy (ζl Ej) .nil))) (ζn Ke (ζn J6 (ζn yE (ζl Fd) (ζl KK)) (ζn xJ (ζl Ld) (ζl C5))) (ζn y6 (ζn FN (ζl EQ) (ζl Ds)) (ζn xl (ζl Ee) .nil)))) (ζn LF (ζn Kp (ζn Hr (ζn yJ (ζl Fj) (ζl DV)) (ζn xP (ζl EE) (ζl Db))) (ζn Gk (ζn FQ (ζl EV) (ζl Kz)) (ζn xr (ζl K3) .nil))) (ζn HE (ζn Hf (ζn FV (ζl E7) (ζl DJ)) (ζn FB (ζl Es) .nil)) (ζn Gf (ζn x6 (ζl Ls) (ζl Kr)) (ζn Fs (ζl KS) .nil))))))) (ζn (Ra P) (ζn (Rp P) (ζn (Rq P) (ζn LW (ζn Lp (ζn HC (ζn yU (ζl xc) (ζl KR)) (ζn xY (ζl Lo) (ζl Kq))) (ζn Hd (ζn yt (ζl E5) (ζl KG)) (ζn xB (ζl Ep) .nil))) (ζn (HM P) (ζn Ho (ζn yI (ζl LM) (ζl DS)) (ζn xN (ζl Lg) (ζl Kj))) (ζn y9 (ζn FP (ζl ET) (ζl Dv)) (ζn xp (ζl Eh) .nil)))) (ζn HW (ζn HP (ζn Hw (ζn yN (ζl Fn) (ζl KP)) (ζn FH (ζl EH) (ζl De))) (ζn zi (ζn FS (ζl LD) (ζl KB)) (ζn Fy (ζl K8) .nil))) (ζn Kd (ζn J5 (ζn yB (ζl Fb) (ζl DM)) (ζn xH (ζl Lc) .nil)) (ζn Gh (ζn ya (ζl Lw) (ζl Ku)) (ζn xj (ζl KW) .nil))))) (ζn Ia (ζn LS (ζn (HR P) (ζn Hz (ζn yR (ζl w9) (ζl (D3 P))) (ζn xV (ζl Ll) (ζl Ko))) (ζn zm (ζn FT (ζl E2) (ζl DE)) (ζn Fz (ζl Ek) .nil))) (ζn HK (ζn Hl (ζn yF (ζl Fe) (ζl DP)) (ζn xK (ζl Ez) (ζl C6))) (ζn Gi (ζn FO (ζl Ly) (ζl Kw)) (ζn xm (ζl KY) .nil)))) (ζn HU (ζn Kv (ζn Hs (ζn yL (ζl LO) (ζl DW)) (ζn FG (ζl Lh) (ζl Kk))) (ζn zd (ζn yk (ζl LB) (ζl KA)) (ζn xt (ζl K4) .nil))) (ζn Kc (ζn J4 (ζn yx (ζl E8) (ζl KH)) (ζn xE (ζl Lb) .nil)) (ζn yW (ζn x8 (ζl Lu) (ζl Dm)) (ζn xg (ζl D9) .nil)))))) (ζn (Rr P) (ζn (Rs P) (ζn LU (ζn Le (ζn HA (ζn Gd (ζl Fp) (ζl D5)) (ζn xX (ζl Lm) (ζl Di))) (ζn Hb (ζn yr (ζl E4) (ζl DG)) (ζn xA (ζl En) .nil))) (ζn Kh (ζn Hn (ζn yG (ζl Ff) (ζl KL)) (ζn xL (ζl EB) (ζl C7))) (ζn y8 (ζn yg (ζl ER) (ζl Du)) (ζn Fv (ζl Eg) .nil)))) (ζn LQ (ζn (KD P) (ζn Hu (ζn Ga (ζl Fm) (ζl DX)) (ζn xR (ζl EG) (ζl Dd))) (ζn Gm (ζn ym (ζl EX) (ζl Dz)) (ζn xu (ζl K6) .nil))) (ζn HG (ζn Hh (ζn FW (ζl LJ) (ζl DL)) (ζn FC (ζl Eu) .nil)) (ζn yY (ζn FL (ζl EM) (ζl Dp)) (ζn xi (ζl Eb) .nil))))) (ζn LX (ζn HY (ζn KT (ζn J9 (ζn yQ (ζl w6) (ζl DZ)) (ζn xU (ζl EJ) (ζl Dg))) (ζn Gn (ζn yo (ζl E1) (ζl DD)) (ζn xx (ζl Ei) .nil))) (ζn HJ (ζn Hk (ζn FX (ζl Fc) (ζl DO)) (ζn FD (ζl Ey) .nil)) (ζn y0 (ζn yd (ζl EO) (ζl Dr)) (ζn Fu (ζl Ed) .nil)))) (ζn (LC P) (ζn Kl (ζn J8 (ζn F0 (ζl Fi) (ζl KM)) (ζn xO (ζl ED) (ζl Da))) (ζn zc (ζn yj (ζl EU) (ζl Dx)) (ζn xq (ζl K1) .nil))) (ζn HD (ζn He (ζn yv (ζl LI) (ζl DI)) (ζn xD (ζl Er) .nil)) (ζn Ge (ζn FK (ζl (Lr P)) (ζl Dl)) (ζn Fq (ζl D8) .nil)))))))
noncomputable def NO (w:World) (os:OsState):PySem.W.SharedT:=stT (hL2 w.params) 470 877 w.params os
noncomputable def hT2:List Stmt:=(hB.drop 53).take 27
theorem MB (w:World):(λ os=>Rt treeTable hP w 11 hN 1 1320 (hG1 w os) ⟨(execs hT2 hE).wrap Q5 Ru id id,hC,⟨140,0,143,52⟩,hF⟩)=λ os=>some (Flow.next,(NO w os),hC,⟨353,0,364,48⟩):=by
 rw [PySem.W.Fast.te10110043849684766642,PySem.W.Fast.te12563942051412417395,PySem.W.Fast.te14364793385576792824]
 kernel_rfl
noncomputable def Cq (tr:(String->Option Builtin)->Program->World->Nat->Option Value->Nat->Shared->Thread->Option Shared) (tb:String->Option Builtin) (w:World) (os:OsState):Shared:=
 (tr tb hP w 11 hN 2 (NO w os).abs ⟨Q5 .next,hC,⟨353,0,364,48⟩,hF⟩).elim (hS w os) id
noncomputable def hX (s:Shared):Bool:=PySem.W.xlAt hQ [] s&&PySem.W.recOk (PySem.W.RowW.records PySem.Challenge.rw_playboard_k18_followers.row.toRowW) s
theorem NM (w:World):(λ os=>QO treeTable hP w 11 hN 2 (NO w os).abs ⟨Q5 .next,hC,⟨353,0,364,48⟩,hF⟩)=λ os=>some (Cq QO treeTable w os):=by
 rw [PySem.W.Fast.te14364793385576792824,PySem.W.Fast.te14082659384304107361]
 kernel_rfl
theorem Jr (w:World):(λ os=>(PySem.W.staticsOk (importedModules hP.main.body) (Q4 w.params) (Cq QO treeTable w os).heap&&PySem.W.namesBound hP (Cq QO treeTable w os).heap&&PySem.W.gensDone (Cq QO treeTable w os)&&PySem.W.laidKept (Q4 w.params) (Cq QO treeTable w os).heap))=λ os=>true:=by
 rw [PySem.W.Fast.te14364793385576792824,PySem.W.Fast.te14082659384304107361,PySem.W.Fast.te5923862056798008813]
 kernel_rfl
theorem Jq (w:World):(λ os=>PySem.W.openSeen hQ [] (importedModules hP.main.body) hX true (Cq QO treeTable w os))=λ os=>PySem.W.openGood hQ []:=by
 rw [PySem.W.Fast.te14364793385576792824,PySem.W.Fast.te14082659384304107361,PySem.W.Fast.te4187177175401517315,PySem.W.Fast.te5923862056798008813]
 kernel_rfl
theorem Jp (w:World):(λ os=>u9 hA (Cq QO treeTable w os))=λ os=>u7 hK w:=by
 rw [PySem.W.Fast.te14364793385576792824,PySem.W.Fast.te14082659384304107361]
 kernel_rfl
theorem hBe:hB=(hT1++(hT2++[])):=by kernel_rfl
theorem ME (w:World) (os:OsState):QO treeTable hP w 11 hN (1747+(1320+2)) (MF w os).abs (Rv hB hE hC ⟨0,0,0,0⟩ hF)=some (Cq QO treeTable w os):=by have r:=PySem.W.piece_nil (env:=hE) (congrFun (NM w) os);have r:=Rw (Rx (congrFun (MB w) os)) r;have r:=Rw (Rx (congrFun (MC w) os)) r;exact (congrArg (λ l=>QO treeTable hP w 11 hN (1747+(1320+2)) (MF w os).abs (Rv l hE hC ⟨0,0,0,0⟩ hF)) hBe).trans r
theorem hleft:PySem.W.LeftO hP hQ [] hX (u9 hA) (u7 hK) 6256:=
 wp (n0:=12) (nb:=1) (n:=(1747+(1320+2))) (qp:=⟨0,0,0,0⟩) (p0:=⟨0,0,0,0⟩) (p1:=⟨0,0,0,0⟩) (H₀:=Q4) (m₀:=11) (ann:=hN) (b:=hB) (env:=hE) (sa:=MG) (sb:=MF) (sf:=λ w os=>(Cq QO treeTable w os))
  (PySem.W.boot_open (by kernel_rfl) (by decide+kernel) (λ s=>by kernel_rfl)) (λ w=>by kernel_rfl) hpre NN ME (by decide+kernel) (λ w os=>by rw [congrFun (Jr w) os,congrFun (Jq w) os,congrFun (Jp w) os])
end K18
namespace K18
open PySem L2
theorem mC (P:Program) (w:World) (base:Heap) {K:Frag}{h:Heap}{mg:Str->Option Value}{name q:Str}{st:Stmt}{ps:List Str}{k:Nat}{sp:Sp}{f:Addr}{fd:FuncData}(X:K.In h) (G:h.Ns mainGlobals mg) (a:QK K mainGlobals name=some (some (.ref f))) (F:bi K name q st f fd) (b:ik K fd ps []) (o:aQ P w K mg base cE k f fd ps sp):cj P w K mg base name ps k sp:=⟨f,_,o,QN X G a,F.kp,b⟩
noncomputable abbrev ζL (o:Value) (d:Option Addr) (a b:Str) (s:Stmt) (k c p:Value) (n:Option Addr) (e t:Value) (l:Array (Option Value)):Obj:=⟨o,d,.func (QR a b (eK s) (dE s) (ak s) .none k c p n e t),l⟩
theorem all_mk {l:PySem.W.OpenLaw}{w:World}{K:Frag}{h:Heap}{mg:Str->Option Value}{fa f1 f2 f3 f4 f5 f6 f7 f8 f9 f10 f11 f12 f13 f14 f15 f16 f17 f18 f19 f20 f21 f22 f23 f24 f25 f26 f27 f28 f29 f30 f31 f32 f33 f34 f35 f36 f37 f38 f39 f40 f41 f42 f43 f44 f45 f46 f47 f48 f49 f50 f51 f52 f53 f54 f55 f56 f57 f58 f59 cBoard cGame aS aA aE aW:Addr}(X:K.In h) (G:h.Ns mainGlobals mg) (hfa:mg "law"=some (.ref fa))
  {od59 an59:Option Addr} {sl59:Array (Option Value)} {oc59 kV59 dc59 pm59 cd59 ct59:Value} {d1 d2 d3 d4 d5 d6 d7 d8 d9 d10 d11 d12 d13 d14 d15 d16 d17 d18 d19 d20 d21 d22 d23 d24 d25 d26 d27 d28 d29 d30 d31 d32 d33 d34 d35 d36 d37 d38 d39 d40 d41 d42 d43 d44 d45 d46 d47 d48 d49 d50 d51 d52 d53 d54 d55 d56 d57 d58:FuncData} {u0 u1 u2 u3 u4 u5 u6:Value}
  (aCBoard:QK K mainGlobals "Board"=some (some (.ref cBoard)))
  (aCGame:QK K mainGlobals "Game"=some (some (.ref cGame)))
  (a1:QK K mainGlobals "is_whole"=some (some (.ref f1)))
  (F1:bi K "is_whole" "is_whole" eU f1 d1)
  (a2:QK K mainGlobals "is_letter"=some (some (.ref f2)))
  (F2:bi K "is_letter" "is_letter" dI f2 d2)
  (a3:QK K mainGlobals "is_among"=some (some (.ref f3)))
  (F3:bi K "is_among" "is_among" eX f3 d3)
  (a4:QK K mainGlobals "is_word"=some (some (.ref f4)))
  (F4:bi K "is_word" "is_word" fP f4 d4)
  (a5:QK K mainGlobals "is_tuple_of"=some (some (.ref f5)))
  (F5:bi K "is_tuple_of" "is_tuple_of" cK f5 d5)
  (a6:QK K mainGlobals "is_list_of"=some (some (.ref f6)))
  (F6:bi K "is_list_of" "is_list_of" db f6 d6)
  (a7:QK K mainGlobals "is_step"=some (some (.ref f7)))
  (F7:bi K "is_step" "is_step" fQ f7 d7)
  (a8:QK K mainGlobals "is_rule"=some (some (.ref f8)))
  (F8:bi K "is_rule" "is_rule" fR f8 d8)
  (a9:QK K mainGlobals "is_pair"=some (some (.ref f9)))
  (F9:bi K "is_pair" "is_pair" fS f9 d9)
  (a10:QK K mainGlobals "are_pairs"=some (some (.ref f10)))
  (F10:bi K "are_pairs" "are_pairs" cW f10 d10)
  (a11:QK K mainGlobals "is_turns"=some (some (.ref f11)))
  (F11:bi K "is_turns" "is_turns" cQ f11 d11)
  (a12:QK K mainGlobals "is_ends"=some (some (.ref f12)))
  (F12:bi K "is_ends" "is_ends" fU f12 d12)
  (a13:QK K mainGlobals "are_kinds"=some (some (.ref f13)))
  (F13:bi K "are_kinds" "are_kinds" cX f13 d13)
  (a14:QK K mainGlobals "are_rules"=some (some (.ref f14)))
  (F14:bi K "are_rules" "are_rules" cV f14 d14)
  (a15:QK K mainGlobals "sign_of"=some (some (.ref f15)))
  (F15:bi K "sign_of" "sign_of" fM f15 d15)
  (a16:QK K mainGlobals "kind_of"=some (some (.ref f16)))
  (F16:bi K "kind_of" "kind_of" fO f16 d16)
  (a17:QK K mainGlobals "side_of"=some (some (.ref f17)))
  (F17:bi K "side_of" "side_of" fN f17 d17)
  (a18:QK K mainGlobals "put"=some (some (.ref f18)))
  (F18:bi K "put" "put" qf f18 d18)
  (a19:QK K mainGlobals "squares_of"=some (some (.ref f19)))
  (F19:bi K "squares_of" "squares_of" cz f19 d19)
  (a20:QK K mainGlobals "empty_row"=some (some (.ref f20)))
  (F20:bi K "empty_row" "empty_row" cU f20 d20)
  (a21:QK K mainGlobals "is_row"=some (some (.ref f21)))
  (F21:bi K "is_row" "is_row" eV f21 d21)
  (a22:QK K mainGlobals "is_place"=some (some (.ref f22)))
  (F22:bi K "is_place" "is_place" eW f22 d22)
  (a23:QK K mainGlobals "ray"=some (some (.ref f23)))
  (F23:bi K "ray" "ray" qd f23 d23)
  (a24:QK K mainGlobals "slid"=some (some (.ref f24)))
  (F24:bi K "slid" "slid" ld f24 d24)
  (a25:QK K mainGlobals "jumped"=some (some (.ref f25)))
  (F25:bi K "jumped" "jumped" gW f25 d25)
  (a26:QK K mainGlobals "by_rule"=some (some (.ref f26)))
  (F26:bi K "by_rule" "by_rule" fV f26 d26)
  (a27:QK K mainGlobals "goals"=some (some (.ref f27)))
  (F27:bi K "goals" "goals" i9 f27 d27)
  (a28:QK K mainGlobals "column_of"=some (some (.ref f28)))
  (F28:bi K "column_of" "column_of" dJ f28 d28)
  (a29:QK K mainGlobals "row_of"=some (some (.ref f29)))
  (F29:bi K "row_of" "row_of" gU f29 d29)
  (a30:QK K mainGlobals "square_at"=some (some (.ref f30)))
  (F30:bi K "square_at" "square_at" dH f30 d30)
  (a31:QK K mainGlobals "moves"=some (some (.ref f31)))
  (F31:bi K "moves" "moves" ip f31 d31)
  (a32:QK K mainGlobals "arrived"=some (some (.ref f32)))
  (F32:bi K "arrived" "arrived" fX f32 d32)
  (a33:QK K mainGlobals "behind"=some (some (.ref f33)))
  (F33:bi K "behind" "behind" gZ f33 d33)
  (a34:QK K mainGlobals "has_kind"=some (some (.ref f34)))
  (F34:bi K "has_kind" "has_kind" eY f34 d34)
  (a35:QK K mainGlobals "is_home"=some (some (.ref f35)))
  (F35:bi K "is_home" "is_home" fT f35 d35)
  (a36:QK K mainGlobals "by_end"=some (some (.ref f36)))
  (F36:bi K "by_end" "by_end" gY f36 d36)
  (a37:QK K mainGlobals "by_ends"=some (some (.ref f37)))
  (F37:bi K "by_ends" "by_ends" fW f37 d37)
  (a38:QK K mainGlobals "ending"=some (some (.ref f38)))
  (F38:bi K "ending" "ending" gX f38 d38)
  (a39:QK K mainGlobals "followers"=some (some (.ref f39)))
  (F39:bi K "followers" "followers" cT f39 d39)
  (a40:QK K mainGlobals "are_holes"=some (some (.ref f40)))
  (F40:bi K "are_holes" "are_holes" cY f40 d40)
  (a41:QL K (.ref cBoard) "__init__"=some (some (.ref f41))) (iF41:QQ K (.ref f41)=true)
  (F41:bi K "__init__" "Board.__init__" bH f41 d41)
  (a42:QL K (.ref cBoard) "has"=some (some (.ref f42))) (iF42:QQ K (.ref f42)=true)
  (F42:bi K "has" "Board.has" dO f42 d42)
  (a43:QL K (.ref cBoard) "moved"=some (some (.ref f43))) (iF43:QQ K (.ref f43)=true)
  (F43:bi K "moved" "Board.moved" cN f43 d43)
  (a44:QL K (.ref cBoard) "far_row"=some (some (.ref f44))) (iF44:QQ K (.ref f44)=true)
  (F44:bi K "far_row" "Board.far_row" cg f44 d44)
  (a45:QL K (.ref cGame) "__init__"=some (some (.ref f45))) (iF45:QQ K (.ref f45)=true)
  (F45:bi K "__init__" "Game.__init__" cf f45 d45)
  (a46:QL K (.ref cGame) "rules_of"=some (some (.ref f46))) (iF46:QQ K (.ref f46)=true)
  (F46:bi K "rules_of" "Game.rules_of" bN f46 d46)
  (a47:QL K (.ref cGame) "turned"=some (some (.ref f47))) (iF47:QQ K (.ref f47)=true)
  (F47:bi K "turned" "Game.turned" cM f47 d47)
  (a48:QK K mainGlobals "_law_cell_at"=some (some (.ref f48)))
  (F48:bi K "_law_cell_at" "_law_cell_at" cu f48 d48)
  (a49:QK K mainGlobals "_law_mixed"=some (some (.ref f49)))
  (F49:bi K "_law_mixed" "_law_mixed" dc f49 d49)
  (a50:QK K mainGlobals "_law_board"=some (some (.ref f50)))
  (F50:bi K "_law_board" "_law_board" de f50 d50)
  (a51:QK K mainGlobals "_law_kinds"=some (some (.ref f51)))
  (F51:bi K "_law_kinds" "_law_kinds" cC f51 d51)
  (a52:QK K mainGlobals "_law_rule"=some (some (.ref f52)))
  (F52:bi K "_law_rule" "_law_rule" dL f52 d52)
  (a53:QK K mainGlobals "_law_turns"=some (some (.ref f53)))
  (F53:bi K "_law_turns" "_law_turns" cA f53 d53)
  (a54:QK K mainGlobals "_law_game"=some (some (.ref f54)))
  (F54:bi K "_law_game" "_law_game" dN f54 d54)
  (a55:QK K mainGlobals "_law_row"=some (some (.ref f55)))
  (F55:bi K "_law_row" "_law_row" bZ f55 d55)
  (a56:QK K mainGlobals "_law_behind"=some (some (.ref f56)))
  (F56:bi K "_law_behind" "_law_behind" cL f56 d56)
  (a57:QK K mainGlobals "_law_due"=some (some (.ref f57)))
  (F57:bi K "_law_due" "_law_due" dz f57 d57)
  (a58:QK K mainGlobals "_law_good"=some (some (.ref f58)))
  (F58:bi K "_law_good" "_law_good" dM f58 d58)
  (a59:QK K mainGlobals "law"=some (some (.ref f59)))
  (l59:K.lookup f59=some (ζL oc59 od59 "law" "law" i8 kV59 dc59 pm59 an59 cd59 ct59 sl59)) (c59:Q3 K cd59 "law"=true) (k59:QT K (.ref f59)=true)
  (pgXBoard:QV K cBoard Str.empty=true)
  (hdXBoard:QW K cBoard=true)
  (poXBoard:QY K cBoard=true)
  (saXBoard:QL K (.ref cBoard) "__setattr__"=some (some (.builtin "object.__setattr__")))
  (mkXBoard:QZ K cBoard=true)
  (kcXBoard:QT K (.ref cBoard)=true)
  (naBoardwide:QL K (.ref cBoard) "wide"=some none)
  (naBoardhigh:QL K (.ref cBoard) "high"=some none)
  (naBoardholes:QL K (.ref cBoard) "holes"=some none)
  (naBoardfirm:QL K (.ref cBoard) "firm"=some none)
  (pgXGame:QV K cGame Str.empty=true)
  (hdXGame:QW K cGame=true)
  (poXGame:QY K cGame=true)
  (saXGame:QL K (.ref cGame) "__setattr__"=some (some (.builtin "object.__setattr__")))
  (mkXGame:QZ K cGame=true)
  (kcXGame:QT K (.ref cGame)=true)
  (naGameboard:QL K (.ref cGame) "board"=some none)
  (naGamekinds:QL K (.ref cGame) "kinds"=some none)
  (naGamerules:QL K (.ref cGame) "rules"=some none)
  (naGameturns:QL K (.ref cGame) "turns"=some none)
  (naGameends:QL K (.ref cGame) "ends"=some none)
  (naGamestuck:QL K (.ref cGame) "stuck"=some none)
  (z0:QK K mainGlobals "isinstance"=some none)
  (z1:QK K mainGlobals "int"=some none)
  (z2:QK K mainGlobals "bool"=some none)
  (z3:QK K mainGlobals "str"=some none)
  (z4:QK K mainGlobals "list"=some none)
  (z5:QK K mainGlobals "tuple"=some none)
  (z6:QK K mainGlobals "len"=some none)
  (z7:QK K mainGlobals "range"=some none)
  (z8:QK K mainGlobals "all"=some none)
  (z9:QK K mainGlobals "any"=some none)
  (z10:QK K mainGlobals "set"=some none)
  (z11:QK K mainGlobals "dict"=some none)
  (z12:QK K mainGlobals "sorted"=some none)
  (z13:QK K mainGlobals "min"=some none)
  (z14:QK K mainGlobals "enumerate"=some none)
  (z15:QK K mainGlobals "zip"=some none)
  (kg0:QK K mainGlobals "NOTHING"=some (some u0)) (rv0:aL (.int (-1)) u0)
  (kg1:QK K mainGlobals "EMPTY"=some (some u1)) (rv1:aL (.str ".") u1)
  (kg2:QK K mainGlobals "HOLE"=some (some u2)) (rv2:aL (.str "#") u2)
  (kg3:QK K mainGlobals "MOST_PAIRS"=some (some u3)) (rv3:aL (.int 6) u3)
  (kg4:QK K mainGlobals "MOST_KINDS"=some (some u4)) (rv4:aL (.int 6) u4)
  (kg5:QK K mainGlobals "MOST_RULES"=some (some u5)) (rv5:aL (.int 24) u5)
  (kg6:QK K mainGlobals "LONGEST"=some (some u6)) (rv6:aL (.int 8) u6)
  {tO0:Value} {tD0:Option Addr} {tI0:Array Value} {tN0:Nat} {tS0:Array (Option Value)} (kt0:QK K mainGlobals "SORTS"=some (some (.ref aS))) (lt0:K.lookup aS=some ⟨tO0,tD0,.seq tI0 tN0,tS0⟩) (ctp0:tO0=.type "tuple") (zt0:tI0.size<=sizeLine) (vt0:aP ([V.str "leap",V.str "slide",V.str "jump"]) tI0.toList)
  {tO1:Value} {tD1:Option Addr} {tI1:Array Value} {tN1:Nat} {tS1:Array (Option Value)} (kt1:QK K mainGlobals "AIMS"=some (some (.ref aA))) (lt1:K.lookup aA=some ⟨tO1,tD1,.seq tI1 tN1,tS1⟩) (ctp1:tO1=.type "tuple") (zt1:tI1.size<=sizeLine) (vt1:aP ([V.str "go",V.str "hit",V.str "any"]) tI1.toList)
  {tO2:Value} {tD2:Option Addr} {tI2:Array Value} {tN2:Nat} {tS2:Array (Option Value)} (kt2:QK K mainGlobals "END_WORDS"=some (some (.ref aE))) (lt2:K.lookup aE=some ⟨tO2,tD2,.seq tI2 tN2,tS2⟩) (ctp2:tO2=.type "tuple") (zt2:tI2.size<=sizeLine) (vt2:aP ([V.str "without",V.str "home"]) tI2.toList)
  {tO3:Value} {tD3:Option Addr} {tI3:Array Value} {tN3:Nat} {tS3:Array (Option Value)} (kt3:QK K mainGlobals "STUCK_WORDS"=some (some (.ref aW))) (lt3:K.lookup aW=some ⟨tO3,tD3,.seq tI3 tN3,tS3⟩) (ctp3:tO3=.type "tuple") (zt3:tI3.size<=sizeLine) (vt3:aP ([V.str "lost",V.str "even",V.str "won"]) tI3.toList):
  ∃fd:FuncData,(∀(s:Shared) (v:Value),BindsTo s fd ⟨[v],[]⟩ [("_law_script",v)])/\∀base:Heap,K.In base->base.Ns mainGlobals mg->aQ l.prog w K mg base cE 10 fa fd ["_law_script"] (ut K):=by
 have e:=hfa.symm.trans (QN X G a59);cases e;have T:Txt mg aS aA aE aW:=⟨QM X G z0,QM X G z1,QM X G z2,QM X G z3,QM X G z4,QM X G z5,QM X G z6,QM X G z7,QM X G z8,QM X G z9,QM X G z10,QM X G z11,QM X G z12,QM X G z13,QM X G z14,QM X G z15,⟨_,QN X G kg0,rv0⟩,⟨_,QN X G kg1,rv1⟩,⟨_,QN X G kg2,rv2⟩,⟨_,QN X G kg3,rv3⟩,⟨_,QN X G kg4,rv4⟩,⟨_,QN X G kg5,rv5⟩,⟨_,QN X G kg6,rv6⟩,⟨_,QN X G kt0,rfl⟩,⟨_,QN X G kt1,rfl⟩,⟨_,QN X G kt2,rfl⟩,⟨_,QN X G kt3,rfl⟩⟩;have hT_SORTS:∀H,gH K H aS ["leap","slide","jump"]:=λ H=>.inr (.inr ⟨_,tI0,tN0,lt0,ctp0,rfl,zt0,vt0⟩);have hT_AIMS:∀H,gH K H aA ["go","hit","any"]:=λ H=>.inr (.inr ⟨_,tI1,tN1,lt1,ctp1,rfl,zt1,vt1⟩);have hT_END_WORDS:∀H,gH K H aE ["without","home"]:=λ H=>.inr (.inr ⟨_,tI2,tN2,lt2,ctp2,rfl,zt2,vt2⟩);have hT_STUCK_WORDS:∀H,gH K H aW ["lost","even","won"]:=λ H=>.inr (.inr ⟨_,tI3,tN3,lt3,ctp3,rfl,zt3,vt3⟩);have b1:=F1.binds (ps:=["thing"]) λ _ _ _ _ _ _=>L2.BA (λ _=>rfl);have b2:=F2.binds (ps:=["thing"]) λ _ _ _ _ _ _=>L2.BA (λ _=>rfl);have b3:=F3.binds (ps:=["thing","least","most"]) λ _ _ _ _ _ _=>L2.uP (λ _ _ _=>rfl);have b4:=F4.binds (ps:=["thing","words"]) λ _ _ _ _ _ _=>L2.jM (λ _ _=>rfl);have b5:=F5.binds (ps:=["thing","many"]) λ _ _ _ _ _ _=>L2.jM (λ _ _=>rfl);have b6:=F6.binds (ps:=["thing","least","most"]) λ _ _ _ _ _ _=>L2.uP (λ _ _ _=>rfl);have b7:=F7.binds (ps:=["sort","across","up"]) λ _ _ _ _ _ _=>L2.uP (λ _ _ _=>rfl);have b8:=F8.binds (ps:=["thing","kinds"]) λ _ _ _ _ _ _=>L2.jM (λ _ _=>rfl);have b9:=F9.binds (ps:=["thing","firsts","seconds"]) λ _ _ _ _ _ _=>L2.uP (λ _ _ _=>rfl);have b10:=F10.binds (ps:=["thing","firsts","seconds"]) λ _ _ _ _ _ _=>L2.uP (λ _ _ _=>rfl);have b11:=F11.binds (ps:=["thing","kinds"]) λ _ _ _ _ _ _=>L2.jM (λ _ _=>rfl);have b12:=F12.binds (ps:=["thing","kinds"]) λ _ _ _ _ _ _=>L2.jM (λ _ _=>rfl);have b13:=F13.binds (ps:=["thing"]) λ _ _ _ _ _ _=>L2.BA (λ _=>rfl);have b14:=F14.binds (ps:=["thing","kinds"]) λ _ _ _ _ _ _=>L2.jM (λ _ _=>rfl);have b15:=F15.binds (ps:=["kind","side"]) λ _ _ _ _ _ _=>L2.jM (λ _ _=>rfl);have b16:=F16.binds (ps:=["sign"]) λ _ _ _ _ _ _=>L2.BA (λ _=>rfl);have b17:=F17.binds (ps:=["sign"]) λ _ _ _ _ _ _=>L2.BA (λ _=>rfl);have b18:=F18.binds (ps:=["row","square","sign"]) λ _ _ _ _ _ _=>L2.uP (λ _ _ _=>rfl);have b19:=F19.binds (ps:=["row","side"]) λ _ _ _ _ _ _=>L2.jM (λ _ _=>rfl);have b20:=F20.binds (ps:=["board"]) λ _ _ _ _ _ _=>L2.BA (λ _=>rfl);have b21:=F21.binds (ps:=["game","thing"]) λ _ _ _ _ _ _=>L2.jM (λ _ _=>rfl);have b22:=F22.binds (ps:=["game","thing"]) λ _ _ _ _ _ _=>L2.jM (λ _ _=>rfl);have b23:=F23.binds (ps:=["board","square","across","up"]) λ _ _ _ _ _ _=>L2.Je (λ _ _ _ _=>rfl);have b24:=F24.binds (ps:=["row","side","aim","path"]) λ _ _ _ _ _ _=>L2.Je (λ _ _ _ _=>rfl);have b25:=F25.binds (ps:=["row","side","path"]) λ _ _ _ _ _ _=>L2.uP (λ _ _ _=>rfl);have b26:=F26.binds (ps:=["board","row","square","rule"]) λ _ _ _ _ _ _=>L2.Je (λ _ _ _ _=>rfl);have b27:=F27.binds (ps:=["game","row","square"]) λ _ _ _ _ _ _=>L2.uP (λ _ _ _=>rfl);have b28:=F28.binds (ps:=["wide","square"]) λ _ _ _ _ _ _=>L2.jM (λ _ _=>rfl);have b29:=F29.binds (ps:=["wide","square"]) λ _ _ _ _ _ _=>L2.jM (λ _ _=>rfl);have b30:=F30.binds (ps:=["wide","column","row"]) λ _ _ _ _ _ _=>L2.uP (λ _ _ _=>rfl);have b31:=F31.binds (ps:=["game","place"]) λ _ _ _ _ _ _=>L2.jM (λ _ _=>rfl);have b32:=F32.binds (ps:=["game","sign","side","goal"]) λ _ _ _ _ _ _=>L2.Je (λ _ _ _ _=>rfl);have b33:=F33.binds (ps:=["game","place","move"]) λ _ _ _ _ _ _=>L2.uP (λ _ _ _=>rfl);have b34:=F34.binds (ps:=["row","kind","side"]) λ _ _ _ _ _ _=>L2.uP (λ _ _ _=>rfl);have b35:=F35.binds (ps:=["board","row","kind","side"]) λ _ _ _ _ _ _=>L2.Je (λ _ _ _ _=>rfl);have b36:=F36.binds (ps:=["board","place","end"]) λ _ _ _ _ _ _=>L2.uP (λ _ _ _=>rfl);have b37:=F37.binds (ps:=["game","place"]) λ _ _ _ _ _ _=>L2.jM (λ _ _=>rfl);have b38:=F38.binds (ps:=["game","place"]) λ _ _ _ _ _ _=>L2.jM (λ _ _=>rfl);have b39:=F39.binds (ps:=["game","place"]) λ _ _ _ _ _ _=>L2.jM (λ _ _=>rfl);have b40:=F40.binds (ps:=["thing","many"]) λ _ _ _ _ _ _=>L2.jM (λ _ _=>rfl);have b41:=F41.binds (ps:=["self","wide","high","holes"]) λ _ _ _ _ _ _=>L2.Je (λ _ _ _ _=>rfl);have b42:=F42.binds (ps:=["self","square"]) λ _ _ _ _ _ _=>L2.jM (λ _ _=>rfl);have b43:=F43.binds (ps:=["self","square","across","up"]) λ _ _ _ _ _ _=>L2.Je (λ _ _ _ _=>rfl);have b44:=F44.binds (ps:=["self","side"]) λ _ _ _ _ _ _=>L2.jM (λ _ _=>rfl);have b45:=F45.binds (ps:=["self","board","kinds","rules","turns","ends","stuck"]) λ _ _ _ _ _ _=>L2.ln7 (λ _ _ _ _ _ _ _=>rfl);have b46:=F46.binds (ps:=["self","kind"]) λ _ _ _ _ _ _=>L2.jM (λ _ _=>rfl);have b47:=F47.binds (ps:=["self","kind"]) λ _ _ _ _ _ _=>L2.jM (λ _ _=>rfl);have b48:=F48.binds (ps:=["_law_script","_law_k"]) λ _ _ _ _ _ _=>L2.jM (λ _ _=>rfl);have b49:=F49.binds (ps:=["_law_cell","_law_k"]) λ _ _ _ _ _ _=>L2.jM (λ _ _=>rfl);have b50:=F50.binds (ps:=["_law_script"]) λ _ _ _ _ _ _=>L2.BA (λ _=>rfl);have b51:=F51.binds (ps:=["_law_cell"]) λ _ _ _ _ _ _=>L2.BA (λ _=>rfl);have b52:=F52.binds (ps:=["_law_cell","_law_kinds_here"]) λ _ _ _ _ _ _=>L2.jM (λ _ _=>rfl);have b53:=F53.binds (ps:=["_law_cell","_law_kinds_here"]) λ _ _ _ _ _ _=>L2.jM (λ _ _=>rfl);have b54:=F54.binds (ps:=["_law_script"]) λ _ _ _ _ _ _=>L2.BA (λ _=>rfl);have b55:=F55.binds (ps:=["_law_script","_law_game_here","_law_start"]) λ _ _ _ _ _ _=>L2.uP (λ _ _ _=>rfl);have b56:=F56.binds (ps:=["_law_game_here","_law_place","_law_move"]) λ _ _ _ _ _ _=>L2.uP (λ _ _ _=>rfl);have b57:=F57.binds (ps:=["_law_game_here","_law_place"]) λ _ _ _ _ _ _=>L2.jM (λ _ _=>rfl);have b58:=F58.binds (ps:=["_law_game_here","_law_place"]) λ _ _ _ _ _ _=>L2.jM (λ _ _=>rfl);have F59:=aF (st:=i8) l59 c59 k59;have b59:=F59.binds (ps:=["_law_script"]) λ _ _ _ _ _ _=>L2.BA (λ _=>rfl);have cl_Board:rf K cBoard:=⟨pgXBoard,hdXBoard,poXBoard,saXBoard⟩;have cl_Game:rf K cGame:=⟨pgXGame,hdXGame,poXGame,saXGame⟩;refine ⟨QR "law" "law" (eK i8) (dE i8) (ak i8) .none kV59 dc59 pm59 an59 cd59 ct59,λ s v=>.of_eq rfl,λ base _ _=>?_⟩;have C_is_whole:=mC l.prog w base X G a1 F1 b1 (qk F1 T);have C_is_letter:=mC l.prog w base X G a2 F2 b2 (og F2 T);have C_is_among:=mC l.prog w base X G a3 F3 b3 (qo F3 T ⟨C_is_whole⟩);have C_is_word:=mC l.prog w base X G a4 F4 b4 (sB F4 T);have C_is_tuple_of:=mC l.prog w base X G a5 F5 b5 (lm F5 T);have C_is_list_of:=mC l.prog w base X G a6 F6 b6 (md F6 T);have C_is_step:=mC l.prog w base X G a7 F7 b7 (sC F7 T ⟨C_is_among⟩);have R2:RG2 l.prog w K mg base:=⟨C_is_word,C_is_tuple_of⟩;have R3:RG3 l.prog w K mg base:={toRG2:=R2,is_step:=C_is_step};have C_is_rule:=mC l.prog w base X G a8 F8 b8 (sD F8 T hT_SORTS hT_AIMS R3);have C_is_pair:=mC l.prog w base X G a9 F9 b9 (sE F9 T R2);have C_are_pairs:=mC l.prog w base X G a10 F10 b10 (oo F10 T ⟨C_is_list_of,C_is_pair⟩);have C_is_ends:=mC l.prog w base X G a12 F12 b12 (sH F12 T hT_END_WORDS ⟨C_are_pairs⟩);have C_is_turns:=mC l.prog w base X G a11 F11 b11 (ql F11 T ⟨C_are_pairs⟩);have G1:NY l.prog w K mg base:=⟨C_is_list_of,C_is_letter,C_is_rule⟩;have C_are_kinds:=mC l.prog w base X G a13 F13 b13 (oq F13 T G1);have C_are_rules:=mC l.prog w base X G a14 F14 b14 (on F14 T G1);have G2:GG2 l.prog w K mg base:=⟨C_are_kinds,C_are_rules,C_is_turns,C_is_ends,C_is_word⟩;have GC:pD K cGame:=⟨cl_Game,naGameboard,naGamekinds,naGamerules,naGameturns,naGameends,naGamestuck⟩;have C_Game:m9 l.prog w K mg base "Game" cGame _ _ _:=⟨f45,_,⟨mkXGame,a45,iF45,kcXGame⟩,oB F45 T hT_STUCK_WORDS GC G2,QN X G aCGame,b45⟩;have DA:CA l.prog w K mg base:=⟨JN C_is_among⟩;have C_are_holes:=mC l.prog w base X G a40 F40 b40 (ou F40 T DA);have DB2:CB2 l.prog w K mg base:={toCA:=DA,are_holes:=C_are_holes};have BC:ij K cBoard:=⟨cl_Board,naBoardwide,naBoardhigh,naBoardholes,naBoardfirm⟩;have C_Board:m9 l.prog w K mg base "Board" cBoard _ _ _:=⟨f41,_,⟨mkXBoard,a41,iF41,kcXBoard⟩,mn F41 T BC DB2,QN X G aCBoard,b41⟩;have C_column_of:=mC l.prog w base X G a28 F28 b28 (om F28 T);have C_row_of:=mC l.prog w base X G a29 F29 b29 (wb F29 T);have C_square_at:=mC l.prog w base X G a30 F30 b30 (oa F30 T);have C_Board_moved:ku l.prog w K mg base cBoard "moved" _ _ _:=⟨⟨f43,_,lv F43 T BC ⟨C_column_of,C_row_of,C_square_at⟩,⟨a43,iF43,F43.kp⟩,b43⟩,cl_Board⟩;have DB3:CB3 l.prog w K mg base cBoard:={toCB2:=DB2,Board:=C_Board,Board_moved:=C_Board_moved};have C_ray:=mC l.prog w base X G a23 F23 b23 (IY F23 T BC DB3);have C_kind_of:=mC l.prog w base X G a16 F16 b16 (sA F16 T);have C_side_of:=mC l.prog w base X G a17 F17 b17 (sy F17 T);have C_sign_of:=mC l.prog w base X G a15 F15 b15 (sx F15 T);have C_squares_of:=mC l.prog w base X G a19 F19 b19 (ma F19 T ⟨C_side_of⟩);have C_put:=mC l.prog w base X G a18 F18 b18 (IZ F18 T);have C_Board_has:ku l.prog w K mg base cBoard "has" _ _ _:=⟨⟨f42,_,oC F42 T BC DA,⟨a42,iF42,F42.kp⟩,b42⟩,cl_Board⟩;have C_empty_row:=mC l.prog w base X G a20 F20 b20 (oj F20 T BC ⟨C_Board_has⟩);have C_is_row:=mC l.prog w base X G a21 F21 b21 (wd F21 T BC GC ⟨C_sign_of,C_empty_row⟩);have C_is_place:=mC l.prog w base X G a22 F22 b22 (qm F22 T ⟨C_is_tuple_of,C_is_among,C_is_row⟩);have C_Game_turned:ku l.prog w K mg base cGame "turned" _ _ _:=⟨⟨f47,_,lu F47 T GC,⟨a47,iF47,F47.kp⟩,b47⟩,cl_Game⟩;have S1:CRs l.prog w K mg base:=⟨C_side_of⟩;have C_slid:=mC l.prog w base X G a24 F24 b24 (Cc F24 T S1);have C_jumped:=mC l.prog w base X G a25 F25 b25 (wc F25 T S1);have S2:CRb l.prog w K mg base cBoard:={toCRs:=S1,ray:=C_ray,jumped:=C_jumped,slid:=C_slid};have C_by_rule:=mC l.prog w base X G a26 F26 b26 (sJ F26 T S2);have C_Game_rules_of:ku l.prog w K mg base cGame "rules_of" _ _ _:=⟨⟨f46,_,jJ F46 T GC,⟨a46,iF46,F46.kp⟩,b46⟩,cl_Game⟩;have C_goals:=mC l.prog w base X G a27 F27 b27 (Am F27 T GC ⟨C_kind_of,C_by_rule,C_Game_rules_of⟩);have C_moves:=mC l.prog w base X G a31 F31 b31 (Al F31 T ⟨C_squares_of,C_goals⟩);have C_has_kind:=mC l.prog w base X G a34 F34 b34 (qq F34 T ⟨C_sign_of⟩);have C_Board_far_row:ku l.prog w K mg base cBoard "far_row" _ _ _:=⟨⟨f44,_,jK F44 T BC,⟨a44,iF44,F44.kp⟩,b44⟩,cl_Board⟩;have C_is_home:=mC l.prog w base X G a35 F35 b35 (sG F35 T BC ⟨C_has_kind,C_Board_far_row⟩);have C_by_end:=mC l.prog w base X G a36 F36 b36 (wf F36 T ⟨C_has_kind,C_is_home⟩);have C_by_ends:=mC l.prog w base X G a37 F37 b37 (sK F37 T GC ⟨C_by_end⟩);have C_ending:=mC l.prog w base X G a38 F38 b38 (we F38 T GC ⟨C_by_ends,C_moves⟩);have C_arrived:=mC l.prog w base X G a32 F32 b32 (sL F32 T BC GC ⟨C_kind_of,C_sign_of,C_row_of,C_Board_far_row,C_Game_turned⟩);have C_behind:=mC l.prog w base X G a33 F33 b33 (wg F33 T ⟨C_arrived,C_put⟩);have C_followers:=mC l.prog w base X G a39 F39 b39 (oh F39 T ⟨C_by_ends,C_moves,C_behind⟩);have C__law_cell_at:=mC l.prog w base X G a48 F48 b48 (km F48 T);have C__law_mixed:=mC l.prog w base X G a49 F49 b49 (mf F49 T);have LG:LG1 l.prog w K mg base:=⟨C__law_cell_at,C__law_mixed⟩;have C__law_board:=mC l.prog w base X G a50 F50 b50 (mj F50 T LG);have C__law_kinds:=mC l.prog w base X G a51 F51 b51 (mh F51 T);have C__law_rule:=mC l.prog w base X G a52 F52 b52 (ow F52 T);have C__law_turns:=mC l.prog w base X G a53 F53 b53 (me F53 T);have LGG:LGg l.prog w K mg base cBoard cGame:={toLG1:=LG,_law_board:=C__law_board,_law_kinds:=C__law_kinds,_law_rule:=C__law_rule,_law_turns:=C__law_turns,Board:=C_Board,Game:=C_Game};have C__law_game:=mC l.prog w base X G a54 F54 b54 (oA F54 T LGG);have C__law_row:=mC l.prog w base X G a55 F55 b55 (qr F55 T BC GC LG);have C__law_behind:=mC l.prog w base X G a56 F56 b56 (lq F56 T BC GC);have C__law_due:=mC l.prog w base X G a57 F57 b57 (qu F57 T ⟨C_ending,C_moves,C__law_behind⟩);have C__law_good:=mC l.prog w base X G a58 F58 b58 (oz F58 T ⟨C__law_due,C_followers,C_is_place⟩);have C:CL l.prog w K mg base cBoard cGame:={toLG1:=LG,_law_game:=C__law_game,_law_row:=C__law_row,followers:=C_followers,_law_good:=C__law_good};exact Ja F59 T BC GC C
theorem walk {l:PySem.W.OpenLaw}{q:Program}{loose:List Str}{XP:(Str->Option Value)->Heap->Prop}{YP:World->Heap->Prop}{d:DefRec}{K:Params->Frag}(hn:l.most=some 63) (hdf:d.params.defaults=[])
  (hY:∀(w:World) (h:Heap),YP w h->(K w.params).In h)
  (F:∀(w:World) (mg:Str->Option Value) (fa:Addr) (h:Heap),(K w.params).In h->h.Ns mainGlobals mg->mg d.name=some (.ref fa)->
   ∃fd:FuncData,(∀(s:Shared) (u:Value),BindsTo s fd ⟨[u],[]⟩ [("_law_script",u)])/\∀base:Heap,(K w.params).In base->base.Ns mainGlobals mg->aQ l.prog w (K w.params) mg base cE 10 fa fd ["_law_script"] (ut (K w.params))):
  PySem.W.WalkO q loose XP YP l.row.toRowW d [] (λ f vs=>PySem.call f vs):=
 L2.BK (n:=63) (k:=10) (x:="_law_script") (CX:=λ _=>cE) (sp:=λ w=>ut (K w.params)) hn (by decide) hdf ⟨rfl,by decide,by decide⟩ hY F (λ _ _ a ns hl _ hS=>⟨a,ns,rfl,hS,hl,λ _=>rfl⟩) λ _ _ _ _ _ z=>z
end K18
open PySem PySem.W PyProof.Rows
set_option maxRecDepth 100000 in
set_option maxHeartbeats 0 in
theorem PySem.Challenge.cw_playboard_k18_followers_holds : PySem.Challenge.rw_playboard_k18_followers.Holds := by
 w_on
 o_law
 refine PySem.W.holds_openX (q:=K18.hQ) (loose:=[]) (Xt:=K18.hX) (XP:=PySem.W.XL K18.hQ []) (Yf:=L2.u9 K18.hA) (Ya:=L2.u7 K18.hK) K18.hleft (λ s e=>PySem.W.xl_of s (Qy.mp e).1) PySem.W.XL.keeps (by rfl) (by rfl) (by rfl) (λ s e=>PySem.W.recFacts_of (Qy.mp e).2) (by rfl) (by first | assumption | decide+kernel) (by decide+kernel) ⟨rfl,rfl,rfl,rfl,rfl,by decide+kernel⟩ ?hw ?hc
 (case hw=>w_witness2)
 k_fill
 refine L2.zp (L2.MD (λ _=>by kernel_rfl)) ?_;refine K18.walk (l:=PySem.Challenge.rw_playboard_k18_followers) rfl rfl (λ w h Y=>Y) ?F
 case F=>
  intro w mg fa h KX G hmg
  refine' K18.all_mk KX G hmg ?aCBoard ?aCGame ?a1 ?F1 ?a2 ?F2 ?a3 ?F3 ?a4 ?F4 ?a5 ?F5 ?a6 ?F6 ?a7 ?F7 ?a8 ?F8 ?a9 ?F9 ?a10 ?F10 ?a11 ?F11 ?a12 ?F12 ?a13 ?F13 ?a14 ?F14 ?a15 ?F15 ?a16 ?F16 ?a17 ?F17 ?a18 ?F18 ?a19 ?F19 ?a20 ?F20 ?a21 ?F21 ?a22 ?F22 ?a23 ?F23 ?a24 ?F24 ?a25 ?F25 ?a26 ?F26 ?a27 ?F27 ?a28 ?F28 ?a29 ?F29 ?a30 ?F30 ?a31 ?F31 ?a32 ?F32 ?a33 ?F33 ?a34 ?F34 ?a35 ?F35 ?a36 ?F36 ?a37 ?F37 ?a38 ?F38 ?a39 ?F39 ?a40 ?F40 ?a41 ?iF41 ?F41 ?a42 ?iF42 ?F42 ?a43 ?iF43 ?F43 ?a44 ?iF44 ?F44 ?a45 ?iF45 ?F45 ?a46 ?iF46 ?F46 ?a47 ?iF47 ?F47 ?a48 ?F48 ?a49 ?F49 ?a50 ?F50 ?a51 ?F51 ?a52 ?F52 ?a53 ?F53 ?a54 ?F54 ?a55 ?F55 ?a56 ?F56 ?a57 ?F57 ?a58 ?F58 ?a59 ?l59 ?c59 ?k59 ?pgXBoard ?hdXBoard ?poXBoard ?saXBoard ?mkXBoard ?kcXBoard ?naBoardwide ?naBoardhigh ?naBoardholes ?naBoardfirm ?pgXGame ?hdXGame ?poXGame ?saXGame ?mkXGame ?kcXGame ?naGameboard ?naGamekinds ?naGamerules ?naGameturns ?naGameends ?naGamestuck ?z0 ?z1 ?z2 ?z3 ?z4 ?z5 ?z6 ?z7 ?z8 ?z9 ?z10 ?z11 ?z12 ?z13 ?z14 ?z15 ?kg0 ?rv0 ?kg1 ?rv1 ?kg2 ?rv2 ?kg3 ?rv3 ?kg4 ?rv4 ?kg5 ?rv5 ?kg6 ?rv6 ?kt0 ?lt0 ?ctp0 ?zt0 ?vt0 ?kt1 ?lt1 ?ctp1 ?zt1 ?vt1 ?kt2 ?lt2 ?ctp2 ?zt2 ?vt2 ?kt3 ?lt3 ?ctp3 ?zt3 ?vt3
  (case aCBoard=>k_is)
  (case aCGame=>k_is)
  (case a1=>k_is)
  (case F1=>exact L2.aF (by k_is) (by k_is) (by k_is))
  (case a2=>k_is)
  (case F2=>exact L2.aF (by k_is) (by k_is) (by k_is))
  (case a3=>k_is)
  (case F3=>exact L2.aF (by k_is) (by k_is) (by k_is))
  (case a4=>k_is)
  (case F4=>exact L2.aF (by k_is) (by k_is) (by k_is))
  (case a5=>k_is)
  (case F5=>exact L2.aF (by k_is) (by k_is) (by k_is))
  (case a6=>k_is)
  (case F6=>exact L2.aF (by k_is) (by k_is) (by k_is))
  (case a7=>k_is)
  (case F7=>exact L2.aF (by k_is) (by k_is) (by k_is))
  (case a8=>k_is)
  (case F8=>exact L2.aF (by k_is) (by k_is) (by k_is))
  (case a9=>k_is)
  (case F9=>exact L2.aF (by k_is) (by k_is) (by k_is))
  (case a10=>k_is)
  (case F10=>exact L2.aF (by k_is) (by k_is) (by k_is))
  (case a11=>k_is)
  (case F11=>exact L2.aF (by k_is) (by k_is) (by k_is))
  (case a12=>k_is)
  (case F12=>exact L2.aF (by k_is) (by k_is) (by k_is))
  (case a13=>k_is)
  (case F13=>exact L2.aF (by k_is) (by k_is) (by k_is))
  (case a14=>k_is)
  (case F14=>exact L2.aF (by k_is) (by k_is) (by k_is))
  (case a15=>k_is)
  (case F15=>exact L2.aF (by k_is) (by k_is) (by k_is))
  (case a16=>k_is)
  (case F16=>exact L2.aF (by k_is) (by k_is) (by k_is))
  (case a17=>k_is)
  (case F17=>exact L2.aF (by k_is) (by k_is) (by k_is))
  (case a18=>k_is)
  (case F18=>exact L2.aF (by k_is) (by k_is) (by k_is))
  (case a19=>k_is)
  (case F19=>exact L2.aF (by k_is) (by k_is) (by k_is))
  (case a20=>k_is)
  (case F20=>exact L2.aF (by k_is) (by k_is) (by k_is))
  (case a21=>k_is)
  (case F21=>exact L2.aF (by k_is) (by k_is) (by k_is))
  (case a22=>k_is)
  (case F22=>exact L2.aF (by k_is) (by k_is) (by k_is))
  (case a23=>k_is)
  (case F23=>exact L2.aF (by k_is) (by k_is) (by k_is))
  (case a24=>k_is)
  (case F24=>exact L2.aF (by k_is) (by k_is) (by k_is))
  (case a25=>k_is)
  (case F25=>exact L2.aF (by k_is) (by k_is) (by k_is))
  (case a26=>k_is)
  (case F26=>exact L2.aF (by k_is) (by k_is) (by k_is))
  (case a27=>k_is)
  (case F27=>exact L2.aF (by k_is) (by k_is) (by k_is))
  (case a28=>k_is)
  (case F28=>exact L2.aF (by k_is) (by k_is) (by k_is))
  (case a29=>k_is)
  (case F29=>exact L2.aF (by k_is) (by k_is) (by k_is))
  (case a30=>k_is)
  (case F30=>exact L2.aF (by k_is) (by k_is) (by k_is))
  (case a31=>k_is)
  (case F31=>exact L2.aF (by k_is) (by k_is) (by k_is))
  (case a32=>k_is)
  (case F32=>exact L2.aF (by k_is) (by k_is) (by k_is))
  (case a33=>k_is)
  (case F33=>exact L2.aF (by k_is) (by k_is) (by k_is))
  (case a34=>k_is)
  (case F34=>exact L2.aF (by k_is) (by k_is) (by k_is))
  (case a35=>k_is)
  (case F35=>exact L2.aF (by k_is) (by k_is) (by k_is))
  (case a36=>k_is)
  (case F36=>exact L2.aF (by k_is) (by k_is) (by k_is))
  (case a37=>k_is)
  (case F37=>exact L2.aF (by k_is) (by k_is) (by k_is))
  (case a38=>k_is)
  (case F38=>exact L2.aF (by k_is) (by k_is) (by k_is))
  (case a39=>k_is)
  (case F39=>exact L2.aF (by k_is) (by k_is) (by k_is))
  (case a40=>k_is)
  (case F40=>exact L2.aF (by k_is) (by k_is) (by k_is))
  (case a41=>k_is)
  (case iF41=>k_is)
  (case F41=>exact L2.aF (by k_is) (by k_is) (by k_is))
  (case a42=>k_is)
  (case iF42=>k_is)
  (case F42=>exact L2.aF (by k_is) (by k_is) (by k_is))
  (case a43=>k_is)
  (case iF43=>k_is)
  (case F43=>exact L2.aF (by k_is) (by k_is) (by k_is))
  (case a44=>k_is)
  (case iF44=>k_is)
  (case F44=>exact L2.aF (by k_is) (by k_is) (by k_is))
  (case a45=>k_is)
  (case iF45=>k_is)
  (case F45=>exact L2.aF (by k_is) (by k_is) (by k_is))
  (case a46=>k_is)
  (case iF46=>k_is)
  (case F46=>exact L2.aF (by k_is) (by k_is) (by k_is))
  (case a47=>k_is)
  (case iF47=>k_is)
  (case F47=>exact L2.aF (by k_is) (by k_is) (by k_is))
  (case a48=>k_is)
  (case F48=>exact L2.aF (by k_is) (by k_is) (by k_is))
  (case a49=>k_is)
  (case F49=>exact L2.aF (by k_is) (by k_is) (by k_is))
  (case a50=>k_is)
  (case F50=>exact L2.aF (by k_is) (by k_is) (by k_is))
  (case a51=>k_is)
  (case F51=>exact L2.aF (by k_is) (by k_is) (by k_is))
  (case a52=>k_is)
  (case F52=>exact L2.aF (by k_is) (by k_is) (by k_is))
  (case a53=>k_is)
  (case F53=>exact L2.aF (by k_is) (by k_is) (by k_is))
  (case a54=>k_is)
  (case F54=>exact L2.aF (by k_is) (by k_is) (by k_is))
  (case a55=>k_is)
  (case F55=>exact L2.aF (by k_is) (by k_is) (by k_is))
  (case a56=>k_is)
  (case F56=>exact L2.aF (by k_is) (by k_is) (by k_is))
  (case a57=>k_is)
  (case F57=>exact L2.aF (by k_is) (by k_is) (by k_is))
  (case a58=>k_is)
  (case F58=>exact L2.aF (by k_is) (by k_is) (by k_is))
  (case a59=>k_is)
  (case l59=>k_is)
  (case c59=>k_is)
  (case k59=>k_is)
  (case pgXBoard=>k_is)
  (case hdXBoard=>k_is)
  (case poXBoard=>k_is)
  (case saXBoard=>k_is)
  (case mkXBoard=>k_is)
  (case kcXBoard=>k_is)
  (case naBoardwide=>k_is)
  (case naBoardhigh=>k_is)
  (case naBoardholes=>k_is)
  (case naBoardfirm=>k_is)
  (case pgXGame=>k_is)
  (case hdXGame=>k_is)
  (case poXGame=>k_is)
  (case saXGame=>k_is)
  (case mkXGame=>k_is)
  (case kcXGame=>k_is)
  (case naGameboard=>k_is)
  (case naGamekinds=>k_is)
  (case naGamerules=>k_is)
  (case naGameturns=>k_is)
  (case naGameends=>k_is)
  (case naGamestuck=>k_is)
  (case z0=>k_is)
  (case z1=>k_is)
  (case z2=>k_is)
  (case z3=>k_is)
  (case z4=>k_is)
  (case z5=>k_is)
  (case z6=>k_is)
  (case z7=>k_is)
  (case z8=>k_is)
  (case z9=>k_is)
  (case z10=>k_is)
  (case z11=>k_is)
  (case z12=>k_is)
  (case z13=>k_is)
  (case z14=>k_is)
  (case z15=>k_is)
  (case kg0=>k_is)
  (case rv0=>exact ⟨_,rfl⟩)
  (case kg1=>k_is)
  (case rv1=>exact ⟨_,rfl⟩)
  (case kg2=>k_is)
  (case rv2=>exact ⟨_,rfl⟩)
  (case kg3=>k_is)
  (case rv3=>exact ⟨_,rfl⟩)
  (case kg4=>k_is)
  (case rv4=>exact ⟨_,rfl⟩)
  (case kg5=>k_is)
  (case rv5=>exact ⟨_,rfl⟩)
  (case kg6=>k_is)
  (case rv6=>exact ⟨_,rfl⟩)
  (case kt0=>k_is)
  (case lt0=>k_is)
  (case ctp0=>rfl)
  (case zt0=>decide)
  (case vt0=>exact .cons ⟨_,rfl⟩ (.cons ⟨_,rfl⟩ (.cons ⟨_,rfl⟩ (.nil))))
  (case kt1=>k_is)
  (case lt1=>k_is)
  (case ctp1=>rfl)
  (case zt1=>decide)
  (case vt1=>exact .cons ⟨_,rfl⟩ (.cons ⟨_,rfl⟩ (.cons ⟨_,rfl⟩ (.nil))))
  (case kt2=>k_is)
  (case lt2=>k_is)
  (case ctp2=>rfl)
  (case zt2=>decide)
  (case vt2=>exact .cons ⟨_,rfl⟩ (.cons ⟨_,rfl⟩ (.nil)))
  (case kt3=>k_is)
  (case lt3=>k_is)
  (case ctp3=>rfl)
  (case zt3=>decide)
  (case vt3=>exact .cons ⟨_,rfl⟩ (.cons ⟨_,rfl⟩ (.cons ⟨_,rfl⟩ (.nil))))
