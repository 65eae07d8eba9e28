import PyProof.Rows.All
import Wide.All
import OpenK.AllK
import Wide.FinOn
import Lean
import PyProof.EqAt
import PyProof.EqKinds
import PyProof.TupleCall
import KE.KIntText
import KE.IntTextLaws
import KE.IntText
import KE.KRevIter
import KE.KEqDict
import PyProof.ZipIter
import PyProof.Draws
import PyProof.EnumMake
import PyProof.SetScanFacts
import PyProof.ListStr
import PyProof.SetKind
import PyProof.CollectWalk
import PyProof.FactsAll.set
import PyProof.StrLoop
import PyProof.TupleKey
import KE.KSortTup
import PyProof.Rows.SortWalk
import PyProof.Rows.SortStr
import PyProof.NeKinds
import OpenK.ZGo
import PySem.Challenge.RW_playboard_k13_moves
set_option Elab.async false
set_option linter.all false
set_option maxRecDepth 100000
set_option maxHeartbeats 4000000
open List renaming length_map → y3, mem_map → y4, mem_cons → y6, getElem?_eq_getElem → y7, getElem?_map → y8, size_toArray → y9, getD_eq_getElem?_getD → zb, mem_range → zc, mem_cons_of_mem → zg, mem_singleton → zh, mem_cons_self → zi, mem_append → zj, map_map → zk, length_append → zm, map_append → zn, getElem?_eq_some_iff → zo, getElem_mem → zp, not_mem_nil → zq, mem_append_right → zr, append_nil → zt, mem_of_getElem? → zu, pairwise_map → zv, length_cons → zw, length_take → zx, mem_filter → zy, all_eq_true → zA, map_cons → zB, nodup_iff_pairwise_ne → zC, all_cons → zD, getElem?_eq_none → zE, any_eq_true → zF, filter_eq_self → zG, map_congr_left → zH, length_range → zI, getElem?_range → zJ, mem_append_left → zK, any_eq_false → zL, lookup_cons → zM, length_filter_le → zN, nodup_cons → zO, getElem_of_mem → zP, filterMap_cons → zQ, ext_getElem? → zR, range_succ → zS, filter_cons → zT, mem_of_mem_take → zU, filter_map → zV, append_assoc → zW, nodup_nil → zX, mem_filterMap → zY, nodup_append → zZ, pairwise_cons → Aa, getElem?_of_mem → Ab, getElem?_append_left → Ac, map_nil → Ad, any_cons → Ae, drop_eq_getElem_cons → Af, drop_zero → Ag, any_map → Ah, take_length → Ai, length_pos_of_mem → Aj, nodup_range → Ak, pairwise_iff_getElem → Al, map_take → Am, set_cons_zero → An, getElem_inj → Ao, getElem?_set_self → Ap, getElem?_set_ne → Aq, of_mem_zip → Ar, take_sublist → As, length_drop → At, length_singleton → Au, length_eq_zero_iff → Aw, getElem?_toArray → Ax, filter_append → Ay, length_erase_of_mem → Az, mem_erase_of_ne → AA, getElem_append_left → AB, getElem_append_right → AC, filter_congr → AD, all_map → AE, take_succ_eq_append_getElem → AF, getElem?_append_right → AG, getElem?_take_of_lt → AH, mem_iff_getElem → AI, mem_of_mem_drop → AJ, pairwise_append → AK, mem_drop_iff_getElem → AL, length_eraseIdx_of_lt → AM, perm_cons_erase → AN, pairwise_singleton → AO, getElem?_cons_zero → AQ, getElem?_cons_succ → AR, set_cons_succ → AS, drop_eq_nil_iff → AT
open Nat renaming le_refl → AU, zero_le → AV, ne_of_lt → AW, le_trans → AX, lt_of_lt_of_le → AY, le_succ → AZ, lt_irrefl → A0, ne_of_gt → A1, le_of_eq → A2, lt_succ_of_lt → A3, zero_add → A4, le_of_lt → A5, lt_succ_self → A6, succ_ne_self → A7, lt_trichotomy → A8, lt_trans → A9, mod_lt → Ba, succ_pos → Bb, le_add_right → Bc, sub_zero → Bd, eq_zero_or_pos → Be, le_of_ble_eq_true → Bf
open Int renaming emod_nonneg → Bg, emod_lt_of_pos → Bh, toNat_natCast → Bi, zero_add → Bj, mul_le_mul → Bk, mul_comm → Bl, mul_le_mul_of_nonneg_left → Bm, one_mul → Bn, emod_eq_of_lt → Bo, toNat_of_nonneg → Bp, mul_nonneg → Bq, mul_le_mul_of_nonneg_right → Br, emod_eq_emod_iff_emod_sub_eq_zero → Bs
open Bool renaming false_ne_true → Bt, and_eq_true → Bu, false_eq_true → Bv, eq_iff_iff → Bw, not_true → Bx, true_and → By, or_false → Bz, or_eq_true → BA, and_false → BB, and_true → BD, or_eq_false_iff → BE, not_eq_true' → BF, and_eq_true_iff → BG
open Array renaming getElem?_eq_getElem → BH, getElem?_toList → BI, getElem?_eq_none → BJ, length_toList → BK, size_map → BL, toList_inj → BM, toList_push → BN, getElem_toList → BO, forIn_toList → BP
open Option renaming map_eq_some_iff → BQ, getD_none → BR
open PySem.W renaming mg_of → BS, mg_none_of → BU, kia_one → BV, boot_heap → BW, plainGet_of → BX, callWith_K → BY, boot_o_2 → BZ, kitx_list → B0, kitx_dict → B2, cellsFrom_some → B3, boot_o_0 → B4, boot_o_1 → B5, boot_o_7 → B6, boot_o_5 → B7, boot_o_9 → B8, boot_o_4 → B9, boot_o_8 → Ca, boot_o_6 → Cb, boot_o_10 → Cc, piece_app → Cd, segRun_of → Ce
open PySem.W (Frag)
namespace L2
open PySem PySem.Spec PyProof.Rows
abbrev Key:=Sum Int Str
def keyIs:Key->Value->Bool
 | .inl k,v=>Value.isInt k v
 | .inr x,v=>Value.isStrOf x v
def keyH (w:World):Key->Int
 | .inl k=>hashInt k
 | .inr x=>hashStr w x
theorem bL:∀{k:Key}{v:Value},keyIs k v=true->(∃i t,k=Sum.inl i/\v=Value.int i t)\/(∃x t,k=Sum.inr x/\v=Value.str x t)
 | .inl i,v,h=>by
   obtain ⟨t,e⟩:=Value.isInt_shape (k:=i) (v:=v) h
   exact .inl ⟨i,t,rfl,e⟩
 | .inr x,v,h=>by
   obtain ⟨t,e⟩:=Value.isStrOf_shape (x:=x) (v:=v) h
   exact .inr ⟨x,t,rfl,e⟩
theorem key_ll (a b:Int):decide ((Sum.inl a:Key)=Sum.inl b)=(a == b):=by
 by_cases e:a=b
 ·subst e; simp
 ·have h:¬(Sum.inl a:Key)=Sum.inl b:=λ q=>e (Sum.inl.inj q)
  rw [decide_eq_false h]
  exact (beq_eq_false_iff_ne.mpr e).symm
theorem key_rr (a b:Str):decide ((Sum.inr a:Key)=Sum.inr b)=decide (a=b):=by
 by_cases e:a=b
 ·subst e; simp
 ·have h:¬(Sum.inr a:Key)=Sum.inr b:=λ q=>e (Sum.inr.inj q)
  rw [decide_eq_false h,decide_eq_false e]
theorem key_lr (a:Int) (b:Str):decide ((Sum.inl a:Key)=Sum.inr b)=false:=decide_eq_false (λ q=>nomatch q)
theorem key_rl (a:Str) (b:Int):decide ((Sum.inr a:Key)=Sum.inl b)=false:=decide_eq_false (λ q=>nomatch q)
def sN (prog:Program) (w:World):PySem.KeyKind prog w Key where
 is:=keyIs
 hash:=keyH w
 inj:=λ v a b ha hb=>by
  rcases bL ha with ⟨i,t,rfl,rfl⟩ | ⟨x,t,rfl,rfl⟩
  ·rcases bL hb with ⟨j,u,rfl,e⟩ | ⟨y,u,rfl,e⟩
   ·injection e with e1 _; rw [e1]
   ·exact nomatch e
  ·rcases bL hb with ⟨j,u,rfl,e⟩ | ⟨y,u,rfl,e⟩
   ·exact nomatch e
   ·injection e with e1 _; rw [e1]
 byValue:=λ k v h=>by
   rcases bL h with ⟨i,t,rfl,rfl⟩ | ⟨x,t,rfl,rfl⟩<;>rfl
 pyHash:=λ hv h=>by
  rcases bL hv with ⟨i,t,rfl,rfl⟩ | ⟨x,t,rfl,rfl⟩
  ·exact wpAny_pyHash_int h
  ·exact wpAny_pyHash_str h
 eqBool:=λ hu hv h=>by
  rcases bL hu with ⟨i,t,rfl,rfl⟩ | ⟨x,t,rfl,rfl⟩
  ·rcases bL hv with ⟨j,u,rfl,rfl⟩ | ⟨y,u,rfl,rfl⟩
   ·rw [key_ll] at h; exact wpAny_eqBool_int h
   ·rw [key_lr] at h; exact SeqAt.EqAt.int_str i t y u _ _ _ _ h
  ·rcases bL hv with ⟨j,u,rfl,rfl⟩ | ⟨y,u,rfl,rfl⟩
   ·rw [key_rl] at h; exact SeqAt.EqAt.str_int x t j u _ _ _ _ h
   ·rw [key_rr] at h; exact wpAny_eqBool_str h
 «strs» :=λ k x t v h=>by
  rcases bL h with ⟨i,u,rfl,e⟩ | ⟨y,u,rfl,e⟩
  ·exact nomatch e
  ·injection e with e1 _
   subst e1
   cases v<;>rfl
end L2
namespace L2
open PySem PySem.Spec PyProof.Rows
inductive V where
 | non | bl (b:Bool) | int (i:Int) | str (x:Str) | byt (b:Array UInt8) | flt (b:UInt64) | ref (a:Addr) | ty (n:String)
 deriving DecidableEq
def aN:V->Value->Prop
 | .non,u=>u=Value.none
 | .bl b,u=>u=Value.bool b
 | .int i,u=> ∃t,u=Value.int i t
 | .str x,u=> ∃t,u=Value.str x t
 | .byt b,u=> ∃t,u=Value.bytes b t
 | .flt b,u=> ∃t,u=Value.float b t
 | .ref a,u=>u=Value.ref a
 | .ty n,u=>u=Value.type n
abbrev aP:List V->List Value->Prop:=Paired aN
theorem aP.length {xs:List V}{us:List Value}(r:aP xs us):xs.length=us.length:=Paired.length r
theorem aP.get:∀{xs:List V}{us:List Value}{i:Nat}{x:V},aP xs us->xs[i]? =some x->∃u,us[i]? =some u/\aN x u
 | _,_,_,_,.nil,e=>by simp at e
 | _,_,0,_,.cons r _,e=>by simp at e; subst e; exact ⟨_,rfl,r⟩
 | _,_,i+1,x,.cons _ t,e=>by
   obtain ⟨u,h1,h2⟩:=aP.get (i:=i) (x:=x) t (by simpa using e)
   exact ⟨u,by simpa using h1,h2⟩
theorem aP.set {x:V}{u:Value}(r:aN x u):∀{xs:List V}{us:List Value}(i:Nat),aP xs us->aP (xs.set i x) (us.set i u)
 | _,_,_,.nil=>.nil
 | _,_,0,.cons _ t=>.cons r t
 | _,_,i+1,.cons q t=>.cons q (aP.set r i t)
theorem aP.append:∀{xs ys:List V}{us ws:List Value},aP xs us->aP ys ws->aP (xs++ys) (us++ws)
 | _,_,_,_,.nil,s=>s
 | _,_,_,_,.cons r t,s=>.cons r (aP.append t s)
theorem aP.take:∀{xs:List V}{us:List Value}(n:Nat),aP xs us->aP (xs.take n) (us.take n)
 | _,_,0,_=>.nil
 | _,_,_+1,.nil=>.nil
 | _,_,n+1,.cons r t=>.cons r (aP.take n t)
theorem aP.drop:∀{xs:List V}{us:List Value}(n:Nat),aP xs us->aP (xs.drop n) (us.drop n)
 | _,_,0,r=>r
 | _,_,_+1,.nil=>.nil
 | _,_,n+1,.cons _ t=>aP.drop n t
def lw:Option V->Option Value->Prop
 | some v,some u=>aN v u
 | none,none=>True
 | _,_=>False
def KV {κ:Type}:List (κ×V)->List (κ×Value)->Prop:=Paired λ (p:κ×V) (q:κ×Value)=>p.1=q.1/\aN p.2 q.2
def kV:Key->V
 | .inl i=>.int i
 | .inr x=>.str x
inductive HO where
 | lst (xs:List V)
 | tup (xs:List V)
 | dK (kvs:List (Key×V)) | dT (kvs:List (List Key×V))
 | set (S:Int->Bool) (n:Nat)
 | ins (C dx:Addr) (fs:List (Str×V))
 | own (x:Addr)
 | xd (fs:List (Str×V))
 | met (f x:Addr)
 | rng (lo hi:Int)
 | frz (o:Obj) (u:HO)
 | tbl (ps:Array Value)
 | ext (φ:Heap->Prop)
abbrev Hp:=Addr->Option HO
def upd (H:Hp) (a:Addr) (o:HO):Hp:=λ b=>if b=a then some o else H b
theorem af {H:Hp}{a:Addr}{o:HO}:upd H a o a=some o:=by unfold upd; rw [if_pos rfl]
theorem aq {H:Hp}{a b:Addr}{o:HO}(h:b≠a):upd H a o b=H b:=by unfold upd; rw [if_neg h]
theorem ar {H:Hp}{a b:Addr}{o:HO}(h:H a=some o) (h':H b=none):a≠b:=by
 intro e; subst e; rw [h] at h'; cases h'
section
variable (P:Program) (w:World)
def bH (H:Hp) (h:Heap) (a:Addr):HO->Prop
 | .lst xs=>xs.length<=sizeLine/\∃(its:List Value) (n:Nat),aP xs its/\h.get? a=some {cls:=.type "list",data:=.seq its.toArray n}
 | .tup xs=>xs.length<=sizeLine/\∃its:List Value,aP xs its/\IsTup h a its.toArray
 | .dK kvs=>kvs.length<=sizeLine/\(a == sysModules)=false/\∃vs,KV kvs vs/\h.DictOf (sN P w) a vs
 | .dT kvs=>kvs.length<=sizeLine/\(a == sysModules)=false/\∃xs:List (List Key×Addr×Value),
   Paired (λ (p:List Key×V) (q:List Key×Addr×Value)=>p.1=q.1/\H q.2.1=some (.tup (p.1.map kV))/\aN p.2 q.2.2) kvs xs/\
   ∃o es ep,h.get? a=some o/\o.ExactDict/\o.data=.dict es ep/\es.toList=xs.map (entryOfKey (tupleKind (sN P w)))/\(xs.map (·.1)).Nodup
 | .set S n=>h.SetOf (intKind P w) a S n
 | .ins C dx fs=>H dx=some (.own a)/\fs.length<=1000/\dx≠a/\h.get? a=some (PySem.W.instObj C dx)/\
   ∃mA,h.Ns1 dx mA/\(∀f,lw (fs.lookup f) (mA f))/\PySem.Within mA (fs.map (·.1))
 | .own _=> ∃o,h.get? a=some o
 | .xd fs=> ∃mA,h.Ns1 a mA/\∀f,lw (fs.lookup f) (mA f)
 | .rng lo hi=> ∃t u v,h.get? a=some {cls:=.type "range",data:=.fields #[.int lo t,.int hi u,.int 1 v]}
 | .frz o u=>h.get? a=some o/\bH H h a u
 | .tbl ps=>h.get? a=some {cls:=.none,data:=.fields ps}
 | .met f x=>h.get? a=some (PySem.W.methodObj (.ref f) (.ref x))
 | .ext φ=>φ h/\(∃o,h.get? a=some o)/\∀h1 h2:Heap,φ h1->(∀o,h1.get? a=some o->h2.get? a=some o)->φ h2
def HOk (H:Hp) (h:Heap):Prop:= ∀a o,H a=some o->bH P w H h a o
end
section
variable {P:Program}{w:World}{H H':Hp}{h h':Heap}{a:Addr}{o:HO}
theorem bH.lt (x:bH P w H h a o):a<h.objs.size:=by
 cases o with
 | lst xs=>obtain ⟨_,_,_,_,e⟩:=x; exact Heap.lt_size e
 | tup xs=>obtain ⟨_,_,_,p⟩:=x; exact p.lt
 | dK kvs=>obtain ⟨_,_,_,_,o,_,_,e,_⟩:=x; exact Heap.lt_size e
 | dT kvs=>obtain ⟨_,_,_,_,o,_,_,e,_⟩:=x; exact Heap.lt_size e
 | set S n=>obtain ⟨o,_,_,_,e,_⟩:=x; exact Heap.lt_size e
 | ins C dx fs=>obtain ⟨_,_,_,e,_⟩:=x; exact Heap.lt_size e
 | own y=>obtain ⟨_,e⟩:=x; exact Heap.lt_size e
 | xd fs=>obtain ⟨_,⟨_,_,_,e,_⟩,_⟩:=x; exact Heap.lt_size e
 | rng lo hi=>obtain ⟨_,_,_,e⟩:=x; exact Heap.lt_size e
 | frz ob u=>obtain ⟨e,_⟩:=x; exact Heap.lt_size e
 | tbl ps=>exact Heap.lt_size (show h.get? a=some _ from x)
 | met f y=>exact Heap.lt_size (show h.get? a=some _ from x)
 | ext φ=>obtain ⟨_,⟨_,e⟩,_⟩:=x; exact Heap.lt_size e
theorem Paired.mapP {α β:Type}{F G:α->β->Prop}:∀{l₁:List α}{l₂:List β},Paired F l₁ l₂->(∀a b,F a b->G a b)->Paired G l₁ l₂
 | _,_,.nil,_=>.nil
 | _,_,.cons r t,f=>.cons (f _ _ r) (Paired.mapP t f)
theorem bH.stay (x:bH P w H h a o) (k:∀b u,(b=a\/H b=some (.own a))->h.get? b=some u->h'.get? b=some u)
  (ho:∀b,H b=some (.own a)->H' b=some (.own a)) (ht:∀b xs,H b=some (.tup xs)->H' b=some (.tup xs)):bH P w H' h' a o:=by
 induction o with
 | lst xs=>obtain ⟨z,its,n,r,e⟩:=x; exact ⟨z,its,n,r,k _ _ (.inl rfl) e⟩
 | tup xs=>obtain ⟨z,its,r,ob,e,c⟩:=x; exact ⟨z,its,r,ob,k _ _ (.inl rfl) e,c⟩
 | dK kvs=>obtain ⟨z,y,vs,r,ob,es,ep,e,c⟩:=x; exact ⟨z,y,vs,r,ob,es,ep,k _ _ (.inl rfl) e,c⟩
 | dT kvs=>
   obtain ⟨z,y,xs,r,ob,es,ep,e,c⟩:=x
   exact ⟨z,y,xs,Paired.mapP r λ p q z=>⟨z.1,ht _ _ z.2.1,z.2.2⟩,ob,es,ep,k _ _ (.inl rfl) e,c⟩
 | set S n=>obtain ⟨ob,es,ep,t,e,c⟩:=x; exact ⟨ob,es,ep,t,k _ _ (.inl rfl) e,c⟩
 | ins C dx fs=>
   obtain ⟨d,z,ne,e,mA,⟨od,es,ep,e2,c⟩,r⟩:=x
   exact ⟨ho _ d,z,ne,k _ _ (.inl rfl) e,mA,⟨od,es,ep,k _ _ (.inr d) e2,c⟩,r⟩
 | own y=>obtain ⟨ob,e⟩:=x; exact ⟨ob,k _ _ (.inl rfl) e⟩
 | xd fs=>obtain ⟨mA,⟨od,es,ep,e,c⟩,r⟩:=x; exact ⟨mA,⟨od,es,ep,k _ _ (.inl rfl) e,c⟩,r⟩
 | rng lo hi=>obtain ⟨t,u,v,e⟩:=x; exact ⟨t,u,v,k _ _ (.inl rfl) e⟩
 | frz ob u ih=>obtain ⟨e,q⟩:=x; exact ⟨k _ _ (.inl rfl) e,ih q⟩
 | tbl ps=>
   have e:h.get? a=some {cls:=.none,data:=.fields ps}:=x
   show h'.get? a=some {cls:=.none,data:=.fields ps}
   exact k a _ (.inl rfl) e
 | met f y=>
   have e:h.get? a=some (PySem.W.methodObj (.ref f) (.ref y)):=x
   show h'.get? a=some (PySem.W.methodObj (.ref f) (.ref y))
   exact k a _ (.inl rfl) e
 | ext φ=>obtain ⟨p,⟨o,e⟩,st⟩:=x; exact ⟨st _ _ p λ o q=>k _ _ (.inl rfl) q,⟨o,k _ _ (.inl rfl) e⟩,st⟩
theorem HOk.lt (x:HOk P w H h) (e:H a=some o):a<h.objs.size:=(x a o e).lt
theorem HOk.fresh (x:HOk P w H h) (e:h.objs.size<=a):H a=none:=by
 cases q:H a with
 | none=>rfl
 | some u=>exact absurd (AY (x.lt q) e) (A0 _)
theorem HOk.kept (x:HOk P w H h) (k:∀b u,h.get? b=some u->h'.get? b=some u):HOk P w H h':=λ a o e=>
 (x a o e).stay (λ b u _ q=>k b u q) (λ _ q=>q) λ _ _ q=>q
theorem HOk.laid (x:HOk P w H h) (k:∀b u,h.get? b=some u->h'.get? b=some u) (hp:h.objs.size<=a) (new:bH P w (upd H a o) h' a o):HOk P w (upd H a o) h':=λ b u e=>by
 have hn:=x.fresh hp
 by_cases hb:b=a
 ·subst hb; rw [af] at e; cases e; exact new
 ·rw [aq hb] at e
  exact (x b u e).stay (λ c v _ q=>k c v q) (λ c q=>by rw [aq (ar q hn)]; exact q) λ c xs q=>by rw [aq (ar q hn)]; exact q
end
def Rd (H:Hp) (a:Addr) (u:HO):Prop:=H a=some u\/∃o,H a=some (.frz o u)
theorem Rd.ok {P:Program}{w:World}{H:Hp}{h:Heap}{a:Addr}{u:HO}(r:Rd H a u) (x:HOk P w H h):bH P w H h a u:=by
 rcases r with r | ⟨o,r⟩
 ·exact x a u r
 ·obtain ⟨_,q⟩:=x a _ r
  exact q
def Mut:Option HO->Prop
 | some (.lst _)=>True
 | some (.dK _)=>True
 | some (.dT _)=>True
 | some (.set _ _)=>True
 | some (.ins _ _ _)=>True
 | some (.ext _)=>True
 | _=>False
section
variable {P:Program}{w:World}{H:Hp}{h h':Heap}{x e:Addr}{o':HO}
theorem HOk.write (ok:HOk P w H h) (mu:Mut (H x)) (he:e=x\/H e=some (.own x)) (k:∀b u,b≠e->h.get? b=some u->h'.get? b=some u) (heo:∃u,h'.get? e=some u)
  (new:bH P w (upd H x o') h' x o'):HOk P w (upd H x o') h':=λ b u q=>by
 have nown:∀c y,H c=some (.own y)->c≠x:=λ c y r z=>by subst z; rw [r] at mu; exact mu
 have ntup:∀c xs,H c=some (.tup xs)->c≠x:=λ c xs r z=>by subst z; rw [r] at mu; exact mu
 by_cases hb:b=x
 ·subst hb; rw [af] at q; cases q; exact new
 ·rw [aq hb] at q
  by_cases hbe:b=e
  ·have q':H b=some (.own x):=by
    rcases he with z | z
    ·exact absurd (hbe.trans z) hb
    ·rw [hbe]; exact z
   rw [q] at q'; cases q'
   obtain ⟨v,hv⟩:=heo
   exact ⟨v,by rw [hbe]; exact hv⟩
  ·refine (ok b u q).stay (λ c v hc r=>k c v ?_ r) (λ c r=>by rw [aq (nown c b r)]; exact r) λ c xs r=>by rw [aq (ntup c xs r)]; exact r
   rcases hc with rfl | hc
   ·exact hbe
   ·rintro rfl
    rcases he with z | z
    ·exact nown c b hc z
    ·rw [hc] at z; cases z; exact hb rfl
end
structure Un (fs ex:List Addr) (H H':Hp) (h h':Heap):Prop where
 keep:∀b o,h.get? b=some o->H b=none->b∉fs->b∉ex->h'.get? b=some o
 slot:∀b o,h.get? b=some o->H b=none->b∈fs->b∉ex->∃sl,h'.get? b=some {o with slots:=sl}
 free:∀b o,h.get? b=some o->H b=none->b∉ex->H' b=none
 there:∀b o,h.get? b=some o->b∉ex->∃o',h'.get? b=some o'
 tups:∀b xs,H b=some (.tup xs)->H' b=some (.tup xs)
 frzs:∀b o u,H b=some (.frz o u)->H' b=some (.frz o u)
 tbls:∀b ps,H b=some (.tbl ps)->∃more,H' b=some (.tbl (ps++more))
section
variable {fs fs' ex ex':List Addr}{H H1 H2:Hp}{h h1 h2 h':Heap}{a x e:Addr}{o:HO}
theorem Un.any (u:Un fs ex H H1 h h1) {b:Addr}{ob:Obj}(q:h.get? b=some ob) (n:H b=none) (hx:b∉ex):∃sl,h1.get? b=some {ob with slots:=sl}:=by
 by_cases hb:b∈fs
 ·exact u.slot b ob q n hb hx
 ·exact ⟨ob.slots,u.keep b ob q n hb hx⟩
theorem Un.kept (k:∀b u,h.get? b=some u->h'.get? b=some u):Un fs ex H H h h':=
 ⟨λ b ob q _ _ _=>k b ob q,λ b ob q _ _ _=>⟨ob.slots,k b ob q⟩,λ _ _ _ n _=>n,λ b ob q _=>⟨ob,k b ob q⟩,λ _ _ q=>q,λ _ _ _ q=>q,λ _ ps q=>⟨#[],by rw [q]; simp⟩⟩
theorem Un.refl:Un fs ex H H h h:=Un.kept λ _ _ q=>q
theorem Un.laid (k:∀b u,h.get? b=some u->h'.get? b=some u) (hp:h.objs.size<=a) (hn:H a=none):Un fs ex H (upd H a o) h h' where
 keep:=λ b u q _ _ _=>k b u q
 slot:=λ b u q _ _ _=>⟨u.slots,k b u q⟩
 free:=λ b u q n _=>by rw [aq (AW (AY (Heap.lt_size q) hp))]; exact n
 there:=λ b u q _=>⟨u,k b u q⟩
 tups:=λ b xs q=>by rw [aq (ar q hn)]; exact q
 frzs:=λ b u xs q=>by rw [aq (ar q hn)]; exact q
 tbls:=λ b ps q=>⟨#[],by rw [aq (ar q hn),q]; simp⟩
theorem Un.write (mu:Mut (H x)) (he:e=x\/H e=some (.own x)) (k:∀b u,b≠e->h.get? b=some u->h'.get? b=some u) (heo:∃u,h'.get? e=some u):Un fs ex H (upd H x o) h h':=by
 have hx:∀b,H b=none->b≠x:=λ b n z=>by subst z; rw [n] at mu; exact mu
 have hb:∀b,H b=none->b≠e:=λ b n z=>by
  subst z
  rcases he with r | r
  ·exact hx b n r
  ·rw [n] at r; cases r
 have hm:∀b u,H b=some u->¬Mut (some u)->b≠x:=λ b u q nm z=>by subst z; rw [q] at mu; exact nm mu
 refine ⟨λ b u q n _ _=>k b u (hb b n) q,λ b u q n _ _=>⟨u.slots,k b u (hb b n) q⟩,λ b u q n _=>by rw [aq (hx b n)]; exact n,λ b u q _=>?_,
  λ b xs q=>by rw [aq (hm b _ q λ z=>z)]; exact q,λ b u xs q=>by rw [aq (hm b _ q λ z=>z)]; exact q,λ b ps q=>⟨#[],by rw [aq (hm b _ q λ z=>z),q]; simp⟩⟩
 by_cases hbe:b=e
 ·subst hbe; exact heo
 ·exact ⟨u,k b u hbe q⟩
end
def trk (h:Heap) (H:Hp):List Addr:=(List.range h.objs.size).filter λ a=>(H a).isSome
def nV (h:Heap) (H:Hp):Heap:=PySem.W.hideAll h (trk h H)
theorem uL (h:Heap) (H:Hp):(nV h H).objs.size=h.objs.size:=PySem.W.hideAll_size _ _
theorem xX {h:Heap}{H:Hp}{b:Addr}{o:Obj}(e:h.get? b=some o) (n:H b=none):(nV h H).get? b=some o:=
 PySem.W.hideAll_get _ e λ hm=>by
  have q:(H b).isSome=true:=(zy.mp hm).2
  rw [n] at q; simp at q
theorem of_hidT {h:Heap}{H:Hp}{b:Addr}{o:Obj}(e:(nV h H).get? b=some o):h.get? b=some o/\H b=none:=by
 have e':h.get? b=some o:=PySem.W.of_hideAll (trk h H) e
 refine ⟨e',?_⟩
 cases q:H b with
 | none=>rfl
 | some x=>
   have hm:b∈trk h H:=zy.mpr ⟨zc.mpr (Heap.lt_size e'),by simp [q]⟩
   have z:(nV h H).get? b=none:=PySem.W.hideAll_none (trk h H) hm
   rw [z] at e; cases e
def jO (g h:Heap) (L:Addr):List (Addr×Obj):=(List.range h.objs.size).filterMap λ a=>if a=L\/(g.get? a).isSome=true then none else (h.get? a).map λ o=>(a,o)
theorem pJ {g h:Heap}{L a:Addr}{o:Obj}(h1:a≠L) (h2:g.get? a=none) (h3:h.get? a=some o):(a,o)∈jO g h L:=
 zY.mpr ⟨a,zc.mpr (Heap.lt_size h3),by simp [h1,h2,h3]⟩
theorem kh {g h:Heap}{L:Addr}{p:Addr×Obj}(hp:p∈jO g h L):p.1≠L/\g.get? p.1=none/\h.get? p.1=some p.2:=by
 obtain ⟨b,_,e⟩:=zY.mp hp
 split at e
 ·cases e
 ·rename_i hn
  cases q:h.get? b with
  | none=>rw [q] at e; simp at e
  | some u=>
    rw [q] at e
    simp only [Option.map_some,Option.some.injEq] at e
    subst e
    refine ⟨λ z=>hn (.inl z),?_,q⟩
    show g.get? b=none
    cases r:g.get? b with
    | none=>rfl
    | some v=>exact (hn (.inr (by simp [r]))).elim
def rest (g h:Heap) (L d:Addr):List (Addr×Obj):=(jO g h L).filter λ p=>decide (p.1≠d)
theorem rest_ne {g h:Heap}{L d:Addr}:∀p∈rest g h L d,p.1≠d:=λ p hp=>of_decide_eq_true (zy.mp hp).2
theorem xJ {g h:Heap}{L d a:Addr}{o:Obj}(h1:a≠L) (h2:g.get? a=none) (h3:h.get? a=some o) (h4:a≠d):(a,o)∈rest g h L d:=
 zy.mpr ⟨pJ h1 h2 h3,decide_eq_true h4⟩
theorem xF {g h:Heap}{L:Addr}:News g L h (jO g h L):=λ p hp=>let ⟨a,b,c⟩:=kh hp; ⟨c,a,b⟩
theorem news_at {g h:Heap}{L d:Addr}{o:Obj}(h1:d≠L) (h2:g.get? d=none) (h3:h.get? d=some o):News g L h ((d,o)::rest g h L d):=λ p hp=>by
 rcases y6.mp hp with rfl | hp
 ·exact ⟨h3,h1,h2⟩
 ·exact xF p (zy.mp hp).1
theorem iA {g h h':Heap}{L d:Addr}{m:Str->Option Value}(k:∀b o,g.get? b=some o->h.get? b=some o) (F:Fr g L h' m) (N:News g L h' (rest g h L d)):
  ∀b o,b≠L->b≠d->h.get? b=some o->h'.get? b=some o:=λ b o h1 h2 e=>by
 cases q:g.get? b with
 | some u=>
   have:=k b u q
   rw [e] at this; cases this
   exact F.keep b _ q
 | none=>exact (N (b,o) (xJ h1 q e h2)).1
end L2
namespace L2
open PySem PySem.Spec PyProof.Rows
structure Mod (K:Frag) (mg:Str->Option Value) (base:Heap):Prop where
 kin:K.In base
 glob:base.Ns mainGlobals mg
 blt:∃mb,base.Ns builtinsNs mb/\∀x:Str,x≠"__name__"->mb x=bootBuiltins x
 nolimit:base.NoLimit
structure Cx where
 prog:Program
 w:World
 K:Frag
 mg:Str->Option Value
 base:Heap
 A:Around
 N:List Str
 s₀:Shared
 H₀:Hp
 env:Env
 outer:List Env
 stack:List Env
 ex:List Addr
 fn:Str->Bool
 calm:Bool
 pn:List (Addr×Obj)
 xe:Value->Shared->Prop
def frs (l:List Env):List Addr:=l.filterMap (·.frame)
abbrev Cx.fs (X:Cx):List Addr:=frs X.outer
def Vis (sc:Scope) (x:Str):Prop:=sc.names.lookup x=some .local\/sc.names.lookup x=some .cell\/sc.names.lookup x=some .free
def Loc (sc:Scope) (x:Str):Prop:=sc.names.lookup x=some .local\/sc.names.lookup x=some .cell
def Look (env:Env) (h:Heap) (m:Str->Option Value) (x:Str) (u:Value):Prop:=
 (env.kindOf x=some .local/\m x=some u)\/((env.kindOf x=some .cell\/env.kindOf x=some .free)/\∃c,env.cells.lookup x=some c/\h.IsCell c (some u))
structure Cx.Ok (X:Cx):Prop where
 mod:Mod X.K X.mg X.base
 kind:X.env.scope.kind=.function
 glob:X.env.globals=mainGlobals
 blt:X.env.builtins=builtinsNs
 above:X.s₀.heap.objs.size<=X.env.locals
 inj:∀x y c,X.env.cells.lookup x=some c->X.env.cells.lookup y=some c->x=y
 has:∀x,(X.env.kindOf x=some .cell\/X.env.kindOf x=some .free)->∃c,X.env.cells.lookup x=some c
 cab:∀x c,X.fn x=true->X.env.cells.lookup x=some c->X.s₀.heap.objs.size<=c
 hd:X.calm=true->X.A.handled=none
 frames:X.A.frames=some X.stack
 stk:X.stack=X.outer\/(X.stack=X.env::X.outer/\X.env.frame=some X.env.locals)
 exf:∀b∈X.ex,b≠X.env.locals/\∀x c,X.env.cells.lookup x=some c->c≠b
 bs:∀b o,X.base.get? b=some o->X.s₀.heap.get? b=some o/\X.H₀ b=none
 bsz:X.base.objs.size<=X.s₀.heap.objs.size
 noex:∀b o,X.base.get? b=some o->b∉X.ex
 exfs:∀b∈X.ex,b∉X.fs
 funs:X.s₀.heap.FunFrames X.base X.outer
 frf:∀b∈X.fs,X.H₀ b=none
structure Inv (X:Cx) (pins:List (Addr×Obj)) (σ:List (Option V)) (H:Hp) (s:Shared):Prop where
 ok:X.Ok
 os:s.os=X.s₀.os
 bare:AllBare s.gens
 base:Un X.fs X.ex X.H₀ H X.s₀.heap s.heap
 loc:∃m,s.heap.Ns X.env.locals m/\∀(i:Nat) (x:Str) (v:V),X.N[i]? =some x->σ[i]? =some (some v)->Vis X.env.scope x->∃u,aN v u/\Look X.env s.heap m x u
 cell:∀x c,X.env.cells.lookup x=some c->∃v,s.heap.IsCell c v
 free:H X.env.locals=none
 freeC:∀x c,X.env.cells.lookup x=some c->H c=none
 pin:∀p∈X.pn++pins,s.heap.get? p.1=some p.2/\H p.1=none/\p.1≠X.env.locals/\p.1∉X.fs/\∀v,p.2.data≠.cell v
 hok:HOk X.prog X.w H s.heap
 len:σ.length=X.N.length
section
variable {X:Cx}{pins:List (Addr×Obj)}{σ:List (Option V)}{H H':Hp}{s:Shared}{h':Heap}
theorem Cx.Ok.nofr (ok:X.Ok) {b:Addr}{o:Obj}(e:X.base.get? b=some o):b∉X.fs:=λ hb=>by
 have:=(ok.funs.mem hb).1
 rw [e] at this; cases this
theorem Inv.bs (I:Inv X pins σ H s):∀b o,X.base.get? b=some o->s.heap.get? b=some o/\H b=none:=λ b o e=>
 ⟨I.base.keep b o (I.ok.bs b o e).1 (I.ok.bs b o e).2 (I.ok.nofr e) (I.ok.noex b o e),I.base.free b o (I.ok.bs b o e).1 (I.ok.bs b o e).2 (I.ok.noex b o e)⟩
theorem Inv.bk (I:Inv X pins σ H s):∀b o,X.base.get? b=some o->s.heap.get? b=some o:=λ b o e=>(I.bs b o e).1
theorem Inv.mod (I:Inv X pins σ H s):Mod X.K X.mg X.base:=I.ok.mod
theorem Inv.kIn (I:Inv X pins σ H s):X.K.In s.heap:=I.ok.mod.kin.keeps I.bk
theorem Inv.fr (I:Inv X pins σ H s):∃m,Fr X.base X.env.locals s.heap m:=
 let ⟨m,hn,_⟩:=I.loc
 ⟨m,hn,I.bk,AX I.ok.bsz I.ok.above⟩
theorem Inv.lt (I:Inv X pins σ H s):X.env.locals<s.heap.objs.size:=let ⟨_,hn,_⟩:=I.loc; hn.lt
theorem Inv.sz (I:Inv X pins σ H s):X.s₀.heap.objs.size<=s.heap.objs.size:=AX I.ok.above (A5 I.lt)
theorem Inv.nofs (I:Inv X pins σ H s) {a:Addr}(h:s.heap.objs.size<=a):a∉X.fs:=λ hb=>by
 obtain ⟨_,o,ho,_⟩:=I.ok.funs.mem hb
 exact absurd (AY (Heap.lt_size ho) (AX I.sz h)) (A0 _)
theorem Inv.cne (I:Inv X pins σ H s):∀x c,X.env.cells.lookup x=some c->c≠X.env.locals:=λ x c e z=>by
 obtain ⟨v,o,ho,hd⟩:=I.cell x c e
 obtain ⟨m,⟨o',es,ep,ho',hd',_⟩,_⟩:=I.loc
 rw [z,ho'] at ho; cases ho; rw [hd'] at hd; cases hd
theorem Inv.funs (I:Inv X pins σ H s):s.heap.FunFrames X.base X.outer:=by
 have all:∀(l:List Env),(∀b∈frs l,b∈X.fs)->X.s₀.heap.FunFrames X.base l->s.heap.FunFrames X.base l:=by
  intro l
  induction l with
  | nil=>intro _ _; trivial
  | cons env r ih=>
    intro hs hl
    obtain ⟨hk,⟨L,o,hf,hn,ho,hd⟩,hr⟩:=hl
    have hL:L∈X.fs:=hs L (by unfold frs; rw [zQ,hf]; exact zi)
    obtain ⟨sl,e⟩:=I.base.slot L o ho (I.ok.frf L hL) hL λ z=>I.ok.exfs L z hL
    exact ⟨hk,⟨L,_,hf,hn,e,hd⟩,ih (λ b hb=>hs b (by unfold frs; rw [zQ,hf]; exact zg _ hb)) hr⟩
 exact all X.outer (λ _ hb=>hb) I.ok.funs
theorem Inv.stack (I:Inv X pins σ H s):s.heap.FunFrames X.base X.stack:=by
 rcases I.ok.stk with e | ⟨e,hf⟩
 ·rw [e]; exact I.funs
 ·rw [e]
  obtain ⟨m,hn,_⟩:=I.loc
  refine .cons (by rw [I.ok.kind]; decide) hf hn ?_ I.funs
  exact Heap.get?_none_of_le (AX I.ok.bsz I.ok.above)
theorem Inv.stkSub (I:Inv X pins σ H s):∀b∈frs X.stack,b∈X.env.locals::X.fs:=λ b hb=>by
 rcases I.ok.stk with e | ⟨e,hf⟩
 ·rw [e] at hb; exact zg _ hb
 ·rw [e] at hb
  unfold frs at hb
  rw [zQ,hf] at hb
  exact hb
theorem Inv.stkFree (I:Inv X pins σ H s):∀b∈frs X.stack,H b=none:=λ b hb=>by
 rcases y6.mp (I.stkSub b hb) with e | hb
 ·rw [e]; exact I.free
 ·obtain ⟨_,o,ho,_⟩:=I.ok.funs.mem hb
  exact I.base.free b o ho (I.ok.frf b hb) λ z=>I.ok.exfs b z hb
theorem Inv.step {g':Array GenState}{t':Nat}{d':Drawn}{ch:List Addr}(I:Inv X pins σ H s)
  (hch:∀b∈ch,(b∈X.ex\/X.s₀.heap.objs.size<=b)/\b≠X.env.locals/\(∀x c,X.env.cells.lookup x=some c->c≠b)/\∀p∈X.pn++pins,p.1≠b)
  (keep:∀b o,b≠X.env.locals->b∉X.fs->b∉ch->s.heap.get? b=some o->H b=none->h'.get? b=some o)
  (slot:∀b o,b≠X.env.locals->b∈X.fs->b∉ch->s.heap.get? b=some o->H b=none->∃sl,h'.get? b=some {o with slots:=sl}) (free:∀b o,b∉ch->s.heap.get? b=some o->H b=none->H' b=none)
  (there:∀b o,b∉ch->s.heap.get? b=some o->∃o',h'.get? b=some o')
  (tups:∀b xs,H b=some (.tup xs)->H' b=some (.tup xs)) (frzs:∀b o u,H b=some (.frz o u)->H' b=some (.frz o u)) (tbls:∀b ps,H b=some (.tbl ps)->∃more,H' b=some (.tbl (ps++more)))
  (ns:∀m,s.heap.Ns X.env.locals m->h'.Ns X.env.locals m) (hok:HOk X.prog X.w H' h') (hg:AllBare g'):
  Inv X pins σ H' {s with heap:=h',gens:=g',drawn:=d',toks:=t'}:=by
 have neL:∀b o,X.s₀.heap.get? b=some o->b≠X.env.locals:=λ b o e=>AW (AY (Heap.lt_size e) I.ok.above)
 have neC:∀b o,X.s₀.heap.get? b=some o->b∉X.ex->b∉ch:=λ b o e hx hb=>by
  rcases (hch b hb).1 with z | z
  ·exact hx z
  ·exact absurd (AY (Heap.lt_size e) z) (A0 _)
 have cellK:∀x c,X.env.cells.lookup x=some c->∀v,s.heap.IsCell c v->h'.IsCell c v:=λ x c e v ⟨o,ho,hd⟩=>by
  have nch:c∉ch:=λ z=>(hch c z).2.2.1 x c e rfl
  by_cases hc:c∈X.fs
  ·obtain ⟨sl,q⟩:=slot c o (I.cne x c e) hc nch ho (I.freeC x c e)
   exact ⟨_,q,hd⟩
  ·exact ⟨o,keep c o (I.cne x c e) hc nch ho (I.freeC x c e),hd⟩
 refine ⟨I.ok,I.os,hg,⟨λ b o e n hb hx=>?_,λ b o e n hb hx=>?_,λ b o e n hx=>?_,λ b o e hx=>?_,λ b xs e=>tups b xs (I.base.tups b xs e),λ b o xs e=>frzs b o xs (I.base.frzs b o xs e),λ b ps e=>?_⟩,?_,λ x c e=>?_,?_,λ x c e=>?_,λ p hp=>?_,hok,I.len⟩
 ·exact keep b o (neL b o e) hb (neC b o e hx) (I.base.keep b o e n hb hx) (I.base.free b o e n hx)
 ·obtain ⟨sl,e1⟩:=I.base.slot b o e n hb hx
  obtain ⟨sl',e2⟩:=slot b _ (neL b o e) hb (neC b o e hx) e1 (I.base.free b o e n hx)
  exact ⟨sl',e2⟩
 ·obtain ⟨o',e1⟩:=I.base.there b o e hx
  exact free b o' (neC b o e hx) e1 (I.base.free b o e n hx)
 ·obtain ⟨o',e1⟩:=I.base.there b o e hx
  exact there b o' (neC b o e hx) e1
 ·obtain ⟨m1,e1⟩:=I.base.tbls b ps e
  obtain ⟨m2,e2⟩:=tbls b _ e1
  exact ⟨m1++m2,by rw [e2,Array.append_assoc]⟩
 ·obtain ⟨m,hn,hl⟩:=I.loc
  refine ⟨m,ns m hn,λ i x v e1 e2 e3=>?_⟩
  obtain ⟨u,r,l⟩:=hl i x v e1 e2 e3
  refine ⟨u,r,?_⟩
  rcases l with l | ⟨k,c,e,z⟩
  ·exact .inl l
  ·exact .inr ⟨k,c,e,cellK x c e _ z⟩
 ·obtain ⟨v,z⟩:=I.cell x c e
  exact ⟨v,cellK x c e v z⟩
 ·obtain ⟨m,⟨o,_,_,ho,_⟩,_⟩:=I.loc
  exact free _ o (λ z=>(hch _ z).2.1 rfl) ho I.free
 ·obtain ⟨v,o,ho,hd⟩:=I.cell x c e
  exact free c o (λ z=>(hch c z).2.2.1 x c e rfl) ho (I.freeC x c e)
 ·obtain ⟨e,n,ne,nf,d⟩:=I.pin p hp
  have nch:p.1∉ch:=λ z=>(hch p.1 z).2.2.2 p hp rfl
  exact ⟨keep p.1 p.2 ne nf nch e n,free p.1 p.2 nch e n,ne,nf,d⟩
theorem Inv.un {t':Nat}(I:Inv X pins σ H s) (u:Un X.fs [] H H' s.heap h') (hok:HOk X.prog X.w H' h'):Inv X pins σ H' {s with heap:=h',toks:=t'}:=by
 obtain ⟨m,⟨o,es,ep,ho,r⟩,_⟩:=id I.loc
 obtain ⟨sl,hL⟩:=u.any ho I.free (by simp)
 exact I.step (g':=s.gens) (d':=s.drawn) (ch:=[]) (λ _ z=>nomatch z) (λ b o _ hb _ e n=>u.keep b o e n hb (by simp)) (λ b o _ hb _ e n=>u.slot b o e n hb (by simp)) (λ b o _ e n=>u.free b o e n (by simp)) (λ b o _ e=>u.there b o e (by simp)) u.tups u.frzs u.tbls (λ m' hm=>by
  obtain ⟨o',es',ep',ho',r'⟩:=hm
  rw [ho] at ho'; cases ho'
  exact ⟨_,es',ep',hL,r'⟩) hok I.bare
theorem Inv.call {g':Array GenState}{t':Nat}{d':Drawn}{ch:List Addr}(I:Inv X pins σ H s) (u:Un (frs X.stack) ch H H' s.heap h') (hok:HOk X.prog X.w H' h') (hg:AllBare g')
  (hch:∀b∈ch,(b∈X.ex\/X.s₀.heap.objs.size<=b)/\b≠X.env.locals/\(∀x c,X.env.cells.lookup x=some c->c≠b)/\∀p∈X.pn++pins,p.1≠b):
  Inv X pins σ H' {s with heap:=h',gens:=g',drawn:=d',toks:=t'}:=by
 obtain ⟨m,⟨o,es,ep,ho,r⟩,_⟩:=id I.loc
 obtain ⟨sl,hL⟩:=u.any ho I.free λ z=>(hch _ z).2.1 rfl
 exact I.step (ch:=ch) hch (λ b o hL hb hc e n=>u.keep b o e n (λ z=>(y6.mp (I.stkSub b z)).elim hL hb) hc) (λ b o _ _ hc e n=>u.any e n hc) (λ b o hc e n=>u.free b o e n hc) (λ b o hc e=>u.there b o e hc) u.tups u.frzs u.tbls (λ m' hm=>by
  obtain ⟨o',es',ep',ho',r'⟩:=hm
  rw [ho] at ho'; cases ho'
  exact ⟨_,es',ep',hL,r'⟩) hok hg
theorem Inv.turned {t':Nat}{it:Addr}(I:Inv X pins σ H s) (k:∀b o,b≠it->s.heap.get? b=some o->h'.get? b=some o) (hn:H it=none) (hL:it≠X.env.locals)
  (h1:it∈X.ex\/X.s₀.heap.objs.size<=it) (h2:∀x c,X.env.cells.lookup x=some c->c≠it) (h3:∀p∈X.pn++pins,p.1≠it):Inv X pins σ H {s with heap:=h',toks:=t'}:=by
 have nit:∀b u,H b=some u->b≠it:=λ b u e z=>by rw [z,hn] at e; cases e
 refine I.step (g':=s.gens) (d':=s.drawn) (ch:=[it]) (λ b hb=>?_) (λ b o _ _ hc e _=>k b o (λ z=>hc (by simp [z])) e) (λ b o _ _ hc e _=>⟨o.slots,k b o (λ z=>hc (by simp [z])) e⟩) (λ _ _ _ _ n=>n)
  (λ b o hc e=>⟨o,k b o (λ z=>hc (by simp [z])) e⟩) (λ _ _ e=>e) (λ _ _ _ e=>e) (λ b ps e=>⟨#[],by rw [e]; simp⟩) (λ m hm=>?_) (λ b u e=>?_) I.bare
 ·have e:b=it:=by simpa using hb
  subst e
  exact ⟨h1,hL,h2,h3⟩
 ·obtain ⟨o,es,ep,ho,r⟩:=hm
  exact ⟨o,es,ep,k _ o (Ne.symm hL) ho,r⟩
 ·refine (I.hok b u e).stay (λ c v hc q=>k c v ?_ q) (λ _ q=>q) λ _ _ q=>q
  rcases hc with z | z
  ·rw [z]; exact nit b u e
  ·exact nit c _ z
theorem Inv.tok (I:Inv X pins σ H s) (t:Nat):Inv X pins σ H {s with toks:=t}:=I.un (h':=s.heap) (t':=t) Un.refl I.hok
theorem Inv.kept {t':Nat}(I:Inv X pins σ H s) (k:∀b u,s.heap.get? b=some u->h'.get? b=some u):Inv X pins σ H {s with heap:=h',toks:=t'}:=I.un (Un.kept k) (I.hok.kept k)
theorem Inv.laid {a:Addr}{o:HO}{t':Nat}(I:Inv X pins σ H s) (k:∀b u,s.heap.get? b=some u->h'.get? b=some u) (hp:s.heap.objs.size<=a) (new:bH X.prog X.w (upd H a o) h' a o):
  Inv X pins σ (upd H a o) {s with heap:=h',toks:=t'}:=I.un (Un.laid k hp (I.hok.fresh hp)) (I.hok.laid k hp new)
theorem Inv.write {x e:Addr}{o:HO}{t':Nat}(I:Inv X pins σ H s) (mu:Mut (H x)) (he:e=x\/H e=some (.own x)) (k:∀b u,b≠e->s.heap.get? b=some u->h'.get? b=some u) (heo:∃u,h'.get? e=some u)
  (new:bH X.prog X.w (upd H x o) h' x o):Inv X pins σ (upd H x o) {s with heap:=h',toks:=t'}:=I.un (Un.write mu he k heo) (I.hok.write mu he k heo new)
theorem Inv.pins_of {pins':List (Addr×Obj)}(I:Inv X pins σ H s) (h:∀p∈pins',s.heap.get? p.1=some p.2/\H p.1=none/\p.1≠X.env.locals/\p.1∉X.fs/\∀v,p.2.data≠.cell v):Inv X pins' σ H s:=
 ⟨I.ok,I.os,I.bare,I.base,I.loc,I.cell,I.free,I.freeC,λ p hp=>(zj.mp hp).elim (λ z=>I.pin p (zK _ z)) (h p),I.hok,I.len⟩
theorem pH {N:List Str}(hN:N.Nodup) {i j:Nat}{x:Str}(a:N[i]? =some x) (b:N[j]? =some x):i=j:=by
 obtain ⟨h1,e1⟩:=zo.mp a
 obtain ⟨h2,e2⟩:=zo.mp b
 exact (Ao hN).mp (e1.trans e2.symm)
theorem lC {M:Model}{A:Around}{E:Value->Shared->Prop}{i:Nat}{x:Str}{v:V}{u:Value}{Q:Unit->Shared->Prop}(I:Inv X pins σ H s) (hN:X.N.Nodup) (hi:X.N[i]? =some x) (hx:Loc X.env.scope x) (r:aN v u)
  (h:∀s',Inv X pins (σ.set i (some v)) H s'->(∃a,Heap.SameBut a s.heap s'.heap/\(a=X.env.locals\/X.env.cells.lookup x=some a))->Q () s') (hf:X.fn x=true\/X.env.scope.names.lookup x=some .local:=by first | exact .inl rfl | exact .inr rfl | assumption):wpAny M A (storeName X.env x u) Q E s:=by
 obtain ⟨m,hn,hl⟩:=id I.loc
 have hcls:(X.env.scope.kind == .class||(X.env.scope.kind == .module&&X.env.locals != X.env.globals))=false:=by rw [I.ok.kind]; rfl
 have hiσ:i<σ.length:=by rw [I.len]; exact (zo.mp hi).1
 have cne:=I.cne
 have tracked:∀{a:Addr} {h':Heap},(∃o,s.heap.get? a=some o/\H a=none)->Heap.SameBut a s.heap h'->HOk X.prog X.w H h':=λ {a h'} ha hs b ob e=>by
  obtain ⟨_,_,hfree⟩:=ha
  refine (I.hok b ob e).stay (λ c w' hc q=>(hs.2 c ?_).trans q) (λ _ q=>q) λ _ _ q=>q
  rintro rfl
  rcases hc with rfl | hc
  ·rw [hfree] at e; cases e
  ·rw [hfree] at hc; cases hc
 rcases hx with hk | hk
 ·refine wpAny_storeName_local hk hn (λ h' hn' hs=>?_) hcls
  obtain ⟨oL,_,_,hoL,_⟩:=id hn
  refine h _ ⟨I.ok,I.os,I.bare,⟨λ b o e n hb hx=>?_,λ b o e n hb hx=>?_,I.base.free,λ b o e hx=>?_,I.base.tups,I.base.frzs,I.base.tbls⟩,⟨_,hn',λ j y v' e1 e2 e3=>?_⟩,λ y c e=>?_,I.free,I.freeC,λ p hp=>?_,tracked ⟨oL,hoL,I.free⟩ hs,by simpa using I.len⟩ ⟨_,hs,.inl rfl⟩
  ·exact (hs.2 b (AW (AY (Heap.lt_size e) I.ok.above))).trans (I.base.keep b o e n hb hx)
  ·obtain ⟨sl,e1⟩:=I.base.slot b o e n hb hx
   exact ⟨sl,(hs.2 b (AW (AY (Heap.lt_size e) I.ok.above))).trans e1⟩
  ·obtain ⟨o',e1⟩:=I.base.there b o e hx
   exact ⟨o',(hs.2 b (AW (AY (Heap.lt_size e) I.ok.above))).trans e1⟩
  ·by_cases hj:j=i
   ·subst hj
    rw [hi] at e1; cases e1
    rw [Ap hiσ] at e2
    cases e2
    exact ⟨u,r,.inl ⟨hk,by simp⟩⟩
   ·rw [Aq (Ne.symm hj)] at e2
    obtain ⟨u',r',q⟩:=hl j y v' e1 e2 e3
    refine ⟨u',r',?_⟩
    rcases q with ⟨k,e⟩ | ⟨k,c,e,z⟩
    ·refine .inl ⟨k,?_⟩
     have:y≠x:=λ e=>hj (pH hN e1 (e▸hi))
     simp [this,e]
    ·exact .inr ⟨k,c,e,z.sameBut hs (cne y c e)⟩
  ·obtain ⟨w',z⟩:=I.cell y c e
   exact ⟨w',z.sameBut hs (cne y c e)⟩
  ·obtain ⟨e,n,ne,nf,d⟩:=I.pin p hp
   exact ⟨(hs.2 p.1 ne).trans e,n,ne,nf,d⟩
 ·have hfn:X.fn x=true:=by
   rcases hf with z | z
   ·exact z
   ·rw [z] at hk; cases hk
  obtain ⟨c,hc⟩:=I.ok.has x (.inl hk)
  obtain ⟨w',z⟩:=I.cell x c hc
  refine wpAny_storeName_cell I.ok.kind hk hc z (λ h' hc' hs=>?_)
  obtain ⟨oc,hoc,hocd⟩:=id z
  refine h {s with heap:=h'} ⟨I.ok,I.os,I.bare,⟨λ b o e n hb hx=>?_,λ b o e n hb hx=>?_,I.base.free,λ b o e hx=>?_,I.base.tups,I.base.frzs,I.base.tbls⟩,⟨m,hn.sameBut hs (Ne.symm (cne x c hc)),λ j y v' e1 e2 e3=>?_⟩,λ y c' e=>?_,I.free,I.freeC,λ p hp=>?_,tracked ⟨oc,hoc,I.freeC x c hc⟩ hs,by simpa using I.len⟩ ⟨c,hs,.inr hc⟩
  ·exact (hs.2 b (AW (AY (Heap.lt_size e) (I.ok.cab x c hfn hc)))).trans (I.base.keep b o e n hb hx)
  ·obtain ⟨sl,e1⟩:=I.base.slot b o e n hb hx
   exact ⟨sl,(hs.2 b (AW (AY (Heap.lt_size e) (I.ok.cab x c hfn hc)))).trans e1⟩
  ·obtain ⟨o',e1⟩:=I.base.there b o e hx
   exact ⟨o',(hs.2 b (AW (AY (Heap.lt_size e) (I.ok.cab x c hfn hc)))).trans e1⟩
  ·by_cases hj:j=i
   ·subst hj
    rw [hi] at e1; cases e1
    rw [Ap hiσ] at e2
    cases e2
    exact ⟨u,r,.inr ⟨.inl hk,c,hc,hc'⟩⟩
   ·rw [Aq (Ne.symm hj)] at e2
    obtain ⟨u',r',q⟩:=hl j y v' e1 e2 e3
    refine ⟨u',r',?_⟩
    rcases q with q | ⟨k,c',e,z'⟩
    ·exact .inl q
    ·refine .inr ⟨k,c',e,z'.sameBut hs ?_⟩
     rintro rfl
     exact hj (pH hN e1 (I.ok.inj _ _ _ e hc▸hi))
  ·by_cases hcc:c'=c
   ·subst hcc; exact ⟨_,hc'⟩
   ·obtain ⟨w2,z2⟩:=I.cell y c' e
    exact ⟨w2,z2.sameBut hs hcc⟩
  ·obtain ⟨e,n,ne,nf,d⟩:=I.pin p hp
   refine ⟨(hs.2 p.1 ?_).trans e,n,ne,nf,d⟩
   intro q
   rw [q,hoc] at e
   have q':oc=p.2:=Option.some.inj e
   exact d w' (by rw [<-q']; exact hocd)
theorem ow {M:Model}{A:Around}{E:Value->Shared->Prop}{i:Nat}{x:Str}{v:V}{u:Value}{Q:Unit->Shared->Prop}(I:Inv X pins σ H s) (hN:X.N.Nodup) (hi:X.N[i]? =some x) (hx:Loc X.env.scope x) (r:aN v u)
  (h:∀s',Inv X pins (σ.set i (some v)) H s'->Q () s') (hf:X.fn x=true\/X.env.scope.names.lookup x=some .local:=by first | exact .inl rfl | exact .inr rfl | assumption):wpAny M A (storeName X.env x u) Q E s:=
 lC I hN hi hx r (λ s' I' _=>h s' I') hf
theorem Inv.call' {s':Shared}{ch:List Addr}(I:Inv X pins σ H s) (ho:s'.os=s.os) (u:Un (frs X.stack) ch H H' s.heap s'.heap) (hok:HOk X.prog X.w H' s'.heap) (hg:AllBare s'.gens)
  (hch:∀b∈ch,(b∈X.ex\/X.s₀.heap.objs.size<=b)/\b≠X.env.locals/\(∀x c,X.env.cells.lookup x=some c->c≠b)/\∀p∈X.pn++pins,p.1≠b):Inv X pins σ H' s':=by
 obtain ⟨h',g',d',t',o'⟩:=s'
 have e:o'=s.os:=ho
 subst e
 exact I.call (g':=g') (t':=t') (d':=d') u hok hg hch
end
abbrev XK:=Value->Option Addr->Hp->Prop
abbrev St:=List (Option V)
abbrev VK:=V->Hp->Prop
abbrev TE:=St->Hp->VK->Prop
abbrev TT:=St->Hp->(Bool->Hp->Prop)->Prop
abbrev TA:=St->Hp->(List V->Hp->Prop)->Prop
structure de where
 nx:St->Hp->Prop
 rt:VK
 bk:St->Hp->Prop:=λ _ _=>False
 ct:St->Hp->Prop:=λ _ _=>False
abbrev TS:=de->St->Hp->Prop
def EP (X:Cx) (pins:List (Addr×Obj)) (σ:St) (Q:VK) (u:Value) (s':Shared):Prop:= ∃v H',Inv X pins σ H' s'/\aN v u/\Q v H'
def TP (X:Cx) (pins:List (Addr×Obj)) (σ:St) (Q:Bool->Hp->Prop) (b:Bool) (s':Shared):Prop:= ∃H',Inv X pins σ H' s'/\Q b H'
def AP (X:Cx) (pins:List (Addr×Obj)) (σ:St) (Q:List V->Hp->Prop) (us:List Value) (s':Shared):Prop:= ∃vs H',Inv X pins σ H' s'/\aP vs us/\Q vs H'
def SP (X:Cx) (pins:List (Addr×Obj)) (D:de) (f:Flow) (s':Shared):Prop:=
 match f with
 | .next=> ∃σ' H',Inv X pins σ' H' s'/\D.nx σ' H'
 | .brk=> ∃σ' H',Inv X pins σ' H' s'/\D.bk σ' H'
 | .cont=> ∃σ' H',Inv X pins σ' H' s'/\D.ct σ' H'
 | .ret u=> ∃v σ' H',Inv X pins σ' H' s'/\aN v u/\D.rt v H'
def PE (X:Cx) (e:Expr) (t:TE):Prop:=
 ∀(pins:List (Addr×Obj)) (s:Shared) (σ:St) (H:Hp) (Q:VK),Inv X pins σ H s->t σ H Q->wpAny (model X.prog X.w) X.A (eval e X.env) (EP X pins σ Q) X.xe s
def PT (X:Cx) (e:Expr) (t:TT):Prop:=
 ∀(pins:List (Addr×Obj)) (s:Shared) (σ:St) (H:Hp) (Q:Bool->Hp->Prop),Inv X pins σ H s->t σ H Q->wpAny (model X.prog X.w) X.A (isTrue e X.env (eval e X.env)) (TP X pins σ Q) X.xe s
def PW (X:Cx) (e:Expr) (t:TT):Prop:=
 ∀(whole:Sem Value) (pins:List (Addr×Obj)) (s:Shared) (σ:St) (H:Hp) (Q:Bool->Hp->Prop),Inv X pins σ H s->t σ H Q->wpAny (model X.prog X.w) X.A (isTrue e X.env whole) (TP X pins σ Q) X.xe s
theorem PW.pt {X:Cx}{e:Expr}{t:TT}(h:PW X e t):PT X e t:=h _
def PA (X:Cx) (es:List Expr) (t:TA):Prop:=
 ∀(pos:Pos) (pins:List (Addr×Obj)) (s:Shared) (σ:St) (H:Hp) (Q:List V->Hp->Prop),Inv X pins σ H s->t σ H Q->wpAny (model X.prog X.w) X.A (spliced (backTo pos (starEach es X.env))) (AP X pins σ Q) X.xe s
def PS (X:Cx) (st:Stmt) (t:TS):Prop:=
 ∀(pins:List (Addr×Obj)) (s:Shared) (σ:St) (H:Hp) (D:de),Inv X pins σ H s->t D σ H->wpAny (model X.prog X.w) X.A (exec st X.env) (SP X pins D) X.xe s
def PSs (X:Cx) (st:List Stmt) (t:TS):Prop:=
 ∀(pins:List (Addr×Obj)) (s:Shared) (σ:St) (H:Hp) (D:de),Inv X pins σ H s->t D σ H->wpAny (model X.prog X.w) X.A (execs st X.env) (SP X pins D) X.xe s
theorem thn {α:Type}{t:Sem α}{Q Q':α->Shared->Prop}{M:Model}{A:Around}{E:Value->Shared->Prop}{s:Shared}(h:wpAny M A t Q E s) (hQ:∀a s,Q a s->Q' a s):wpAny M A t Q' E s:=wpAny_mono h hQ λ _ _ x=>x
end L2
namespace L2
open PySem PySem.Spec PyProof.Rows
section
variable {X:Cx}
theorem bin {a b:Expr}{ta tb:TE}(ha:PE X a ta) (hb:PE X b tb) {pins:List (Addr×Obj)}{s:Shared}{σ:St}{H:Hp}{R:V->V->Hp->Prop}(I:Inv X pins σ H s) (h:ta σ H λ x H1=>tb σ H1 λ y H2=>R x y H2)
  {α:Type} {Q:α->Shared->Prop} {f:Value->Value->Sem α}
  (hf:∀v u s2 x y H2,Inv X pins σ H2 s2->aN x v->aN y u->R x y H2->wpAny (model X.prog X.w) X.A (f v u) Q X.xe s2):
  wpAny (model X.prog X.w) X.A (eval a X.env) (λ v s₁=>wpAny (model X.prog X.w) X.A (eval b X.env) (λ u s₂=>wpAny (model X.prog X.w) X.A (f v u) Q X.xe s₂) X.xe s₁) X.xe s:=by
 refine thn (ha pins s σ H _ I h) λ v s1 ⟨x,H1,I1,r1,q1⟩=>?_
 refine thn (hb pins s1 σ H1 _ I1 q1) λ u s2 ⟨y,H2,I2,r2,q2⟩=>?_
 exact hf v u s2 x y H2 I2 r1 r2 q2
def tVar (i:Nat):TE:=λ σ H Q=> ∃v,σ[i]? =some (some v)/\Q v H
def tC (v:V):TE:=λ _ H Q=>Q v H
theorem pe_var {i:Nat}{x:Str}{pos:Pos}(hN:X.N[i]? =some x) (hv:Vis X.env.scope x) (hd:(x == ("__debug__":Str))=false:=by decide) (hcd:(x == ("__classdict__":Str))=false:=by decide):PE X (.Name x pos) (tVar i):=by
 intro pins s σ H Q I h
 obtain ⟨v,e,h⟩:=h
 obtain ⟨m,hn,hl⟩:=I.loc
 obtain ⟨u,r,l⟩:=hl i x v hN e hv
 have fin:EP X pins σ Q u s:=⟨v,H,I,r,h⟩
 rcases l with ⟨hk,hm⟩ | ⟨hk,c,hc,hcell⟩
 ·exact wpAny_Name (wpAny_loadName_local I.ok.kind hk hn hm fin) hd
 ·rcases hk with hk | hk
  ·exact wpAny_Name (wpAny_loadName_cell I.ok.kind hk hc hcell fin) hd
  ·exact wpAny_Name (wpAny_loadName_free I.ok.kind hk hc hcell fin hcd) hd
theorem ag {i j pos}:PE X (.Constant (.int i) j pos) (tC (.int i)):=λ _ _ _ H _ I h=>wpAny_Constant_int ⟨.int i,H,I.tok _,⟨_,rfl⟩,h⟩
theorem eK {b j pos}:PE X (.Constant (.bool b) j pos) (tC (.bl b)):=λ _ _ _ H _ I h=>Constant_bool ⟨.bl b,H,I,rfl,h⟩
theorem cQ {j pos}:PE X (.Constant .none j pos) (tC .non):=λ _ _ _ H _ I h=>Constant_none ⟨.non,H,I,rfl,h⟩
theorem bn {x j pos}:PE X (.Constant (.str x) j pos) (tC (.str x)):=λ _ _ _ H _ I h=>Calls.Constant_str ⟨.str x,H,I.tok _,⟨_,rfl⟩,h⟩
def Gl (X:Cx) (x:Str):Prop:=X.env.kindOf x=some .globalImplicit
theorem nT {E:Value->Shared->Prop}{pins:List (Addr×Obj)}{s:Shared}{σ:St}{H:Hp}{x:Str}{u:Value}{pos:Pos}{Q:Value->Shared->Prop}(I:Inv X pins σ H s) (hg:Gl X x) (hm:X.mg x=some u) (h:Q u s)
  (hd:(x == ("__debug__":Str))=false:=by decide):wpAny (model X.prog X.w) X.A (eval (.Name x pos) X.env) Q E s:=
 Calls.Name_function_global I.ok.kind hg (Calls.loadGlobal_global (by rw [I.ok.glob]; exact I.mod.glob.keeps I.bk) hm h) hd
theorem i8 {E:Value->Shared->Prop}{pins:List (Addr×Obj)}{s:Shared}{σ:St}{H:Hp}{x:Str}{u:Value}{pos:Pos}{Q:Value->Shared->Prop}(I:Inv X pins σ H s) (hg:Gl X x) (hm:X.mg x=none) (hv:bootBuiltins x=some u) (h:Q u s)
  (hn:x≠"__name__":=by decide) (hd:(x == ("__debug__":Str))=false:=by decide):wpAny (model X.prog X.w) X.A (eval (.Name x pos) X.env) Q E s:=by
 obtain ⟨mb,h1,h2⟩:=I.mod.blt
 exact Calls.Name_function_global I.ok.kind hg (Calls.loadGlobal_builtin (by rw [I.ok.glob]; exact I.mod.glob.keeps I.bk) hm (by rw [I.ok.blt]; exact h1.keeps I.bk) ((h2 x hn).trans hv) h) hd
theorem pe_glob {x:Str}{v:V}{u:Value}{pos:Pos}(hg:Gl X x) (hm:X.mg x=some u) (r:aN v u) (hd:(x == ("__debug__":Str))=false:=by decide):PE X (.Name x pos) (tC v):=
 λ _ _ _ H _ I h=>nT I hg hm ⟨v,H,I,r,h⟩ hd
theorem pe_bltn {x:Str}{v:V}{u:Value}{pos:Pos}(hg:Gl X x) (hm:X.mg x=none) (hv:bootBuiltins x=some u) (r:aN v u) (hn:x≠"__name__":=by decide) (hd:(x == ("__debug__":Str))=false:=by decide):PE X (.Name x pos) (tC v):=
 λ _ _ _ H _ I h=>i8 I hg hm hv ⟨v,H,I,r,h⟩ hn hd
variable {a b:Expr}{ta tb:TE}{pos:Pos}
def tB (t:TE):TT:=λ σ H Q=>t σ H λ x H1=> ∃c,x=.bl c/\Q c H1
variable {tA tB':TT}{rest:List Expr}
def tAnd (t u:TT):TT:=λ σ H Q=>t σ H λ c H1=>if c=true then u σ H1 Q else Q false H1
def tOr (t u:TT):TT:=λ σ H Q=>t σ H λ c H1=>if c=true then Q true H1 else u σ H1 Q
def qx (t:TT):TT:=λ σ H Q=>t σ H λ c H1=>Q (!c) H1
theorem eS (ha:PT X a tA):PW X (.BoolOp .And [a] pos) tA:=by
 intro wh pins s σ H Q I h
 refine isTrue_and (thn (ha pins s σ H Q I h) λ c s1 e=>?_)
 cases c with
 | true=>exact isTrue_and_nil e
 | false=>exact e
theorem cP (ha:PT X a tA):PW X (.BoolOp .Or [a] pos) tA:=by
 intro wh pins s σ H Q I h
 refine isTrue_or (thn (ha pins s σ H Q I h) λ c s1 e=>?_)
 cases c with
 | false=>exact isTrue_or_nil e
 | true=>exact e
theorem fO (ha:PT X a tA) (hb:PW X (.BoolOp .And (b::rest) pos) tB'):PW X (.BoolOp .And (a::b::rest) pos) (tAnd tA tB'):=by
 intro wh pins s σ H Q I h
 refine isTrue_and (thn (ha pins s σ H _ I h) λ c s1 ⟨H1,I1,q1⟩=>?_)
 cases c with
 | true=>exact hb wh pins s1 σ H1 Q I1 q1
 | false=>exact ⟨H1,I1,q1⟩
theorem dR (ha:PT X a tA) (hb:PW X (.BoolOp .Or (b::rest) pos) tB'):PW X (.BoolOp .Or (a::b::rest) pos) (tOr tA tB'):=by
 intro wh pins s σ H Q I h
 refine isTrue_or (thn (ha pins s σ H _ I h) λ c s1 ⟨H1,I1,q1⟩=>?_)
 cases c with
 | true=>exact ⟨H1,I1,q1⟩
 | false=>exact hb wh pins s1 σ H1 Q I1 q1
theorem bm (ha:PT X a tA):PT X (.UnaryOp .Not a pos) (qx tA):=by
 intro pins s σ H Q I h
 exact isTrue_not (ha pins s σ H (λ c H1=>Q (!c) H1) I h)
theorem dO {op}{t:TE}(h:PE X a t):PE X (.BoolOp op [a] pos) t:=λ pins s σ H Q I hw=>BoolOp_one (h pins s σ H Q I hw)
def tIf (t:TT) (ta tb:TE):TE:=λ σ H Q=>t σ H λ c H1=>if c=true then ta σ H1 Q else tb σ H1 Q
theorem dH {c:Expr}(hc:PT X c tA) (ha:PE X a ta) (hb:PE X b tb):PE X (.IfExp c a b pos) (tIf tA ta tb):=by
 intro pins s σ H Q I h
 refine wpAny_IfExp (thn (hc pins s σ H _ I h) λ d s1 ⟨H1,I1,q1⟩=>?_)
 cases d with
 | true=>exact ha pins s1 σ H1 Q I1 q1
 | false=>exact hb pins s1 σ H1 Q I1 q1
end
end L2
namespace L2
open PySem PySem.Spec PyProof.Rows
def SqL (K:Frag) (H:Hp) (a:Addr) (xs:List V):Prop:=
 Rd H a (.lst xs)\/
  ∃(o:Obj) (its:Array Value) (n:Nat),K.lookup a=some o/\o.cls=.type "list"/\o.dict=none/\o.data=.seq its n/\its.size<=sizeLine/\aP xs its.toList
def SqT (K:Frag) (H:Hp) (a:Addr) (xs:List V):Prop:=
 Rd H a (.tup xs)\/
  ∃(o:Obj) (its:Array Value) (n:Nat),K.lookup a=some o/\o.cls=.type "tuple"/\o.data=.seq its n/\its.size<=sizeLine/\aP xs its.toList
def absV:Value->Option V
 | .none=>some .non
 | .bool b=>some (.bl b)
 | .int i _=>some (.int i)
 | .str x _=>some (.str x)
 | .bytes b _=>some (.byt b)
 | .float b _=>some (.flt b)
 | .ref a=>some (.ref a)
 | .type n=>some (.ty n)
 | _=>none
theorem aN.abs {x:V}{u:Value}(r:aN x u):absV u=some x:=by
 cases x with
 | non=>cases r; rfl
 | bl _=>cases r; rfl
 | int _=>obtain ⟨t,rfl⟩:=r; rfl
 | str _=>obtain ⟨t,rfl⟩:=r; rfl
 | byt _=>obtain ⟨t,rfl⟩:=r; rfl
 | flt _=>obtain ⟨t,rfl⟩:=r; rfl
 | ref _=>cases r; rfl
 | ty _=>cases r; rfl
theorem aN.inj {x y:V}{u:Value}(r:aN x u) (q:aN y u):x=y:=Option.some.inj (r.abs.symm.trans q.abs)
theorem aP.inj:∀{xs ys:List V}{us:List Value},aP xs us->aP ys us->xs=ys
 | _,_,_,.nil,.nil=>rfl
 | _,_,_,.cons r t,.cons r' t'=>by rw [r.inj r',aP.inj t t']
section
variable {X:Cx}{pins:List (Addr×Obj)}{σ:St}{H:Hp}{s:Shared}{a:Addr}{xs ys:List V}
theorem SqL.of {K:Frag}(h:H a=some (.lst xs)):SqL K H a xs:=.inl (.inl h)
theorem SqT.of {K:Frag}(h:H a=some (.tup xs)):SqT K H a xs:=.inl (.inl h)
theorem Inv.list (I:Inv X pins σ H s) (h:SqL X.K H a xs):∃its:List Value,aP xs its/\PlainL s.heap a its.toArray/\xs.length<=sizeLine:=by
 rcases h with h | ⟨o,its,n,hk,hc,hd,hs,hz,r⟩
 ·obtain ⟨z,its,n,r,e⟩:=h.ok I.hok
  exact ⟨its,r,⟨_,n,e,rfl,rfl,rfl⟩,z⟩
 ·refine ⟨its.toList,r,⟨o,n,I.kIn a o hk,hc,hd,by simpa using hs⟩,?_⟩
  have e:=r.length
  simp only [BK] at e
  lia
theorem Inv.tuple (I:Inv X pins σ H s) (h:SqT X.K H a xs):∃its:List Value,aP xs its/\IsTup s.heap a its.toArray/\xs.length<=sizeLine:=by
 rcases h with h | ⟨o,its,n,hk,hc,hs,hz,r⟩
 ·obtain ⟨z,its,r,p⟩:=h.ok I.hok
  exact ⟨its,r,p,z⟩
 ·refine ⟨its.toList,r,⟨o,I.kIn a o hk,hc,n,by simpa using hs⟩,?_⟩
  have e:=r.length
  simp only [BK] at e
  lia
theorem Inv.list_inj (I:Inv X pins σ H s) (h:SqL X.K H a xs) (h':SqL X.K H a ys):xs=ys:=by
 obtain ⟨its,r,⟨o,n,e,_,_,d⟩,_⟩:=I.list h
 obtain ⟨its',r',⟨o',n',e',_,_,d'⟩,_⟩:=I.list h'
 rw [e] at e'; cases e'
 rw [d] at d'
 injection d' with d1 _
 have:its=its':=by simpa using congrArg Array.toList d1
 subst this
 exact r.inj r'
theorem Inv.tuple_inj (I:Inv X pins σ H s) (h:SqT X.K H a xs) (h':SqT X.K H a ys):xs=ys:=by
 obtain ⟨its,r,⟨o,e,_,n,d⟩,_⟩:=I.tuple h
 obtain ⟨its',r',⟨o',e',_,n',d'⟩,_⟩:=I.tuple h'
 rw [e] at e'; cases e'
 rw [d] at d'
 injection d' with d1 _
 have:its=its':=by simpa using congrArg Array.toList d1
 subst this
 exact r.inj r'
end
abbrev Cx.wish (X:Cx) (E:Value->Shared->Prop):Cx:={X with xe:=E}
abbrev Cx.nox (X:Cx):Cx:=X.wish λ _ _=>False
theorem Cx.Ok.wish {X:Cx}(ok:X.Ok) (E:Value->Shared->Prop):(X.wish E).Ok:=
 ⟨ok.mod,ok.kind,ok.glob,ok.blt,ok.above,ok.inj,ok.has,ok.cab,ok.hd,ok.frames,ok.stk,ok.exf,ok.bs,ok.bsz,ok.noex,ok.exfs,ok.funs,ok.frf⟩
theorem Cx.Ok.unwish {X:Cx}{E:Value->Shared->Prop}(ok:(X.wish E).Ok):X.Ok:=
 ⟨ok.mod,ok.kind,ok.glob,ok.blt,ok.above,ok.inj,ok.has,ok.cab,ok.hd,ok.frames,ok.stk,ok.exf,ok.bs,ok.bsz,ok.noex,ok.exfs,ok.funs,ok.frf⟩
section
variable {X:Cx}{pins:List (Addr×Obj)}{σ:St}{H:Hp}{s:Shared}{E:Value->Shared->Prop}
theorem Inv.wish (I:Inv X pins σ H s) (E:Value->Shared->Prop):Inv (X.wish E) pins σ H s:=⟨I.ok.wish E,I.os,I.bare,I.base,I.loc,I.cell,I.free,I.freeC,I.pin,I.hok,I.len⟩
theorem Inv.unwish (I:Inv (X.wish E) pins σ H s):Inv X pins σ H s:=⟨I.ok.unwish,I.os,I.bare,I.base,I.loc,I.cell,I.free,I.freeC,I.pin,I.hok,I.len⟩
theorem SP.unwish {D:de}{f:Flow}{s':Shared}(h:SP (X.wish E) pins D f s'):SP X pins D f s':=by
 cases f with
 | next=>obtain ⟨σ',H',I,q⟩:=h; exact ⟨σ',H',I.unwish,q⟩
 | brk=>obtain ⟨σ',H',I,q⟩:=h; exact ⟨σ',H',I.unwish,q⟩
 | cont=>obtain ⟨σ',H',I,q⟩:=h; exact ⟨σ',H',I.unwish,q⟩
 | ret u=>obtain ⟨v,σ',H',I,r,q⟩:=h; exact ⟨v,σ',H',I.unwish,r,q⟩
theorem PSs.nox {st:List Stmt}{t:TS}(h:PSs X.nox st t):PSs X st t:=λ pins s σ H D I hw=>
 wpAny_mono (h pins s σ H D (I.wish _) hw) (λ _ _ q=>q.unwish) λ _ _ z=>False.elim z
end
section
variable {X:Cx}{st:Stmt}{rest:List Stmt}{t u:TS}{e:Expr}{te:TE}{pos:Pos}
def jR:TS:=λ D σ H=>D.nx σ H
def bj (t u:TS):TS:=λ D σ H=>t {D with nx:=u D} σ H
theorem aC:PSs X [] jR:=λ _ _ σ H _ I h=>wpAny_execs_nil ⟨σ,H,I,h⟩
theorem ae (h1:PS X st t) (h2:PSs X rest u):PSs X (st::rest) (bj t u):=by
 intro pins s σ H D I h
 refine wpAny_execs_cons (thn (h1 pins s σ H {D with nx:=u D} I h) λ f s1 q=>?_)
 cases f with
 | next=>
   obtain ⟨σ',H',I',q⟩:=q
   exact h2 pins s1 σ' H' D I' q
 | ret v=>exact q
 | brk=>exact q
 | cont=>exact q
theorem aj (h1:PS X st t):PSs X [st] t:=by
 intro pins s σ H D I h
 refine wpAny_execs_cons (thn (h1 pins s σ H D I h) λ f s1 q=>?_)
 cases f with
 | next=>exact wpAny_execs_nil q
 | ret v=>exact q
 | brk=>exact q
 | cont=>exact q
def tBreak:TS:=λ D σ H=>D.bk σ H
theorem xt:PS X (.Break pos) tBreak:=λ _ _ σ H _ I h=>wpAny_Break ⟨σ,H,I,h⟩
theorem Inv.quiet {pins:List (Addr×Obj)}{σ:St}{H:Hp}{s:Shared}(I:Inv X pins σ H s):interactive X.env=false:=by simp [interactive,I.ok.kind]
def gX (te:TE):TS:=λ D σ H=>te σ H λ _ H1=>D.nx σ H1
theorem cN (he:PE X e te) (hs:swapsWith e none pos.line X.env=pure false:=by rfl):PS X (.Expr e pos) (gX te):=by
 intro pins s σ H D I h
 exact wpAny_Expr_any (thn (he pins s σ H _ I h) λ v s1 ⟨x,H1,I1,r1,q1⟩=>⟨σ,H1,I1,q1⟩) I.quiet hs
def cJ (te:TE):TS:=λ D σ H=>te σ H D.rt
theorem ay (he:PE X e te):PS X (.Return (some e) pos) (cJ te):=by
 intro pins s σ H D I h
 exact wpAny_Return_some (thn (he pins s σ H _ I h) λ v s1 ⟨x,H1,I1,r1,q1⟩=>⟨x,σ,H1,I1,r1,q1⟩)
def iN (c:TT) (t u:TS):TS:=λ D σ H=>c σ H λ b H1=>if b=true then t D σ H1 else u D σ H1
theorem aR {c:Expr}{a b:List Stmt}{tc:TT}(hc:PT X c tc) (ha:PSs X a t) (hb:PSs X b u):PS X (.If c a b pos) (iN tc t u):=by
 intro pins s σ H D I h
 refine wpAny_If (thn (hc pins s σ H _ I h) λ d s1 ⟨H1,I1,q1⟩=>?_)
 cases d with
 | true=>exact ha pins s1 σ H1 D I1 q1
 | false=>exact hb pins s1 σ H1 D I1 q1
def tNever:TS:=λ _ _ _=>False
theorem eI:PS X st tNever:=λ _ _ _ _ _ _ h=>h.elim
end
abbrev TG:=V->St->Hp->(St->Hp->Prop)->Prop
abbrev TGs:=List V->St->Hp->(St->Hp->Prop)->Prop
def PG (X:Cx) (target:Expr) (t:TG):Prop:=
 ∀(pins:List (Addr×Obj)) (s:Shared) (σ:St) (H:Hp) (v:V) (u:Value) (Q:St->Hp->Prop),Inv X pins σ H s->aN v u->t v σ H Q->
  wpAny (model X.prog X.w) X.A (assign target X.env u) (λ _ s'=> ∃σ' H',Inv X pins σ' H' s'/\Q σ' H') X.xe s
def PGs (X:Cx) (ts:List Expr) (t:TGs):Prop:=
 ∀(pins:List (Addr×Obj)) (s:Shared) (σ:St) (H:Hp) (vs:List V) (us:List Value) (Q:St->Hp->Prop),Inv X pins σ H s->aP vs us->t vs σ H Q->
  wpAny (model X.prog X.w) X.A (assignInOrder ((assignEach ts X.env).map (·.2)) us) (λ _ s'=> ∃σ' H',Inv X pins σ' H' s'/\Q σ' H') X.xe s
abbrev TSet:=V->V->V->Hp->(Hp->Prop)->Prop
def PSet (X:Cx) (t:TSet):Prop:=
 ∀(pins:List (Addr×Obj)) (s:Shared) (σ:St) (H:Hp) (o i v:V) (ov iv u:Value) (Q:Hp->Prop),Inv X pins σ H s->aN o ov->aN i iv->aN v u->t o i v H Q->
  wpAny (model X.prog X.w) X.A (setItem ov iv u) (λ _ s'=> ∃H',Inv X pins σ H' s'/\Q H') X.xe s
section
variable {X:Cx}{pos:Pos}
def gName (i:Nat):TG:=λ v σ H Q=>Q (σ.set i (some v)) H
theorem bK {i:Nat}{x:Str}(hN:X.N.Nodup) (hi:X.N[i]? =some x) (hx:Loc X.env.scope x) (hf:X.fn x=true\/X.env.scope.names.lookup x=some .local:=by first | exact .inl rfl | exact .inr rfl | assumption):PG X (.Name x pos) (gName i):=by
 intro pins s σ H v u Q I r h
 exact wpAny_assign_Name (ow I hN hi hx r (λ s' I'=>⟨_,H,I',h⟩) hf)
def gNil:TGs:=λ vs σ H Q=>vs=[]/\Q σ H
def jt (t:TG) (u:TGs):TGs:=λ vs σ H Q=> ∃v r,vs=v::r/\t v σ H λ σ' H'=>u r σ' H' Q
theorem nw:PGs X [] gNil:=by
 intro pins s σ H vs us Q I r h
 obtain ⟨e,h⟩:=h
 subst e
 cases r
 exact assignInOrder_nil ⟨σ,H,I,h⟩
theorem eJ {e:Expr}{es:List Expr}{t:TG}{u:TGs}(h1:PG X e t) (h2:PGs X es u)
  (hs:(assignEach (e::es) X.env).map (·.2)=assign e X.env::(assignEach es X.env).map (·.2):=by rfl):PGs X (e::es) (jt t u):=by
 intro pins s σ H vs us Q I r h
 obtain ⟨v,vr,e1,h⟩:=h
 subst e1
 cases r with
 | cons r rr=>
   rw [hs]
   refine assignInOrder_cons (thn (h1 pins s σ H _ _ _ I r h) λ _ s1 ⟨σ1,H1,I1,q1⟩=>?_)
   exact h2 pins s1 σ1 H1 _ _ Q I1 rr q1
def yb (K:Frag) (n:Nat) (t:TGs):TG:=λ v σ H Q=> ∃a xs,v=.ref a/\SqT K H a xs/\xs.length=n/\t xs σ H Q
theorem pg_tup {es:List Expr}{k:Nat}{t:TGs}{n:Nat}(hc:X.calm=true) (h:PGs X es t)
  (hn:(assignEach es X.env).length=n:=by rfl) (hst:(assignEach es X.env).findIdx? (·.1)=none:=by rfl):PG X (.Tuple es k pos) (yb X.K n t):=by
 intro pins s σ H v u Q I r hw
 obtain ⟨a,xs,e1,hq,hl,hw⟩:=hw
 subst e1
 cases r
 obtain ⟨its,rv,ht,hz⟩:=I.tuple hq
 refine assign_Tuple_tuple (I.ok.hd hc) ht (by simp [hn,<-hl,rv.length]) hst λ h' hx=>?_
 have I1:Inv X pins σ H {s with heap:=h'}:=I.kept (t':=s.toks) λ b o e=>hx b o (AW (Heap.lt_size e)) e
 exact h pins _ σ H xs _ Q I1 (by simpa using rv) hw
def gSub (to ti:TE) (t:TSet):TG:=λ v σ H Q=>to σ H λ o H1=>ti σ H1 λ i H2=>t o i v H2 λ H3=>Q σ H3
theorem pg_sub {o i:Expr}{to ti:TE}{t:TSet}(ho:PE X o to) (hi:PE X i ti) (hs:PSet X t)
  (ha:∀v,assign (.Subscript o i pos) X.env v=(do
   let ov<-holding [v] (eval o X.env)
   let iv<-holding [v,ov] (eval i X.env)
   standAt pos
   holding [v,ov,iv] (setItem ov iv v)
   release [v,ov,iv] []):=by intro _; rfl):PG X (.Subscript o i pos) (gSub to ti t):=by
 intro pins s σ H v u Q I r h
 rw [ha]
 refine wpAny_bind (wpAny_holding (thn (ho pins s σ H _ I h) λ ov s1 ⟨x,H1,I1,r1,q1⟩=>?_))
 refine wpAny_bind (wpAny_holding (thn (hi pins s1 σ H1 _ I1 q1) λ iv s2 ⟨y,H2,I2,r2,q2⟩=>?_))
 refine wpAny_bind (wpAny_standAt (wpAny_bind (wpAny_holding (thn (hs pins s2 σ H2 x y v ov iv u _ I2 r1 r2 r q2) λ _ s3 ⟨H3,I3,q3⟩=>?_))))
 exact wpAny_release ⟨σ,H3,I3,q3⟩
def tAsg (te:TE) (g:TG):TS:=λ D σ H=>te σ H λ x H1=>g x σ H1 D.nx
theorem xu {tg e:Expr}{te:TE}{g:TG}(he:PE X e te) (hg:PG X tg g) (hs:swapsWithSole [tg] e pos.line X.env=pure false:=by rfl) (hw:swappedStores [tg] e X.env=pure none:=by rfl)
  (h1:(assignEach [tg] X.env).map (·.2)=[assign tg X.env]:=by rfl):PS X (.Assign [tg] e pos) (tAsg te g):=by
 intro pins s σ H D I h
 refine wpAny_Assign_stores (thn (he pins s σ H _ I h) λ v s1 ⟨x,H1,I1,r1,q1⟩=>?_) hs hw
 rw [h1]
 exact thn (hg pins s1 σ H1 x v _ I1 r1 q1) λ _ s2 q=>q
theorem aw {i:Nat}{x:Str}{e:Expr}{te:TE}{pos':Pos}(hN:X.N.Nodup) (hi:X.N[i]? =some x) (hx:Loc X.env.scope x) (he:PE X e te) (hs:swapsWith e (some (.Name x pos')) pos.line X.env=pure false:=by rfl) (hf:X.fn x=true\/X.env.scope.names.lookup x=some .local:=by first | exact .inl rfl | exact .inr rfl | assumption):
  PS X (.Assign [.Name x pos'] e pos) (tAsg te (gName i)):=by
 intro pins s σ H D I h
 refine wpAny_Assign_Name (thn (he pins s σ H _ I h) λ v s1 ⟨y,H1,I1,r1,q1⟩=>?_) hs
 exact ow I1 hN hi hx r1 (λ s2 I2=>⟨_,H1,I2,q1⟩) hf
end
section
variable {X:Cx}{pos:Pos}
def tWhile (c:TT) (tb:TS):TS:=λ D σ H=> ∃W:Nat->St->Hp->Prop,(∃m,W m σ H)/\∀m σ H,W m σ H->
 c σ H λ b H1=>if b=true then∃N:St->Hp->Prop,(∀σ' H',N σ' H'->∃m',m'<m/\W m' σ' H')/\tb {D with nx:=N,ct:=N,bk:=D.nx} σ H1 else D.nx σ H1
theorem pz {c:Expr}{body:List Stmt}{tc:TT}{tb:TS}(hp:PassesOwn (model X.prog X.w) X.A X.env X.xe) (hc:PT X c tc) (hb:PSs X body tb):PS X (.While c body [] pos) (tWhile tc tb):=by
 intro pins s σ H D I h
 obtain ⟨W,⟨m0,w0⟩,turn⟩:=h
 refine wpAny_While (codeAny_whileLoop (λ n s'=> ∃σ' H',Inv X pins σ' H' s'/\W n σ' H') ?_ m0 ⟨σ,H,I,w0⟩)
 rintro n s1 ⟨σ1,H1,I1,w1⟩
 refine wpAny_passesOwn hp (thn (hc pins s1 σ1 H1 _ I1 (turn n σ1 H1 w1)) λ b s2 ⟨H2,I2,q2⟩=>?_)
 cases b with
 | true=>
   obtain ⟨N,hN,q2⟩:=q2
   rw [if_pos rfl]
   refine wpAny_passesOwn hp (thn (hb pins s2 σ1 H2 _ I2 q2) λ f s3 q3=>?_)
   cases f with
   | next=>
     obtain ⟨σ3,H3,I3,n3⟩:=q3
     obtain ⟨m',hm,w3⟩:=hN σ3 H3 n3
     exact ⟨m',hm,σ3,H3,I3,w3⟩
   | cont=>
     obtain ⟨σ3,H3,I3,n3⟩:=q3
     obtain ⟨m',hm,w3⟩:=hN σ3 H3 n3
     exact ⟨m',hm,σ3,H3,I3,w3⟩
   | brk=>exact q3
   | ret v=>exact q3
 | false=>
   rw [if_neg Bt]
   exact wpAny_execs_nil ⟨σ1,H2,I2,q2⟩
end
structure It where
 go:Nat->Hp->Prop
 yld:Nat->Hp->V->Hp->Prop
 stop:Nat->Hp->Prop
def ia (X:Cx) (pins:List (Addr×Obj)) (H:Hp) (b:Addr):Prop:=
 H b=none/\b≠X.env.locals/\b∉X.fs/\(b∈X.ex\/X.s₀.heap.objs.size<=b)/\(∀x c,X.env.cells.lookup x=some c->c≠b)/\∀p∈X.pn++pins,p.1≠b
theorem Inv.fpOk {X:Cx}{pins:List (Addr×Obj)}{σ:St}{H H':Hp}{s:Shared}{b:Addr}(I:Inv X pins σ H s) (hb:s.heap.objs.size<=b) (hn:H' b=none):ia X pins H' b:=by
 refine ⟨hn,A1 (AY I.lt hb),I.nofs hb,.inr (AX I.sz hb),λ x c e z=>?_,λ p hp z=>?_⟩
 ·obtain ⟨v,q⟩:=I.cell x c e
  exact absurd (AY q.lt (by rw [z]; exact hb)) (A0 _)
 ·exact absurd (AY (Heap.lt_size (I.pin p hp).1) (by rw [z]; exact hb)) (A0 _)
structure u9 (P:Program) (w:World) (K:Frag) (tg:Expr) (J:It) (fp:List Addr) (it:Addr) (tn:Nat->Heap->Prop):Prop where
 mem:it∈fp
 obj:∀i h,tn i h->∀b∈fp,∃o,h.get? b=some o/\∀v,o.data≠.cell v
 keep:∀i h h',tn i h->(∀b∈fp,∀o,h.get? b=some o->h'.get? b=some o)->tn i h'
 item:∀(X:Cx),X.prog=P->X.w=w->X.K=K->X.calm=true->∀(i:Nat) (pins:List (Addr×Obj)) (s:Shared) (σ:St) (H:Hp) (E:Value->Shared->Prop),Inv X pins σ H s->(∀b∈fp,ia X pins H b)->tn i s.heap->J.go i H->
  wpAny (model P w) X.A (pyNext (.ref it)) (λ r s1=> ∃u,r=some u/\
   wpAny (model P w) X.A (letOwnedTupleGo tg (.ref it) u) (λ _ s2=> ∃x H',Inv X pins σ H' s2/\aN x u/\J.yld i H x H'/\tn (i+1) s2.heap/\∀b∈fp,H' b=none) E s1) E s
 done:∀(X:Cx),X.prog=P->X.w=w->X.K=K->X.calm=true->∀(i:Nat) (pins:List (Addr×Obj)) (s:Shared) (σ:St) (H:Hp) (E:Value->Shared->Prop),Inv X pins σ H s->(∀b∈fp,ia X pins H b)->tn i s.heap->J.stop i H->
   wpAny (model P w) X.A (pyNext (.ref it)) (λ r s1=>r=none/\Inv X pins σ H s1) E s
 self:∀(A:Around) (i:Nat) (s:Shared) (Q:Value->Shared->Prop) (E:Value->Shared->Prop),tn i s.heap->Q (.ref it) s->wpAny (model P w) A (pyIter (.ref it)) Q E s
abbrev TI:=St->Hp->(It->Hp->Prop)->Prop
def PIE (X:Cx) (pins:List (Addr×Obj)) (σ:St) (tg:Expr) (R:It->Hp->Prop) (itv:Value) (s2:Shared):Prop:=
 ∃(it:Addr) (fp:List Addr) (tn:Nat->Heap->Prop) (J:It) (H':Hp),itv=.ref it/\Inv X pins σ H' s2/\u9 X.prog X.w X.K tg J fp it tn/\tn 0 s2.heap/\(∀b∈fp,ia X pins H' b)/\R J H'
def PI (X:Cx) (tg iter:Expr) (wi:TI):Prop:=
 ∀(pins:List (Addr×Obj)) (s:Shared) (σ:St) (H:Hp) (R:It->Hp->Prop),Inv X pins σ H s->wi σ H R->
  wpAny (model X.prog X.w) X.A (eval iter X.env) (λ v s1=>wpAny (model X.prog X.w) X.A (pyIter v) (PIE X pins σ tg R) X.xe s1) X.xe s
theorem xZ {M:Model}{A:Around}{E:Value->Shared->Prop}{s:Shared}{tg:Expr}{it:Addr}{u:Value}{o:Obj}{n:String}{vs:Array Value}{Q:Unit->Shared->Prop}(ho:s.heap.get? it=some o) (hc:o.cls=.type n) (hd:o.data=.fields vs)
  (hn:["enumerate","zip","dict_itemiterator","dict_reverseitemiterator","odict_iterator","itertools.zip_longest","itertools.pairwise"].contains n=false) (hQ:Q () s):wpAny M A (letOwnedTupleGo tg (.ref it) u) Q E s:=by
 unfold letOwnedTupleGo
 cases tg<;>first
  | exact wpAny_pure hQ
  | (cases u<;>first
    | exact wpAny_pure hQ
    | (refine wpAny_bind (wpAny_load ho ?_)
       rw [hc,hd]
       show wpAny M A (if (["enumerate","zip","dict_itemiterator","dict_reverseitemiterator","odict_iterator","itertools.zip_longest","itertools.pairwise"].contains n&&vs[0]? == some (rawInt _))=true then _ else _) Q E s
       rw [if_neg (by intro h; rw [hn,Bool.false_and] at h; cases h)]
       exact wpAny_pure hQ))
def Itl (K:Frag) (a:Addr):It:=
 ⟨λ i H=> ∃xs x,SqL K H a xs/\xs[i]? =some x,λ i H x H'=>H'=H/\∀xs,SqL K H a xs->xs[i]? =some x,λ i H=> ∃xs,SqL K H a xs/\xs.length<=i⟩
def Itt (K:Frag) (a:Addr):It:=
 ⟨λ i H=> ∃xs x,SqT K H a xs/\xs[i]? =some x,λ i H x H'=>H'=H/\∀xs,SqT K H a xs->xs[i]? =some x,λ i H=> ∃xs,SqT K H a xs/\xs.length<=i⟩
def Itr (lo:Int) (n:Nat):It:=⟨λ i _=>i<n,λ i H x H'=>H'=H/\x=.int (lo+i),λ i _=>n<=i⟩
theorem tV {P:Program}{w:World}{K:Frag}{tg:Expr}(a it:Addr):u9 P w K tg (Itl K a) [it] it (λ i h=>h.IsListIter it a i) where
 mem:=by simp
 obj:=λ i h st b hb=>by
  have e:b=it:=by simpa using hb
  subst e
  obtain ⟨o,e,c,d⟩:=st
  exact ⟨o,e,λ v z=>by rw [d] at z; cases z⟩
 keep:=λ i h h' st k=>st.at λ o e=>k it (by simp) o e
 item:=by
  intro X hP hw hK hc i pins s σ H E I hf st hg
  subst hP hw hK
  obtain ⟨xs,x,hq,hx⟩:=hg
  obtain ⟨its,rv,p,hz⟩:=I.list hq
  obtain ⟨u,hu,ru⟩:=rv.get hx
  obtain ⟨f0,f1,f2,f3,f4,f5⟩:=hf it (by simp)
  refine wpAny_pyNext_list_item st p.isList (x:=u) (by simpa using hu) λ h' st' sb=>?_
  have I1:Inv X pins σ H {s with heap:=h'}:=I.turned (t':=s.toks) (λ b o hb e=>(sb.2 b hb).trans e) f0 f1 f3 f4 f5
  obtain ⟨o,e,c,d⟩:=id st'
  exact ⟨u,rfl,xZ (s:={s with heap:=h'}) e c d (by decide) ⟨x,H,I1,ru,⟨rfl,λ ys hy=>by rw [I.list_inj hy hq]; exact hx⟩,st',λ b hb=>(hf b hb).1⟩⟩
 done:=by
   intro X hP hw hK hc i pins s σ H E I hf st hg
   subst hP hw hK
   obtain ⟨xs,hq,hx⟩:=hg
   obtain ⟨its,rv,p,hz⟩:=I.list hq
   obtain ⟨f0,f1,f2,f3,f4,f5⟩:=hf it (by simp)
   have hl:=rv.length
   exact wpAny_pyNext_list_end (I.ok.hd hc) st p.isList (by simp; lia) λ h' eb=>⟨rfl,I.turned (t':=s.toks) (λ b o hb e=>eb b o hb e) f0 f1 f3 f4 f5⟩
 self:=λ _ _ _ _ _ st h=>wpAny_pyIter_listiter st h
theorem qs {P:Program}{w:World}{K:Frag}{tg:Expr}(a it:Addr):u9 P w K tg (Itt K a) [it] it (λ i h=>h.IsTupleIter it a i) where
 mem:=by simp
 obj:=λ i h st b hb=>by
  have e:b=it:=by simpa using hb
  subst e
  obtain ⟨o,e,c,d⟩:=st
  exact ⟨o,e,λ v z=>by rw [d] at z; cases z⟩
 keep:=λ i h h' st k=>st.at λ o e=>k it (by simp) o e
 item:=by
  intro X hP hw hK hc i pins s σ H E I hf st hg
  subst hP hw hK
  obtain ⟨xs,x,hq,hx⟩:=hg
  obtain ⟨its,rv,p,hz⟩:=I.tuple hq
  obtain ⟨u,hu,ru⟩:=rv.get hx
  obtain ⟨f0,f1,f2,f3,f4,f5⟩:=hf it (by simp)
  refine wpAny_pyNext_tuple_item st (show s.heap.IsTuple a its.toArray from p) (x:=u) (by simpa using hu) λ h' st' sb=>?_
  have I1:Inv X pins σ H {s with heap:=h'}:=I.turned (t':=s.toks) (λ b o hb e=>(sb.2 b hb).trans e) f0 f1 f3 f4 f5
  obtain ⟨o,e,c,d⟩:=id st'
  exact ⟨u,rfl,xZ (s:={s with heap:=h'}) e c d (by decide) ⟨x,H,I1,ru,⟨rfl,λ ys hy=>by rw [I.tuple_inj hy hq]; exact hx⟩,st',λ b hb=>(hf b hb).1⟩⟩
 done:=by
   intro X hP hw hK hc i pins s σ H E I hf st hg
   subst hP hw hK
   obtain ⟨xs,hq,hx⟩:=hg
   obtain ⟨its,rv,p,hz⟩:=I.tuple hq
   obtain ⟨f0,f1,f2,f3,f4,f5⟩:=hf it (by simp)
   have hl:=rv.length
   exact wpAny_pyNext_tuple_end (I.ok.hd hc) st (show s.heap.IsTuple a its.toArray from p) (by simp; lia) λ h' eb=>⟨rfl,I.turned (t':=s.toks) (λ b o hb e=>eb b o hb e) f0 f1 f3 f4 f5⟩
 self:=λ _ _ _ _ _ st h=>wpAny_pyIter_tupleiter st h
theorem qt {P:Program}{w:World}{K:Frag}{tg:Expr}(it:Addr) (lo:Int) (n:Nat):u9 P w K tg (Itr lo n) [it] it (λ i h=>IsRangeIter h it (lo+(i:Nat)*1) ((n:Int) - (i:Nat)) 1) where
 mem:=by simp
 obj:=λ i h st b hb=>by
  have e:b=it:=by simpa using hb
  subst e
  exact ⟨_,st,λ v z=>by
   have z':Data.fields _=Data.cell v:=z
   cases z'⟩
 keep:=λ i h h' st k=>k it (by simp) _ st
 item:=by
  intro X hP hw hK hc i pins s σ H E I hf st hg
  subst hP hw hK
  obtain ⟨f0,f1,f2,f3,f4,f5⟩:=hf it (by simp)
  have W:=Walks.range (prog:=X.prog) (w:=X.w) (I.ok.hd hc) it lo 1 n
  refine W.item i s _ _ hg st λ v h' tk hv st' kk=>?_
  obtain ⟨t,rfl⟩:=hv
  have I1:Inv X pins σ H {s with heap:=h',toks:=tk}:=I.turned (λ b o hb e=>kk b o (by simpa using hb) e) f0 f1 f3 f4 f5
  refine ⟨_,rfl,xZ (s:={s with heap:=h',toks:=tk}) (n:="range_iterator") st' rfl rfl (by decide) ⟨.int (lo+i),H,I1,⟨t,?_⟩,⟨rfl,rfl⟩,st',λ b hb=>(hf b hb).1⟩⟩
  rw [Int.mul_one]
 done:=by
   intro X hP hw hK hc i pins s σ H E I hf st hg
   subst hP hw hK
   obtain ⟨f0,f1,f2,f3,f4,f5⟩:=hf it (by simp)
   exact wpAny_pyNext_range_end (I.ok.hd hc) st (by have:n<=i:=hg; lia) λ h' eb=>⟨rfl,I.turned (t':=s.toks) (λ b o hb e=>eb b o hb e) f0 f1 f3 f4 f5⟩
 self:=λ _ _ _ _ _ st h=>wpAny_pyIter_rangeiter st h
end L2
namespace L2
open PySem PySem.Spec PyProof.Rows
section
variable {X:Cx}{tg:Expr}
def pV (K:Frag) (tl:TE):TI:=λ σ H R=>tl σ H λ x H1=> ∃a,x=.ref a/\(∃xs,SqL K H1 a xs)/\R (Itl K a) H1
def iTup (K:Frag) (tl:TE):TI:=λ σ H R=>tl σ H λ x H1=> ∃a,x=.ref a/\(∃xs,SqT K H1 a xs)/\R (Itt K a) H1
theorem pi_list {l:Expr}{tl:TE}(hl:PE X l tl):PI X tg l (pV X.K tl):=by
 intro pins s σ H R I h
 refine thn (hl pins s σ H _ I h) λ v s1 ⟨x,H1,I1,r1,q1⟩=>?_
 obtain ⟨a,e,⟨xs,hq⟩,q⟩:=q1
 subst e
 cases r1
 obtain ⟨its,rv,p,hz⟩:=I1.list hq
 refine wpAny_pyIter_list p.isList ?_
 refine ⟨s1.heap.objs.size,[s1.heap.objs.size],_,_,H1,rfl,I1.kept (t':=s1.toks) λ b o e=>Heap.get?_push_of_some _ e,tV a _,⟨_,Heap.get?_push_size _ rfl,rfl,rfl⟩,λ b hb=>?_,q⟩
 have e:b=s1.heap.objs.size:=by simpa using hb
 subst e
 exact I1.fpOk (AU _) (I1.hok.fresh (AU _))
theorem pi_tup {l:Expr}{tl:TE}(hl:PE X l tl):PI X tg l (iTup X.K tl):=by
 intro pins s σ H R I h
 refine thn (hl pins s σ H _ I h) λ v s1 ⟨x,H1,I1,r1,q1⟩=>?_
 obtain ⟨a,e,⟨xs,hq⟩,q⟩:=q1
 subst e
 cases r1
 obtain ⟨its,rv,p,hz⟩:=I1.tuple hq
 refine wpAny_pyIter_tuple (show s1.heap.IsTuple a its.toArray from p) ?_
 refine ⟨s1.heap.objs.size,[s1.heap.objs.size],_,_,H1,rfl,I1.kept (t':=s1.toks) λ b o e=>Heap.get?_push_of_some _ e,qs a _,⟨_,Heap.get?_push_size _ rfl,rfl,rfl⟩,λ b hb=>?_,q⟩
 have e:b=s1.heap.objs.size:=by simpa using hb
 subst e
 exact I1.fpOk (AU _) (I1.hok.fresh (AU _))
theorem xb {pins:List (Addr×Obj)}{σ:St}{H:Hp}{s:Shared}{R:It->Hp->Prop}{E:Value->Shared->Prop}{lo hi:Int}{t u v:Tok}{tk:Nat}(I:Inv X pins σ H s) (h1: -(2 ^ 62)<=lo) (h2:lo<2 ^ 62) (h3: -(2 ^ 62)<=hi) (h4:hi<2 ^ 62)
  (q:R (Itr lo (hi - lo).toNat) H):wpAny (model X.prog X.w) X.A (pyIter (.ref s.heap.objs.size)) (PIE X pins σ tg R) E {s with heap:=s.heap.push {cls:=.type "range",data:=.fields #[.int lo t,.int hi u,.int 1 v]},toks:=tk}:=by
 refine wpAny_pyIter_range (IsRange.new ..) (small_one h1 h2 h3 h4) ?_
 have I1:Inv X pins σ H {s with heap:=s.heap.push {cls:=.type "range",data:=.fields #[.int lo t,.int hi u,.int 1 v]},toks:=tk}:=I.kept λ b o e=>Heap.get?_push_of_some _ e
 refine ⟨(s.heap.push {cls:=.type "range",data:=.fields #[.int lo t,.int hi u,.int 1 v]}).objs.size,[(s.heap.push {cls:=.type "range",data:=.fields #[.int lo t,.int hi u,.int 1 v]}).objs.size],_,_,H,rfl,
  I1.kept (t':=tk) λ b o e=>Heap.get?_push_of_some _ e,qt _ lo (hi - lo).toNat,?_,λ b hb=>?_,q⟩
 ·have e1:lo+((0:Nat):Int)*1=lo:=by simp
  have e2:(((hi - lo).toNat:Nat):Int) - ((0:Nat):Int)=Builtin.Range.rangeSize lo hi 1:=by rw [rangeSize_one]; split<;>lia
  show IsRangeIter _ _ (lo+((0:Nat):Int)*1) ((((hi - lo).toNat:Nat):Int) - ((0:Nat):Int)) 1
  rw [e1,e2]
  exact Heap.get?_push_size _ rfl
 ·have e:b=(s.heap.push {cls:=.type "range",data:=.fields #[.int lo t,.int hi u,.int 1 v]}).objs.size:=by simpa using hb
  subst e
  exact I1.fpOk (AU _) (I1.hok.fresh (AU _))
def kD (ta:TA):TI:=λ σ H R=>ta σ H λ vs H1=> ∃j:Int,vs=[.int j]/\-(2 ^ 62)<=j/\j<2 ^ 62/\R (Itr 0 j.toNat) H1
theorem ur {a:Expr}{ta:TA}{p pos:Pos}(hg:Gl X "range") (hm:X.mg "range"=none) (ha:PA X [a] ta) (hs:starEach [a] X.env=[(false,eval a X.env)]:=by rfl):PI X tg (.Call (.Name "range" p) [a] [] pos) (kD ta):=by
 intro pins s σ H R I h
 refine Call_ (i8 I hg hm boot_range (PyProof.Rows.callWith_type1 (thn (ha pos pins s σ H _ I h) λ us s1 ⟨vs,H1,I1,r1,q1⟩=>?_) hs rfl))
 obtain ⟨j,e,q1,q2,q⟩:=q1
 subst e
 cases r1 with
 | cons r rr=>
   cases rr
   obtain ⟨t,rfl⟩:=r
   exact call_range_1 (xb I1 (by lia) (by lia) q1 q2 (by simpa using q))
def tFor (wi:TI) (g:TG) (tb:TS):TS:=λ D σ H=>wi σ H λ J H1=> ∃W:Nat->Nat->St->Hp->Prop,(∃m,W 0 m σ H1)/\∀i m σ H,W i m σ H->
 (J.stop i H/\D.nx σ H)\/(J.go i H/\∃N:St->Hp->Prop,(∀σ' H',N σ' H'->∃m',m'<m/\W (i+1) m' σ' H')/\∀x H',J.yld i H x H'->g x σ H' λ σ2 H2=>tb {D with nx:=N,ct:=N,bk:=D.nx} σ2 H2)
def gr (fp:List Addr) (h:Heap):List (Addr×Obj):=fp.filterMap λ b=>(h.get? b).map λ o=>(b,o)
theorem fP {fp:List Addr}{h:Heap}{b:Addr}{o:Obj}(hb:b∈fp) (e:h.get? b=some o):(b,o)∈gr fp h:=zY.mpr ⟨b,hb,by rw [e]; rfl⟩
theorem lN {fp:List Addr}{h:Heap}{p:Addr×Obj}(hp:p∈gr fp h):p.1∈fp/\h.get? p.1=some p.2:=by
 obtain ⟨b,hb,e⟩:=zY.mp hp
 cases q:h.get? b with
 | none=>rw [q] at e; cases e
 | some o=>
   rw [q] at e
   have e':(b,o)=p:=Option.some.inj e
   subst e'
   exact ⟨hb,q⟩
theorem Inv.pinned {pins:List (Addr×Obj)}{σ:St}{H:Hp}{s:Shared}{fp:List Addr}(I:Inv X pins σ H s) (hf:∀b∈fp,ia X pins H b) (ho:∀b∈fp,∃o,s.heap.get? b=some o/\∀v,o.data≠.cell v):Inv X (pins++gr fp s.heap) σ H s:=
 I.pins_of λ p hp=>(zj.mp hp).elim (λ z=>I.pin p (zr _ z)) λ z=>by
  obtain ⟨hb,e⟩:=lN z
  obtain ⟨f0,f1,f2,_⟩:=hf p.1 hb
  obtain ⟨o,e',d⟩:=ho p.1 hb
  rw [e] at e'; cases e'
  exact ⟨e,f0,f1,f2,d⟩
theorem Inv.unpinned {pins pl:List (Addr×Obj)}{σ:St}{H:Hp}{s:Shared}(I:Inv X (pins++pl) σ H s):Inv X pins σ H s:=I.pins_of λ p hp=>I.pin p (zr _ (zK _ hp))
theorem dN {iter:Expr}{body:List Stmt}{wi:TI}{g:TG}{tb:TS}{pos:Pos}(hp:PassesOwn (model X.prog X.w) X.A X.env X.xe) (hc:X.calm=true) (hi:PI X tg iter wi) (hg:PG X tg g) (hb:PSs X body tb)
  (hs:∀x,foldedSetIterable iter X.env x=pure x:=by intro _; rfl):PS X (.For tg iter body [] pos) (tFor wi g tb):=by
 intro pins s σ H D I h
 refine wpAny_For (thn (hi pins s σ H _ I h) λ v s1 h1=>thn h1 λ itv s2 h2=>?_) hs
 obtain ⟨it,fp,tn,J,H2,e,I2,T,st2,f2,W,⟨m0,w0⟩,turn⟩:=h2
 subst e
 have stat:∀{H':Hp},(∀b∈fp,H' b=none)->∀b∈fp,ia X pins H' b:=λ hn b hb=>⟨hn b hb,(f2 b hb).2⟩
 refine codeAny_forLoop_any (λ n s'=> ∃i σ' H',Inv X pins σ' H' s'/\tn i s'.heap/\(∀b∈fp,H' b=none)/\W i n σ' H') ?_ m0 ⟨0,σ,H2,I2,st2,λ b hb=>(f2 b hb).1,w0⟩
 rintro n s3 ⟨i,σ3,H3,I3,st3,fr3,w3⟩
 rcases turn i n σ3 H3 w3 with ⟨stop,qn⟩ | ⟨go,N,hN,step⟩
 ·refine wpAny_passesOwn hp (thn (T.done X rfl rfl rfl hc i pins s3 σ3 H3 X.xe I3 (stat fr3) st3 stop) λ r s4 ⟨hr,I4⟩=>?_)
  subst hr
  exact wpAny_execs_nil ⟨σ3,H3,I4,qn⟩
 ·refine wpAny_passesOwn hp (thn (T.item X rfl rfl rfl hc i pins s3 σ3 H3 X.xe I3 (stat fr3) st3 go) λ r s4 ⟨u,hr,h4⟩=>?_)
  subst hr
  refine wpAny_passesOwn hp (thn h4 λ _ s5 ⟨x,H5,I5,r5,y5,st5,fr5⟩=>?_)
  have I5':=I5.pinned (stat fr5) (T.obj _ _ st5)
  refine wpAny_passesOwn hp (thn (hg _ s5 σ3 H5 x u _ I5' r5 (step x H5 y5)) λ _ s6 ⟨σ6,H6,I6,q6⟩=>?_)
  refine wpAny_passesOwn hp (thn (hb _ s6 σ6 H6 _ I6 q6) λ f s7 q7=>?_)
  have again:∀{σ7:St} {H7:Hp},Inv X (pins++gr fp s5.heap) σ7 H7 s7->N σ7 H7->∃m,m<n/\∃i σ' H',Inv X pins σ' H' s7/\tn i s7.heap/\(∀b∈fp,H' b=none)/\W i m σ' H':=λ {σ7 H7} I7 n7=>by
   obtain ⟨m',hm,w7⟩:=hN σ7 H7 n7
   refine ⟨m',hm,i+1,σ7,H7,I7.unpinned,T.keep _ _ _ st5 λ b hb o e=>(I7.pin (b,o) (zr _ (zr _ (fP hb e)))).1,λ b hb=>?_,w7⟩
   obtain ⟨o,e,d⟩:=T.obj _ _ st5 b hb
   exact (I7.pin (b,o) (zr _ (zr _ (fP hb e)))).2.1
  cases f with
  | next=>obtain ⟨σ7,H7,I7,n7⟩:=q7; exact again I7 n7
  | cont=>obtain ⟨σ7,H7,I7,n7⟩:=q7; exact again I7 n7
  | brk=>obtain ⟨σ7,H7,I7,q7⟩:=q7; exact ⟨σ7,H7,I7.unpinned,q7⟩
  | ret v=>obtain ⟨x7,σ7,H7,I7,r7,q7⟩:=q7; exact ⟨x7,σ7,H7,I7.unpinned,r7,q7⟩
end
theorem yj {K:Frag}{a:Addr}{xs:List V}{g:TG}{tb:TS}{D:de}{σ:St}{H:Hp}(Pv:Nat->St->Hp->Prop) (h0:Pv 0 σ H) (hl:∀i σ H,i<=xs.length->Pv i σ H->SqL K H a xs)
  (hs:∀i x σ H,xs[i]? =some x->Pv i σ H->g x σ H λ σ2 H2=>tb {D with nx:=Pv (i+1),ct:=Pv (i+1),bk:=D.nx} σ2 H2) (hd:∀σ H,Pv xs.length σ H->D.nx σ H):
  ∃W:Nat->Nat->St->Hp->Prop,(∃m,W 0 m σ H)/\∀i m σ H,W i m σ H->
   ((Itl K a).stop i H/\D.nx σ H)\/((Itl K a).go i H/\∃N:St->Hp->Prop,(∀σ' H',N σ' H'->∃m',m'<m/\W (i+1) m' σ' H')/\∀x H',(Itl K a).yld i H x H'->g x σ H' λ σ2 H2=>tb {D with nx:=N,ct:=N,bk:=D.nx} σ2 H2):=by
 refine ⟨λ i m σ H=>m=xs.length - i/\i<=xs.length/\Pv i σ H,⟨xs.length,by simp,AV _,h0⟩,?_⟩
 rintro i m σ H ⟨rfl,hi,p⟩
 have q:=hl i σ H hi p
 by_cases hlt:i<xs.length
 ·refine .inr ⟨⟨xs,xs[i],q,by simp [hlt]⟩,Pv (i+1),λ σ' H' p'=>⟨xs.length - (i+1),by lia,rfl,hlt,p'⟩,λ x H' y=>?_⟩
  obtain ⟨e,y⟩:=y
  subst e
  exact hs i x σ _ (y xs q) p
 ·have e:i=xs.length:=by lia
  subst e
  exact .inl ⟨⟨xs,q,AU _⟩,hd σ H p⟩
theorem for_tup {K:Frag}{a:Addr}{xs:List V}{g:TG}{tb:TS}{D:de}{σ:St}{H:Hp}(Pv:Nat->St->Hp->Prop) (h0:Pv 0 σ H) (hl:∀i σ H,i<=xs.length->Pv i σ H->SqT K H a xs)
  (hs:∀i x σ H,xs[i]? =some x->Pv i σ H->g x σ H λ σ2 H2=>tb {D with nx:=Pv (i+1),ct:=Pv (i+1),bk:=D.nx} σ2 H2) (hd:∀σ H,Pv xs.length σ H->D.nx σ H):
  ∃W:Nat->Nat->St->Hp->Prop,(∃m,W 0 m σ H)/\∀i m σ H,W i m σ H->
   ((Itt K a).stop i H/\D.nx σ H)\/((Itt K a).go i H/\∃N:St->Hp->Prop,(∀σ' H',N σ' H'->∃m',m'<m/\W (i+1) m' σ' H')/\∀x H',(Itt K a).yld i H x H'->g x σ H' λ σ2 H2=>tb {D with nx:=N,ct:=N,bk:=D.nx} σ2 H2):=by
 refine ⟨λ i m σ H=>m=xs.length - i/\i<=xs.length/\Pv i σ H,⟨xs.length,by simp,AV _,h0⟩,?_⟩
 rintro i m σ H ⟨rfl,hi,p⟩
 have q:=hl i σ H hi p
 by_cases hlt:i<xs.length
 ·refine .inr ⟨⟨xs,xs[i],q,by simp [hlt]⟩,Pv (i+1),λ σ' H' p'=>⟨xs.length - (i+1),by lia,rfl,hlt,p'⟩,λ x H' y=>?_⟩
  obtain ⟨e,y⟩:=y
  subst e
  exact hs i x σ _ (y xs q) p
 ·have e:i=xs.length:=by lia
  subst e
  exact .inl ⟨⟨xs,q,AU _⟩,hd σ H p⟩
theorem lU {lo:Int}{n:Nat}{g:TG}{tb:TS}{D:de}{σ:St}{H:Hp}(Pv:Nat->St->Hp->Prop) (h0:Pv 0 σ H)
  (hs:∀i σ H,i<n->Pv i σ H->g (.int (lo+i)) σ H λ σ2 H2=>tb {D with nx:=Pv (i+1),ct:=Pv (i+1),bk:=D.nx} σ2 H2) (hd:∀σ H,Pv n σ H->D.nx σ H):
  ∃W:Nat->Nat->St->Hp->Prop,(∃m,W 0 m σ H)/\∀i m σ H,W i m σ H->
   ((Itr lo n).stop i H/\D.nx σ H)\/((Itr lo n).go i H/\∃N:St->Hp->Prop,(∀σ' H',N σ' H'->∃m',m'<m/\W (i+1) m' σ' H')/\∀x H',(Itr lo n).yld i H x H'->g x σ H' λ σ2 H2=>tb {D with nx:=N,ct:=N,bk:=D.nx} σ2 H2):=by
 refine ⟨λ i m σ H=>m=n - i/\i<=n/\Pv i σ H,⟨n,by simp,AV _,h0⟩,?_⟩
 rintro i m σ H ⟨rfl,hi,p⟩
 by_cases hlt:i<n
 ·refine .inr ⟨hlt,Pv (i+1),λ σ' H' p'=>⟨n - (i+1),by lia,rfl,hlt,p'⟩,λ x H' y=>?_⟩
  obtain ⟨e,y⟩:=y
  subst e y
  exact hs i σ _ hlt p
 ·have e:i=n:=by lia
  subst e
  exact .inl ⟨AU _,hd σ H p⟩
end L2
namespace L2
open PySem PySem.Spec PyProof.Rows
abbrev R2:=V->V->Hp->VK->Prop
def OpR (X:Cx) (f:Value->Value->Sem Value) (r:R2):Prop:=
 ∀(pins:List (Addr×Obj)) (s:Shared) (σ:St) (H:Hp) (x y:V) (v u:Value) (Q:VK),Inv X pins σ H s->aN x v->aN y u->r x y H Q->
  wpAny (model X.prog X.w) X.A (f v u) (EP X pins σ Q) X.xe s
def UnR (X:Cx) (f:Value->Sem Value) (r:V->Hp->VK->Prop):Prop:=
 ∀(pins:List (Addr×Obj)) (s:Shared) (σ:St) (H:Hp) (x:V) (v:Value) (Q:VK),Inv X pins σ H s->aN x v->r x H Q->
  wpAny (model X.prog X.w) X.A (f v) (EP X pins σ Q) X.xe s
def bb (X:Cx) (f:Value) (r:List V->Hp->VK->Prop):Prop:=
 ∀(pins:List (Addr×Obj)) (s:Shared) (σ:St) (H:Hp) (xs:List V) (us:List Value) (Q:VK),Inv X pins σ H s->aP xs us->r xs H Q->
  wpAny (model X.prog X.w) X.A (call f us) (EP X pins σ Q) X.xe s
def tOp (r:R2) (ta tb:TE):TE:=λ σ H Q=>ta σ H λ x H1=>tb σ H1 λ y H2=>r x y H2 Q
def rI (C:Int->Int->Prop) (g:Int->Int->V):R2:=λ x y H Q=> ∃i j,x=.int i/\y=.int j/\C i j/\Q (g i j) H
def rI0 (g:Int->Int->V):R2:=λ x y H Q=> ∃i j,x=.int i/\y=.int j/\Q (g i j) H
def rU (g:Int->V):V->Hp->VK->Prop:=λ x H Q=> ∃i,x=.int i/\Q (g i) H
section
variable {X:Cx}{a b c:Expr}{ta tb tc:TE}{pos:Pos}
theorem binT (ha:PE X a ta) (hb:PE X b tb) {pins:List (Addr×Obj)}{s:Shared}{σ:St}{H:Hp}{R:V->V->Hp->Prop}(I:Inv X pins σ H s)
  (h:ta σ H λ x H1=>tb σ H1 λ y H2=>R x y H2) {Q:Value->Shared->Prop} {f:Value->Value->Sem Value}
  (hf:∀v u s2 x y H2,Inv X pins σ H2 s2->aN x v->aN y u->R x y H2->wpAny (model X.prog X.w) X.A (f v u) Q X.xe s2):
  wpAny (model X.prog X.w) X.A (eval a X.env) (λ v s₁=>wpAny (model X.prog X.w) X.A (eval b X.env) (λ u s₂=>wpAny (model X.prog X.w) X.A (f v u) Q X.xe s₂) X.xe s₁) X.xe s:=by
 refine thn (ha pins s σ H _ I h) λ v s1 ⟨x,H1,I1,r1,q1⟩=>?_
 refine thn (hb pins s1 σ H1 _ I1 q1) λ u s2 ⟨y,H2,I2,r2,q2⟩=>?_
 exact hf v u s2 x y H2 I2 r1 r2 q2
theorem pe_op {op:Operator}{r:R2}(ho:OpR X (binaryOp op) r) (ha:PE X a ta) (hb:PE X b tb):PE X (.BinOp a op b pos) (tOp r ta tb):=by
 intro pins s σ H Q I h
 exact wpAny_BinOp (binT ha hb I h λ v u s2 x y H2 I2 rx ry q=>ho pins s2 σ H2 x y v u Q I2 rx ry q)
theorem opI {f:Value->Value->Sem Value}{C:Int->Int->Prop}{g:Int->Int->Int}
  (rule:∀(i j:Int) (t u:Tok) (s:Shared) (Q:Value->Shared->Prop) (E:Value->Shared->Prop),C i j->Q (.int (g i j) s.toks) {s with toks:=s.toks+1}->wpAny (model X.prog X.w) X.A (f (.int i t) (.int j u)) Q E s):
  OpR X f (rI C λ i j=>.int (g i j)):=by
 intro pins s σ H x y v u Q I rx ry h
 obtain ⟨i,j,rfl,rfl,hc,q⟩:=h
 obtain ⟨t,rfl⟩:=rx
 obtain ⟨t',rfl⟩:=ry
 exact rule i j t t' s _ _ hc ⟨.int (g i j),H,I.tok _,⟨_,rfl⟩,q⟩
theorem opI0 {f:Value->Value->Sem Value}{g:Int->Int->Int}
  (rule:∀(i j:Int) (t u:Tok) (s:Shared) (Q:Value->Shared->Prop) (E:Value->Shared->Prop),Q (.int (g i j) s.toks) {s with toks:=s.toks+1}->wpAny (model X.prog X.w) X.A (f (.int i t) (.int j u)) Q E s):
  OpR X f (rI0 λ i j=>.int (g i j)):=by
 intro pins s σ H x y v u Q I rx ry h
 obtain ⟨i,j,rfl,rfl,q⟩:=h
 obtain ⟨t,rfl⟩:=rx
 obtain ⟨t',rfl⟩:=ry
 exact rule i j t t' s _ _ ⟨.int (g i j),H,I.tok _,⟨_,rfl⟩,q⟩
theorem opB0 {f:Value->Value->Sem Value}{g:Int->Int->Bool}
  (rule:∀(i j:Int) (t u:Tok) (s:Shared) (Q:Value->Shared->Prop) (E:Value->Shared->Prop),Q (.bool (g i j)) s->wpAny (model X.prog X.w) X.A (f (.int i t) (.int j u)) Q E s):
  OpR X f (rI0 λ i j=>.bl (g i j)):=by
 intro pins s σ H x y v u Q I rx ry h
 obtain ⟨i,j,rfl,rfl,q⟩:=h
 obtain ⟨t,rfl⟩:=rx
 obtain ⟨t',rfl⟩:=ry
 exact rule i j t t' s _ _ ⟨.bl (g i j),H,I,rfl,q⟩
def CDiv (i j:Int):Prop:=0<j/\j<1073741824
def CPow (i j:Int):Prop:=0<=j/\j<=1000000/\i.natAbs<2 ^ 64
def ve (i j:Int):Prop:=(-(2 ^ 64)<i/\i<2 ^ 64)\/(-(2 ^ 64)<j/\j<2 ^ 64)
theorem ve.ok {i j:Int}(h:ve i j):IntMulOk i j:=by
 rcases h with ⟨h1,h2⟩ | ⟨h1,h2⟩
 ·exact .of_left (intBits_le_64 h1 h2)
 ·exact .of_right (intBits_le_64 h1 h2)
theorem op_add:OpR X (binaryOp .Add) (rI0 λ i j=>.int (i+j)):=opI0 λ _ _ _ _ _ _ _ q=>add_int q
theorem op_sub:OpR X (binaryOp .Sub) (rI0 λ i j=>.int (i - j)):=opI0 λ _ _ _ _ _ _ _ q=>sub_int q
theorem op_mul:OpR X (binaryOp .Mult) (rI ve λ i j=>.int (i*j)):=opI λ _ _ _ _ _ _ _ hc q=>mul_int q hc.ok
theorem op_fdiv:OpR X (binaryOp .FloorDiv) (rI CDiv λ i j=>.int (i / j)):=opI λ i j _ _ _ _ _ hc q=>by
 have h1:(0:Int)<j:=hc.1
 have h2:j<1073741824:=hc.2
 exact floordiv_int (by lia) (by rw [Int.fdiv_eq_ediv_of_nonneg i (by lia)]; exact q) (.inl (PyProof.noPylong_small (by lia)))
theorem op_mod:OpR X (binaryOp .Mod) (rI (λ _ j=>0<j) λ i j=>.int (i % j)):=opI λ i j _ _ _ _ _ hc q=>by
 have h1:(0:Int)<j:=hc
 exact mod_int' (by lia) (by rw [Int.fmod_eq_emod_of_nonneg i (by lia)]; exact q)
theorem op_pow:OpR X (binaryOp .Pow) (rI CPow λ i j=>.int (i ^ j.toNat)):=opI λ _ _ _ _ _ _ _ hc q=>pow_int_small hc.1 hc.2.1 hc.2.2 q
theorem unI {f:Value->Sem Value}{g:Int->Int}
  (rule:∀(i:Int) (t:Tok) (s:Shared) (Q:Value->Shared->Prop) (E:Value->Shared->Prop),Q (.int (g i) s.toks) {s with toks:=s.toks+1}->wpAny (model X.prog X.w) X.A (f (.int i t)) Q E s):
  UnR X f (rU λ i=>.int (g i)):=by
 intro pins s σ H x v Q I rx h
 obtain ⟨i,rfl,q⟩:=h
 obtain ⟨t,rfl⟩:=rx
 exact rule i t s _ _ ⟨.int (g i),H,I.tok _,⟨_,rfl⟩,q⟩
theorem un_neg:UnR X (unaryOp .USub) (rU λ i=>.int (-i)):=unI λ _ _ _ _ _ q=>neg_int q
end
def scal:V->V->Bool
 | .non,.non=>true | .non,.int _=>true | .int _,.non=>true | .non,.bl _=>true | .bl _,.non=>true | .non,.str _=>true | .str _,.non=>true
 | .int _,.int _=>true | .bl _,.bl _=>true | .str _,.str _=>true | .byt _,.byt _=>true
 | .int _,.str _=>true | .str _,.int _=>true | .bl _,.str _=>true | .str _,.bl _=>true
 | _,_=>false
def rEq:R2:=λ x y H Q=>scal x y=true/\Q (.bl (decide (x=y))) H
def rNe:R2:=λ x y H Q=>scal x y=true/\Q (.bl (!decide (x=y))) H
theorem tI {i j:Int}:decide (V.int i=V.int j)=(i == j):=by
 rw [Bw]
 simp
theorem dec_bl {i j:Bool}:decide (V.bl i=V.bl j)=(i == j):=by
 rw [Bw]
 simp
theorem tH {i j:Str}:decide (V.str i=V.str j)=(i == j):=by
 rw [Bw]
 simp
theorem tJ {i j:Array UInt8}:decide (V.byt i=V.byt j)=(i.toList == j.toList):=by
 rw [Bw]
 cases i
 cases j
 simp
section
variable {X:Cx}{a b c:Expr}{ta tb tc:TE}{pos:Pos}
theorem fin_bl {pins:List (Addr×Obj)}{σ:St}{H:Hp}{s:Shared}{Q:VK}{k k':Bool}(I:Inv X pins σ H s) (q:Q (.bl k) H) (e:k=k'):EP X pins σ Q (.bool k') s:=by
 subst e
 exact ⟨.bl k,H,I,rfl,q⟩
theorem op_eq:OpR X (compareOp .Eq) rEq:=by
 intro pins s σ H x y v u Q I rx ry h
 obtain ⟨hs,q⟩:=h
 cases x with
 | non=>
   cases rx
   cases y with
   | non=>cases ry; exact PySem.EqNone.eq_none_none (fin_bl I q (by simp))
   | bl j=>cases ry; exact PySem.EqNone.eq_none_bool (fin_bl I q (by simp))
   | int j=>obtain ⟨t',rfl⟩:=ry; exact PySem.EqNone.eq_none_int (fin_bl I q (by simp))
   | str j=>obtain ⟨t',rfl⟩:=ry; exact PySem.EqNone.eq_none_str (fin_bl I q (by simp))
   | _=>exact absurd (show false=true from hs) Bt
 | bl i=>
   cases rx
   cases y with
   | non=>cases ry; exact PySem.EqNone.eq_bool_none (fin_bl I q (by simp))
   | bl j=>cases ry; exact eq_bool (fin_bl I q dec_bl)
   | str j=>obtain ⟨t',rfl⟩:=ry; exact PySem.EqMixed.eq_bool_str (fin_bl I q (by simp))
   | _=>exact absurd (show false=true from hs) Bt
 | int i=>
   obtain ⟨t,rfl⟩:=rx
   cases y with
   | non=>cases ry; exact PySem.EqNone.eq_int_none (fin_bl I q (by simp))
   | int j=>obtain ⟨t',rfl⟩:=ry; exact eq_int (fin_bl I q tI)
   | str j=>obtain ⟨t',rfl⟩:=ry; exact PySem.EqMixed.eq_int_str (fin_bl I q (by simp))
   | _=>exact absurd (show false=true from hs) Bt
 | str i=>
   obtain ⟨t,rfl⟩:=rx
   cases y with
   | non=>cases ry; exact PySem.EqNone.eq_str_none (fin_bl I q (by simp))
   | bl j=>cases ry; exact PySem.EqMixed.eq_str_bool (fin_bl I q (by simp))
   | int j=>obtain ⟨t',rfl⟩:=ry; exact PySem.EqMixed.eq_str_int (fin_bl I q (by simp))
   | str j=>obtain ⟨t',rfl⟩:=ry; exact eq_str (fin_bl I q tH)
   | _=>exact absurd (show false=true from hs) Bt
 | byt i=>
   obtain ⟨t,rfl⟩:=rx
   cases y with
   | byt j=>obtain ⟨t',rfl⟩:=ry; exact PySem.W.eq_bytes (fin_bl I q tJ)
   | _=>exact absurd (show false=true from hs) Bt
 | _=>cases y<;>exact absurd (show false=true from hs) Bt
theorem op_ne:OpR X (compareOp .NotEq) rNe:=by
 intro pins s σ H x y v u Q I rx ry h
 obtain ⟨hs,q⟩:=h
 cases x with
 | non=>
   cases rx
   cases y with
   | non=>cases ry; exact PySem.EqNone.ne_none_none (fin_bl I q (by simp))
   | bl j=>cases ry; exact PySem.EqNone.ne_none_bool (fin_bl I q (by simp))
   | int j=>obtain ⟨t',rfl⟩:=ry; exact PySem.EqNone.ne_none_int (fin_bl I q (by simp))
   | str j=>obtain ⟨t',rfl⟩:=ry; exact PySem.EqNone.ne_none_str (fin_bl I q (by simp))
   | _=>exact absurd (show false=true from hs) Bt
 | bl i=>
   cases rx
   cases y with
   | non=>cases ry; exact PySem.EqNone.ne_bool_none (fin_bl I q (by simp))
   | bl j=>cases ry; exact ne_bool (fin_bl I q (congrArg not dec_bl))
   | str j=>obtain ⟨t',rfl⟩:=ry; exact PySem.EqMixed.ne_bool_str (fin_bl I q (by simp))
   | _=>exact absurd (show false=true from hs) Bt
 | int i=>
   obtain ⟨t,rfl⟩:=rx
   cases y with
   | non=>cases ry; exact PySem.EqNone.ne_int_none (fin_bl I q (by simp))
   | int j=>obtain ⟨t',rfl⟩:=ry; exact ne_int (fin_bl I q (congrArg not tI))
   | str j=>obtain ⟨t',rfl⟩:=ry; exact PySem.EqMixed.ne_int_str (fin_bl I q (by simp))
   | _=>exact absurd (show false=true from hs) Bt
 | str i=>
   obtain ⟨t,rfl⟩:=rx
   cases y with
   | non=>cases ry; exact PySem.EqNone.ne_str_none (fin_bl I q (by simp))
   | bl j=>cases ry; exact PySem.EqMixed.ne_str_bool (fin_bl I q (by simp))
   | int j=>obtain ⟨t',rfl⟩:=ry; exact PySem.EqMixed.ne_str_int (fin_bl I q (by simp))
   | str j=>obtain ⟨t',rfl⟩:=ry; exact ne_str (fin_bl I q (congrArg not tH))
   | _=>exact absurd (show false=true from hs) Bt
 | byt i=>
   obtain ⟨t,rfl⟩:=rx
   cases y with
   | byt j=>obtain ⟨t',rfl⟩:=ry; exact PySem.W.ne_bytes (fin_bl I q (congrArg not tJ))
   | _=>exact absurd (show false=true from hs) Bt
 | _=>cases y<;>exact absurd (show false=true from hs) Bt
theorem op_lt:OpR X (compareOp .Lt) (rI0 λ i j=>.bl (decide (i<j))):=opB0 λ _ _ _ _ _ _ _ q=>lt_int q
theorem op_le:OpR X (compareOp .LtE) (rI0 λ i j=>.bl (decide (i<=j))):=opB0 λ _ _ _ _ _ _ _ q=>le_int q
theorem op_gt:OpR X (compareOp .Gt) (rI0 λ i j=>.bl (decide (j<i))):=opB0 λ _ _ _ _ _ _ _ q=>gt_int q
theorem op_ge:OpR X (compareOp .GtE) (rI0 λ i j=>.bl (decide (j<=i))):=opB0 λ _ _ _ _ _ _ _ q=>ge_int q
theorem uv:OpR X (compareOp .Lt) (λ x y H Q=> ∃i j,x=.str i/\y=.str j/\Q (.bl (decide (i.cps.toList<j.cps.toList))) H):=by
 intro pins s σ H x y v u Q I rx ry h
 obtain ⟨i,j,rfl,rfl,q⟩:=h
 obtain ⟨t,rfl⟩:=rx
 obtain ⟨t',rfl⟩:=ry
 exact lt_str (fin_bl I q rfl)
theorem ux:OpR X (compareOp .In) (λ x y H Q=> ∃i j,x=.str i/\y=.str j/\Q (.bl (!(Builtin.Str.occurrences j i 0 j.length 1).isEmpty)) H):=by
 intro pins s σ H x y v u Q I rx ry h
 obtain ⟨i,j,rfl,rfl,q⟩:=h
 obtain ⟨t,rfl⟩:=rx
 obtain ⟨t',rfl⟩:=ry
 exact in_str (fin_bl I q rfl)
theorem op_isN:OpR X (compareOp .Is) (λ x y H Q=>y=.non/\Q (.bl (decide (x=.non))) H):=by
 intro pins s σ H x y v u Q I rx ry h
 obtain ⟨rfl,q⟩:=h
 cases ry
 refine is_none_gen (fin_bl I q ?_)
 cases x<;>first
  | (cases rx; rfl)
  | (obtain ⟨t,rfl⟩:=rx; rfl)
theorem op_notN:OpR X (compareOp .IsNot) (λ x y H Q=>y=.non/\Q (.bl (!decide (x=.non))) H):=by
 intro pins s σ H x y v u Q I rx ry h
 obtain ⟨rfl,q⟩:=h
 cases ry
 refine isnot_none_gen (fin_bl I q ?_)
 cases x<;>first
  | (cases rx; rfl)
  | (obtain ⟨t,rfl⟩:=rx; rfl)
theorem nz:OpR X (compareOp .NotIn) (λ x y H Q=> ∃i j,x=.str i/\y=.str j/\Q (.bl (!(!(Builtin.Str.occurrences j i 0 j.length 1).isEmpty))) H):=by
 intro pins s σ H x y v u Q I rx ry h
 obtain ⟨i,j,rfl,rfl,q⟩:=h
 obtain ⟨t,rfl⟩:=rx
 obtain ⟨t',rfl⟩:=ry
 exact notIn_str (fin_bl I q rfl)
theorem km (b:Expr) {op:CmpOp}(h:op≠.In:=by decide) (h2:op≠.NotIn:=by decide):behindInMarks op b=false:=by
 have e1:(op == CmpOp.In)=false:=by cases op<;>first | rfl | exact absurd rfl h
 have e2:(op == CmpOp.NotIn)=false:=by cases op<;>first | rfl | exact absurd rfl h2
 cases b<;>simp [behindInMarks,e1,e2]
theorem pe_cmpR {op:CmpOp}{r:R2}(ho:OpR X (compareOp op) r) (ha:PE X a ta) (hb:PE X b tb) (hm:behindInMarks op b=false):PE X (.Compare a [op] [b] pos) (tOp r ta tb):=by
 intro pins s σ H Q I h
 exact wpAny_Compare1 (binT ha hb I h λ v u s2 x y H2 I2 rx ry q=>ho pins s2 σ H2 x y v u Q I2 rx ry q) hm
theorem i7:(sizeLine:Nat)<2 ^ 63:=by rw [sizeLine_eq]; decide
theorem qS:OpR X (binaryOp .Add) (λ x y H Q=> ∃i j,x=.str i/\y=.str j/\i.length+j.length<=sizeLine/\Q (.str (i++j)) H):=by
 intro pins s σ H x y v u Q I rx ry h
 obtain ⟨i,j,rfl,rfl,hz,q⟩:=h
 obtain ⟨t,rfl⟩:=rx
 obtain ⟨t',rfl⟩:=ry
 exact add_str (λ t' tk=>⟨.str (i++j),H,I.tok _,⟨_,rfl⟩,q⟩) hz
theorem dv {x:V}{us:List Value}(r:aP [x] us):∃u,us=[u]/\aN x u:=by
 cases r with
 | cons r1 r2=>cases r2; exact ⟨_,rfl,r1⟩
theorem vals2 {x y:V}{us:List Value}(r:aP [x,y] us):∃u w',us=[u,w']/\aN x u/\aN y w':=by
 cases r with
 | cons r1 r2=>
   cases r2 with
   | cons r3 r4=>cases r4; exact ⟨_,_,rfl,r1,r3⟩
theorem uX:bb X (.type "int") (λ xs H Q=>(∃i,xs=[.int i]/\Q (.int i) H)\/∃k,xs=[.bl k]/\Q (.int (if k then 1 else 0)) H):=by
 intro pins s σ H xs us Q I r h
 rcases h with ⟨i,rfl,q⟩ | ⟨k,rfl,q⟩
 ·obtain ⟨u,rfl,t,rfl⟩:=dv r
  exact call_int_int ⟨.int i,H,I,⟨_,rfl⟩,q⟩
 ·obtain ⟨u,rfl,r1⟩:=dv r
  cases r1
  exact call_int_bool ⟨.int (if k then 1 else 0),H,I.tok _,⟨_,rfl⟩,q⟩
end
end L2
namespace L2
open PySem PySem.Spec PyProof.Rows
structure rV (h:Heap) (x dx C:Addr) (mA:Str->Option Value):Prop where
 obj:h.get? x=some (PySem.W.instObj C dx)
 ns:h.Ns1 dx mA
 ne:dx≠x
theorem uD {h:Heap}{dx:Addr}{mA:Str->Option Value}(n:h.Ns1 dx mA):∃od,h.get? dx=some od/\∀name,PySem.W.lookIn name od=some (mA name):=by
 obtain ⟨o,es,ep,ho,hd,hk,_,hm⟩:=n
 refine ⟨o,ho,λ name=>?_⟩
 have e:=hm name
 unfold nsFind findBy at e
 rw [<-Array.find?_toList] at e
 unfold PySem.W.lookIn
 rw [hd]
 dsimp only
 split
 ·rename_i y q
  rw [q] at e
  exact congrArg some e
 ·rename_i q
  rw [q] at e
  have a:es.toList.any (·.refKey)=false:=by
   rw [zL]
   intro y hy
   obtain ⟨z,t,hkey⟩:=hk y (Array.mem_toList_iff.mp hy)
   simp [DictEntry.refKey,hkey]
  have a':¬es.toList.any (·.refKey)=true:=by rw [a]; exact Bt
  rw [if_neg a']
  exact congrArg some e
theorem rV.look {h:Heap}{x dx C:Addr}{mA:Str->Option Value}(I:rV h x dx C mA):∃od,PySem.W.InstAt h x (PySem.W.instObj C dx) C (some od)/\∀name,PySem.W.lookIn name od=some (mA name):=
 let ⟨od,ho,hl⟩:=uD I.ns
 ⟨od,⟨I.obj,rfl,rfl,ho⟩,hl⟩
section
variable {prog:Program}{w:World}{A:Around}{E:Value->Shared->Prop}{s:Shared}{K:Frag}{x dx C f:Addr}{mA:Str->Option Value}{name:Str}{v:Value}
theorem get_map {expr:Bool}{Q:Value->Shared->Prop}(X:K.In s.heap) (I:rV s.heap x dx C mA) (hg:PySem.W.plainGet K C name=true) (hh:PySem.W.hasDictIn K C=true)
  (ha:PySem.W.findIn K (.ref C) name=some none) (hv:mA name=some v) (hv':PySem.W.handedIn v=true) (h:Q v {s with toks:=s.toks+1}):
  wpAny (model prog w) A (getAttr (.ref x) name expr) Q E s:=by
 obtain ⟨od,J,hl⟩:=I.look
 exact PySem.W.get_value X J (BX hg).1 (PySem.W.findObj_own hh ha rfl (by rw [hl,hv])) hv' h
theorem ya {pl:Sem Bool}{Q:Value×List Value->Shared->Prop}(X:K.In s.heap) (I:rV s.heap x dx C mA) (hg:PySem.W.plainGet K C name=true)
  (hf:PySem.W.findIn K (.ref C) name=some (some (.ref f))) (ht:PySem.W.isFn K (.ref f)=true) (hv:mA name=none) (h:Q (.ref f,[.ref x]) s):
  wpAny (model prog w) A (getMethod (.ref x) name pl) Q E s:=by
 obtain ⟨od,J,hl⟩:=I.look
 exact PySem.W.method_fn X J (BX hg).1 (BX hg).2 hf (beq_iff_eq.mp ht) (by show (PySem.W.lookIn name od).map (·.isSome)=some false; rw [hl,hv]; rfl) h
theorem set_map {ns:List Str}{Q:Unit->Shared->Prop}(X:K.In s.heap) (I:rV s.heap x dx C mA)
  (hs:PySem.W.findIn K (.ref C) "__setattr__"=some (some (.builtin "object.__setattr__"))) (hp:PySem.W.plainOver K C=true) (ht:PySem.W.takerIn K C name=some none) (hh:PySem.W.hasDictIn K C=true)
  (hw:PySem.Within mA ns) (hsz:ns.length<=sizeLine)
  (h:∀h',rV h' x dx C (λ y=>if y=name then some v else mA y)->Heap.SameBut dx s.heap h'->Q () {s with heap:=h',toks:=s.toks+2}):
  wpAny (model prog w) A (setAttr (.ref x) name v) Q E s:=by
 obtain ⟨od,J,hl⟩:=I.look
 refine PySem.W.set_plain X J hs (PySem.W.osa_open (s:={s with toks:=s.toks+1}) (r:=none) X J hp ht λ b=>?_)
 obtain ⟨cd,hc,hd'⟩:=PySem.W.any_some hh
 have hx:s.heap.get? x=some ⟨.ref C,some dx,.plain,#[]⟩:=I.obj
 refine wpAny_bind (wpAny_pure (wpAny_bind (wpAny_bind (wpAny_loadPart hx (wpAny_bind (PySem.W.Looks.here (s:={s with toks:=s.toks+1}) (PySem.W.looks_clsIn X hc) ?_))))))
 rw [hd']
 refine wpAny_pure (a:=some dx) (wpAny_bind (wpAny_pure (wpAny_bind ?_)))
 refine wpAny_nsSet1 (s:={s with toks:=s.toks+1}) I.ns λ h' hn2 hs2=>?_
 obtain ⟨oD,esD,epD,hoD,hdD,hcD⟩:=hn2.count (PySem.Within.cons name v hw)
 refine wpAny_bind (wpAny_lookBehind hoD (by rw [hdD]; exact pastItsLine_dict (AX hcD (by rw [zw]; lia))) ?_)
 exact wpAny_pure (h _ ⟨(hs2.2 _ (Ne.symm I.ne)).trans I.obj,hn2,I.ne⟩ hs2)
theorem xL {R:Result->Shared->Prop}{vs:List Value}{kw:List (Str×Value)}(X:K.In s.heap) (hm:PySem.W.makesIn K C=true)
  (hi:PySem.W.findIn K (.ref C) "__init__"=some (some (.ref f))) (hf:PySem.W.typeIn K (.ref f)=some (.type "function"))
  (h:codeAny (model prog w) (A.under (.builtin "type.__call__" ⟨.ref C::vs,kw⟩)) (.call (.ref f) ⟨.ref (s.heap.objs.size+1)::vs,kw⟩) (PySem.W.InitBack (s.heap.objs.size+1) R)
   {s with heap:=(s.heap.push PySem.W.emptyDict).push (PySem.W.instObj C s.heap.objs.size)}):
  codeAny (model prog w) A (.call (.ref C) ⟨vs,kw⟩) R s:=by
 obtain ⟨hh,g,d,t,os⟩:=s
 exact PySem.W.make_core (PySem.W.makes_of X hm) (PySem.W.looks_findIn X hi) (λ self=>PySem.W.bind_fn X self hf) (.inl rfl) h
end
def putF (f:Str) (v:V):List (Str×V)->List (Str×V)
 | []=>[(f,v)]
 | (g,x)::r=>if g=f then (g,v)::r else (g,x)::putF f v r
theorem av (f g:Str) (v:V):∀fs:List (Str×V),(putF f v fs).lookup g=if g=f then some v else fs.lookup g
 | []=>by
   show List.lookup g [(f,v)]=_
   by_cases h:g=f
   ·have hb:(g == f)=true:=beq_iff_eq.mpr h
    simp only [List.lookup,hb,if_pos h]
   ·have hb:(g == f)=false:=beq_eq_false_iff_ne.mpr h
    simp only [List.lookup,hb,if_neg h]
 | (k,x)::r=>by
   have ih:=av f g v r
   rw [show putF f v ((k,x)::r)=(if k=f then (k,v)::r else (k,x)::putF f v r) from rfl]
   by_cases hk:k=f
   ·rw [if_pos hk]
    by_cases h:g=k
    ·have hb:(g == k)=true:=beq_iff_eq.mpr h
     simp only [List.lookup,hb,if_pos (h.trans hk)]
    ·have hb:(g == k)=false:=beq_eq_false_iff_ne.mpr h
     simp only [List.lookup,hb,if_neg (λ e:g=f=>h (e.trans hk.symm))]
   ·rw [if_neg hk]
    by_cases h:g=k
    ·have hb:(g == k)=true:=beq_iff_eq.mpr h
     simp only [List.lookup,hb,if_neg (λ e:g=f=>hk (h.symm.trans e))]
    ·have hb:(g == k)=false:=beq_eq_false_iff_ne.mpr h
     simp only [List.lookup,hb]
     exact ih
theorem i9 (f:Str) (v:V):∀fs:List (Str×V),f∈(putF f v fs).map (·.1)/\∀g,g∈fs.map (·.1)->g∈(putF f v fs).map (·.1)
 | []=>⟨by simp [putF],λ g h=>by simp at h⟩
 | (k,x)::r=>by
   obtain ⟨i1,i2⟩:=i9 f v r
   rw [show putF f v ((k,x)::r)=(if k=f then (k,v)::r else (k,x)::putF f v r) from rfl]
   by_cases hk:k=f
   ·rw [if_pos hk]
    subst hk
    exact ⟨by simp,λ g h=>by simpa using h⟩
   ·rw [if_neg hk]
    refine ⟨?_,λ g h=>?_⟩
    ·rw [zB]
     exact zg _ i1
    ·rw [zB] at h ⊢
     rcases y6.mp h with e | e
     ·exact y6.mpr (.inl e)
     ·exact zg _ (i2 g e)
theorem bD (f:Str) (v:V):∀fs:List (Str×V),(putF f v fs).length<=fs.length+1
 | []=>by simp [putF]
 | (k,x)::r=>by
   have ih:=bD f v r
   rw [show putF f v ((k,x)::r)=(if k=f then (k,v)::r else (k,x)::putF f v r) from rfl]
   by_cases hk:k=f
   ·rw [if_pos hk,zw,zw]; lia
   ·rw [if_neg hk,zw,zw]; lia
theorem lw.some_of {v:V}{o:Option Value}(r:lw (some v) o):∃u,o=some u/\aN v u:=by
 cases o with
 | none=>exact (show False from r).elim
 | some u=>exact ⟨u,rfl,r⟩
theorem lw.none_of {o:Option Value}(r:lw none o):o=none:=by
 cases o with
 | none=>rfl
 | some u=>exact (show False from r).elim
theorem uM {v:V}{u:Value}(r:aN v u):PySem.W.handedIn u=true:=by
 cases v with
 | non=>cases (show u=Value.none from r); rfl
 | bl b=>cases (show u=Value.bool b from r); rfl
 | int i=>obtain ⟨t,e⟩:=(show∃t,u=Value.int i t from r); cases e; rfl
 | str x=>obtain ⟨t,e⟩:=(show∃t,u=Value.str x t from r); cases e; rfl
 | byt b=>obtain ⟨t,e⟩:=(show∃t,u=Value.bytes b t from r); cases e; rfl
 | flt b=>obtain ⟨t,e⟩:=(show∃t,u=Value.float b t from r); cases e; rfl
 | ref a=>cases (show u=Value.ref a from r); rfl
 | ty n=>cases (show u=Value.type n from r); rfl
section
variable {P:Program}{w:World}{H H':Hp}{h h':Heap}{a C dx:Addr}{fs fs':List (Str×V)}
theorem jM (hok:HOk P w H h) (e:H a=some (.ins C dx fs)):∃mA,rV h a dx C mA/\(∀f,lw (fs.lookup f) (mA f))/\PySem.Within mA (fs.map (·.1))/\fs.length<=1000/\H dx=some (.own a):=by
 obtain ⟨d,z,ne,ob,mA,n,r,q⟩:=(show bH P w H h a (.ins C dx fs) from hok a _ e)
 exact ⟨mA,⟨ob,n,ne⟩,r,q,z,d⟩
end
structure Cls (K:Frag) (C:Addr):Prop where
 pg:PySem.W.plainGet K C Str.empty=true
 hd:PySem.W.hasDictIn K C=true
 po:PySem.W.plainOver K C=true
 sa:PySem.W.findIn K (.ref C) "__setattr__"=some (some (.builtin "object.__setattr__"))
theorem Cls.get {K:Frag}{C:Addr}(c:Cls K C) (f:Str):PySem.W.plainGet K C f=true:=c.pg
def bX (K:Frag) (C:Addr) (f:Str):Prop:=PySem.W.findIn K (.ref C) f=some none
theorem bX.taker {K:Frag}{C:Addr}{f:Str}(n:bX K C f):PySem.W.takerIn K C f=some none:=by
 unfold PySem.W.takerIn
 rw [show PySem.W.findIn K (.ref C) f=some none from n]
 rfl
structure Meth (K:Frag) (C:Addr) (m:Str) (f:Addr):Prop where
 at_:PySem.W.findIn K (.ref C) m=some (some (.ref f))
 fn:PySem.W.isFn K (.ref f)=true
 kp:PySem.W.keepIn K (.ref f)=true
section
variable {X:Cx}{pins:List (Addr×Obj)}{σ:St}{H:Hp}{s:Shared}{a C dx:Addr}{fs:List (Str×V)}{f:Str}{v:V}{A:Around}{E:Value->Shared->Prop}
theorem rD {b:Bool}{Q:Value->Shared->Prop}(I:Inv X pins σ H s) (e:H a=some (.ins C dx fs)) (c:Cls X.K C) (n:bX X.K C f) (l:fs.lookup f=some v)
  (h:∀u s',Inv X pins σ H s'->aN v u->Q u s'):wpAny (model X.prog X.w) A (getAttr (.ref a) f b) Q E s:=by
 obtain ⟨mA,O,r,_,_,_⟩:=jM I.hok e
 obtain ⟨u,hu,ru⟩:=lw.some_of (v:=v) (o:=mA f) (by rw [<-l]; exact r f)
 exact get_map I.kIn O (c.get f) c.hd n hu (uM ru) (h u _ (I.tok _) ru)
theorem rC {m:Str}{g:Addr}{pl:Sem Bool}{Q:Value×List Value->Shared->Prop}(I:Inv X pins σ H s) (e:H a=some (.ins C dx fs)) (c:Cls X.K C) (k:Meth X.K C m g) (l:fs.lookup m=none)
  (h:Q (.ref g,[.ref a]) s):wpAny (model X.prog X.w) A (getMethod (.ref a) m pl) Q E s:=by
 obtain ⟨mA,O,r,_,_,_⟩:=jM I.hok e
 have hn:mA m=none:=lw.none_of (by rw [<-l]; exact r m)
 exact ya I.kIn O (c.get m) k.at_ k.fn hn h
theorem qE {y:V}{u:Value}{Q:Unit->Shared->Prop}(I:Inv X pins σ H s) (e:H a=some (.ins C dx fs)) (c:Cls X.K C) (n:bX X.K C f) (hl:fs.length<1000) (ry:aN y u)
  (h:∀s',Inv X pins σ (upd H a (.ins C dx (putF f y fs))) s'->Q () s'):wpAny (model X.prog X.w) A (setAttr (.ref a) f u) Q E s:=by
 obtain ⟨mA,O,r,wi,_,ho⟩:=jM I.hok e
 have hz:(fs.map (·.1)).length<=sizeLine:=by rw [y3,sizeLine_eq]; lia
 refine set_map I.kIn O c.sa c.po n.taker c.hd wi hz λ h' O' sb=>h _ ?_
 have hd:∃o,h'.get? dx=some o:=let ⟨o,_,_,e',_⟩:=O'.ns; ⟨o,e'⟩
 refine I.write (x:=a) (e:=dx) (by rw [e]; exact True.intro) (.inr ho) (λ b q hb z=>(sb.2 b hb).trans z) hd ?_
 refine ⟨by rw [aq O.ne]; exact ho,?_,O.ne,O'.obj,_,O'.ns,λ g=>?_,λ g hg=>?_⟩
 ·have:=bD f y fs; lia
 ·show lw ((putF f y fs).lookup g) (if g=f then some u else mA g)
  rw [av]
  by_cases q:g=f
  ·rw [if_pos q,if_pos q]; exact ry
  ·rw [if_neg q,if_neg q]; exact r g
 ·by_cases q:g=f
  ·rw [q]; exact (i9 f y fs).1
  ·refine (i9 f y fs).2 g (wi g λ z=>hg ?_)
   show (if g=f then some u else mA g)=none
   rw [if_neg q]; exact z
theorem Inv.made (I:Inv X pins σ H s):Inv X pins σ (upd (upd H s.heap.objs.size (.own (s.heap.objs.size+1))) (s.heap.objs.size+1) (.ins C s.heap.objs.size []))
  {s with heap:=(s.heap.push PySem.W.emptyDict).push (PySem.W.instObj C s.heap.objs.size)}:=by
 have e1:(s.heap.push PySem.W.emptyDict).get? s.heap.objs.size=some PySem.W.emptyDict:=Heap.get?_push_size s.heap rfl
 have e2:((s.heap.push PySem.W.emptyDict).push (PySem.W.instObj C s.heap.objs.size)).get? (s.heap.objs.size+1)=some (PySem.W.instObj C s.heap.objs.size):=by
  have:=Heap.get?_push_size (s.heap.push PySem.W.emptyDict) (o:=PySem.W.instObj C s.heap.objs.size) rfl
  rwa [Heap.size_push] at this
 have e3:(s.heap.push PySem.W.emptyDict).Ns s.heap.objs.size (λ _=>none):=⟨PySem.W.emptyDict,#[],_,e1,rfl,(λ e he=>absurd he (by simp)),λ _=>rfl⟩
 have I1:=I.laid (a:=s.heap.objs.size) (o:=.own (s.heap.objs.size+1)) (h':=s.heap.push PySem.W.emptyDict) (t':=s.toks) (λ b u q=>Heap.get?_push_of_some _ q) (AU _) ⟨_,e1⟩
 refine I1.laid (a:=s.heap.objs.size+1) (o:=.ins C s.heap.objs.size []) (t':=s.toks) (λ b u q=>Heap.get?_push_of_some _ q) (A2 (Heap.size_push _ _)) ?_
 have ne:s.heap.objs.size≠s.heap.objs.size+1:=AW (A6 _)
 refine ⟨by rw [aq ne,af],AV _,ne,e2,λ _=>none,(Heap.Ns1.of_empty e3).at λ o q=>Heap.get?_push_of_some _ q,λ _=>True.intro,λ y hy=>absurd rfl hy⟩
theorem attr_of {prog:Program}{w:World}{env:Env}{e:Expr}{f:Str}{pos:Pos}{s:Shared}{Q:Value->Shared->Prop}(hb:attributeBase e f env (eval e env)=eval e env)
  (h:wpAny (model prog w) A (eval e env) (λ o s₁=>wpAny (model prog w) A (getAttr o f true) Q E s₁) E s):wpAny (model prog w) A (eval (.Attribute e f pos) env) Q E s:=
 Attribute_any_ h (by rw [arm_eval_Attribute,hb])
end
def ue (K:Frag) (ta tv:TE) (f:Str):TS:=λ D σ H=>tv σ H λ y H1=>ta σ H1 λ x H2=> ∃a C dx fs,x=.ref a/\H2 a=some (.ins C dx fs)/\Cls K C/\bX K C f/\fs.length<1000/\
 D.nx σ (upd H2 a (.ins C dx (putF f y fs)))
section
variable {X:Cx}{o e value:Expr}{f:Str}{pos pos' tpos:Pos}{ta tv:TE}
theorem ps_fld (ha:PE X o ta) (hv:PE X value tv) (hs:swapsWith value (some (.Attribute o f pos')) pos.line X.env=pure false):PS X (.Assign [.Attribute o f pos'] value pos) (ue X.K ta tv f):=by
 intro pins s σ H D I h
 refine plainObj_wpAny_Assign_Attribute (thn (hv pins s σ H _ I h) λ u s1 ⟨y,H1,I1,ry,q⟩=>thn (ha pins s1 σ H1 _ I1 q) λ ov s2 ⟨x,H2,I2,rx,a,C,dx,fs,ex,ea,c,n,l,q2⟩=>?_) hs
 subst ex
 obtain rfl:ov=Value.ref a:=rx
 exact qE I2 ea c n l ry λ s3 I3=>⟨σ,_,I3,q2⟩
end
section
variable {X:Cx}{pins:List (Addr×Obj)}{σ:St}{H:Hp}{s:Shared}{A:Around}{E:Value->Shared->Prop}{Q:Value->Shared->Prop}{c:Value}{b:Bool}
inductive jj (K:Frag) (H:Hp):V->Value->Prop where
 | non:jj K H .non (.type "NoneType")
 | bl (x:Bool):jj K H (.bl x) (.type "bool")
 | int (i:Int):jj K H (.int i) (.type "int")
 | str (x:Str):jj K H (.str x) (.type "str")
 | flt (x:UInt64):jj K H (.flt x) (.type "float")
 | lst {a:Addr} {xs:List V} (e:H a=some (.lst xs)):jj K H (.ref a) (.type "list")
 | frz {a:Addr} {o:Obj} {xs:List V} (e:H a=some (.frz o (.lst xs))):jj K H (.ref a) (.type "list")
 | tup {a:Addr} {xs:List V} (e:H a=some (.tup xs)):jj K H (.ref a) (.type "tuple")
 | dK {a:Addr} {kvs:List (Key×V)} (e:H a=some (.dK kvs)):jj K H (.ref a) (.type "dict")
 | dT {a:Addr} {kvs:List (List Key×V)} (e:H a=some (.dT kvs)):jj K H (.ref a) (.type "dict")
 | ins {a C dx:Addr} {fs:List (Str×V)} (e:H a=some (.ins C dx fs)) (cl:Cls K C) (ha:PySem.W.findIn K (.ref C) "__class__"=some (some (.builtin "object.__class__")))
   (hn:PySem.W.specialIn K (.builtin "object.__class__") "__get__"=some (some (.builtin "getset_descriptor.__get__"))) (htk:PySem.W.takesIn K (.builtin "object.__class__")=some true)
   (hm:PySem.W.mroIn K C (.type "object")=some true):jj K H (.ref a) (.ref C)
theorem uI {x:V}{u t:Value}(I:Inv X pins σ H s) (rx:aN x u) (ty:jj X.K H x t) (e:PySem.W.kitOne X.K t c=some b) (h:∀tk,Q (.bool b) {s with toks:=tk}):
  wpAny (model X.prog X.w) A (call (.builtin "isinstance") [u,c]) Q E s:=by
 cases ty with
 | non=>cases (show u=Value.none from rx); exact BV PySem.W.kitx_none I.kIn True.intro e (λ z=>nomatch z) h
 | bl y=>cases (show u=Value.bool y from rx); exact BV PySem.W.kitx_bool I.kIn True.intro e (λ z=>nomatch z) h
 | int i=>obtain ⟨t,q⟩:=(show∃t,u=Value.int i t from rx); cases q; exact BV PySem.W.kitx_int I.kIn True.intro e (λ z=>nomatch z) h
 | str y=>obtain ⟨t,q⟩:=(show∃t,u=Value.str y t from rx); cases q; exact BV PySem.W.kitx_str I.kIn True.intro e (λ z=>nomatch z) h
 | flt y=>obtain ⟨t,q⟩:=(show∃t,u=Value.float y t from rx); cases q; exact BV PySem.W.kitx_float I.kIn True.intro e (λ z=>nomatch z) h
 | @lst a xs ea=>
   cases (show u=Value.ref a from rx)
   obtain ⟨_,_,n,_,h1⟩:=(show bH X.prog X.w H s.heap a (.lst xs) from I.hok a _ ea)
   exact BV B0 I.kIn ⟨_,h1,rfl⟩ e (λ z=>nomatch z) h
 | @frz a ob xs ea=>
   cases (show u=Value.ref a from rx)
   obtain ⟨_,_,_,n,_,h1⟩:=(show bH X.prog X.w H s.heap a (.frz ob (.lst xs)) from I.hok a _ ea)
   exact BV B0 I.kIn ⟨_,h1,rfl⟩ e (λ z=>nomatch z) h
 | @tup a xs ea=>
   cases (show u=Value.ref a from rx)
   obtain ⟨_,_,_,p⟩:=(show bH X.prog X.w H s.heap a (.tup xs) from I.hok a _ ea)
   obtain ⟨o,h1,h2,_⟩:=p
   exact BV PySem.W.kitx_tuple I.kIn ⟨o,h1,h2⟩ e (λ z=>nomatch z) h
 | @dK a kvs ea=>
   cases (show u=Value.ref a from rx)
   obtain ⟨_,_,vs,_,p⟩:=(show bH X.prog X.w H s.heap a (.dK kvs) from I.hok a _ ea)
   obtain ⟨o,es,ep,h1,h2,_⟩:=p
   exact BV B2 I.kIn ⟨o,h1,h2.1⟩ e (λ z=>nomatch z) h
 | @dT a kvs ea=>
   cases (show u=Value.ref a from rx)
   obtain ⟨_,_,xs,_,o,es,ep,h1,h2,_⟩:=(show bH X.prog X.w H s.heap a (.dT kvs) from I.hok a _ ea)
   exact BV B2 I.kIn ⟨o,h1,h2.1⟩ e (λ z=>nomatch z) h
 | @ins a C dx fs ea cl ha hn htk hm=>
   cases (show u=Value.ref a from rx)
   obtain ⟨mA,O,_⟩:=jM I.hok ea
   obtain ⟨od,J,_⟩:=O.look
   exact BV (PySem.W.kitx_own (cl.get _) cl.hd ha hn htk hm) I.kIn J e (λ z=>nomatch z) h
end
end L2
namespace L2
open PySem PySem.Spec PyProof.Rows
structure cT (k:Nat) (A:Around):Prop where
 hd:A.handled=none
 dp:A.depth+3*k+5<recursionLimit
 un:A.units+16*k+200<cLine
theorem cT.mono {j k:Nat}{A:Around}(r:cT k A) (h:j<=k):cT j A:=⟨r.hd,by have:=r.dp; lia,by have:=r.un; lia⟩
theorem cT.deeper {k:Nat}{A:Around}(r:cT (k+1) A) (env:Env):cT k (A.deeper env):=
 ⟨r.hd,by have:=r.dp; show A.depth+1+3*k+5<_; lia,by have:=r.un; show A.units+3+16*k+200<_; lia⟩
theorem rf {A:Around}{C:Addr}{us:List Value}{kw:List (Str×Value)}:(A.under (.builtin "type.__call__" ⟨.ref C::us,kw⟩)).depth=A.depth+1:=by
 first | rfl | simp [Around.under,Code.weight,Code.isCreation,Code.isGuard,Code.isCaller,Code.frames,Code.isFrame,guardIds]
theorem re {A:Around}{C:Addr}{us:List Value}{kw:List (Str×Value)}:(A.under (.builtin "type.__call__" ⟨.ref C::us,kw⟩)).units=A.units+1:=by
 first | rfl | simp [Around.under,Code.cUnits,Code.frames,Code.isFrame]
theorem cT.make {k:Nat}{A:Around}(r:cT (k+1) A) (C:Addr) (us:List Value) (kw:List (Str×Value)):cT k (A.under (.builtin "type.__call__" ⟨.ref C::us,kw⟩)):=
 ⟨r.hd,by have:=r.dp; rw [rf]; lia,by have:=r.un; rw [re]; lia⟩
theorem cT.depth {k:Nat}{A:Around}(r:cT k A):A.depth<recursionLimit:=by have:=r.dp; lia
theorem cT.units {k:Nat}{A:Around}(r:cT k A):A.units+64<cLine:=by have:=r.un; lia
def cO:TA:=λ _ H Q=>Q [] H
def bh (ta:TE) (tr:TA):TA:=λ σ H Q=>ta σ H λ x H1=>tr σ H1 λ xs H2=>Q (x::xs) H2
section
variable {X:Cx}{e:Expr}{es:List Expr}{te:TE}{t:TA}{pos:Pos}
theorem pa_nil:PA X [] cO:=λ _ _ _ _ H Q I h=>Calls.spliced_nil ⟨[],H,I,.nil,h⟩
theorem pa_cons (ha:PE X e te) (hr:PA X es t) (hs:starEach (e::es) X.env=(false,eval e X.env)::starEach es X.env:=by rfl):PA X (e::es) (bh te t):=by
 intro pos pins s σ H Q I h
 rw [hs]
 show wpAny _ _ (spliced ((false,eval e X.env)::backTo pos (starEach es X.env))) _ _ s
 refine Calls.spliced_cons (thn (ha pins s σ H _ I h) λ u s1 ⟨x,H1,I1,r1,q1⟩=>?_)
 exact thn (hr pos pins s1 σ H1 _ I1 q1) λ us s2 ⟨xs,H2,I2,r2,q2⟩=>⟨x::xs,H2,I2,.cons r1 r2,q2⟩
def wI (t:TA):TE:=λ σ H Q=>t σ H λ xs H1=>xs.length<=sizeLine/\∀p,H1 p=none->Q (.ref p) (upd H1 p (.tup xs))
def wK (t:TA):TE:=λ σ H Q=>t σ H λ xs H1=>xs.length<=sizeLine/\∀p,H1 p=none->Q (.ref p) (upd H1 p (.lst xs))
theorem bT {x1}(h:PA X es t):PE X (.Tuple es x1 pos) (wI t):=by
 intro pins s σ H Q I hq
 refine wpAny_Tuple_spliced (thn (h pos pins s σ H _ I hq) λ us s1 ⟨xs,H1,I1,r,z,q⟩=>⟨by rw [<-r.length]; exact z,?_⟩)
 have hf:H1 s1.heap.objs.size=none:=I1.hok.fresh (AU _)
 refine ⟨.ref s1.heap.objs.size,upd H1 s1.heap.objs.size (.tup xs),I1.laid (t':=s1.toks) (λ b u e=>Heap.get?_push_of_some _ e) (AU _) ?_,rfl,q _ hf⟩
 exact ⟨z,us,r,⟨_,Heap.get?_push_size _ rfl,rfl,_,rfl⟩⟩
theorem aY (h:PA X es t):PE X (.List es pos) (wK t):=by
 intro pins s σ H Q I hq
 refine wpAny_List_spliced (thn (h pos pins s σ H _ I hq) λ us s1 ⟨xs,H1,I1,r,z,q⟩=>⟨by rw [<-r.length]; exact z,?_⟩)
 have hf:H1 s1.heap.objs.size=none:=I1.hok.fresh (AU _)
 refine ⟨.ref s1.heap.objs.size,upd H1 s1.heap.objs.size (.lst xs),I1.laid (t':=s1.toks) (λ b u e=>Heap.get?_push_of_some _ e) (AU _) ?_,rfl,q _ hf⟩
 exact ⟨z,us,0,r,Heap.get?_push_size _ rfl⟩
end
abbrev Sp:=List V->Hp->VK->XK->Prop
abbrev CXT:=List Env->Hp->Shared->XK->Value->Shared->Prop
structure rW (P:Program) (w:World) (K:Frag) (mg:Str->Option Value) (base:Heap) (A:Around) (outer:List Env) (s:Shared) (H:Hp):Prop where
 frames:A.frames=some outer
 mod:Mod K mg base
 bs:∀b o,base.get? b=some o->s.heap.get? b=some o/\H b=none
 bsz:base.objs.size<=s.heap.objs.size
 funs:s.heap.FunFrames base outer
 frf:∀b∈frs outer,H b=none
 hok:HOk P w H s.heap
 bare:AllBare s.gens
def CE (outer:List Env) (P:Program) (w:World) (H:Hp) (s:Shared) (Q:VK) (u:Value) (s':Shared):Prop:=
 ∃v H',s'.os=s.os/\AllBare s'.gens/\Un (frs outer) [] H H' s.heap s'.heap/\HOk P w H' s'.heap/\aN v u/\Q v H'
def CR (CX:CXT) (outer:List Env) (P:Program) (w:World) (H:Hp) (s:Shared) (Q:VK) (E:XK) (r:Result) (s':Shared):Prop:=
 match r with
 | .ok (.ret u)=>CE outer P w H s Q u s'
 | .ok _=>False
 | .error e=>CX outer H s E e s'
structure ba (P:Program) (w:World) (K:Frag) (mg:Str->Option Value) (base:Heap) (CX:CXT) (k:Nat) (f:Addr) (fd:FuncData) (ps:List Str) (sp:Sp):Prop where
 len:∀vs H Q E,sp vs H Q E->vs.length=ps.length
 run:∀(A:Around) (outer:List Env) (s:Shared) (H:Hp) (args:Args) (us:List Value) (vs:List V) (Q:VK) (E:XK),cT k A->rW P w K mg base A outer s H->BindsTo s fd args (ps.zip us)->aP vs us->sp vs H Q E->
  codeAny (model P w) A (.call (.ref f) args) (CR CX outer P w H s Q E) s
theorem ba.imp {P:Program}{w:World}{K:Frag}{mg:Str->Option Value}{base:Heap}{CX:CXT}{k:Nat}{f:Addr}{fd:FuncData}{ps:List Str}{sp sp':Sp}(F:ba P w K mg base CX k f fd ps sp)
  (h:∀vs H Q E,sp' vs H Q E->sp vs H Q E):ba P w K mg base CX k f fd ps sp':=
 ⟨λ vs H Q E q=>F.len vs H Q E (h _ _ _ _ q),λ A outer s H args us vs Q E hr he hb hv hs=>F.run A outer s H args us vs Q E hr he hb hv (h _ _ _ _ hs)⟩
theorem rW.make {P:Program}{w:World}{K:Frag}{mg:Str->Option Value}{base:Heap}{A:Around}{outer:List Env}{s:Shared}{H:Hp}(e:rW P w K mg base A outer s H) (C:Addr) (us:List Value) (kw:List (Str×Value)):
  rW P w K mg base (A.under (.builtin "type.__call__" ⟨.ref C::us,kw⟩)) outer s H:=⟨by first | exact e.frames | (simpa [Around.under,Code.envs,Code.isFrame,pushEnvs] using e.frames),e.mod,e.bs,e.bsz,e.funs,e.frf,e.hok,e.bare⟩
section
variable {X:Cx}{pins:List (Addr×Obj)}{σ:St}{H:Hp}{s s':Shared}
theorem Inv.env0 (I:Inv X pins σ H s):rW X.prog X.w X.K X.mg X.base X.A X.stack s H:=
 ⟨I.ok.frames,I.ok.mod,I.bs,AX I.ok.bsz I.sz,I.stack,I.stkFree,I.hok,I.bare⟩
theorem Inv.after {Q:VK}{u:Value}(I:Inv X pins σ H s) (h:CE X.stack X.prog X.w H s Q u s'):EP X pins σ Q u s':=by
 obtain ⟨v,H',os,bare,un,hok,r,q⟩:=h
 obtain ⟨hh,g,d,t,os'⟩:=s'
 obtain rfl:os'=s.os:=os
 exact ⟨v,H',I.call (h':=hh) (g':=g) (d':=d) (t':=t) (ch:=[]) un hok bare (λ b z=>absurd z (by simp)),r,q⟩
end
def wL (sp:Sp) (dvs:List V) (E:XK) (t:TA):TE:=λ σ H Q=>t σ H λ vs H1=>sp (vs++dvs) H1 Q E
def wJ (C:Addr) (sp:Sp) (dvs:List V) (E:XK) (t:TA):TE:=λ σ H Q=>t σ H λ vs H1=> ∀x dx,H1 x=none->H1 dx=none->dx≠x->
 sp (.ref x::(vs++dvs)) (upd (upd H1 dx (.own x)) x (.ins C dx [])) (λ v H2=>v=.non/\Q (.ref x) H2) E
def hJ (K:Frag) (fd:FuncData) (ps:List Str) (ds:List Value):Prop:=
 ∀(s:Shared) (us:List Value),K.In s.heap->(us++ds).length=ps.length->BindsTo s fd ⟨us,[]⟩ (ps.zip (us++ds))
theorem hJ.all {K:Frag}{fd:FuncData}{ps:List Str}(h:∀us:List Value,us.length=ps.length->bindArgs fd ⟨us,[]⟩=pure (ps.zip us)):hJ K fd ps []:=λ s us _ hl=>by
 rw [zt] at hl ⊢
 exact .of_eq (h us hl)
def kQ (CX:CXT) (X:Cx) (E:XK):Prop:= ∀(pins:List (Addr×Obj)) (σ:St) (H:Hp) (s:Shared) (e:Value) (s':Shared),Inv X pins σ H s->CX X.stack H s E e s'->X.xe e s'
section
variable {X:Cx}{CX:CXT}{k:Nat}{f C:Addr}{fd:FuncData}{ps:List Str}{sp:Sp}{dvs:List V}{ds:List Value}{E:XK}{x m:Str}{p pos apos:Pos}{e o:Expr}{es:List Expr}{ta:TE}{t:TA}
theorem w4 {pins:List (Addr×Obj)}{σ:St}{H:Hp}{s:Shared}{Q:VK}{us:List Value}{vs:List V}(F:ba X.prog X.w X.K X.mg X.base CX k f fd ps sp) (hr:cT k X.A) (hb:hJ X.K fd ps ds) (hd:aP dvs ds) (hx:kQ CX X E)
  (I:Inv X pins σ H s) (r:aP vs us) (h:sp (vs++dvs) H Q E):wpAny (model X.prog X.w) X.A (call (.ref f) us) (EP X pins σ Q) X.xe s:=by
 have r2:aP (vs++dvs) (us++ds):=r.append hd
 have hl:(us++ds).length=ps.length:=by rw [<-r2.length]; exact F.len _ _ _ _ h
 refine wpAny_call (codeAny_mono (F.run X.A X.stack s H ⟨us,[]⟩ (us++ds) (vs++dvs) Q E hr I.env0 (hb s us I.kIn hl) r2 h) λ r s' hq=>?_)
 cases r with
 | error e=>exact hx pins σ H s e s' I hq
 | ok fl=>
   cases fl with
   | ret u=>exact I.after hq
   | next=>exact False.elim hq
   | brk=>exact False.elim hq
   | cont=>exact False.elim hq
theorem pe_call (F:ba X.prog X.w X.K X.mg X.base CX k f fd ps sp) (hr:cT k X.A) (hg:Gl X x) (hm:X.mg x=some (.ref f)) (hk:PySem.W.keepIn X.K (.ref f)=true) (hb:hJ X.K fd ps ds) (hd:aP dvs ds) (hx:kQ CX X E)
  (ha:PA X (e::es) t) (hdb:(x == ("__debug__":Str))=false:=by decide) (he:starEach (e::es) X.env=(false,eval e X.env)::starEach es X.env:=by rfl) (hpl:(backTo pos (starEach es X.env)).any (·.1)=false:=by rfl):
  PE X (.Call (.Name x p) (e::es) [] pos) (wL sp dvs E t):=by
 intro pins s σ H Q I h
 refine wpAny_Call_Name_kw (nT I hg hm ?_ hdb)
 refine BY (h₀:=X.base) I.ok.mod.kin hk (thn (ha pos pins s σ H _ I h) λ us s1 ⟨vs,H1,I1,r,q⟩=>⟨I1.kIn,?_⟩) he hpl
 exact w4 F hr hb hd hx I1 r q
structure Mk (K:Frag) (C f:Addr):Prop where
 makes:PySem.W.makesIn K C=true
 init:PySem.W.findIn K (.ref C) "__init__"=some (some (.ref f))
 fn:PySem.W.isFn K (.ref f)=true
 kp:PySem.W.keepIn K (.ref C)=true
theorem wZ {pins:List (Addr×Obj)}{σ:St}{H:Hp}{s:Shared}{Q:VK}{us:List Value}{vs:List V}(M:Mk X.K C f) (F:ba X.prog X.w X.K X.mg X.base CX k f fd ps sp) (hr:cT (k+1) X.A) (hb:hJ X.K fd ps ds) (hd:aP dvs ds)
  (hx:kQ CX X E) (I:Inv X pins σ H s) (r:aP vs us)
  (h:∀x dx,H x=none->H dx=none->dx≠x->sp (.ref x::(vs++dvs)) (upd (upd H dx (.own x)) x (.ins C dx [])) (λ v H2=>v=.non/\Q (.ref x) H2) E):
  wpAny (model X.prog X.w) X.A (call (.ref C) us) (EP X pins σ Q) X.xe s:=by
 have hq:=h (s.heap.objs.size+1) s.heap.objs.size (I.hok.fresh (AZ _)) (I.hok.fresh (AU _)) (AW (A6 _))
 have I2:=Inv.made (C:=C) I
 have r2:aP (V.ref (s.heap.objs.size+1)::(vs++dvs)) (Value.ref (s.heap.objs.size+1)::(us++ds)):=.cons rfl (r.append hd)
 have hl:(Value.ref (s.heap.objs.size+1)::us++ds).length=ps.length:=by
  have e:=r2.length
  rw [F.len _ _ _ _ hq] at e
  exact e.symm
 refine wpAny_call (xL (f:=f) I.kIn M.makes M.init (beq_iff_eq.mp M.fn) (codeAny_mono (F.run _ X.stack _ _ ⟨Value.ref (s.heap.objs.size+1)::us,[]⟩ (Value.ref (s.heap.objs.size+1)::(us++ds)) _ _ E (hr.make C us [])
  (I2.env0.make C us []) (hb _ (Value.ref (s.heap.objs.size+1)::us) I2.kIn hl) r2 hq) λ r s' hq'=>?_))
 cases r with
 | error e=>exact hx pins σ _ _ e s' I2 hq'
 | ok fl=>
   cases fl with
   | ret u=>
     obtain ⟨v,H',I3,rv,ev,q3⟩:=I2.after hq'
     subst ev
     exact ⟨rv,⟨V.ref (s.heap.objs.size+1),H',I3,rfl,q3⟩⟩
   | next=>exact False.elim hq'
   | brk=>exact False.elim hq'
   | cont=>exact False.elim hq'
theorem pe_make (M:Mk X.K C f) (F:ba X.prog X.w X.K X.mg X.base CX k f fd ps sp) (hr:cT (k+1) X.A) (hg:Gl X x) (hm:X.mg x=some (.ref C)) (hb:hJ X.K fd ps ds) (hd:aP dvs ds) (hx:kQ CX X E)
  (ha:PA X (e::es) t) (hdb:(x == ("__debug__":Str))=false:=by decide) (he:starEach (e::es) X.env=(false,eval e X.env)::starEach es X.env:=by rfl) (hpl:(backTo pos (starEach es X.env)).any (·.1)=false:=by rfl):
  PE X (.Call (.Name x p) (e::es) [] pos) (wJ C sp dvs E t):=by
 intro pins s σ H Q I h
 refine wpAny_Call_Name_kw (nT I hg hm ?_ hdb)
 refine BY (h₀:=X.base) I.ok.mod.kin M.kp (thn (ha pos pins s σ H _ I h) λ us s1 ⟨vs,H1,I1,r,q⟩=>⟨I1.kIn,?_⟩) he hpl
 exact wZ M F hr hb hd hx I1 r q
end
section
variable {X:Cx}{CX:CXT}{k:Nat}{f C:Addr}{fd:FuncData}{ps ks:List Str}{sp:Sp}{E:XK}{x m:Str}{p pos apos kpos:Pos}{e o:Expr}{es:List Expr}{kws:List Keyword}{te ta:TE}{t tk:TA}{nm:Option Str}
variable {g:List Value->List Value->List Value}{gV:List V->List V->List V}
end
structure az (N P:List Str) (sc:Scope):Prop where
 kind:sc.kind=.function
 co:sc.isCoroutine=false
 gen:sc.isGenerator=false
 nd:N.Nodup
 pre:N.take P.length=P
 par:∀x∈P,sc.names.lookup x=some .local\/sc.names.lookup x=some .cell
 nofree:∀y∈sc.names,y.2≠.free
theorem md {kindOf:Str->Option NameKind}{x:Str}:∀{binds:List (Str×Value)}{m:Str->Option Value},(∀v,(x,v)∉binds)->bindL kindOf binds m x=m x
 | [],_,_=>rfl
 | (n,v)::r,m,h=>by
   unfold bindL
   rw [md λ w hw=>h w (zg _ hw)]
   split
   ·have:x≠n:=by rintro rfl; exact h v zi
    simp [this]
   ·rfl
theorem mf {kindOf:Str->Option NameKind}{x:Str}:∀{binds:List (Str×Value)}{m:Str->Option Value},(∀v,(x,v)∉binds)->bindC kindOf binds m x=m x
 | [],_,_=>rfl
 | (n,v)::r,m,h=>by
   unfold bindC
   rw [mf λ w hw=>h w (zg _ hw)]
   split
   ·rfl
   ·have:x≠n:=by rintro rfl; exact h v zi
    simp [this]
theorem me {kindOf:Str->Option NameKind}{x:Str}{v:Value}:∀{P:List Str}{vs:List Value}{i:Nat}{m:Str->Option Value},P.Nodup->P[i]? =some x->vs[i]? =some v->kindOf x=some .local->
  bindL kindOf (P.zip vs) m x=some v
 | [],_,_,_,_,h,_,_=>by simp at h
 | _::_,[],_,_,_,_,h,_=>by simp at h
 | p::P,w::vs,0,m,nd,h1,h2,hk=>by
   simp at h1 h2; subst h1; subst h2
   show bindL kindOf ((p,w)::P.zip vs) m p=_
   unfold bindL
   rw [md λ v hv=>(zO.mp nd).1 (Ar hv).1,if_pos hk]
   simp
 | p::P,w::vs,i+1,m,nd,h1,h2,hk=>by
   show bindL kindOf ((p,w)::P.zip vs) m x=_
   unfold bindL
   exact me (i:=i) (zO.mp nd).2 (by simpa using h1) (by simpa using h2) hk
theorem mh {kindOf:Str->Option NameKind}{x:Str}{v:Value}:∀{P:List Str}{vs:List Value}{i:Nat}{m:Str->Option Value},P.Nodup->P[i]? =some x->vs[i]? =some v->kindOf x≠some .local->
  bindC kindOf (P.zip vs) m x=some v
 | [],_,_,_,_,h,_,_=>by simp at h
 | _::_,[],_,_,_,_,h,_=>by simp at h
 | p::P,w::vs,0,m,nd,h1,h2,hk=>by
   simp at h1 h2; subst h1; subst h2
   show bindC kindOf ((p,w)::P.zip vs) m p=_
   unfold bindC
   rw [mf λ v hv=>(zO.mp nd).1 (Ar hv).1,if_neg hk]
   simp
 | p::P,w::vs,i+1,m,nd,h1,h2,hk=>by
   show bindC kindOf ((p,w)::P.zip vs) m x=_
   unfold bindC
   exact mh (i:=i) (zO.mp nd).2 (by simpa using h1) (by simpa using h2) hk
def start (N:List Str) (vs:List V):St:=vs.map some++List.replicate (N.length - vs.length) none
def uS (CX:CXT) (P:Program) (w:World) (K:Frag) (mg:Str->Option Value) (base:Heap) (N:List Str) (qual:Str) (scope:Scope) (f:Addr) (cd:Value) (A:Around) (outer:List Env) (s:Shared) (H:Hp) (E:XK):Cx where
 prog:=P
 w:=w
 K:=K
 mg:=mg
 base:=base
 A:=A.deeper (envOfC qual scope s.heap.objs.size f cd)
 N:=N
 s₀:=s
 H₀:=H
 env:=envOfC qual scope s.heap.objs.size f cd
 outer:=outer
 stack:=envOfC qual scope s.heap.objs.size f cd::outer
 ex:=[]
 calm:=true
 fn:=λ _=>true
 pn:=[]
 xe:=λ e s'=>wpAny (model P w) (A.deeper (envOfC qual scope s.heap.objs.size f cd)) (leaving (envOfC qual scope s.heap.objs.size f cd) e) (λ _ s''=>CX outer H s E e s'') (λ e' s''=>CX outer H s E e' s'') s'
theorem qd {sc:Scope}{n:Nat}{x:Str}(h:sc.names.lookup x=some .cell):∃c,(cellsFrom n sc.names []).lookup x=some c:=by
 have q:=B3 sc.names n [] (.inl h)
 exact Option.isSome_iff_exists.mp q
theorem uJ {CX:CXT}{P:Program}{w:World}{K:Frag}{mg:Str->Option Value}{base:Heap}{N ps:List Str}{qual:Str}{scope:Scope}{f:Addr}{cd:Value}{A:Around}{outer:List Env}{s s1:Shared}{H:Hp}{E:XK}{us:List Value}{vs:List V}
  (S:az N ps scope) (hd:A.handled=none) (e0:rW P w K mg base A outer s H) (hl:vs.length=ps.length) (r:aP vs us)
  (x:InCallC s s.heap.objs.size (bindL (envOfC qual scope s.heap.objs.size f cd).kindOf (ps.zip us) λ _=>none) (cellsFrom (s.heap.objs.size+1) scope.names []) (bindC (envOfC qual scope s.heap.objs.size f cd).kindOf (ps.zip us) λ _=>none) s1):
  Inv (uS CX P w K mg base N qual scope f cd A outer s H E) [] (start N vs) H s1:=by
 have hpl:ps.length<=N.length:=by have:=congrArg List.length S.pre; rw [zx] at this; lia
 obtain ⟨h1,tk,rfl,hk⟩:=x.done
 have noA:∀b:Addr,b∉(uS CX P w K mg base N qual scope f cd A outer s H E).ex:=λ b z=>absurd (show b∈([]:List Addr) from z) (by simp)
 refine ⟨⟨e0.mod,S.kind,rfl,rfl,AU _,λ y z c h1 h2=>?_,λ y hy=>?_,λ y c _ h=>?_,λ _=>hd,Around.frames_deeper e0.frames,.inr ⟨rfl,rfl⟩,λ b z=>absurd z (noA b),e0.bs,e0.bsz,λ b _ _=>noA b,λ b z=>absurd z (noA b),e0.funs,e0.frf⟩,
  rfl,e0.bare,Un.kept hk,⟨_,x.toInCall.ns,λ i y v h1 h2 h3=>?_⟩,λ y c h=>⟨_,x.cell y c h⟩,e0.hok.fresh (AU _),λ y c h=>?_,λ p hp=>absurd (show p∈([]:List (Addr×Obj)) from hp) (by simp),e0.hok.kept hk,?_⟩
 ·exact name_of_addr x.apart (PySem.mem_of_lookup h1) (PySem.mem_of_lookup h2)
 ·have hy:scope.names.lookup y=some .cell\/scope.names.lookup y=some .free:=hy
  rcases hy with hy | hy
  ·exact qd hy
  ·exact absurd rfl (S.nofree _ (PySem.mem_of_lookup hy))
 ·exact A5 (x.above y c (PySem.mem_of_lookup h))
 ·have hi:i<vs.length:=by
   unfold start at h2
   by_cases hi:i<vs.length
   ·exact hi
   ·rw [AG (by simpa using hi)] at h2
    rw [List.getElem?_replicate] at h2
    split at h2<;>cases h2
  have ha:vs[i]? =some v:=by
   unfold start at h2
   rw [Ac (by simpa using hi),y8] at h2
   cases e:vs[i]? with
   | none=>rw [e] at h2; cases h2
   | some a=>rw [e] at h2; cases h2; rfl
  obtain ⟨u,hu,rv⟩:=r.get ha
  have hp:ps[i]? =some y:=by
   rw [<-S.pre,AH (by lia)]; exact h1
  have ndP:ps.Nodup:=by rw [<-S.pre]; exact S.nd.sublist (As _ _)
  refine ⟨u,rv,?_⟩
  rcases S.par y (zu hp) with k | k
  ·exact .inl ⟨k,me ndP hp hu k⟩
  ·obtain ⟨c,e⟩:=qd (n:=s.heap.objs.size+1) k
   refine .inr ⟨.inl k,c,e,?_⟩
   have q:=x.cell y c e
   rw [mh ndP hp hu (by show scope.names.lookup y≠_; rw [k]; decide)] at q
   exact q
 ·exact e0.hok.fresh (A5 (x.above y c (PySem.mem_of_lookup h)))
 ·unfold start
  show _=N.length
  rw [zm,y3,List.length_replicate]
  lia
theorem fn_of {CX:CXT}{P:Program}{w:World}{K:Frag}{mg:Str->Option Value}{base:Heap}{k:Nat}{f:Addr}{name qual:Str}{params:Arguments}{body:List Stmt}{scope:Scope}{dV kV doc pm cdv ct oc:Value}{an od:Option Addr}
  {osl:Array (Option Value)} {N ps:List Str} {sp:Sp} (lk:K.lookup f=some ⟨oc,od,.func (PySem.W.fnOf name qual params body scope dV kV doc pm an cdv ct),osl⟩) (hcd:PySem.W.codeIn K cdv qual=true) (S:az N ps scope)
  (len:∀vs H Q E,sp vs H Q E->vs.length=ps.length)
  (hbody:∀(A:Around) (outer:List Env) (s:Shared) (H:Hp) (vs:List V) (Q:VK) (E:XK),cT k (A.deeper (envOfC qual scope s.heap.objs.size f cdv))->sp vs H Q E->
   ∃t,PSs (uS CX P w K mg base N qual scope f cdv A outer s H E) body t/\t {nx:=λ _ H'=>Q .non H',rt:=Q} (start N vs) H):
  ba P w K mg base CX (k+1) f (PySem.W.fnOf name qual params body scope dV kV doc pm an cdv ct) ps sp:=by
 refine ⟨len,λ A outer s H args us vs Q E hr e0 hb r hsp=>?_⟩
 have hl:=len _ _ _ _ hsp
 have KX:K.In s.heap:=e0.mod.kin.keeps λ b o e=>(e0.bs b o e).1
 have lim:s.heap.NoLimit:=e0.mod.nolimit.keeps λ b o e=>(e0.bs b o e).1
 have hkind:∀y∈ps.zip us,scope.names.lookup y.1=some .local\/(scope.names.lookup y.1=some .cell/\((cellsFrom (s.heap.objs.size+1) scope.names []).lookup y.1).isSome=true):=λ ⟨n,v⟩ hy=>by
  rcases S.par n (Ar hy).1 with q | q
  ·exact .inl q
  ·exact .inr ⟨q,B3 _ _ _ (.inl q)⟩
 refine codeAny_call_function hr.depth (KX _ _ lk) rfl S.co S.gen rfl (PySem.W.codeRec_of KX hcd) (hb _ _ _ _ ?_)
 refine wpAny_newFunctionEnv_cells S.kind hkind λ env he s1 x=>?_
 subst he
 refine ⟨lim.keeps x.toInCall.keep,codeAny_func ?_⟩
 obtain ⟨t,ht,hq⟩:=hbody A outer s H vs Q E (hr.deeper _) hsp
 have I:Inv (uS CX P w K mg base N qual scope f cdv A outer s H E) [] (start N vs) H s1:=uJ S hr.hd e0 hl r x
 refine wpAny_mono (ht [] s1 (start N vs) H _ I hq) (λ fl s' hs=>?_) λ e s' hs=>hs
 have fin:∀{σ':St} {H':Hp} {v:V} {u:Value},Inv (uS CX P w K mg base N qual scope f cdv A outer s H E) [] σ' H' s'->aN v u->Q v H'->CE outer P w H s Q u s':=
  λ {σ' H' v u} J rv q=>⟨v,H',J.os,J.bare,J.base,J.hok,rv,q⟩
 cases fl with
 | ret u=>
   obtain ⟨v,σ',H',J,rv,q⟩:=hs
   exact fin J rv q
 | next=>
   obtain ⟨σ',H',J,q⟩:=hs
   exact fin (v:=V.non) (u:=Value.none) J rfl q
 | brk=>
   obtain ⟨_,_,_,q⟩:=hs
   exact False.elim q
 | cont=>
   obtain ⟨_,_,_,q⟩:=hs
   exact False.elim q
end L2
namespace L2
open PySem PySem.Spec PyProof.Rows
section
variable {X:Cx}{x:Str}{p pos:Pos}{e:Expr}{es:List Expr}{t:TA}{id T:String}{r:List V->Hp->VK->Prop}
def tCB (r:List V->Hp->VK->Prop) (t:TA):TE:=λ σ H Q=>t σ H λ vs H1=>r vs H1 Q
theorem xA (hc:bb X (.builtin id) r) (hg:Gl X x) (hm:X.mg x=none) (hv:bootBuiltins x=some (.builtin id)) (ha:PA X (e::es) t) (hn:x≠"__name__":=by decide) (hdb:(x == ("__debug__":Str))=false:=by decide)
  (he:starEach (e::es) X.env=(false,eval e X.env)::starEach es X.env:=by rfl) (hpl:(backTo pos (starEach es X.env)).any (·.1)=false:=by rfl):PE X (.Call (.Name x p) (e::es) [] pos) (tCB r t):=by
 intro pins s σ H Q I h
 refine wpAny_Call_Name_kw (i8 I hg hm hv ?_ hn hdb)
 exact PyProof.Rows.callWith_builtin1 (thn (ha pos pins s σ H _ I h) λ us s1 ⟨vs,H1,I1,r1,q1⟩=>hc pins s1 σ H1 vs us Q I1 r1 q1) he hpl
theorem ut (hc:bb X (.type T) r) (hg:Gl X x) (hm:X.mg x=none) (hv:bootBuiltins x=some (.type T)) (ha:PA X (e::es) t) (hn:x≠"__name__":=by decide) (hdb:(x == ("__debug__":Str))=false:=by decide)
  (he:starEach (e::es) X.env=(false,eval e X.env)::starEach es X.env:=by rfl) (hpl:(backTo pos (starEach es X.env)).any (·.1)=false:=by rfl):PE X (.Call (.Name x p) (e::es) [] pos) (tCB r t):=by
 intro pins s σ H Q I h
 refine wpAny_Call_Name_kw (i8 I hg hm hv ?_ hn hdb)
 exact PyProof.Rows.callWith_type1 (thn (ha pos pins s σ H _ I h) λ us s1 ⟨vs,H1,I1,r1,q1⟩=>hc pins s1 σ H1 vs us Q I1 r1 q1) he hpl
end
end L2
namespace HT
open PySem PyProof.Rows
section
open PySem.SeqAt
open PySem.AutoSeq1 (wpAny_loadPart')
open PySem.MeetsSeq PySem.MeetsSeq2 PySem.MeetsSeq3
end
section
variable {prog:Program}{w:World}{A:Around}{E:Value->Shared->Prop}{s:Shared}
def sIx (n d:Nat):Option Int->Nat
 | none=>d
 | some v=>if v<0 then (v+(n:Int)).toNat else min v.toNat n
theorem sIx_none (n d:Nat):sIx n d none=d:=rfl
theorem sIx_nat (n d k:Nat):sIx n d (some (k:Int))=min k n:=by
 show (if (k:Int)<0 then ((k:Int)+(n:Int)).toNat else min (k:Int).toNat n)=min k n
 rw [if_neg (by lia),Bi]
theorem sIx_le (n d:Nat) (hd:d<=n) (o:Option Int):sIx n d o<=n:=by
 cases o with
 | none=>exact hd
 | some v=>
   show (if v<0 then (v+(n:Int)).toNat else min v.toNat n)<=n
   by_cases hv:v<0
   ·rw [if_pos hv]; lia
   ·rw [if_neg hv]; exact Nat.min_le_right _ _
end
end HT
namespace L2
open PySem PySem.Spec PyProof.Rows
abbrev TO:=St->Hp->(Option Int->Hp->Prop)->Prop
def PO (X:Cx) (e:Option Expr) (t:TO):Prop:=
 ∀(pins:List (Addr×Obj)) (s:Shared) (σ:St) (H:Hp) (Q:Option Int->Hp->Prop),Inv X pins σ H s->t σ H Q->
  wpAny (model X.prog X.w) X.A (evalPart e X.env) (λ u s'=> ∃o H',Inv X pins σ H' s'/\IsPart u o/\Q o H') X.xe s
def jF:TO:=λ _ H Q=>Q none H
theorem kC {ns:List Int}:∀{us:List Value},aP (ns.map V.int) us->IntsAre us ns:=by
 induction ns with
 | nil=>intro us r; rw [Ad] at r; cases r; exact .nil
 | cons n ns ih=>
   intro us r
   rw [zB] at r
   cases r with
   | cons r1 r2=>
     obtain ⟨t,e⟩:=r1
     subst e
     exact .cons n t (ih r2)
section
variable {X:Cx}{e:Expr}{te:TE}{lo hi:Option Expr}{tl th:TO}{pos p2:Pos}
theorem gQ:PO X none jF:=by
 intro pins s σ H Q I h
 rw [evalPart_none]
 exact wpAny_pure ⟨none,H,I,.none,h⟩
def SlR (X:Cx) (r:V->Option Int->Option Int->Hp->VK->Prop):Prop:=
 ∀(pins:List (Addr×Obj)) (s:Shared) (σ:St) (H:Hp) (x:V) (v vl vu:Value) (lo hi:Option Int) (sl:Addr) (Q:VK),Inv X pins σ H s->aN x v->s.heap.IsSliceOf sl vl vu .none->IsPart vl lo->IsPart vu hi->r x lo hi H Q->
  ∃T id,typeLookup (.type T) "__getitem__"=pure (some (.builtin id))/\s.TypeIs v T/\wpAny (model X.prog X.w) X.A (getItem v (.ref sl)) (EP X pins σ Q) X.xe s
theorem SlR.or {r r':V->Option Int->Option Int->Hp->VK->Prop}(h:SlR X r) (h':SlR X r'):SlR X (λ x lo hi H Q=>r x lo hi H Q\/r' x lo hi H Q):=by
 intro pins s σ H x v vl vu lo hi sl Q I rx hs pl pu q
 rcases q with q | q
 ·exact h pins s σ H x v vl vu lo hi sl Q I rx hs pl pu q
 ·exact h' pins s σ H x v vl vu lo hi sl Q I rx hs pl pu q
def tSl (r:V->Option Int->Option Int->Hp->VK->Prop) (te:TE) (tl th:TO):TE:=λ σ H Q=>te σ H λ x H1=>tl σ H1 λ l H2=>th σ H2 λ u H3=>r x l u H3 Q
theorem xy {r:V->Option Int->Option Int->Hp->VK->Prop}(hr:SlR X r) (he:PE X e te) (hl:PO X lo tl) (hu:PO X hi th):PE X (.Subscript e (.Slice lo hi none p2) pos) (tSl r te tl th):=by
 intro pins s σ H Q I h
 refine Subscript_ (thn (he pins s σ H _ I h) λ v s1 ⟨x,H1,I1,r1,q1⟩=>?_)
 refine wpAny_Slice (thn (hl pins s1 σ H1 _ I1 q1) λ vl s2 ⟨l,H2,I2,pl,q2⟩=>thn (hu pins s2 σ H2 _ I2 q2) λ vu s3 ⟨u,H3,I3,pu,q3⟩=>?_)
 rw [evalPart_none]
 refine wpAny_pure ?_
 have I4:Inv X pins σ H3 {s3 with heap:=s3.heap.push {cls:=.type "slice",data:=.fields #[vl,vu,.none]}}:=I3.kept (t':=s3.toks) λ b ob q=>Heap.get?_push_of_some _ q
 obtain ⟨T,id,hT,ht,hg⟩:=hr pins {s3 with heap:=s3.heap.push {cls:=.type "slice",data:=.fields #[vl,vu,.none]}} σ H3 x v vl vu l u s3.heap.objs.size Q I4 r1 (Heap.IsSliceOf.new ..) pl pu q3
 show wpAny (model X.prog X.w) X.A (subscriptTail e (.Slice lo hi none p2) v (.ref s3.heap.objs.size)) (EP X pins σ Q) X.xe {s3 with heap:=s3.heap.push {cls:=.type "slice",data:=.fields #[vl,vu,.none]}}
 exact tail_any (ops:=[.ref s3.heap.objs.size,v]) ht hT hg (by with_unfolding_all rfl)
def cutV (xs:List V) (lo hi:Option Int):List V:=(xs.drop (HT.sIx xs.length 0 lo)).take (HT.sIx xs.length xs.length hi - HT.sIx xs.length 0 lo)
theorem ju (xs:List V) (lo hi:Option Int):(cutV xs lo hi).length<=xs.length:=by
 unfold cutV
 rw [zx,At]
 lia
end
end L2
namespace L2
open PySem PySem.Spec PyProof.Rows
def ixN (n:Nat) (i:Int):Option Nat:=if 0<=i then (if i<n then some i.toNat else none) else if -(n:Int)<=i then some (i+n).toNat else none
def atI {α:Type}(xs:List α) (i:Int):Option α:=(ixN xs.length i).bind λ j=>xs[j]?
theorem sV {n:Nat}{i:Int}{j:Nat}(h:ixN n i=some j):seqIndex? i n=some j/\j<n/\-(n:Int)<=i/\i<n:=by
 unfold ixN at h
 by_cases h0:0<=i
 ·rw [if_pos h0] at h
  by_cases h1:i<n
  ·rw [if_pos h1] at h
   have e:i.toNat=j:=Option.some.inj h
   exact ⟨by rw [seqIndex_of h0 h1,e],by lia,by lia,h1⟩
  ·rw [if_neg h1] at h; cases h
 ·rw [if_neg h0] at h
  by_cases h1: -(n:Int)<=i
  ·rw [if_pos h1] at h
   have e:(i+n).toNat=j:=Option.some.inj h
   exact ⟨by rw [seqIndex_neg (by lia) h1,e],by lia,h1,by lia⟩
  ·rw [if_neg h1] at h; cases h
theorem gT {α:Type}{xs:List α}{i:Int}{v:α}(h:atI xs i=some v):∃j,seqIndex? i xs.length=some j/\xs[j]? =some v/\j<xs.length/\-(xs.length:Int)<=i/\i<xs.length:=by
 unfold atI at h
 cases e:ixN xs.length i with
 | none=>rw [e] at h; cases h
 | some j=>
   rw [e] at h
   obtain ⟨h1,h2,h3,h4⟩:=sV e
   exact ⟨j,h1,h,h2,h3,h4⟩
theorem bz {α:Type}{xs:List α}{j:Nat}{v:α}(h:xs[j]? =some v):atI xs (j:Int)=some v:=by
 have hj:j<xs.length:=(zo.mp h).1
 have e:ixN xs.length (j:Int)=some j:=by
  unfold ixN
  rw [if_pos (by lia),if_pos (by lia)]; simp
 unfold atI; rw [e]; exact h
def oo (b:Expr):Prop:= ∀o i,subscripted b false o i=operate [o,i] (getItem o i)
def IxR (X:Cx) (r:R2):Prop:=
 ∀(value slice:Expr) (pins:List (Addr×Obj)) (s:Shared) (σ:St) (H:Hp) (x y:V) (v u:Value) (Q:VK),Inv X pins σ H s->aN x v->aN y u->r x y H Q->
  subscripted slice false v u=operate [v,u] (getItem v u)->wpAny (model X.prog X.w) X.A (subscriptTail value slice v u) (EP X pins σ Q) X.xe s
def MtR (X:Cx) (id:String) (r:V->List V->Hp->VK->Prop):Prop:=
 ∀(pins:List (Addr×Obj)) (s:Shared) (σ:St) (H:Hp) (x:V) (xs:List V) (v:Value) (us:List Value) (Q:VK),Inv X pins σ H s->aN x v->aP xs us->r x xs H Q->
  wpAny (model X.prog X.w) X.A (call (.builtin id) (v::us)) (EP X pins σ Q) X.xe s
section
variable {X:Cx}{a b:Expr}{ta tb:TE}{pos:Pos}
theorem IxR.or {r r':R2}(h:IxR X r) (h':IxR X r'):IxR X (λ x y H Q=>r x y H Q\/r' x y H Q):=by
 intro value slice pins s σ H x y v u Q I rx ry q hs
 rcases q with q | q
 ·exact h value slice pins s σ H x y v u Q I rx ry q hs
 ·exact h' value slice pins s σ H x y v u Q I rx ry q hs
theorem pe_ix {r:R2}(hr:IxR X r) (ha:PE X a ta) (hb:PE X b tb) (hs:oo b):PE X (.Subscript a b pos) (tOp r ta tb):=by
 intro pins s σ H Q I h
 exact Subscript_ (binT ha hb I h λ v u s2 x y H2 I2 rx ry q=>hr a b pins s2 σ H2 x y v u Q I2 rx ry q (hs _ _))
def rIxL (K:Frag):R2:=λ x y H Q=> ∃p xs i v,x=.ref p/\y=.int i/\SqL K H p xs/\atI xs i=some v/\Q v H
def rIxT (K:Frag):R2:=λ x y H Q=> ∃p xs i v,x=.ref p/\y=.int i/\SqT K H p xs/\atI xs i=some v/\Q v H
def rIxS:R2:=λ x y H Q=> ∃z i c,x=.str z/\y=.int i/\z.length<=sizeLine/\atI z.cps.toList i=some c/\Q (.str ⟨#[c]⟩) H
theorem ix_list:IxR X (rIxL X.K):=by
 intro value slice pins s σ H x y v u Q I rx ry h hs
 obtain ⟨p,xs,i,z,rfl,rfl,hq,he,q⟩:=h
 cases rx
 obtain ⟨t,rfl⟩:=ry
 obtain ⟨its,r,pl,hz⟩:=I.list hq
 obtain ⟨j,h1,h2,h3,h4,h5⟩:=gT he
 obtain ⟨w,ew,rw'⟩:=r.get h2
 have hl:=r.length
 have hn:=i7
 have fin:EP X pins σ Q w s:=⟨z,H,I,rw',q⟩
 by_cases h0:0<=i
 ·have hj:i.toNat=j:=by
   rw [seqIndex_of h0 h5] at h1
   exact Option.some.inj h1
  exact item_listR pl.isList h0 (by lia) (by rw [hj]; simpa using ew) fin hs
 ·have hj:(i+(its.toArray.size:Int)).toNat=j:=by
   rw [seqIndex_neg (by lia) h4] at h1
   rw [y9,<-hl]
   exact Option.some.inj h1
  exact subscriptTail_builtinR (x:=w) pl.isList.typeIs slot_list_getitem.lookup
   (wpAny_getItem_list_neg (Q:=λ r s'=>r=w/\EP X pins σ Q r s') pl.isList (by lia) (by rw [y9]<;>lia) (by lia) (by rw [hj]; simpa using ew) ⟨rfl,fin⟩) hs
theorem ix_tup:IxR X (rIxT X.K):=by
 intro value slice pins s σ H x y v u Q I rx ry h hs
 obtain ⟨p,xs,i,z,rfl,rfl,hq,he,q⟩:=h
 cases rx
 obtain ⟨t,rfl⟩:=ry
 obtain ⟨its,r,pl,hz⟩:=I.tuple hq
 obtain ⟨j,h1,h2,h3,h4,h5⟩:=gT he
 obtain ⟨w,ew,rw'⟩:=r.get h2
 have hl:=r.length
 have hn:=i7
 have fin:EP X pins σ Q w s:=⟨z,H,I,rw',q⟩
 exact subscriptTail_builtinR (x:=w) pl.typeIs slot_tuple_getitem.lookup
  (getItem_tuple (j:=j) (Q:=λ r s'=>r=w/\EP X pins σ Q r s') pl (by lia) (by lia) (by rw [y9,<-hl]; exact h1) (by simpa using ew) ⟨rfl,fin⟩) hs
theorem ix_str:IxR X rIxS:=by
 intro value slice pins s σ H x y v u Q I rx ry h hs
 obtain ⟨z,i,c,rfl,rfl,hz,he,q⟩:=h
 obtain ⟨t,rfl⟩:=rx
 obtain ⟨t',rfl⟩:=ry
 obtain ⟨j,h1,h2,h3,h4,h5⟩:=gT he
 have hl:z.cps.toList.length=z.length:=by simp [Str.length]
 rw [hl] at h1 h4 h5
 have hn:=i7
 exact tail_any (typeIs_str s z t) slot_str_getitem.lookup (getItem_str (c:=c) (by
  have e1:decide (i< -(2 ^ 63:Int))=false:=decide_eq_false (by lia)
  have e2:decide (i≥2 ^ 63)=false:=decide_eq_false (by lia)
  rw [e1,e2,Bz]) (by rw [h1]; simpa using h2) ⟨.str ⟨#[c]⟩,H,I.tok _,⟨_,rfl⟩,q⟩) hs
def rIx (K:Frag):R2:=λ x y H Q=>rIxL K x y H Q\/rIxT K x y H Q\/rIxS x y H Q
theorem ix_seq:IxR X (rIx X.K):=ix_list.or (ix_tup.or ix_str)
theorem rc (its:List Value) (n j:Nat) (u:Value):Obj.mapSeq (·.setIfInBounds j u) {cls:=.type "list",data:=.seq its.toArray n}={cls:=.type "list",data:=.seq (its.set j u).toArray n}:=by
 simp [Obj.mapSeq]
theorem Inv.lst {pins:List (Addr×Obj)}{σ:St}{H:Hp}{s:Shared}{p:Addr}{xs:List V}(I:Inv X pins σ H s) (h:H p=some (.lst xs)):
  ∃(its:List Value) (n:Nat),aP xs its/\s.heap.get? p=some {cls:=.type "list",data:=.seq its.toArray n}/\xs.length<=sizeLine:=by
 obtain ⟨z,its,n,r,e⟩:=I.hok p _ h
 exact ⟨its,n,r,e,z⟩
theorem Inv.lstUpd {pins:List (Addr×Obj)}{σ:St}{H:Hp}{s:Shared}{p:Addr}{xs ys:List V}{its its':List Value}{n n':Nat}{f:Obj->Obj}(I:Inv X pins σ H s) (h:H p=some (.lst xs))
  (ho:s.heap.get? p=some {cls:=.type "list",data:=.seq its.toArray n}) (hf:f {cls:=.type "list",data:=.seq its.toArray n}={cls:=.type "list",data:=.seq its'.toArray n'}) (r:aP ys its') (hz:ys.length<=sizeLine) (t:Nat):
  Inv X pins σ (upd H p (.lst ys)) {s with heap:=s.heap.update p f,toks:=t}:=by
 have e:(s.heap.update p f).get? p=some {cls:=.type "list",data:=.seq its'.toArray n'}:=by
  rw [Heap.get?_update_self f ho (by rw [hf]<;>rfl),hf]
 refine I.write (x:=p) (e:=p) (by rw [h]; trivial) (.inl rfl) (λ b u hb q=>(Heap.get?_update_other _ _ (Ne.symm hb)).trans q) ⟨_,e⟩ ?_
 exact ⟨hz,its',n',r,e⟩
def rSetL:V->V->V->Hp->(Hp->Prop)->Prop:=λ o i v H Q=> ∃p xs k j,o=.ref p/\i=.int k/\H p=some (.lst xs)/\ixN xs.length k=some j/\Q (upd H p (.lst (xs.set j v)))
theorem wX:PSet X rSetL:=by
 intro pins s σ H o i v ov iv u Q I ro ri rv h
 obtain ⟨p,xs,k,j,rfl,rfl,hp,hj,q⟩:=h
 cases ro
 obtain ⟨t,rfl⟩:=ri
 obtain ⟨its,n,r,ho,hz⟩:=I.lst hp
 obtain ⟨h1,h2,h3,h4⟩:=sV hj
 have hl:=r.length
 have hn:=i7
 have I':Inv X pins σ (upd H p (.lst (xs.set j v))) {s with heap:=s.heap.update p (Obj.mapSeq (·.setIfInBounds j u))}:=
  I.lstUpd hp ho (rc its n j u) (r.set rv j) (by rw [List.length_set]; exact hz) s.toks
 by_cases h0:0<=k
 ·have hk:k.toNat=j:=by
   rw [seqIndex_of h0 h4] at h1
   exact Option.some.inj h1
  exact PySem.W.ki_setAt ho h0 (by lia) (by rw [y9,<-hl]; exact h4) (by rw [hk]; exact ⟨_,I',q⟩)
 ·have hk:(k+(its.toArray.size:Int)).toNat=j:=by
   rw [seqIndex_neg (by lia) h3] at h1
   rw [y9,<-hl]
   exact Option.some.inj h1
  exact PySem.W.ki_setBack ho (by lia) (by rw [y9,<-hl]; exact h3) (by lia) (by rw [hk]; exact ⟨_,I',q⟩)
theorem mF (lo hi:Option Int) (n:Nat):(sliceBounds lo hi none n).1=((HT.sIx n 0 lo:Nat):Int)/\(sliceBounds lo hi none n).2.1=((HT.sIx n n hi:Nat):Int)/\(sliceBounds lo hi none n).2.2=1:=by
 refine ⟨?_,?_,rfl⟩
 ·cases lo with
  | none=>simp [sliceBounds,HT.sIx]
  | some i=>
    simp only [sliceBounds,HT.sIx,BR,show (1:Int) > 0 by decide,if_true]
    by_cases h:i<0
    ·simp only [h,if_true]<;>lia
    ·simp only [h,if_false]<;>lia
 ·cases hi with
  | none=>simp [sliceBounds,HT.sIx]
  | some i=>
    simp only [sliceBounds,HT.sIx,BR,show (1:Int) > 0 by decide,if_true]
    by_cases h:i<0
    ·simp only [h,if_true]<;>lia
    ·simp only [h,if_false]<;>lia
theorem kT (its:List Value) (lo hi:Option Int):slicePick its.toArray lo hi none=((its.drop (HT.sIx its.length 0 lo)).take (HT.sIx its.length its.length hi - HT.sIx its.length 0 lo)).toArray:=by
 obtain ⟨h1,h2,h3⟩:=mF lo hi its.toArray.size
 unfold slicePick
 rw [h1,h2,h3]
 simp only [sliceRange_one,pick_run,y9]<;>rfl
def rSlL (K:Frag):V->Option Int->Option Int->Hp->VK->Prop:=λ x lo hi H Q=> ∃a xs,x=.ref a/\SqL K H a xs/\∀p,H p=none->Q (.ref p) (upd H p (.lst (cutV xs lo hi)))
theorem sl_list:SlR X (rSlL X.K):=by
 intro pins s σ H x v vl vu lo hi sl Q I rx hs pl pu h
 obtain ⟨a,xs,rfl,hx,q⟩:=h
 cases rx
 obtain ⟨its,r,ht,hz⟩:=I.list hx
 have hlen:=r.length
 refine ⟨"list",_,slot_list_getitem.lookup,ht.isList.typeIs,?_⟩
 refine wpAny_getItem_list_slice ht.isList hs pl pu .none (by simp) ?_ (by rw [y9]<;>lia)
 rw [kT,<-hlen]
 refine ⟨.ref s.heap.objs.size,_,I.laid (t':=s.toks) (o:=.lst (cutV xs lo hi)) (λ b ob q=>Heap.get?_push_of_some _ q) (AU _) ?_,rfl,q _ (I.hok.fresh (AU _))⟩
 exact ⟨AX (ju xs lo hi) hz,_,0,(r.drop (HT.sIx xs.length 0 lo)).take (HT.sIx xs.length xs.length hi - HT.sIx xs.length 0 lo),Heap.get?_push_size _ rfl⟩
def flatV:V->Bool
 | .non=>true
 | .bl _=>true
 | .int _=>true
 | .str _=>true
 | _=>false
def eqV:V->V->Bool
 | .non,.non=>true
 | .bl a,.bl b=>a == b
 | .bl a,.int b=>(if a then 1 else 0) == b
 | .int a,.bl b=>a == (if b then 1 else 0)
 | .int a,.int b=>a == b
 | .str a,.str b=>a == b
 | _,_=>false
theorem yx {A:Around}{s:Shared}{y x:V}{u v:Value}(ry:aN y u) (rx:aN x v) (fy:flatV y=true) (fx:flatV x=true):SeqAt.EqAt A s u v (eqV y x):=by
 cases y with
 | non=>
   cases ry
   cases x with
   | non=>cases rx; exact SeqAt.EqAt.same _
   | bl b=>cases rx; exact SeqAt.EqAt.none_bool b
   | int b=>obtain ⟨t,rfl⟩:=rx; exact SeqAt.EqAt.none_int b t
   | str b=>obtain ⟨t,rfl⟩:=rx; exact SeqAt.EqAt.none_str b t
   | _=>exact absurd (show false=true from fx) Bt
 | bl a=>
   cases ry
   cases x with
   | non=>cases rx; exact SeqAt.EqAt.bool_none a
   | bl b=>cases rx; exact SeqAt.EqAt.bool_bool a b
   | int b=>obtain ⟨t,rfl⟩:=rx; exact SeqAt.EqAt.bool_int a b t
   | str b=>obtain ⟨t,rfl⟩:=rx; exact SeqAt.EqAt.bool_str a b t
   | _=>exact absurd (show false=true from fx) Bt
 | int a=>
   obtain ⟨t',rfl⟩:=ry
   cases x with
   | non=>cases rx; exact SeqAt.EqAt.int_none a t'
   | bl b=>cases rx; exact SeqAt.EqAt.int_bool a t' b
   | int b=>obtain ⟨t,rfl⟩:=rx; exact SeqAt.EqAt.int_int a t' b t
   | str b=>obtain ⟨t,rfl⟩:=rx; exact SeqAt.EqAt.int_str a t' b t
   | _=>exact absurd (show false=true from fx) Bt
 | str a=>
   obtain ⟨t',rfl⟩:=ry
   cases x with
   | non=>cases rx; exact SeqAt.EqAt.str_none a t'
   | bl b=>cases rx; exact SeqAt.EqAt.str_bool a t' b
   | int b=>obtain ⟨t,rfl⟩:=rx; exact SeqAt.EqAt.str_int a t' b t
   | str b=>obtain ⟨t,rfl⟩:=rx; exact SeqAt.EqAt.str_str a t' b t
   | _=>exact absurd (show false=true from fx) Bt
 | _=>exact absurd (show false=true from fy) Bt
def eqU (x:V) (u:Value):Bool:=match u with
 | .none=>eqV .non x
 | .bool b=>eqV (.bl b) x
 | .int i _=>eqV (.int i) x
 | .str z _=>eqV (.str z) x
 | _=>false
theorem yv {x y:V}{u:Value}(r:aN y u) (f:flatV y=true):eqU x u=eqV y x:=by
 cases y with
 | non=>cases r; rfl
 | bl b=>cases r; rfl
 | int i=>obtain ⟨t,rfl⟩:=r; rfl
 | str z=>obtain ⟨t,rfl⟩:=r; rfl
 | _=>exact absurd (show false=true from f) Bt
theorem iK {x:V}:∀{xs:List V}{us:List Value},aP xs us->xs.all flatV=true->us.any (eqU x)=xs.any λ y=>eqV y x
 | _,_,.nil,_=>rfl
 | y::xs,u::us,.cons r t,f=>by
   rw [zD,Bu] at f
   rw [Ae,Ae,yv r f.1,iK t f.2]
theorem gw {A:Around}{s:Shared}{x:V}{v:Value}(rx:aN x v) (fx:flatV x=true):∀{xs:List V}{us:List Value},aP xs us->xs.all flatV=true->∀u∈us,SeqAt.EqAt A s u v (eqU x u)
 | _,_,.nil,_=>λ u hu=>by cases hu
 | y::xs,u::us,.cons r t,f=>λ u' hu=>by
   rw [zD,Bu] at f
   rcases y6.mp hu with rfl | hu
   ·rw [yv r f.1]; exact yx r rx f.1 fx
   ·exact gw rx fx t f.2 u' hu
def inV (x:V) (xs:List V):Bool:=xs.any λ y=>eqV y x
def rIn (K:Frag) (neg:Bool):R2:=λ x y H Q=> ∃p xs,y=.ref p/\(SqL K H p xs\/SqT K H p xs)/\flatV x=true/\xs.all flatV=true/\Q (.bl (if neg then !inV x xs else inV x xs)) H
theorem uy:OpR X (compareOp .In) (rIn X.K false):=by
 intro pins s σ H x y v u Q I rx ry h
 obtain ⟨p,xs,rfl,hq,fx,fs,q⟩:=h
 cases ry
 rcases hq with hq | hq
 ·obtain ⟨its,r,pl,hz⟩:=I.list hq
  refine SeqAt.in_listAt (eqU x) pl.isList (λ w hw=>gw rx fx r fs w (by simpa using hw)) ⟨.bl _,H,I,rfl,?_⟩
  rw [show its.toArray.any (eqU x)=its.any (eqU x) by simp,iK r fs]
  exact q
 ·obtain ⟨its,r,pl,hz⟩:=I.tuple hq
  refine SeqAt.in_tupleAt (eqU x) pl (λ w hw=>gw rx fx r fs w (by simpa using hw)) ⟨.bl _,H,I,rfl,?_⟩
  rw [show its.toArray.any (eqU x)=its.any (eqU x) by simp,iK r fs]
  exact q
theorem nA:OpR X (compareOp .NotIn) (rIn X.K true):=by
 intro pins s σ H x y v u Q I rx ry h
 obtain ⟨p,xs,rfl,hq,fx,fs,q⟩:=h
 cases ry
 rcases hq with hq | hq
 ·obtain ⟨its,r,pl,hz⟩:=I.list hq
  refine SeqAt.notIn_listAt (eqU x) pl.isList (λ w hw=>gw rx fx r fs w (by simpa using hw)) ⟨.bl _,H,I,rfl,?_⟩
  rw [show its.toArray.any (eqU x)=its.any (eqU x) by simp,iK r fs]
  exact q
 ·obtain ⟨its,r,pl,hz⟩:=I.tuple hq
  refine SeqAt.notIn_tupleAt (eqU x) pl (λ w hw=>gw rx fx r fs w (by simpa using hw)) ⟨.bl _,H,I,rfl,?_⟩
  rw [show its.toArray.any (eqU x)=its.any (eqU x) by simp,iK r fs]
  exact q
theorem oe:bb X (.builtin "len") (λ xs H Q=> ∃p ys,xs=[.ref p]/\(SqL X.K H p ys\/SqT X.K H p ys)/\Q (.int ys.length) H):=by
 intro pins s σ H xs us Q I r h
 obtain ⟨p,ys,rfl,hq,q⟩:=h
 obtain ⟨u,rfl,rx⟩:=dv r
 cases rx
 have hn:=i7
 rcases hq with hq | hq
 ·obtain ⟨its,r',pl,hz⟩:=I.list hq
  have hlen:=r'.length
  exact Calls.call_len_list pl.isList (by simp only [y9]<;>lia) ⟨.int ys.length,H,I.tok _,⟨s.toks+1,by rw [y9,hlen]⟩,q⟩
 ·obtain ⟨its,r',pl,hz⟩:=I.tuple hq
  have hlen:=r'.length
  exact len_tuple pl (by simp only [y9]<;>lia) ⟨.int ys.length,H,I.tok _,⟨s.toks+1,by rw [y9,hlen]⟩,q⟩
theorem oa:bb X (.builtin "len") (λ xs H Q=> ∃z,xs=[.str z]/\z.length<=sizeLine/\Q (.int z.length) H):=by
 intro pins s σ H xs us Q I r h
 obtain ⟨z,rfl,hz,q⟩:=h
 obtain ⟨u,rfl,t,rfl⟩:=dv r
 have hn:=i7
 exact len_str (by lia) ⟨.int z.length,H,I.tok _,⟨_,rfl⟩,q⟩
theorem bb.or {f:Value}{r r':List V->Hp->VK->Prop}(h:bb X f r) (h':bb X f r'):bb X f (λ xs H Q=>r xs H Q\/r' xs H Q):=by
 intro pins s σ H xs us Q I rs q
 rcases q with q | q
 ·exact h pins s σ H xs us Q I rs q
 ·exact h' pins s σ H xs us Q I rs q
theorem n9:bb X (.type "list") (λ xs H Q=> ∃p ys,xs=[.ref p]/\(SqL X.K H p ys\/SqT X.K H p ys)/\∀l,H l=none->Q (.ref l) (upd H l (.lst ys))):=by
 intro pins s σ H xs us Q I r h
 obtain ⟨p,ys,rfl,hq,q⟩:=h
 obtain ⟨u,rfl,rx⟩:=dv r
 cases rx
 have fin:∀(its:List Value),aP ys its->ys.length<=sizeLine->∀(h':Heap) (c':Nat),(∀b o',s.heap.get? b=some o'->h'.get? b=some o')->
   h'.get? s.heap.objs.size=some {cls:=.type "list",dict:=none,data:=.seq its.toArray c',slots:= #[]}->EP X pins σ Q (.ref s.heap.objs.size) {s with heap:=h'}:=λ its r' hz h' c' kp e=>
  ⟨.ref s.heap.objs.size,_,I.laid (t':=s.toks) kp (AU _) (show bH X.prog X.w _ h' _ (.lst ys) from ⟨hz,its,c',r',e⟩),rfl,q _ (I.hok.fresh (AU _))⟩
 rcases hq with hq | hq
 ·obtain ⟨its,r',pl,hz⟩:=I.list hq
  have hlen:=r'.length
  obtain ⟨o,ho,hc,n,hd⟩:=pl.isList
  exact call_list_seq p (.inl rfl) ho hc hd (λ h' c' kp e=>fin its r' hz h' c' kp e) (by simp only [y9]<;>lia)
 ·obtain ⟨its,r',pl,hz⟩:=I.tuple hq
  have hlen:=r'.length
  obtain ⟨o,ho,hc,n,hd⟩:=pl
  exact call_list_seq p (.inr rfl) ho hc hd (λ h' c' kp e=>fin its r' hz h' c' kp e) (by simp only [y9]<;>lia)
def tyV (K:Frag) (T:String) (x:V) (H:Hp):Prop:=match x with
 | .str _=>T="str"
 | .int _=>T="int"
 | .ref p=>(T="list"/\∃xs,SqL K H p xs)\/(T="tuple"/\∃o,K.lookup p=some o/\o.cls=.type "tuple"/\o.dict=none)\/
   (T="dict"/\((∃kvs,H p=some (.dK kvs))\/∃kvs,H p=some (.dT kvs)))\/(T="set"/\∃S n,H p=some (.set S n))
 | _=>False
theorem mj {pins:List (Addr×Obj)}{σ:St}{H:Hp}{s:Shared}{T:String}{x:V}{v:Value}(I:Inv X pins σ H s) (r:aN x v) (ty:tyV X.K T x H):
  s.TypeIs v T/\∀a,v=.ref a->∃ob,s.heap.get? a=some ob/\ob.dict=none:=by
 cases x with
 | str z=>
   obtain ⟨t,rfl⟩:=r
   cases (show T="str" from ty)
   exact ⟨typeIs_str s z t,λ _ e=>nomatch e⟩
 | int i=>
   obtain ⟨t,rfl⟩:=r
   cases (show T="int" from ty)
   exact ⟨typeIs_int s i t,λ _ e=>nomatch e⟩
 | ref p=>
   cases r
   rcases ty with ⟨rfl,xs,hq⟩ | ⟨rfl,o,hk,hc,hd⟩ | ⟨rfl,hk⟩ | ⟨rfl,S,n,hk⟩
   ·obtain ⟨its,_,pl,_⟩:=I.list hq
    refine ⟨pl.isList.typeIs,λ a e=>?_⟩
    cases e
    obtain ⟨o,n,e,c,hd,_⟩:=pl
    exact ⟨o,e,hd⟩
   ·refine ⟨⟨o,I.kIn p o hk,hc⟩,λ a e=>?_⟩
    cases e
    exact ⟨o,I.kIn _ o hk,hd⟩
   ·have z:∃o,s.heap.get? p=some o/\o.ExactDict:=by
     rcases hk with ⟨kvs,hk⟩ | ⟨kvs,hk⟩
     ·obtain ⟨_,_,_,_,o,_,_,e,ex,_⟩:=I.hok p _ hk
      exact ⟨o,e,ex⟩
     ·obtain ⟨_,_,_,_,o,_,_,e,ex,_⟩:=I.hok p _ hk
      exact ⟨o,e,ex⟩
    obtain ⟨o,e,ex⟩:=z
    refine ⟨⟨o,e,ex.1⟩,λ a e2=>?_⟩
    cases e2
    exact ⟨o,e,ex.2.1⟩
   ·obtain ⟨o,_,_,_,e,ex,_⟩:=I.hok p _ hk
    refine ⟨⟨o,e,ex.1⟩,λ a e2=>?_⟩
    cases e2
    exact ⟨o,e,ex.2.1⟩
 | _=>exact False.elim ty
variable {o e:Expr}{es:List Expr}{to:TE}{t:TA}{name:Str}{apos cpos:Pos}{T id:String}{r:V->List V->Hp->VK->Prop}
end
end L2
namespace L2
open PySem PySem.Spec PyProof.Rows
def MtM (X:Cx) (id:String) (r:V->List V->Hp->VK->Prop):Prop:=
 ∀(pins:List (Addr×Obj)) (s:Shared) (σ:St) (H:Hp) (x:V) (xs:List V) (v:Value) (us:List Value) (Q:VK),Inv X pins σ H s->aN x v->aP xs us->r x xs H Q->
  wpAny (model X.prog X.w) X.A (call (.builtin id) (v::us)) (EP X pins σ Q) X.xe s
theorem aP.one:∀{x:V}{us:List Value},aP [x] us->∃u,us=[u]/\aN x u
 | _,_,.cons r .nil=>⟨_,rfl,r⟩
section
variable {X:Cx}{pins:List (Addr×Obj)}{σ:St}{H:Hp}{s:Shared}{l b:Addr}{xs ys zs:List V}
theorem Inv.lset {its its':List Value}{n:Nat}{f:Array Value->Array Value}{t':Nat}(I:Inv X pins σ H s) (hH:H l=some (.lst xs))
  (e:s.heap.get? l=some {cls:=.type "list",data:=.seq its.toArray n}) (hf:f its.toArray=its'.toArray) (hv:aP ys its') (hz:ys.length<=sizeLine):
  Inv X pins σ (upd H l (.lst ys)) {s with heap:=s.heap.update l (Obj.mapSeq f),toks:=t'}:=by
 have q:=PySem.IsL.update e f
 rw [hf] at q
 refine I.write (x:=l) (e:=l) (by rw [hH]; exact trivial) (.inl rfl) (λ b' u hb hu=>(Heap.get?_update_other s.heap (Obj.mapSeq f) (Ne.symm hb)).trans hu) ⟨_,q⟩ ?_
 exact ⟨hz,its',_,hv,q⟩
theorem Inv.lnew {its:List Value}{t':Nat}(I:Inv X pins σ H s) (hv:aP ys its) (hz:ys.length<=sizeLine):
  Inv X pins σ (upd H s.heap.objs.size (.lst ys)) {s with heap:=s.heap.push {cls:=.type "list",data:=.seq its.toArray},toks:=t'}:=
 I.laid (λ _ _ q=>Heap.get?_push_of_some _ q) (AU _) ⟨hz,its,0,hv,Heap.get?_push_size _ rfl⟩
theorem Inv.fresh (I:Inv X pins σ H s):H s.heap.objs.size=none:=I.hok.fresh (AU _)
theorem Inv.lstM (I:Inv X pins σ H s) (hH:H l=some (.lst xs)):xs.length<=sizeLine/\∃(its:List Value) (n:Nat),aP xs its/\xs.length=its.length/\s.heap.get? l=some {cls:=.type "list",data:=.seq its.toArray n}:=by
 obtain ⟨z,its,n,r,e⟩:=I.hok l _ hH
 exact ⟨z,its,n,r,r.length,e⟩
theorem kl {n:Nat}(h:n<=sizeLine):Builtin.List.listTooLong n=false:=by
 unfold Builtin.List.listTooLong
 exact decide_eq_false (by lia)
end
section
variable {X:Cx}
def rAppend:V->List V->Hp->VK->Prop:=λ x vs H Q=> ∃l xs y,x=.ref l/\vs=[y]/\H l=some (.lst xs)/\xs.length<sizeLine/\Q .non (upd H l (.lst (xs++[y])))
theorem uC:MtM X "list.append" rAppend:=by
 intro pins s σ H x vs v us Q I rx rv h
 obtain ⟨l,xs,y,rfl,rfl,hH,hz,q⟩:=h
 cases rx
 obtain ⟨u,rfl,ru⟩:=rv.one
 obtain ⟨z,its,n,r,hl,e⟩:=I.lstM hH
 refine call_meets F.slot_list_append ⟨_,e,rfl⟩ F.entry_list_append (F.args_list_append_2 _ _) (PySem.list_append l its.toArray n u (by rw [y9]; lia)) ⟨e,?_⟩
 refine ⟨.non,_,I.lset (its':=its++[u]) hH e (by simp) (r.append (.cons ru .nil)) ?_,rfl,q⟩
 rw [zm,Au]
 lia
def jJ:V->List V->Hp->VK->Prop:=λ x vs H Q=> ∃l b xs zs,x=.ref l/\vs=[.ref b]/\H l=some (.lst xs)/\H b=some (.lst zs)/\xs.length+zs.length<=sizeLine/\Q .non (upd H l (.lst (xs++zs)))
theorem uB:MtM X "list.extend" jJ:=by
 intro pins s σ H x vs v us Q I rx rv h
 obtain ⟨l,b,xs,zs,rfl,rfl,hH,hB,hz,q⟩:=h
 cases rx
 obtain ⟨u,rfl,ru⟩:=rv.one
 cases ru
 obtain ⟨z,its,n,r,hl,e⟩:=I.lstM hH
 obtain ⟨z2,its2,n2,r2,hl2,e2⟩:=I.lstM hB
 have hsz:its.toArray.size+its2.toArray.size<=sizeLine:=by rw [y9,y9]; lia
 have hlong:¬(!its.toArray.isEmpty&&Builtin.List.listTooLong (its.toArray.size+its2.toArray.size))=true:=by
  rw [kl hsz,BB]
  exact Bt
 refine call_meets F.slot_list_extend ⟨_,e,rfl⟩ F.entry_list_extend (F.args_list_extend_2 _ _)
  (AutoSeq1.list_extend_list_list_0 l its.toArray n b its2.toArray n2 hlong (by rw [y9]; lia) (by lia)) ⟨e,e2,?_⟩
 refine ⟨.non,_,I.lset (its':=its++its2) hH e (by simp) (r.append r2) ?_,rfl,q⟩
 rw [zm]
 lia
def rCat:R2:=λ x y H Q=> ∃l b xs zs,x=.ref l/\y=.ref b/\H l=some (.lst xs)/\H b=some (.lst zs)/\xs.length+zs.length<=sizeLine/\∀p,H p=none->Q (.ref p) (upd H p (.lst (xs++zs)))
theorem op_cat:OpR X (binaryOp .Add) rCat:=by
 intro pins s σ H x y v u Q I rx ry h
 obtain ⟨l,b,xs,zs,rfl,rfl,hH,hB,hz,q⟩:=h
 cases rx
 cases ry
 obtain ⟨z,its,n,r,hl,e⟩:=I.lstM hH
 obtain ⟨z2,its2,n2,r2,hl2,e2⟩:=I.lstM hB
 refine PySem.P.add_list e e2 ?_ (by rw [y9,y9]; lia)
 have ea:its.toArray++its2.toArray=(its++its2).toArray:=by simp
 rw [ea]
 exact ⟨.ref _,_,I.lnew (t':=s.toks) (r.append r2) (by rw [zm]; lia),rfl,q _ I.fresh⟩
end
section
variable {prog:Program}{w:World}{A:Around}{E:Value->Shared->Prop}{s:Shared}
theorem rR {a c n:Nat}(hac:a<=c) (hc:c<=n):sliceBounds (some (a:Int)) (some (c:Int)) none n=((a:Int),(c:Int),1):=by
 simp only [sliceBounds,BR]
 have h1:¬((a:Int)<0):=by lia
 have h2:¬((c:Int)<0):=by lia
 simp only [h1,h2,if_false,show (1:Int) > 0 by decide,if_true]
 congr 1
 ·lia
 ·congr 1; lia
set_option maxRecDepth 100000 in
theorem setItem_slice {l b sl:Addr}{items new:Array Value}{n n2:Nat}{vl vu:Value}{a c:Nat}{Q:Unit->Shared->Prop}
  (e:s.heap.get? l=some {cls:=.type "list",data:=.seq items n}) (e2:s.heap.get? b=some {cls:=.type "list",data:=.seq new n2}) (hne:l≠b)
  (hs:s.heap.IsSliceOf sl vl vu .none) (pl:IsPart vl (some (a:Int))) (pu:IsPart vu (some (c:Int))) (hac:a<=c) (hc:c<=items.size)
  (hsz:items.size+new.size<=sizeLine) (h:Q () {s with heap:=s.heap.update l (Obj.mapSeq λ xs=>xs.extract 0 a++new++xs.extract c xs.size)}):
  wpAny (model prog w) A (setItem (.ref l) (.ref sl) (.ref b)) Q E s:=by
 have hl:s.heap.IsList l items:=PySem.IsL.isList e
 have hb:s.heap.IsList b new:=PySem.IsL.isList e2
 obtain ⟨os,hos,hcs,hds⟩:=id hs
 have hTs:s.TypeIs (.ref sl) "slice":=⟨os,hos,hcs⟩
 have hstep:¬((rawPart none == rawInt 0)=true):=Bt
 have hsame:Builtin.List.listSameRef (.ref l) (.ref b)=false:=by
  unfold Builtin.List.listSameRef
  exact beq_eq_false_iff_ne.mpr hne
 have hmax:(max (a:Int) (c:Int)).toNat=c:=by lia
 have hz':((λ xs:Array Value=>xs.extract 0 a++new++xs.extract c xs.size) items).size<=sizeLine+1:=by
  simp only [Array.size_append,Array.size_extract]
  lia
 unfold setItem
 try with_reducible refine wpAny_holding ?_
 first | refine wpAny_bind (wpAny_pure ?_) | skip
 refine wpAny_bind (wpAny_sequenceKey hl.typeIs (by decide) ?_)
 refine wpAny_bind (wpAny_callSpecial?_slot (name:=Str.ofString "__setitem__") hl.typeIs slot_list_setitem
  (wpAny_call_entry slot_list_setitem hl.typeIs entry_list_setitem ?_ (args_list_setitem _ _ _)))
 show wpAny _ _ (Builtin.List.listSubscript? (.ref sl) >>= _) _ _ s
 refine wpAny_bind ?_
 unfold Builtin.List.listSubscript?
 refine wpAny_bind (wpAny_specialOf hTs slice_no_index ?_)
 simp only [Option.isNone_none,if_true]
 refine wpAny_pure ?_
 show wpAny _ _ (typeOf (.ref sl) >>= _) _ _ s
 refine wpAny_bind (wpAny_typeOf hTs ?_)
 first
  | rw [if_neg (by decide)]
  | refine PySem.W.KFB.if_not (by decide) ?_
 rw [listSliceParts_eq]
 refine wpAny_bind (wpAny_bind (wpAny_field hos hds (x:=.none) rfl (wpAny_bind (wpAny_listPart .none ?_))))
 rw [if_neg hstep]
 refine wpAny_bind (wpAny_field hos hds (x:=vl) rfl (wpAny_bind (wpAny_listPart pl ?_)))
 refine wpAny_bind (wpAny_field hos hds (x:=vu) rfl (wpAny_bind (wpAny_listPart pu (wpAny_pure ?_))))
 first
  | simp only [hsame,Bv,if_false]
  | refine PySem.W.KFB.if_not hsame ?_
  | (dsimp only
     rw [if_neg (by rw [hsame]; exact Bt)])
 refine wpAny_bind (m:=Builtin.List.listAllItems (.ref b) "must assign iterable to extended slice") ?_
 unfold Builtin.List.listAllItems
 refine wpAny_bind (wpAny_typeOf hb.typeIs ?_)
 first
  | refine PySem.W.KFB.if_so (by decide) ?_
  | rw [if_pos (by decide)]
  | simp only [beq_self_eq_true,Bool.true_or,if_true]
 unfold Builtin.List.listItems
 refine wpAny_bind (wpAny_seqItems e2 rfl (wpAny_pure ?_))
 refine wpAny_bind (wpAny_bind (wpAny_seqItems e rfl (wpAny_pure ?_)))
 refine wpAny_bind (wpAny_of_eq ((sliceIndices_raw (some (a:Int)) (some (c:Int)) none items.size (by simp)).trans (congrArg (pure:Int×Int×Int->Sem (Int×Int×Int)) (rR hac hc))) ?_)
 show wpAny _ _ (if ((1:Int) == 1)=true then _ else _) _ _ s
 rw [if_pos (by decide)]
 refine wpAny_bind (wpAny_rule ?_)
 first
  | simp only [kl hsz,Bv,if_false]
  | refine PySem.W.KFB.if_not (kl hsz) ?_
 first | refine wpAny_bind (wpAny_pure ?_) | skip
 show wpAny _ _ (updateSeq l (λ xs=>xs.extract 0 ((a:Int)).toNat++new++xs.extract (max (a:Int) (c:Int)).toNat xs.size) >>= _) _ _ s
 rw [hmax,Bi]
 refine wpAny_bind (wpAny_updateSeq (hz:=AX (Bc _ _) hsz) (_hz':=hz') e rfl ?_)
 refine wpAny_bind (wpAny_letGo ?_)
 first
  | exact wpAny_bind (wpAny_pure (wpAny_pure ⟨.none,rfl,wpAny_pure h⟩))
  | exact wpAny_pure ⟨.none,rfl,wpAny_pure h⟩
end
section
variable {X:Cx}
end
end L2
namespace L2
open PySem PySem.Spec PyProof.Rows
section
variable {κ:Type} [DecidableEq κ]
end
section
variable {P:Program}{w:World}{H:Hp}{h:Heap}{a:Addr}
end
section
variable {X:Cx}{pins:List (Addr×Obj)}{σ:St}{H:Hp}{s:Shared}{a:Addr}{y v:V}{u r:Value}{o:Option V}{A:Around}{E:Value->Shared->Prop}
end
section
variable {X:Cx}{pins:List (Addr×Obj)}{σ:St}{H:Hp}{s:Shared}{a:Addr}{kvs:List (Key×V)}{k:Key}{u:Value}{A:Around}{E:Value->Shared->Prop}
end
section
variable {X:Cx}{o i e value:Expr}{pos pos' tpos:Pos}{td ty tv:TE}
end
section
variable {X:Cx}{pos:Pos}
end
section
variable {X:Cx}{pins:List (Addr×Obj)}{σ:St}{H:Hp}{s:Shared}{a:Addr}{y d:V}{u r:Value}{o:Option V}{A:Around}{E:Value->Shared->Prop}
end
section
variable {X:Cx}{o e f:Expr}{apos cpos:Pos}{td ty tx:TE}
end
section
variable {X:Cx}{pins:List (Addr×Obj)}{σ:St}{H:Hp}{s:Shared}{a:Addr}{kvs:List (Key×V)}{A:Around}{E:Value->Shared->Prop}
end
section
variable {X:Cx}{pins:List (Addr×Obj)}{σ:St}{H:Hp}{s:Shared}{a:Addr}{y:V}{u:Value}{A:Around}{E:Value->Shared->Prop}
end
end L2
namespace Att
open PySem PySem.W PySem.Calls PyProof.Rows
theorem jD {P:Params}{h:Heap}:∀(ns:List Int) (vs:List Value),WellAll P h vs (ns.map WData.int)->IntsAre vs ns:=by
 intro ns
 induction ns with
 | nil=>
   intro vs w
   rw [Ad] at w
   cases w
   exact .nil
 | cons n ns ih=>
   intro vs w
   rw [zB] at w
   cases w with
   | cons a b=>
     cases a
     exact .cons _ _ (ih _ b)
theorem ub {l:OpenLaw}{n:Nat}(hn:l.most=some n) {P:Params}{h:Heap}{args:List WData}{vals:List Value}
  (hpre:l.row.toRowW.claim.pre args=true) (hwl:WellAll P h vals args):
  ∃a vs ns,vals=[Value.ref a]/\args=[WData.list (ns.map WData.int)]/\h.get? a=some {cls:=.type "list",data:=.seq vs.toArray}/\IntsAre vs ns/\ns.length<=n:=by
 have hsh:WShape.hasAll [] args [.list .int]=true:=(pre_splitW hpre).1
 have hc:l.pre.holds [] {args:=args}=true:=(pre_splitW hpre).2
 obtain ⟨d,r,rfl,h1,h2⟩:=hasAllW_cons hsh
 obtain rfl:=hasAllW_nil h2
 obtain ⟨xs,rfl,h3⟩:=hasW_list h1
 obtain ⟨ns,rfl⟩:=items_int h3
 have hlen:ns.length<=n:=by
  unfold OpenLaw.pre at hc
  have h4:(WTm.not (.lt (.lit (.int (n:Int))) (.len (.arg 0)))).holds [] {args:=[.list (ns.map .int)]}=true:=by
   have h4:=(holds_andW hc).1
   rw [hn] at h4
   exact h4
  have h5:=condW_of h4 (w_not (w_lt w_lit (w_len_list (w_arg rfl))))
  rw [y3] at h5
  refine Nat.le_of_not_lt λ q=>?_
  have q':(n:Int)<((ns.length:Nat):Int):=by lia
  first
   | (rw [decide_eq_true q'] at h5; exact absurd h5 (by decide))
   | (simp at h5; lia)
 cases hwl with
 | cons w1 w2=>
   cases w2
   cases w1 with
   | list ho hall=>exact ⟨_,_,ns,rfl,rfl,ho,jD ns _ hall,hlen⟩
theorem uo (l:OpenLaw) (args:List WData):l.row.toRowW.claim.post args (.bool true) args=true:=
 postW_of (r:=l.row.toRowW) (X:=(true == true))
  (show WShape.has [] (.bool true) .bool=true by first | rfl | decide | simp [WShape.has,WShape.arms,WShape.armsAll])
  (show (WTm.eq .res (.lit (.bool true))).value [] {args:=args,res:=some (.bool true),after:=args}=some (.bool (true == true)) from w_eq_bool (w_res rfl) w_lit) rfl
theorem attach_call {l:OpenLaw}{n:Nat}{q:Program}{loose:List Str}{XP:(Str->Option Value)->Heap->Prop}{YP:World->Heap->Prop}{d:DefRec}
  (hn:l.most=some n) (hdf:d.params.defaults=[])
  (call:∀(w:World) (s₀ s₁:Shared) (mg mb:Str->Option Value) (fa:Addr) (o:Obj) (pm cd doc:Value) (a:Addr) (vs:List Value) (ns:List Int),
   Ground q loose [] XP w s₀ mg mb s₁.heap->YP w s₁.heap->
   s₁.heap.get? fa=some o->o.data=.func (docDef d.name d.params d.body d.scope pm cd doc)->s₁.heap.CodeRec cd d.name->mg d.name=some (.ref fa)->
   s₁.heap.get? a=some {cls:=.type "list",data:=.seq vs.toArray}->IntsAre vs ns->ns.length<=n->s₁.gens= #[]->
   codeAny (model l.prog w) callerA (.call (.ref fa) ⟨[.ref a],[]⟩) (λ r s'=>r=.ok (.ret (.bool true))/\OldK s₁.heap s'.heap/\s'.os=s₁.os/\AllBare s'.gens) s₁):
  WalkO q loose XP YP l.row.toRowW d [] (λ f vs=>PySem.call f vs):=by
 intro w s₀ s₁ mg mb G Y fa o pm cd doc dV kV ho hd hcd hD hmg hg args vals as hpre hlay hrd hwl hlo
 obtain rfl:dV=.none:=Dflts.none hD hdf
 obtain rfl:kV=.none:=Dflts.noKw hD
 obtain ⟨a,vs,ns,rfl,rfl,hobj,hints,hlen⟩:=ub hn hpre hwl
 refine enter_call (codeAny_mono (call w s₀ s₁ mg mb fa o pm cd doc a vs ns G Y ho (fd_plain hd) hcd hmg hobj hints hlen hg) λ r s' hq=>?_)
 obtain ⟨rfl,h2,h3,h4⟩:=hq
 exact ⟨.inl ⟨.bool true,.bool true,[],rfl,λ _=>rfl,.bool true,uo l _,λ _=>⟨List.Pairwise.nil,λ _ hm=>(nomatch hm)⟩⟩,h2,h3,h4⟩
section
variable {prog:Program}{w:World}{A:Around}{E:Value->Shared->Prop}{s:Shared}{K:Frag}
end
end Att
namespace L2
open PySem PySem.Spec PyProof.Rows
theorem iM:∀{vs:List Value}{ns:List Int},IntsAre vs ns->aP (ns.map V.int) vs
 | _,_,.nil=>.nil
 | _,_,.cons n t h=>.cons ⟨t,rfl⟩ (iM h)
def Only (H:Hp):Prop:= ∀b,H b=none\/∃o xs,H b=some (.frz o (.lst xs))
theorem xP {P:Program}{w:World}{K:Frag}{mg mb:Str->Option Value}{CX:CXT}{k:Nat}{fa a:Addr}{fd:FuncData}{x:Str}{sp:Sp}{s₁:Shared}{vs:List Value}{ns:List Int}
  (KX:K.In s₁.heap) (hns:s₁.heap.Ns mainGlobals mg) (hb:s₁.heap.Ns builtinsNs mb) (hbb:∀x:Str,x≠"__name__"->mb x=bootBuiltins x) (hlim:s₁.heap.NoLimit) (hg:s₁.gens= #[])
  (ha:s₁.heap.get? a=some {cls:=.type "list",data:=.seq vs.toArray}) (hi:IntsAre vs ns) (hl:ns.length<=sizeLine) (hr:cT k callerA)
  (F:∀base:Heap,K.In base->base.Ns mainGlobals mg->ba P w K mg base CX k fa fd [x] sp) (hbind:∀(s:Shared) (u:Value),BindsTo s fd ⟨[u],[]⟩ [(x,u)])
  (hsp:∀H:Hp,Only H->SqL K H a (ns.map V.int)->sp [.ref a] H (λ v _=>v=.bl true) λ _ _ _=>False)
  (hCX:∀H e s',CX [] H s₁ (λ _ _ _=>False) e s'->False):
  codeAny (model P w) callerA (.call (.ref fa) ⟨[.ref a],[]⟩) (λ r s'=>r=.ok (.ret (.bool true))/\OldK s₁.heap s'.heap/\s'.os=s₁.os/\AllBare s'.gens) s₁:=by
 have rv:=iM hi
 have lenV:=hi.length
 have core:∀H:Hp,Only H->SqL K H a (ns.map V.int)->HOk P w H s₁.heap->(∀b,H b≠none->b=a)->(H a≠none->K.lookup a=none)->
   codeAny (model P w) callerA (.call (.ref fa) ⟨[.ref a],[]⟩) (λ r s'=>r=.ok (.ret (.bool true))/\OldK s₁.heap s'.heap/\s'.os=s₁.os/\AllBare s'.gens) s₁:=by
  intro H hO hS hok hA hK
  have base_of:∀{b:Addr} {o:Obj},s₁.heap.get? b=some o->H b=none->(nV s₁.heap H).get? b=some o:=λ e n=>xX e n
  have noA:∀{b:Addr} {o:Obj} {es:Array DictEntry} {ep:Nat},s₁.heap.get? b=some o->o.data=.dict es ep->H b=none:=λ {b o es ep} e d=>by
   cases q:H b with
   | none=>rfl
   | some u=>
     have e':b=a:=hA b (by rw [q]; simp)
     subst e'
     rw [ha] at e; cases e
     have d':Data.seq vs.toArray _=Data.dict es ep:=d
     cases d'
  have nsK:∀{b:Addr} {m:Str->Option Value},s₁.heap.Ns b m->(nV s₁.heap H).Ns b m:=λ {b m} ⟨o,es,ep,e,d,r⟩=>⟨o,es,ep,base_of e (noA e d),d,r⟩
  have hKb:K.In (nV s₁.heap H):=λ b o e=>base_of (KX b o e) (by
   cases q:H b with
   | none=>rfl
   | some u=>
     have e':b=a:=hA b (by rw [q]; simp)
     subst e'
     rw [hK (by rw [q]; simp)] at e; cases e)
  have hM:Mod K mg (nV s₁.heap H):=⟨hKb,nsK hns,⟨mb,nsK hb,hbb⟩,let ⟨mc,h1,h2⟩:=hlim; ⟨mc,nsK h1,h2⟩⟩
  have e0:rW P w K mg (nV s₁.heap H) callerA [] s₁ H:=⟨rfl,hM,λ b o e=>of_hidT e,A2 (uL _ _),trivial,λ b hb=>absurd (show b∈([]:List Addr) from hb) (by simp),hok,.of_eq hg⟩
  refine codeAny_mono ((F _ hKb (nsK hns)).run callerA [] s₁ H ⟨[.ref a],[]⟩ [.ref a] [.ref a] _ _ hr e0 (hbind s₁ (.ref a)) (.cons rfl .nil) (hsp H hO hS)) λ r s' h=>?_
  cases r with
  | error e=>exact (hCX H e s' h).elim
  | ok fl=>
    cases fl with
    | next=>exact False.elim h
    | brk=>exact False.elim h
    | cont=>exact False.elim h
    | ret u=>
      obtain ⟨v,H',os,bare,un,hok',r',q⟩:=h
      have q':v=.bl true:=q
      subst q'
      obtain rfl:u=Value.bool true:=r'
      refine ⟨rfl,OldK.of_keep λ b o e=>?_,os,bare⟩
      cases q:H b with
      | none=>exact un.keep b o e q (by intro z; exact absurd (show b∈([]:List Addr) from z) (by simp)) (by simp)
      | some u=>
        rcases hO b with z | ⟨ob,xs,z⟩
        ·rw [q] at z; cases z
        ·have z2:=un.frzs b ob _ z
         obtain ⟨e1,_⟩:=hok b _ z
         obtain ⟨e2,_⟩:=hok' b _ z2
         rw [e] at e1; cases e1
         exact e2
 cases hk:K.lookup a with
 | some o=>
   have e:=KX a o hk
   rw [ha] at e
   cases e
   refine core (λ _=>none) (λ _=>.inl rfl) (.inr ⟨_,vs.toArray,_,hk,rfl,rfl,rfl,by rw [y9,lenV]; exact hl,by simpa using rv⟩) (λ b u z=>by have z':(none:Option HO)=some u:=z; cases z') (λ b z=>absurd rfl z) λ z=>absurd rfl z
 | none=>
   refine core (λ b=>if b=a then some (.frz {cls:=.type "list",data:=.seq vs.toArray} (.lst (ns.map V.int))) else none) (λ b=>?_) (.inl (.inr ⟨{cls:=.type "list",data:=.seq vs.toArray},if_pos rfl⟩)) (λ b u z=>?_) (λ b z=>?_) λ _=>hk
   ·by_cases hb:b=a
    ·exact .inr ⟨_,_,if_pos hb⟩
    ·exact .inl (if_neg hb)
   ·by_cases hb:b=a
    ·have z':=(if_pos hb).symm.trans z
     cases z'
     subst hb
     exact ⟨ha,by rw [y3]; exact hl,vs,_,rv,ha⟩
    ·have z':=(if_neg hb).symm.trans z
     cases z'
   ·by_cases hb:b=a
    ·exact hb
    ·exact absurd (if_neg hb) z
end L2
namespace L2
open PySem PySem.Spec PyProof.Rows
theorem walk_of {l:PySem.W.OpenLaw}{n k:Nat}{q:Program}{loose:List Str}{XP:(Str->Option Value)->Heap->Prop}{YP:World->Heap->Prop}{d:DefRec}{K:Params->Frag}{CX:World->CXT}{sp:World->Sp}{x:Str}
  (hn:l.most=some n) (hn2:n<=sizeLine) (hdf:d.params.defaults=[]) (hr:cT k callerA)
  (hY:∀(w:World) (h:Heap),YP w h->(K w.params).In h)
  (F:∀(w:World) (mg:Str->Option Value) (fa:Addr) (h:Heap),(K w.params).In h->h.Ns mainGlobals mg->mg d.name=some (.ref fa)->
   ∃fd:FuncData,(∀(s:Shared) (u:Value),BindsTo s fd ⟨[u],[]⟩ [(x,u)])/\
    ∀base:Heap,(K w.params).In base->base.Ns mainGlobals mg->ba l.prog w (K w.params) mg base (CX w) k fa fd [x] (sp w))
  (hsp:∀(w:World) (H:Hp) (a:Addr) (ns:List Int),ns.length<=n->Only H->SqL (K w.params) H a (ns.map V.int)->sp w [.ref a] H (λ v _=>v=.bl true) λ _ _ _=>False)
  (hCX:∀(w:World) (H:Hp) (s:Shared) (e:Value) (s':Shared),CX w [] H s (λ _ _ _=>False) e s'->False):
  PySem.W.WalkO q loose XP YP l.row.toRowW d [] (λ f vs=>PySem.call f vs):=by
 refine Att.attach_call hn hdf λ w s₀ s₁ mg mb fa o pm cd doc a vs ns G Y ho hd hcd hmg hobj hints hlen hg=>?_
 have KX:=hY w _ Y
 obtain ⟨fd,hb,hF⟩:=F w mg fa _ KX G.T.g hmg
 exact xP KX G.T.g G.T.b G.T.builtins G.T.nolimit hg hobj hints (AX hlen hn2) hr hF hb (λ H hO hS=>hsp w H a ns hlen hO hS) λ H e s'=>hCX w H s₁ e s'
end L2
namespace L2
open PySem PySem.Spec PyProof.Rows
def eT (s:Stmt) (j:Nat):Stmt:=match s with
 | .ClassDef _ _ _ body _ _ _ _ _ _ _=>body.getD j (.Pass ⟨0,0,0,0⟩)
 | _=>.Pass ⟨0,0,0,0⟩
def eU (s:Stmt):Arguments:=match s with
 | .FunctionDef _ a _ _ _ _ _ _ _ _=>a
 | _=>{posonlyargs:=[],args:=[],vararg:=none,kwonlyargs:=[],kw_defaults:=[],kwarg:=none,defaults:=[]}
def dX (s:Stmt):List Stmt:=match s with
 | .FunctionDef _ _ b _ _ _ _ _ _ _=>b
 | _=>[]
def ak (s:Stmt):Scope:=match s with
 | .FunctionDef _ _ _ _ _ _ sc _ _ _=>sc
 | _=>{kind:=.function,names:=[],isGenerator:=false,isCoroutine:=false}
abbrev CX0:CXT:=λ _ _ _ _ _ _=>False
abbrev E0:XK:=λ _ _ _=>False
theorem xB {X:Cx}:kQ CX0 X E0:=λ _ _ _ _ _ _ _ h=>h.elim
structure Fun (K:Frag) (x qual:Str) (st:Stmt) (f:Addr) (fd:FuncData):Prop where
 ex:∃(oc:Value) (od:Option Addr) (kV doc pm:Value) (an:Option Addr) (cdv ct:Value) (osl:Array (Option Value)),
  fd=PySem.W.fnOf x qual (eU st) (dX st) (ak st) .none kV doc pm an cdv ct/\K.lookup f=some ⟨oc,od,.func fd,osl⟩/\PySem.W.codeIn K cdv qual=true
 kp:PySem.W.keepIn K (.ref f)=true
section
variable {P:Program}{w:World}{K:Frag}{mg:Str->Option Value}{base:Heap}
theorem Fun.ok {x qual:Str}{st:Stmt}{f:Addr}{fd:FuncData}{N ps:List Str}{k:Nat}{sp:Sp}(F:Fun K x qual st f fd) (S:az N ps (ak st)) (len:∀vs H Q E,sp vs H Q E->vs.length=ps.length)
  (hbody:∀(cdv:Value) (A:Around) (outer:List Env) (s:Shared) (H:Hp) (vs:List V) (Q:VK) (E:XK),cT k (A.deeper (envOfC qual (ak st) s.heap.objs.size f cdv))->sp vs H Q E->
   ∃t,PSs (uS CX0 P w K mg base N qual (ak st) f cdv A outer s H E).nox (dX st) t/\t {nx:=λ _ H'=>Q .non H',rt:=Q} (start N vs) H):ba P w K mg base CX0 (k+1) f fd ps sp:=by
 obtain ⟨oc,od,kV,doc,pm,an,cdv,ct,osl,rfl,lk,hcd⟩:=F.ex
 refine fn_of lk hcd S len λ A outer s H vs Q E hr hsp=>?_
 obtain ⟨t,h,q⟩:=hbody cdv A outer s H vs Q E hr hsp
 exact ⟨t,h.nox,q⟩
theorem Fun.binds {x qual:Str}{st:Stmt}{f:Addr}{fd:FuncData}{ps:List Str}(F:Fun K x qual st f fd)
  (h:∀(kV doc pm:Value) (an:Option Addr) (cdv ct:Value) (us:List Value),us.length=ps.length->bindArgs (PySem.W.fnOf x qual (eU st) (dX st) (ak st) .none kV doc pm an cdv ct) ⟨us,[]⟩=pure (ps.zip us)):hJ K fd ps []:=by
 obtain ⟨oc,od,kV,doc,pm,an,cdv,ct,osl,rfl,lk,hcd⟩:=F.ex
 exact .all (h kV doc pm an cdv ct)
theorem aH {x qual:Str}{st:Stmt}{f:Addr}{oc:Value}{od an:Option Addr}{osl:Array (Option Value)}{kV doc pm cdv ct:Value}(l:K.lookup f=some ⟨oc,od,.func (PySem.W.fnOf x qual (eU st) (dX st) (ak st) .none kV doc pm an cdv ct),osl⟩)
  (c:PySem.W.codeIn K cdv qual=true) (k:PySem.W.keepIn K (.ref f)=true):Fun K x qual st f (PySem.W.fnOf x qual (eU st) (dX st) (ak st) .none kV doc pm an cdv ct):=⟨⟨oc,od,kV,doc,pm,an,cdv,ct,osl,rfl,l,c⟩,k⟩
end
section
variable {X:Cx}
end
theorem fE {A B:Prop}(h:B):if false=true then A else B:=by
 rw [if_neg Bt]
 exact h
theorem gC {A B:Prop}(h:A):if true=true then A else B:=by
 rw [if_pos rfl]
 exact h
def ah (H H':Hp):Prop:= ∀b o,H b=some o->H' b=some o
theorem ah.refl (H:Hp):ah H H:=λ _ _ h=>h
theorem ah.trans {H H1 H2:Hp}(a:ah H H1) (b:ah H1 H2):ah H H2:=λ c o h=>b c o (a c o h)
theorem ah.free {H H':Hp}(e:ah H H') {l:Addr}(h:H' l=Option.none):H l=Option.none:=by
 cases q:H l with
 | none=>rfl
 | some o=>
   rw [e l o q] at h
   cases h
theorem ah.seq {K:Frag}{H H':Hp}{a:Addr}{xs:List V}(e:ah H H') (h:SqL K H a xs):SqL K H' a xs:=by
 rcases h with (h | ⟨o,h⟩) | h
 ·exact .inl (.inl (e _ _ h))
 ·exact .inl (.inr ⟨o,e _ _ h⟩)
 ·exact .inr h
section
variable {κ:Type} [DecidableEq κ]
end
end L2
namespace L2
open PySem PySem.Spec PyProof.Rows
def iG (env:Env):List (Str×NameKind)->List (Str×Addr)->List (Str×Addr)
 | [],cs=>cs
 | (n,k)::r,cs=>iG env r (if k == .free then (match env.cells.lookup n with | some a=>(n,a)::cs | none=>cs) else cs)
theorem fm (env:Env):∀(l:List (Str×NameKind)) (cs:List (Str×Addr)),(∀x∈l,x.2=.free->∃c,env.cells.lookup x.1=some c)->
  (forIn l cs λ (x:Str×NameKind) r=>if (x.2 == NameKind.free)=true then do let a<-cellOf env x.1; pure (ForInStep.yield ((x.1,a)::r)) else pure (ForInStep.yield r):Sem (List (Str×Addr)))=pure (iG env l cs)
 | [],cs,_=>rfl
 | (n,k)::r,cs,h=>by
   have hr:∀x∈r,x.2=.free->∃c,env.cells.lookup x.1=some c:=λ x hx=>h x (zg _ hx)
   rw [List.forIn_cons,iG]
   by_cases hk:(k == NameKind.free)=true
   ·obtain ⟨c,hc⟩:=h (n,k) zi (by simpa using hk)
    have hc':env.cells.lookup n=some c:=hc
    have e:cellOf env n=pure c:=by unfold cellOf; rw [hc']
    simp only [hk,if_true,e,pure_bind,hc']
    exact fm env r _ hr
   ·simp only [hk,if_false,pure_bind]
    exact fm env r _ hr
theorem g9 {scope:Scope}{env:Env}(h:∀x∈scope.names,x.2=.free->∃c,env.cells.lookup x.1=some c):closureFor scope env=pure (iG env scope.names []):=by
 have e:=fm env scope.names [] h
 unfold closureFor
 show (forIn scope.names ([]:List (Str×Addr)) _ >>= λ r=>pure r:Sem (List (Str×Addr)))=_
 rw [bind_pure]
 exact e
theorem qc (env:Env):∀(l:List (Str×NameKind)) (cs:List (Str×Addr)) (x:Str) (c:Addr),cs.lookup x=some c->env.cells.lookup x=some c->(iG env l cs).lookup x=some c
 | [],_,_,_,h,_=>h
 | (n,k)::r,cs,x,c,h,e=>by
   rw [iG]
   refine qc env r _ x c ?_ e
   split
   ·cases q:env.cells.lookup n with
    | none=>exact h
    | some a=>
      show List.lookup x ((n,a)::cs)=some c
      rw [zM]
      cases hx:x == n with
      | false=>exact h
      | true=>
        have:x=n:=by simpa using hx
        subst this
        rw [q] at e
        exact e
   ·exact h
theorem kJ (env:Env):∀(l:List (Str×NameKind)) (cs:List (Str×Addr)) (x:Str) (c:Addr),(∀y d,cs.lookup y=some d->env.cells.lookup y=some d)->(iG env l cs).lookup x=some c->env.cells.lookup x=some c
 | [],cs,x,c,h,e=>h x c e
 | (n,k)::r,cs,x,c,h,e=>by
   rw [iG] at e
   refine kJ env r _ x c ?_ e
   intro y d q
   split at q
   ·cases z:env.cells.lookup n with
    | none=>rw [z] at q; exact h y d q
    | some a=>
      rw [z] at q
      have q2:List.lookup y ((n,a)::cs)=some d:=q
      rw [zM] at q2
      cases hx:y == n with
      | false=>rw [hx] at q2; exact h y d q2
      | true=>
        rw [hx] at q2
        have hyn:y=n:=by simpa using hx
        rw [hyn,z]
        exact q2
   ·exact h y d q
theorem kK (env:Env):∀(l:List (Str×NameKind)) (cs:List (Str×Addr)) (x:Str) (c:Addr),(x,NameKind.free)∈l->env.cells.lookup x=some c->(iG env l cs).lookup x=some c
 | [],_,_,_,h,_=>by simp at h
 | (n,k)::r,cs,x,c,h,e=>by
   rw [iG]
   rcases y6.mp h with h | h
   ·have h1:n=x:=(congrArg Prod.fst h).symm
    have h2:k=NameKind.free:=(congrArg Prod.snd h).symm
    subst h1 h2
    refine qc env r _ n c ?_ e
    rw [e]
    show List.lookup n (if (NameKind.free == NameKind.free)=true then (n,c)::cs else cs)=some c
    rw [if_pos (by decide),zM]
    simp
   ·exact kK env r _ x c h e
theorem io (scope:Scope) (env:Env) (x:Str):(relabel scope env).names.lookup x=
  (scope.names.lookup x).map λ k=>if (k == .free&&env.scope.kind == .function&&env.kindOf x == some .cell)=true then NameKind.cell else k:=by
 show (scope.names.map λ (p:Str×NameKind)=>if (p.2 == .free&&env.scope.kind == .function&&env.kindOf p.1 == some .cell)=true then (p.1,NameKind.cell) else (p.1,p.2)).lookup x=_
 induction scope.names with
 | nil=>rfl
 | cons p r ih=>
   obtain ⟨n,k⟩:=p
   rw [zB]
   show List.lookup x ((if (k == .free&&env.scope.kind == .function&&env.kindOf n == some .cell)=true then (n,NameKind.cell) else (n,k))::_)=_
   cases hx:x == n with
   | false=>
     have e1:List.lookup x ((n,k)::r)=List.lookup x r:=by rw [zM,hx]
     rw [e1]
     split<;>(rw [zM,hx]; exact ih)
   | true=>
     have:x=n:=by simpa using hx
     subst this
     have e1:List.lookup x ((x,k)::r)=some k:=by rw [zM,hx]
     rw [e1]
     show _=some _
     split
     ·rename_i hc
      rw [zM,hx]
      show some NameKind.cell=some (if _ then _ else _)
      rw [if_pos hc]
     ·rename_i hc
      rw [zM,hx]
      show some k=some (if _ then _ else _)
      rw [if_neg hc]
structure bY (X:Cx) (N:List Str) (src:List (Option Nat)) (scope:Scope):Prop where
 kind:scope.kind=.function
 nocell:∀y∈scope.names,y.2≠.cell
 names:∀y∈scope.names,y.2=.local->scope.names.lookup y.1=some .local
 fre:∀y∈scope.names,y.2=.free->X.env.kindOf y.1=some .cell\/X.env.kindOf y.1=some .free
 len:src.length=N.length
 nd:N.Nodup
 src:∀(j i:Nat) (x:Str),N[j]? =some x->src[j]? =some (some i)->X.N[i]? =some x/\scope.names.lookup x=some .free
def rL (dsc:Scope) (XN N:List Str) (src:List (Option Nat)) (scope:Scope):Bool:=
 decide (scope.kind=.function)&&scope.names.all (λ y=>decide (y.2≠.cell))&&scope.names.all (λ y=> !decide (y.2=.local)||decide (scope.names.lookup y.1=some .local))&&
 scope.names.all (λ y=> !decide (y.2=.free)||decide (dsc.names.lookup y.1=some .cell)||decide (dsc.names.lookup y.1=some .free))&&decide (src.length=N.length)&&decide N.Nodup&&
 (N.zip src).all λ p=>match p.2 with
  | none=>true
  | some i=>decide (XN[i]? =some p.1)&&decide (scope.names.lookup p.1=some .free)
theorem bY.of {X:Cx}{dsc:Scope}{XN N:List Str}{src:List (Option Nat)}{scope:Scope}(he:X.env.scope=dsc) (hN:X.N=XN) (h:rL dsc XN N src scope=true):bY X N src scope:=by
 subst he hN
 unfold rL at h
 simp only [Bu,decide_eq_true_eq,zA,BA,BF,decide_eq_false_iff_not] at h
 obtain ⟨⟨⟨⟨⟨⟨h1,h2⟩,h3⟩,h4⟩,h5⟩,h6⟩,h7⟩:=h
 refine ⟨h1,h2,λ y hy e=>?_,λ y hy e=>?_,h5,h6,λ j i x e1 e2=>?_⟩
 ·rcases h3 y hy with q | q
  ·exact absurd e q
  ·exact q
 ·rcases h4 y hy with (q | q) | q
  ·exact absurd e q
  ·exact .inl q
  ·exact .inr q
 ·have hm:(x,some i)∈N.zip src:=by
   have:(N.zip src)[j]? =some (x,some i):=by rw [List.getElem?_zip_eq_some]; exact ⟨e1,e2⟩
   exact zu this
  have q:=h7 _ hm
  simpa using q
def cxC (X:Cx) (scope:Scope) (N:List Str) (s:Shared) (H:Hp) (ex:List Addr):Cx:=
 {X with
  N:=N
  s₀:=s
  H₀:=H
  env:=compEnvC scope (iG X.env scope.names []) s.heap.objs.size X.env
  outer:=X.stack
  ex:=ex
  fn:=λ _=>false
  pn:=[]
  xe:=λ _ _=>False}
def dG (src:List (Option Nat)) (σ:St):St:=src.map λ o=>match o with | none=>none | some i=>(σ[i]?).join
section
variable {X:Cx}{pins:List (Addr×Obj)}{σ:St}{H:Hp}{s:Shared}{N:List Str}{src:List (Option Nat)}{scope:Scope}{ex:List Addr}
theorem bY.cells (S:bY X N src scope) (ok:X.Ok):∀x∈scope.names,x.2=.free->∃c,X.env.cells.lookup x.1=some c:=λ x hx e=>ok.has _ (S.fre x hx e)
theorem Inv.enterC (I:Inv X pins σ H s) (S:bY X N src scope) (hf:∀b∈ex,ia X pins H b) (hlt:∀b∈ex,b<s.heap.objs.size) {h1:Heap}{m:Str->Option Value}{tk:Nat}
  (hns:h1.Ns s.heap.objs.size m) (hk:∀b o,s.heap.get? b=some o->h1.get? b=some o):Inv (cxC X scope N s H ex) [] (dG src σ) H {s with heap:=h1,toks:=tk}:=by
 have neC:∀b o,s.heap.get? b=some o->b≠s.heap.objs.size:=λ b o e=>AW (Heap.lt_size e)
 have sub:∀x c,(iG X.env scope.names []).lookup x=some c->X.env.cells.lookup x=some c:=λ x c e=>kJ X.env _ _ x c (λ y d z=>by simp at z) e
 refine ⟨⟨I.ok.mod,S.kind,I.ok.glob,I.ok.blt,AU _,λ x y c e1 e2=>I.ok.inj x y c (sub x c e1) (sub y c e2),λ x hx=>?_,λ x c z=>absurd z (by simp [cxC]),I.ok.hd,I.ok.frames,.inl rfl,λ b hb=>?_,I.bs,AX I.ok.bsz I.sz,λ b o e hb=>?_,λ b hb hz=>?_,I.stack,I.stkFree⟩,
  rfl,I.bare,Un.kept hk,⟨m,hns,λ j x v e1 e2 e3=>?_⟩,λ x c e=>?_,I.hok.fresh (AU _),λ x c e=>I.freeC x c (sub x c e),λ p hp=>absurd (show p∈([]:List (Addr×Obj)) from hp) (by simp),I.hok.kept hk,?_⟩
 ·have hx:(relabel scope X.env).names.lookup x=some .cell\/(relabel scope X.env).names.lookup x=some .free:=hx
  have hm:(x,NameKind.free)∈scope.names:=by
   rw [io] at hx
   cases q:scope.names.lookup x with
   | none=>rw [q] at hx; simp at hx
   | some k=>
     have hm:=PySem.mem_of_lookup q
     cases k with
     | free=>exact hm
     | cell=>exact absurd rfl (S.nocell _ hm)
     | _=>rw [q] at hx; simp at hx
  obtain ⟨c,hc⟩:=S.cells I.ok _ hm rfl
  exact ⟨c,kK X.env _ _ x c hm hc⟩
 ·obtain ⟨f0,f1,f2,f3,f4,f5⟩:=hf b hb
  exact ⟨AW (hlt b hb),λ x c e=>f4 x c (sub x c e)⟩
 ·obtain ⟨f0,f1,f2,f3,f4,f5⟩:=hf b hb
  rcases f3 with z | z
  ·exact I.ok.noex b o e z
  ·exact absurd (AY (Heap.lt_size (I.ok.bs b o e).1) z) (A0 _)
 ·obtain ⟨f0,f1,f2,f3,f4,f5⟩:=hf b hb
  rcases y6.mp (I.stkSub b hz) with z | z
  ·exact f1 z
  ·exact f2 z
 ·have e2:(dG src σ)[j]? =some (some v):=e2
  unfold dG at e2
  rw [y8] at e2
  cases q:src[j]? with
  | none=>rw [q] at e2; simp at e2
  | some o=>
    rw [q] at e2
    cases o with
    | none=>simp at e2
    | some i=>
      have e2:(σ[i]?).join=some v:=by simpa using e2
      have e2:σ[i]? =some (some v):=by
       cases z:σ[i]? with
       | none=>rw [z] at e2; simp at e2
       | some w=>rw [z] at e2; simp at e2; rw [e2]
      obtain ⟨hX,hfr⟩:=S.src j i x e1 q
      have hm:=PySem.mem_of_lookup hfr
      have hk2:=S.fre _ hm rfl
      obtain ⟨mX,hnX,hl⟩:=I.loc
      have hvis:Vis X.env.scope x:=.inr hk2
      obtain ⟨u,r,l⟩:=hl i x v hX e2 hvis
      refine ⟨u,r,?_⟩
      rcases l with ⟨l1,_⟩ | ⟨_,c,hc,hcell⟩
      ·rcases hk2 with z | z
       ·have:X.env.kindOf x=some .cell:=z
        rw [l1] at this; cases this
       ·have:X.env.kindOf x=some .free:=z
        rw [l1] at this; cases this
      ·refine .inr ⟨?_,c,kK X.env _ _ x c hm hc,?_⟩
       ·show (relabel scope X.env).names.lookup x=some .cell\/(relabel scope X.env).names.lookup x=some .free
        rw [io,hfr]
        by_cases hcc:(NameKind.free == .free&&X.env.scope.kind == .function&&X.env.kindOf x == some .cell)=true
        ·left
         show some (if _ then _ else _)=_
         rw [if_pos hcc]
        ·right
         show some (if _ then _ else _)=_
         rw [if_neg hcc]
       ·exact hcell.keeps hk
 ·obtain ⟨v,z⟩:=I.cell x c (sub x c e)
  exact ⟨v,z.keeps hk⟩
 ·show (dG src σ).length=N.length
  unfold dG
  rw [y3]
  exact S.len
end
def qo (X:Cx) (ifs:List Expr) (t:TT):Prop:=
 ∀(pins:List (Addr×Obj)) (s:Shared) (σ:St) (H:Hp) (Q:Bool->Hp->Prop),Inv X pins σ H s->t σ H Q->
  wpAny (model X.prog X.w) X.A (forIn ifs true λ c r=>if r=true then do let ok<-isTrue c X.env (eval c X.env); pure (ForInStep.yield ok) else pure (ForInStep.yield r)) (TP X pins σ Q) X.xe s
def jQ:TT:=λ _ H Q=>Q true H
theorem bG {X:Cx}:qo X [] jQ:=λ _ _ _ H _ I h=>wpAny_tests_nil ⟨H,I,h⟩
theorem gu {X:Cx}{c:Expr}{t:TT}(h:PT X c t):qo X [c] t:=λ pins s σ H Q I hw=>wpAny_tests_one (h pins s σ H Q I hw)
def dJ (g:TG) (tt:TT) (te:TE) (src:List (Option Nat)) (σ:St) (Q:VK) (J:It) (H1:Hp):Prop:=
 ∃W:Nat->Nat->List V->St->Hp->Prop,(∃m,W 0 m [] (dG src σ) H1)/\∀i m ys σ' H',W i m ys σ' H'->
  (J.stop i H'/\∀p,H' p=none->Q (.ref p) (upd H' p (.lst ys)))\/
  (J.go i H'/\ys.length<sizeLine/\∀x H2,J.yld i H' x H2->g x σ' H2 λ σ3 H3=>tt σ3 H3 λ b H4=>
   if b=true then te σ3 H4 λ v H5=> ∃m',m'<m/\W (i+1) m' (ys++[v]) σ3 H5 else∃m',m'<m/\W (i+1) m' ys σ3 H4)
def tComp (wi:TI) (g:TG) (tt:TT) (te:TE) (src:List (Option Nat)):TE:=λ σ H Q=>wi σ H (dJ g tt te src σ Q)
def tS (X:Cx) (pins:List (Addr×Obj)) (σ:St) (Q:VK) (acc:Value) (C:Addr) (r:Result) (s':Shared):Prop:=
 (∃f,r=.ok f)/\∃D H',acc=.ref D/\Inv X pins σ H' s'/\(∃m,s'.heap.Ns C m)/\ia X pins H' C/\Q (.ref D) H'
theorem nZ {prog:Program}{w:World}{A:Around}{R:Result->Shared->Prop}{s:Shared}{elt target iter:Expr}{ifs:List Expr}{scope:Scope}{pos:Pos}{it acc:Value}{env:Env}(I:Nat->Shared->Prop)
  (turn:∀n s,I n s->wpAny (model prog w) A (pyNext it) (λ r s₁=>match r with
   | none=>R (.ok .next) s₁
   | some v=>wpAny (model prog w) A (letOwnedTupleGo target it v) (λ _ s₂=>wpAny (model prog w) A (assign target env v) (λ _ s₃=>
     wpAny (model prog w) A (forIn ifs true λ c r=>if r=true then do let ok<-isTrue c env (eval c env); pure (ForInStep.yield ok) else pure (ForInStep.yield r)) (λ ok s₄=>
      if ok=true then wpAny (model prog w) A (eval elt env) (λ x s₅=>wpAny (model prog w) A (call (.builtin "list.append") [acc,x]) (λ _ s₆=> ∃m,m<n/\I m s₆) (λ _ _=>False) s₅) (λ _ _=>False) s₄
      else∃m,m<n/\I m s₄) (λ _ _=>False) s₃) (λ _ _=>False) s₂) (λ _ _=>False) s₁) (λ _ _=>False) s)
  (n:Nat) (h:I n s):codeAny (model prog w) A (.compLoop (.ListComp elt [⟨target,iter,ifs,0⟩] scope pos) 0 it acc env) R s:=by
 refine codeAny_loop rfl I (λ n s hI=>?_) n h
 show wpAny _ A ((compTurn (.ListComp elt [⟨target,iter,ifs,0⟩] scope pos) 0 it acc env).onRaise (λ x=>do noteFrame x env; theTreesLotGoes x)) _ _ s
 refine wpAny_noted ?_
 rw [compTurn_list]
 refine wpAny_bind (wpAny_standAt (wpAny_bind (wpAny_mono (turn n s hI) (λ r s₁ h₁=>?_) λ _ _ f=>f.elim)))
 cases r with
 | none=>exact wpAny_pure h₁
 | some v=>
   refine wpAny_bind (wpAny_mono h₁ (λ _ s₂ h₂=>?_) λ _ _ f=>f.elim)
   refine wpAny_bind (wpAny_mono h₂ (λ _ s₃ h₃=>wpAny_bind (wpAny_mono h₃ (λ ok s₄ h₄=>?_) λ _ _ f=>f.elim)) λ _ _ f=>f.elim)
   cases ok with
   | false=>exact wpAny_pure ⟨rfl,h₄⟩
   | true=>
     exact wpAny_bind (wpAny_bind (wpAny_mono h₄ (λ x s₅ h₅=>wpAny_bind (wpAny_mono h₅ (λ _ s₆ h₆=>wpAny_pure (wpAny_pure ⟨rfl,h₆⟩)) λ _ _ f=>f.elim)) λ _ _ f=>f.elim))
abbrev gW (us:List Value) (k:Nat):Obj:={cls:=.type "list",data:=.seq us.toArray k}
section
variable {X:Cx}{N:List Str}{src:List (Option Nat)}{scope:Scope}{elt tg iter:Expr}{ifs:List Expr}{pos:Pos}{wi:TI}{g:TG}{tt:TT}{te:TE}
theorem qa (hc:X.calm=true) (S:bY X N src scope) (hg:∀s H ex,PG (cxC X scope N s H ex) tg g) (ht:∀s H ex,qo (cxC X scope N s H ex) ifs tt) (he:∀s H ex,PE (cxC X scope N s H ex) elt te)
  {pins:List (Addr×Obj)} {σ:St} {Q:VK} {itv:Value} {s2:Shared} {E:Value->Shared->Prop} (h:PIE X pins σ tg (dJ g tt te src σ Q) itv s2):
  wpAny (model X.prog X.w) X.A (newList []) (λ acc s₃=>wpAny (model X.prog X.w) X.A (newFunctionEnv scope X.env.globals (iG X.env scope.names []) [] X.env.qual none .none (some X.env)) (λ cenv s₄=>
   codeAny (model X.prog X.w) X.A (.compStart (.ListComp elt [⟨tg,iter,ifs,0⟩] scope pos) 0 itv acc {cenv with scope:=relabel scope X.env}) (tS X pins σ Q acc cenv.locals) s₄) E s₃) E s2:=by
 obtain ⟨it,fp,tn,J,H1,e,I2,T,st2,f2,W,⟨m0,w0⟩,turn⟩:=h
 subst e
 refine wpAny_newObj_type (wpAny_newFunctionEnv S.nocell (by intro y hy; simp at hy) (λ h₁ hns₁ hsb₁=>?_) S.kind)
 dsimp only at hns₁ hsb₁ ⊢
 generalize hH2:s2.heap.push {cls:=.type "list",dict:=none,data:=.seq ([]:List Value).toArray}=H2 at hns₁ hsb₁ ⊢
 have hC:H2.objs.size=s2.heap.objs.size+1:=by rw [<-hH2,Heap.size_push]
 have push:∀b o,s2.heap.get? b=some o->H2.get? b=some o:=λ b o e=>hH2▸Heap.get?_push_of_some _ e
 have hD2:H2.get? s2.heap.objs.size=some (gW [] 0):=hH2▸Heap.get?_push_size _ rfl
 have hk:∀b o,H2.get? b=some o->h₁.get? b=some o:=λ b o e=>hsb₁.extBut b o (AW (Heap.lt_size e)) (Heap.get?_push_of_some _ e)
 generalize hD:s2.heap.objs.size=D at*
 have I3:Inv X pins σ H1 {s2 with heap:=H2}:=I2.kept (t':=s2.toks) push
 have fD:ia X pins H1 D:=I2.fpOk (A2 hD) (I2.hok.fresh (A2 hD))
 have fpl:∀b∈fp,b<D:=λ b hb=>by
  obtain ⟨o,e,_⟩:=T.obj _ _ st2 b hb
  rw [<-hD]; exact Heap.lt_size e
 have fex:∀b∈D::fp,ia X pins H1 b:=λ b hb=>by
  rcases y6.mp hb with z | z
  ·rw [z]; exact fD
  ·exact f2 b z
 have lex:∀b∈D::fp,b<({s2 with heap:=H2}:Shared).heap.objs.size:=λ b hb=>by
  show b<H2.objs.size
  rcases y6.mp hb with z | z
  ·rw [z,hC]; exact A6 _
  ·rw [hC]; exact A3 (fpl b z)
 have I4:=I3.enterC (N:=N) S fex lex (h1:=h₁) (tk:=s2.toks+([]:List (Str×Value)).length) hns₁ hk
 generalize hY:cxC X scope N {s2 with heap:=H2} H1 (D::fp)=Y at*
 have yP:Y.prog=X.prog:=by rw [<-hY]; rfl
 have yw:Y.w=X.w:=by rw [<-hY]; rfl
 have yA:Y.A=X.A:=by rw [<-hY]; rfl
 have yC:Y.env.locals=H2.objs.size:=by rw [<-hY]; rfl
 have yK:Y.K=X.K:=by rw [<-hY]; rfl
 have yc:Y.calm=true:=by rw [<-hY]; exact hc
 have yfs:Y.fs=frs X.stack:=by rw [<-hY]; rfl
 have yex:Y.ex=D::fp:=by rw [<-hY]; rfl
 have ypn:Y.pn=[]:=by rw [<-hY]; rfl
 have yxe:Y.xe=λ _ _=>False:=by rw [<-hY]; rfl
 have ycl:∀x c,Y.env.cells.lookup x=some c->X.env.cells.lookup x=some c:=by
  rw [<-hY]
  exact λ x c e=>kJ X.env _ _ x c (λ y d z=>by simp at z) e
 have ye:Y.env=compEnvC scope (iG X.env scope.names []) H2.objs.size X.env:=by rw [<-hY]; rfl
 have ys0:Y.s₀={s2 with heap:=H2}:=by rw [<-hY]; rfl
 have yH0:Y.H₀=H1:=by rw [<-hY]; rfl
 have hgY:PG Y tg g:=by rw [<-hY]; exact hg _ _ _
 have htY:qo Y ifs tt:=by rw [<-hY]; exact ht _ _ _
 have heY:PE Y elt te:=by rw [<-hY]; exact he _ _ _
 have nfs:∀b∈D::fp,b∉Y.fs:=λ b hb z=>by
  rw [yfs] at z
  obtain ⟨f0,f1,f2',_⟩:=fex b hb
  rcases y6.mp (I2.stkSub b z) with q | q
  ·exact f1 q
  ·exact f2' q
 have ncl:∀b∈D::fp,∀x c,Y.env.cells.lookup x=some c->c≠b:=λ b hb x c e=>(fex b hb).2.2.2.2.1 x c (ycl x c e)
 have nC:∀b∈D::fp,b≠Y.env.locals:=λ b hb=>by rw [yC]; exact AW (lex b hb)
 have stat:∀{H':Hp} {us:List Value} {k:Nat},(∀b∈fp,H' b=none)->∀b∈fp,ia Y [(D,gW us k)] H' b:=λ {H' us k} hn b hb=>
  ⟨hn b hb,nC b (zg _ hb),nfs b (zg _ hb),.inl (by rw [yex]; exact zg _ hb),ncl b (zg _ hb),λ p hp=>by
   rw [ypn] at hp
   have hp1:p=(D,gW us k):=by simpa using hp
   rw [hp1]
   exact A1 (fpl b hb)⟩
 have pinD:∀{σ':St} {H':Hp} {s':Shared} {pl:List (Addr×Obj)} {us:List Value} {k:Nat},Inv Y pl σ' H' s'->s'.heap.get? D=some (gW us k)->H' D=none->Inv Y [(D,gW us k)] σ' H' s':=λ {σ' H' s' pl us k} I' e n=>
  I'.pins_of λ p hp=>by
   have hp1:p=(D,gW us k):=by simpa using hp
   subst hp1
   exact ⟨e,n,nC D zi,nfs D zi,λ v z=>by cases z⟩
 have I4':Inv Y [(D,gW [] 0)] (dG src σ) H1 {s2 with heap:=h₁,toks:=s2.toks+([]:List (Str×Value)).length}:=pinD I4 (hk _ _ hD2) fD.1
 have loop:codeAny (model X.prog X.w) X.A (.compLoop (.ListComp elt [⟨tg,iter,ifs,0⟩] scope pos) 0 (.ref it) (.ref D) Y.env) (tS X pins σ Q (.ref D) H2.objs.size) {s2 with heap:=h₁,toks:=s2.toks+([]:List (Str×Value)).length}:=by
  refine nZ (λ n s'=> ∃i ys us k σ' H',Inv Y [(D,gW us k)] σ' H' s'/\tn i s'.heap/\(∀b∈fp,H' b=none)/\aP ys us/\ys.length<=sizeLine/\W i n ys σ' H') ?_ m0
   ⟨0,[],[],0,_,H1,I4',T.keep _ _ _ st2 λ b hb o e=>hk _ _ (push b o e),λ b hb=>(f2 b hb).1,.nil,AV _,w0⟩
  rintro n s3 ⟨i,ys,us,k,σ3,H3,I3',st3,fr3,rv,hz,w3⟩
  rcases turn i n ys σ3 H3 w3 with ⟨stop,q⟩ | ⟨go,hlen,step⟩
  ·have hd:=T.done Y yP yw yK yc i _ s3 σ3 H3 (λ _ _=>False) I3' (stat fr3) st3 stop
   rw [yA] at hd
   refine thn hd λ r s4 ⟨hr,I4⟩=>?_
   subst hr
   obtain ⟨eD,nD,_⟩:=I4.pin (D,gW us k) (by simp)
   have eD:s4.heap.get? D=some (gW us k):=eD
   have nD:H3 D=none:=nD
   have base:Un (frs X.stack) (D::fp) H1 H3 H2 s4.heap:=by
    have b:=I4.base
    rw [yex,yH0,ys0,yfs] at b
    exact b
   have hnD:∀b o,s2.heap.get? b=some o->b≠D:=λ b o e=>by rw [<-hD]; exact AW (Heap.lt_size e)
   have nx:∀b o,s2.heap.get? b=some o->b∉fp->b∉D::fp:=λ b o e hb z=>(y6.mp z).elim (hnD b o e) hb
   have un:Un (frs X.stack) fp H1 (upd H3 D (.lst ys)) s2.heap s4.heap:=
    ⟨λ b o e n hb hx=>base.keep b o (push b o e) n hb (nx b o e hx),λ b o e n hb hx=>base.slot b o (push b o e) n hb (nx b o e hx),λ b o e n hx=>by rw [aq (hnD b o e)]; exact base.free b o (push b o e) n (nx b o e hx),
     λ b o e hx=>base.there b o (push b o e) (nx b o e hx),λ b xs e=>by rw [aq (ar e fD.1)]; exact base.tups b xs e,λ b o u e=>by rw [aq (ar e fD.1)]; exact base.frzs b o u e,
     λ b ps e=>by rw [aq (ar e fD.1)]; exact base.tbls b ps e⟩
   have hok:HOk X.prog X.w (upd H3 D (.lst ys)) s4.heap:=λ b u e=>by
    by_cases hb:b=D
    ·subst hb
     rw [af] at e
     cases e
     exact ⟨hz,us,k,rv,eD⟩
    ·rw [aq hb] at e
     have x:=I4.hok b u e
     rw [yP,yw] at x
     exact x.stay (λ c v _ z=>z) (λ c z=>by rw [aq (ar z nD)]; exact z) λ c xs z=>by rw [aq (ar z nD)]; exact z
   have ho:s4.os=s2.os:=by rw [I4.os,ys0]
   have J':Inv X pins σ (upd H3 D (.lst ys)) s4:=I2.call' (ch:=fp) ho un hok I4.bare λ b hb=>⟨(f2 b hb).2.2.2.1,(f2 b hb).2.1,(f2 b hb).2.2.2.2.1,(f2 b hb).2.2.2.2.2⟩
   refine ⟨⟨_,rfl⟩,D,_,rfl,J',?_,?_,q D nD⟩
   ·obtain ⟨m,hm,_⟩:=I4.loc
    rw [yC] at hm
    exact ⟨m,hm⟩
   ·refine I2.fpOk (by rw [hC,hD]; exact AZ _) ?_
    rw [aq (by rw [hC]; exact A7 D)]
    have z:=I4.free
    rw [yC] at z
    exact z
  ·have hd:=T.item Y yP yw yK yc i _ s3 σ3 H3 (λ _ _=>False) I3' (stat fr3) st3 go
   rw [yA] at hd
   refine thn hd λ r s4 ⟨u,hr,h4⟩=>?_
   subst hr
   refine thn h4 λ _ s5 ⟨x,H5,I5,r5,y5,st5,fr5⟩=>?_
   have I5':=I5.pinned (stat fr5) (T.obj _ _ st5)
   have hg':=hgY _ s5 σ3 H5 x u _ I5' r5 (step x H5 y5)
   rw [yP,yw,yA,yxe] at hg'
   refine thn hg' λ _ s6 ⟨σ6,H6,I6,q6⟩=>?_
   have ht':=htY _ s6 σ6 H6 _ I6 q6
   rw [yP,yw,yA,yxe] at ht'
   refine thn ht' λ ok s7 ⟨H7,I7,q7⟩=>?_
   have again:∀{σ8:St} {H8:Hp} {s8:Shared} {ys':List V} {us':List Value} {k' m':Nat},Inv Y ([(D,gW us' k')]++gr fp s5.heap) σ8 H8 s8->aP ys' us'->ys'.length<=sizeLine->m'<n->W (i+1) m' ys' σ8 H8->
     ∃m,m<n/\∃i ys us k σ' H',Inv Y [(D,gW us k)] σ' H' s8/\tn i s8.heap/\(∀b∈fp,H' b=none)/\aP ys us/\ys.length<=sizeLine/\W i m ys σ' H':=λ {σ8 H8 s8 ys' us' k' m'} I8 rv' hz' hm w8=>by
    refine ⟨m',hm,i+1,ys',us',k',σ8,H8,I8.unpinned,T.keep _ _ _ st5 λ b hb o e=>(I8.pin (b,o) (zr _ (zr _ (fP hb e)))).1,λ b hb=>?_,rv',hz',w8⟩
    obtain ⟨o,e,d⟩:=T.obj _ _ st5 b hb
    exact (I8.pin (b,o) (zr _ (zr _ (fP hb e)))).2.1
   cases ok with
   | false=>
     obtain ⟨m',hm,w8⟩:=q7
     exact again I7 rv hz hm w8
   | true=>
     rw [if_pos rfl]
     have he':=heY _ s7 σ6 H7 _ I7 q7
     rw [yP,yw,yA,yxe] at he'
     refine thn he' λ u8 s8 ⟨v,H8,I8,r8,m',hm,w8⟩=>?_
     obtain ⟨eD,nD,_⟩:=I8.pin (D,gW us k) (by simp)
     have eD:s8.heap.get? D=some (gW us k):=eD
     have nD:H8 D=none:=nD
     have hl:=rv.length
     refine call_meets F.slot_list_append ⟨_,eD,rfl⟩ F.entry_list_append (F.args_list_append_2 _ _) (PySem.list_append D us.toArray k u8 (by rw [y9]; lia)) ⟨eD,?_⟩
     have q:=PySem.IsL.update eD (λ a=>a.push u8)
     have eu:us.toArray.push u8=(us++[u8]).toArray:=by simp
     rw [eu] at q
     obtain ⟨k',q⟩:∃k',(s8.heap.update D (Obj.mapSeq λ a=>a.push u8)).get? D=some (gW (us++[u8]) k'):=⟨_,q⟩
     have I8':Inv Y (gr fp s5.heap) σ6 H8 s8:=I8.pins_of λ p hp=>I8.pin p (zr _ (zr _ hp))
     have I9:Inv Y (gr fp s5.heap) σ6 H8 {s8 with heap:=s8.heap.update D (Obj.mapSeq λ a=>a.push u8)}:=I8'.turned (it:=D) (t':=s8.toks) (λ b o hb e=>(Heap.get?_update_other s8.heap _ (Ne.symm hb)).trans e) nD (nC D zi)
      (.inl (by rw [yex]; exact zi)) (ncl D zi) λ p hp=>by
       rw [ypn] at hp
       have hp:p∈gr fp s5.heap:=by simpa using hp
       exact AW (fpl _ (lN hp).1)
     refine again (us':=us++[u8]) (ys':=ys++[v]) (m':=m') (k':=k') (I9.pins_of λ p hp=>?_) (rv.append (.cons r8 .nil)) (by rw [zm,Au]; lia) hm w8
     rcases zj.mp hp with z | z
     ·have hp1:p=(D,gW (us++[u8]) k'):=by simpa using z
      subst hp1
      exact ⟨q,nD,nC D zi,nfs D zi,λ v z=>by cases z⟩
     ·exact I9.pin p (zr _ z)
 rw [ye] at loop
 exact codeAny_compStart_list loop (T.self _ 0 _ _ _ (T.keep _ _ _ st2 λ b hb o e=>hk _ _ (push b o e)) loop)
theorem pe_comp (hc:X.calm=true) (S:bY X N src scope) (hi:PI X tg iter wi) (hg:∀s H ex,PG (cxC X scope N s H ex) tg g) (ht:∀s H ex,qo (cxC X scope N s H ex) ifs tt) (he:∀s H ex,PE (cxC X scope N s H ex) elt te)
  (hs:∀x,foldedSetIterable iter X.env x=pure x:=by intro _; rfl):PE X (.ListComp elt [⟨tg,iter,ifs,0⟩] scope pos) (tComp wi g tt te src):=by
 intro pins s σ H Q I h
 rw [eval_ListComp]
 refine wpAny_comprehension_free (use:=none) rfl hs (g9 (S.cells I.ok)) S.kind S.names (thn (hi pins s σ H _ I h) λ v s1 h1=>thn h1 λ it s2 h2=>?_)
 refine thn (qa hc S hg ht he h2) λ acc s3 h3=>thn h3 λ cenv s4 h4=>codeAny_mono h4 λ r s' hr=>?_
 obtain ⟨⟨f,rfl⟩,D,H',rfl,J,⟨m,hm⟩,hf,q⟩:=hr
 refine ⟨m,hm,λ h' sb=>?_⟩
 exact ⟨.ref D,H',J.turned (t':=s'.toks) (λ b o hb e=>(sb.2 b hb).trans e) hf.1 hf.2.1 hf.2.2.2.1 hf.2.2.2.2.1 hf.2.2.2.2.2,rfl,q⟩
theorem iq {i:Nat}{y:Str}{py spos:Pos}(hc:X.calm=true) (S:bY X N src scope) (hi:PI X tg iter wi) (hg:∀s H ex,PG (cxC X scope N s H ex) tg g) (ht:∀s H ex,qo (cxC X scope N s H ex) ifs tt) (he:∀s H ex,PE (cxC X scope N s H ex) elt te)
  (hN:X.N.Nodup) (hy:X.N[i]? =some y) (hx:Loc X.env.scope y) (hsw:swapsWith (.ListComp elt [⟨tg,iter,ifs,0⟩] scope pos) (some (.Name y py)) spos.line X.env=pure true) (hf:X.fn y=true\/X.env.scope.names.lookup y=some .local)
  (hs:∀x,foldedSetIterable iter X.env x=pure x:=by intro _; rfl):PS X (.Assign [.Name y py] (.ListComp elt [⟨tg,iter,ifs,0⟩] scope pos) spos) (tAsg (tComp wi g tt te src) (gName i)):=by
 intro pins s σ H D I h
 rw [exec_Assign_Name_used _ _ _ _ hsw]
 refine wpAny_bind (wpAny_standAt (wpAny_bind ?_))
 show wpAny _ X.A (do let _<-comprehension (.ListComp elt [⟨tg,iter,ifs,0⟩] scope pos) scope X.env _ (newList []) false (eval iter X.env) (some (assign (.Name y py) X.env))) _ _ s
 refine wpAny_bind (wpAny_mono (wpAny_comprehension_free (use:=some (assign (.Name y py) X.env)) (Q:=λ _ s'=>SP X pins D .next s') rfl hs (g9 (S.cells I.ok)) S.kind S.names (thn (hi pins s σ H _ I h) λ v s1 h1=>thn h1 λ it s2 h2=>?_)) (λ _ s' hq=>wpAny_pure (wpAny_pure hq)) λ _ _ e=>e)
 refine thn (qa hc S hg ht he h2) λ acc s3 h3=>thn h3 λ cenv s4 h4=>codeAny_mono h4 λ r s' hr=>?_
 obtain ⟨⟨f,rfl⟩,D',H',rfl,J,⟨m,hm⟩,hfp,q⟩:=hr
 show wpAny _ X.A (assign (.Name y py) X.env (.ref D')) _ _ _
 refine wpAny_assign_Name (lC J hN hy hx (v:=.ref D') rfl (λ s5 I5 ⟨a,sb,ha⟩=>?_) hf)
 have hne:cenv.locals≠a:=by
  rcases ha with z | z
  ·rw [z]; exact hfp.2.1
  ·exact Ne.symm (hfp.2.2.2.2.1 y a z)
 refine ⟨m,hm.sameBut sb hne,λ h' sb'=>?_⟩
 exact ⟨_,H',I5.turned (t':=s5.toks) (λ b o hb e=>(sb'.2 b hb).trans e) hfp.1 hfp.2.1 hfp.2.2.2.1 hfp.2.2.2.2.1 hfp.2.2.2.2.2,q⟩
end
end L2
namespace L2
open PySem PySem.Spec PyProof.Rows
section
variable {X:Cx}
theorem PE.imp {e:Expr}{t t':TE}(h:PE X e t) (i:∀σ H Q,t' σ H Q->t σ H Q):PE X e t':=λ pins s σ H Q I q=>h pins s σ H Q I (i σ H Q q)
theorem bb.imp {f:Value}{r r':List V->Hp->VK->Prop}(h:bb X f r) (i:∀xs H Q,r' xs H Q->r xs H Q):bb X f r':=λ pins s σ H xs us Q I r q=>h pins s σ H xs us Q I r (i xs H Q q)
theorem MtR.imp {id:String}{r r':V->List V->Hp->VK->Prop}(h:MtR X id r) (i:∀x xs H Q,r' x xs H Q->r x xs H Q):MtR X id r':=λ pins s σ H x xs v us Q I rx r q=>h pins s σ H x xs v us Q I rx r (i x xs H Q q)
abbrev Str.tl (x:Str):List Nat:=x.cps.toList
theorem mq {x y:Str}(h:x.cps.toList=y.cps.toList):x=y:=by
 obtain ⟨a⟩:=x; obtain ⟨b⟩:=y
 have:a=b:=BM.mp h
 rw [this]
theorem gN (x:Str):x.length=x.cps.toList.length:=by simp [Str.length]
theorem uw:OpR X (compareOp .LtE) (λ x y H Q=> ∃i j,x=.str i/\y=.str j/\Q (.bl (!decide (j.cps.toList<i.cps.toList))) H):=by
 intro pins s σ H x y v u Q I rx ry h
 obtain ⟨i,j,rfl,rfl,q⟩:=h
 obtain ⟨t,rfl⟩:=rx
 obtain ⟨t',rfl⟩:=ry
 exact PySem.P.le_str (fin_bl I q rfl)
theorem xG:MtR X "str.upper" (λ x vs H Q=> ∃a,x=.str a/\vs=[]/\a.length<=sizeLine/\(∀c∈a.cps.toList,c<128)/\Q (.str ⟨a.cps.map up1⟩) H):=by
 intro pins s σ H x xs v us Q I rx r h
 obtain ⟨a,rfl,rfl,hz,ha,q⟩:=h
 obtain ⟨t,rfl⟩:=rx
 cases r
 have e:placed a (λ _ c=>Unicode.upperOf c)=a.cps.map up1:=placed_single a _ up1 λ i c hc=>upperOf_ascii c (ha c (zu hc))
 have hfit:Builtin.Str.tooLong (placed a λ _ c=>Unicode.upperOf c).size=false:=by
  rw [e,BL]
  unfold Builtin.Str.tooLong
  exact decide_eq_false (by show¬a.cps.size > sizeLine; have:a.length=a.cps.size:=rfl; lia)
 refine call_gives F.slot_str_upper (typeIs_str _ _ _) F.entry_str_upper (F.args_str_upper_1 _) (gives_str_upper a t hfit) ?_
 rw [e]
 exact ⟨by show (a.cps.map up1).size<=sizeLine; rw [BL]; exact hz,⟨.str _,H,I.tok _,⟨_,rfl⟩,q⟩⟩
def lq (x:Str) (lo hi:Option Int):Str:=⟨((x.cps.toList.drop (HT.sIx x.length 0 lo)).take (HT.sIx x.length x.length hi - HT.sIx x.length 0 lo)).toArray⟩
theorem sJ (l:List Nat):∀(k i:Nat),i+k<=l.length->(List.range' i k).filterMap (λ m=>l[m]?)=(l.drop i).take k
 | 0,i,_=>by simp
 | k+1,i,h=>by
   have ih:=sJ l k (i+1) (by lia)
   rw [List.range'_succ,zQ,y7 (by lia),Af (by lia),List.take_succ_cons]
   show l[i]::_=_
   rw [ih]
theorem xw (x:Str) (i k:Nat) (h:i+k<=x.length):((List.range k).map λ (m:Nat)=>i+m).filterMap (x.cps[·]?)=(x.cps.toList.drop i).take k:=by
 have hx:x.cps.toList.length=x.length:=(gN x).symm
 rw [<-List.range'_eq_map_range,<-sJ _ _ _ (by lia)]
 congr 1
 funext m
 rw [BI]
theorem sX (lo hi:Option Int) (n:Nat):Builtin.Str.strSliceIndices lo hi 1 n=(List.range (HT.sIx n n hi - HT.sIx n 0 lo)).map λ m=>HT.sIx n 0 lo+m:=by
 have cl:∀(v:Int) (d:Nat),max 0 (min (if v<0 then v+(n:Int) else v) (n:Int))=((HT.sIx n d (some v):Nat):Int):=λ v d=>by
  show _=(((if v<0 then (v+(n:Int)).toNat else min v.toNat n):Nat):Int)
  by_cases hv:v<0
  ·simp only [if_pos hv]; lia
  ·simp only [if_neg hv]; lia
 have main:∀(a b:Nat),sliceRange (a:Int) (b:Int) 1=(List.range (b - a)).map λ m=>a+m:=λ a b=>by
  have e:(if (1:Int) > 0 then (if (a:Int)<(b:Int) then ((b:Int) - a+1 - 1) / 1 else 0) else (if (a:Int) > b then ((a:Int) - b - 1 - 1) / (-1) else 0)).toNat=b - a:=by
   rw [if_pos (by decide)]
   split<;>lia
  show (List.range (if (1:Int) > 0 then (if (a:Int)<(b:Int) then ((b:Int) - a+1 - 1) / 1 else 0) else (if (a:Int) > b then ((a:Int) - b - 1 - 1) / (-1) else 0)).toNat).map (λ (k:Nat)=>((a:Int)+1*(k:Int)).toNat)=_
  rw [e]
  apply zH
  intro m _
  lia
 have e1:HT.sIx n 0 none=0:=rfl
 have e2:HT.sIx n n none=n:=rfl
 unfold Builtin.Str.strSliceIndices
 simp only [show (1:Int) > 0 by decide,if_true]
 cases lo with
 | none=>
   cases hi with
   | none=>exact main 0 n
   | some h=>show sliceRange ((0:Nat):Int) (max 0 (min (if h<0 then h+(n:Int) else h) (n:Int))) 1=_; rw [cl h n]; exact main _ _
 | some l=>
   cases hi with
   | none=>show sliceRange (max 0 (min (if l<0 then l+(n:Int) else l) (n:Int))) (n:Int) 1=_; rw [cl l 0]; exact main _ _
   | some h=>show sliceRange (max 0 (min (if l<0 then l+(n:Int) else l) (n:Int))) (max 0 (min (if h<0 then h+(n:Int) else h) (n:Int))) 1=_; rw [cl l 0,cl h n]; exact main _ _
theorem tZ (x:Str) (lo hi:Option Int):(⟨((Builtin.Str.strSliceIndices lo hi 1 x.length).filterMap (x.cps[·]?)).toArray⟩:Str)=lq x lo hi:=by
 unfold lq
 rw [sX]
 have h1:=HT.sIx_le x.length 0 (AV _) lo
 have h2:=HT.sIx_le x.length x.length (AU _) hi
 by_cases h:HT.sIx x.length 0 lo<=HT.sIx x.length x.length hi
 ·rw [xw x _ _ (by lia)]
 ·have e:HT.sIx x.length x.length hi - HT.sIx x.length 0 lo=0:=by lia
  rw [e]
  simp
theorem lY (x:Str) (lo hi:Option Int):(lq x lo hi).cps.toList=(x.cps.toList.drop (HT.sIx x.length 0 lo)).take (HT.sIx x.length x.length hi - HT.sIx x.length 0 lo):=by
 unfold lq
 simp
theorem yE (x:Str) (lo hi:Option Int):(lq x lo hi).length<=x.length:=by
 rw [gN,lY,gN x,zx,At]
 lia
theorem rJ {x:Str}{lo hi:Option Int}(h:(Builtin.Str.strSliceIndices lo hi 1 x.length).length=x.length):lq x lo hi=x:=by
 rw [sX,y3,zI] at h
 have h1:=HT.sIx_le x.length 0 (AV _) lo
 have h2:=HT.sIx_le x.length x.length (AU _) hi
 apply mq
 rw [lY]
 by_cases z:x.length=0
 ·have e:x.cps.toList=[]:=Aw.mp (by rw [<-gN]; exact z)
  rw [e]; simp
 ·have e1:HT.sIx x.length 0 lo=0:=by lia
  rw [h,e1,Ag,List.take_of_length_le (by rw [<-gN]; exact AU _)]
def rSlS:V->Option Int->Option Int->Hp->VK->Prop:=λ x lo hi H Q=> ∃z,x=.str z/\z.length<=sizeLine/\Q (.str (lq z lo hi)) H
theorem pB {v:Value}{o:Option Int}(p:IsPart v o):∃q:Option (Int×Tok),v=partValue q/\q.map (·.1)=o:=by
 cases p with
 | none=>exact ⟨none,rfl,rfl⟩
 | int i t=>exact ⟨some (i,t),rfl,rfl⟩
theorem sl_str:SlR X rSlS:=by
 intro pins s σ H x v vl vu lo hi sl Q I rx hs pl pu h
 obtain ⟨z,rfl,hz,q⟩:=h
 obtain ⟨t,rfl⟩:=rx
 obtain ⟨l,rfl,el⟩:=pB pl
 obtain ⟨u,rfl,eu⟩:=pB pu
 refine ⟨"str",_,F.slot_str_getitem.lookup,typeIs_str _ _ _,?_⟩
 obtain ⟨o,ho,hc,hd⟩:=hs
 refine wpAny_getItem_str_slice (l:=l) (u:=u) (st:=none) ⟨o,ho,hc,hd⟩ rfl ?_
 unfold sliceMade slicePicked
 rw [el,eu]
 split
 ·rename_i hw
  have hw:(Builtin.Str.strSliceIndices lo hi 1 z.length).length=z.length:=by simpa using hw
  rw [rJ hw] at q
  exact ⟨.str z,H,I,⟨t,rfl⟩,q⟩
 ·have e:=tZ z lo hi
  have e':(⟨((Builtin.Str.strSliceIndices lo hi ((Option.map (·.1) (none:Option (Int×Tok))).getD 1) z.length).filterMap (z.cps[·]?)).toArray⟩:Str)=lq z lo hi:=e
  rw [e']
  exact ⟨AX (yE z lo hi) hz,⟨.str _,H,I.tok _,⟨_,rfl⟩,q⟩⟩
theorem ls:bb X (.type "int") (λ xs H Q=> ∃x n,xs=[.str x]/\PySem.intText? x=some n/\x.length<=640/\Q (.int n) H):=by
 intro pins s σ H xs us Q I r h
 obtain ⟨x,n,rfl,hn,hl,q⟩:=h
 obtain ⟨u,rfl,t,rfl⟩:=dv r
 exact PySem.W.KIN.call_text hn hl ⟨.int n,H,I.tok _,⟨_,rfl⟩,q⟩
theorem jS:∀{ys:List Str}{us:List Value},aP (ys.map V.str) us->StrsAre us ys
 | [],us,r=>by rw [Ad] at r; cases r; exact .nil
 | y::ys,us,r=>by
   rw [zB] at r
   cases r with
   | cons r1 r2=>
     obtain ⟨t,e⟩:=r1
     subst e
     exact .cons y t (jS r2)
theorem mt_join:MtR X "str.join" (λ x vs H Q=> ∃sep p ys,x=.str sep/\vs=[.ref p]/\SqL X.K H p (ys.map V.str)/\(ys.map (·.length)).sum+ys.length*sep.length<=16777216/\Q (.str (Txt.join sep ys)) H):=by
 intro pins s σ H x xs v us Q I rx r h
 obtain ⟨sep,p,ys,rfl,rfl,hp,hz,q⟩:=h
 obtain ⟨t,rfl⟩:=rx
 obtain ⟨u,rfl,ru⟩:=dv r
 cases ru
 obtain ⟨its,rv,pl,hl⟩:=I.list hp
 exact join_list pl.isList (by simpa using jS rv) hz λ t' k=>⟨.str _,H,I.tok _,⟨t',rfl⟩,q⟩
theorem ou {P:Program}{w:World}{A:Around}{its:List Value}{ks:List Bool}(r:aP (ks.map V.bl) its):TruthOf P w A (λ i v=>its.toArray[i]? =some v) (λ i=>ks.getD i false):=by
 intro i v s Q E hv hq
 have hv:its[i]? =some v:=by simpa using hv
 have hlen:=r.length
 rw [y3] at hlen
 have hi:i<its.length:=(zo.mp hv).1
 have hk:(ks.map V.bl)[i]? =some (V.bl (ks.getD i false)):=by
  rw [y8,y7 (by lia),zb,y7 (by lia)]
  rfl
 obtain ⟨u,hu,ru⟩:=r.get hk
 rw [hv] at hu
 cases hu
 cases ru
 exact wpAny_truthy_bool hq
theorem ui (ks:List Bool):(List.range ks.length).all (λ i=>ks.getD i false)=ks.all id:=by
 rw [Bw,zA,zA]
 constructor
 ·intro h b hb
  obtain ⟨i,hi,e⟩:=AI.mp hb
  have:=h i (zc.mpr hi)
  rw [zb,y7 hi] at this
  rw [<-e]
  exact this
 ·intro h i hi
  have hi:=zc.mp hi
  rw [zb,y7 hi]
  exact h _ (zp hi)
theorem yQ (hc:X.calm=true):bb X (.builtin "all") (λ xs H Q=> ∃(p:Addr) (ks:List Bool),xs=[.ref p]/\SqL X.K H p (ks.map V.bl)/\Q (.bl (ks.all id)) H):=by
 intro pins s σ H xs us Q I r h
 obtain ⟨p,ks,rfl,hp,q⟩:=h
 obtain ⟨u,rfl,ru⟩:=dv r
 cases ru
 obtain ⟨its,rv,pl,hl⟩:=I.list hp
 have hlen:=rv.length
 rw [y3] at hlen
 refine call_all_walk (wpAny_pyIter_list pl.isList ?_)
 have hne:p≠s.heap.objs.size:=by
  obtain ⟨o,ho,_⟩:=pl.isList
  exact AW (Heap.lt_size ho)
 have W:=Walks.list (prog:=X.prog) (w:=X.w) (A:=X.A.in1) (show X.A.in1.handled=none from I.ok.hd hc) s.heap.objs.size p hne its.toArray
 have hpush:∀o b ob,s.heap.get? b=some ob->(s.heap.push o).get? b=some ob:=λ o b ob e=>Heap.get?_push_of_some _ e
 refine ⟨_,_,_,_,_,_,λ i=>ks.getD i false,rfl,W,⟨⟨_,Heap.get?_push_size _ rfl,rfl,rfl⟩,pl.isList.at λ o e=>hpush _ _ o e⟩,ou rv,λ h' tk k=>?_⟩
 have e:(List.range its.toArray.size).all (λ i=>ks.getD i false)=ks.all id:=by
  rw [<-ui,y9,<-hlen]
 rw [e]
 refine ⟨.bl _,H,I.kept (t':=tk) (h':=h') λ b ob e=>k b ob ?_ (hpush _ b ob e),rfl,q⟩
 intro hb
 have:b=s.heap.objs.size:=by simpa using hb
 subst this
 exact absurd (Heap.lt_size e) (A0 _)
end
end L2
namespace L2
open PySem PySem.Spec PyProof.Rows
inductive EqD (K:Frag) (H:Hp):Nat->V->V->Bool->Prop
 | flat {n:Nat} {x y:V} (hx:flatV x=true) (hy:flatV y=true):EqD K H n x y (eqV x y)
 | same {n:Nat} {a:Addr}:EqD K H n (.ref a) (.ref a) true
 | len {n:Nat} {a b:Addr} {xs ys:List V} (ha:SqL K H a xs) (hb:SqL K H b ys) (hab:a≠b) (hl:xs.length≠ys.length):EqD K H (n+1) (.ref a) (.ref b) false
 | lst {n:Nat} {a b:Addr} {xs ys:List V} {es:Nat->Bool} (ha:SqL K H a xs) (hb:SqL K H b ys) (hab:a≠b) (hl:xs.length=ys.length)
   (he:∀i x y,xs[i]? =some x->ys[i]? =some y->EqD K H n x y (es i)):EqD K H (n+1) (.ref a) (.ref b) ((List.range xs.length).all es)
 | tup {n:Nat} {a b:Addr} {xs ys:List V} {es:Nat->Bool} (ha:SqT K H a xs) (hb:SqT K H b ys) (hab:a≠b)
   (he:∀i x y,xs[i]? =some x->ys[i]? =some y->EqD K H n x y (es i)):EqD K H (n+1) (.ref a) (.ref b) ((List.range (min xs.length ys.length)).all es&&xs.length == ys.length)
 | nref {n:Nat} {x:V} {a:Addr} {xs:List V} (hx:flatV x=true) (ha:SqL K H a xs\/SqT K H a xs):EqD K H n x (.ref a) false
 | refn {n:Nat} {x:V} {a:Addr} {xs:List V} (hx:flatV x=true) (ha:SqL K H a xs\/SqT K H a xs):EqD K H n (.ref a) x false
section
variable {X:Cx}{pins:List (Addr×Obj)}{σ:St}{H:Hp}{s:Shared}
theorem dP {xs:List V}{its:List Value}(r:aP xs its) {j:Nat}(h:j<its.toArray.size):∃x,xs[j]? =some x/\aN x its.toArray[j]:=by
 have hl:=r.length
 have hj:j<its.length:=by simpa using h
 have hx:xs[j]? =some (xs[j]'(by lia)):=y7 (by lia)
 obtain ⟨u,hu,ru⟩:=r.get hx
 refine ⟨_,hx,?_⟩
 have e:its.toArray[j]=u:=by
  rw [y7 hj] at hu
  simpa using Option.some.inj hu
 rw [e]
 exact ru
theorem kH (I:Inv X pins σ H s):∀{n:Nat}{x y:V}{k:Bool},EqD X.K H n x y k->∀(A:Around),A.units+n<cLine->∀{u v:Value},aN x u->aN y v->SeqAt.EqAt A s u v k:=by
 intro n x y k h
 induction h with
 | flat hx hy=>exact λ A _ u v ru rv=>yx ru rv hx hy
 | same=>
   intro A _ u v ru rv
   cases ru; cases rv
   exact SeqAt.EqAt.same _
 | len ha hb hab hl=>
   intro A hu u v ru rv
   cases ru; cases rv
   obtain ⟨its,r1,p1,_⟩:=I.list ha
   obtain ⟨its2,r2,p2,_⟩:=I.list hb
   have l1:=r1.length
   have l2:=r2.length
   refine .of_refs hab (.lists_lengths p1.isList p2.isList (by simp; lia) (by lia))
 | @lst n a b xs ys es ha hb hab hl he ih=>
   intro A hu u v ru rv
   cases ru; cases rv
   obtain ⟨its,r1,p1,_⟩:=I.list ha
   obtain ⟨its2,r2,p2,_⟩:=I.list hb
   have l1:=r1.length
   have l2:=r2.length
   have e:(List.range xs.length).all es=(List.range its.toArray.size).all es:=by rw [y9,l1]
   rw [e]
   refine .of_refs hab (.lists p1.isList p2.isList (by simp; lia) (by lia) λ j h1 h2=>?_)
   obtain ⟨x,hx,rx⟩:=dP r1 h1
   obtain ⟨y,hy,ry⟩:=dP r2 h2
   exact ih j x y hx hy A.in1 (by show A.units+1+n<cLine; lia) rx ry
 | @tup n a b xs ys es ha hb hab he ih=>
   intro A hu u v ru rv
   cases ru; cases rv
   obtain ⟨its,r1,p1,_⟩:=I.tuple ha
   obtain ⟨its2,r2,p2,_⟩:=I.tuple hb
   have l1:=r1.length
   have l2:=r2.length
   have e:((List.range (min xs.length ys.length)).all es&&xs.length == ys.length)=((List.range (min its.toArray.size its2.toArray.size)).all es&&its.toArray.size == its2.toArray.size):=by rw [y9,y9,l1,l2]
   rw [e]
   refine .of_refs hab (.tuples (show s.heap.IsTuple a its.toArray from p1) (show s.heap.IsTuple b its2.toArray from p2) (by lia) λ j h1 h2=>?_)
   obtain ⟨x,hx,rx⟩:=dP r1 h1
   obtain ⟨y,hy,ry⟩:=dP r2 h2
   exact ih j x y hx hy A.in1 (by show A.units+1+n<cLine; lia) rx ry
 | @nref n x a xs hx ha=>
   intro A hu u v ru rv
   cases rv
   rcases ha with ha | ha
   ·obtain ⟨its,r1,p1,_⟩:=I.list ha
    have hl:=p1.isList
    cases x with
    | non=>cases ru; exact .none_list hl (by lia)
    | bl b=>cases ru; exact .bool_list b hl (by lia)
    | int b=>obtain ⟨t,rfl⟩:=ru; exact .int_list b t hl (by lia)
    | str b=>obtain ⟨t,rfl⟩:=ru; exact .str_list b t hl (by lia)
    | _=>simp [flatV] at hx
   ·obtain ⟨its,r1,p1,_⟩:=I.tuple ha
    have hl:s.heap.IsTuple a its.toArray:=p1
    cases x with
    | non=>cases ru; exact .none_tuple hl (by lia)
    | bl b=>cases ru; exact .bool_tuple b hl (by lia)
    | int b=>obtain ⟨t,rfl⟩:=ru; exact .int_tuple b t hl (by lia)
    | str b=>obtain ⟨t,rfl⟩:=ru; exact .str_tuple b t hl (by lia)
    | _=>simp [flatV] at hx
 | @refn n x a xs hx ha=>
   intro A hu u v ru rv
   cases ru
   rcases ha with ha | ha
   ·obtain ⟨its,r1,p1,_⟩:=I.list ha
    have hl:=p1.isList
    cases x with
    | non=>cases rv; exact .list_none hl (by lia)
    | bl b=>cases rv; exact .list_bool b hl (by lia)
    | int b=>obtain ⟨t,rfl⟩:=rv; exact .list_int b t hl (by lia)
    | str b=>obtain ⟨t,rfl⟩:=rv; exact .list_str b t hl (by lia)
    | _=>simp [flatV] at hx
   ·obtain ⟨its,r1,p1,_⟩:=I.tuple ha
    have hl:s.heap.IsTuple a its.toArray:=p1
    cases x with
    | non=>cases rv; exact .tuple_none hl (by lia)
    | bl b=>cases rv; exact .tuple_bool b hl (by lia)
    | int b=>obtain ⟨t,rfl⟩:=rv; exact .tuple_int b t hl (by lia)
    | str b=>obtain ⟨t,rfl⟩:=rv; exact .tuple_str b t hl (by lia)
    | _=>simp [flatV] at hx
end
inductive EqT (K:Frag) (H:Hp):Nat->V->V->Bool->Prop
 | len {n:Nat} {a b:Addr} {xs ys:List V} (ha:SqL K H a xs) (hb:SqL K H b ys) (hl:xs.length≠ys.length):EqT K H (n+1) (.ref a) (.ref b) false
 | lst {n:Nat} {a b:Addr} {xs ys:List V} {es:Nat->Bool} (ha:SqL K H a xs) (hb:SqL K H b ys) (hl:xs.length=ys.length)
   (he:∀i x y,xs[i]? =some x->ys[i]? =some y->EqD K H n x y (es i)):EqT K H (n+1) (.ref a) (.ref b) ((List.range xs.length).all es)
 | tup {n:Nat} {a b:Addr} {xs ys:List V} {es:Nat->Bool} (ha:SqT K H a xs) (hb:SqT K H b ys)
   (he:∀i x y,xs[i]? =some x->ys[i]? =some y->EqD K H n x y (es i)):EqT K H (n+1) (.ref a) (.ref b) ((List.range (min xs.length ys.length)).all es&&xs.length == ys.length)
section
variable {X:Cx}
theorem op_eqT {n:Nat}(hu:X.A.units+n<cLine):OpR X (compareOp .Eq) (λ x y H Q=> ∃k,EqT X.K H n x y k/\Q (.bl k) H):=by
 intro pins s σ H x y v u Q I rx ry h
 obtain ⟨k,h,q⟩:=h
 cases h with
 | @len n a b xs ys ha hb hl=>
   cases rx; cases ry
   obtain ⟨its,r1,p1,_⟩:=I.list ha
   obtain ⟨its2,r2,p2,_⟩:=I.list hb
   have l1:=r1.length
   have l2:=r2.length
   exact SeqAt.eq_list_lengthsAt p1.isList p2.isList (by simp; lia) (by lia) (fin_bl I q rfl)
 | @lst n a b xs ys es ha hb hl he=>
   cases rx; cases ry
   obtain ⟨its,r1,p1,_⟩:=I.list ha
   obtain ⟨its2,r2,p2,_⟩:=I.list hb
   have l1:=r1.length
   have l2:=r2.length
   refine SeqAt.eq_listAt (e:=es) p1.isList p2.isList (by simp; lia) (by lia) (λ j h1 h2=>?_) (fin_bl I q (by rw [y9,l1]))
   obtain ⟨x,hx,rx⟩:=dP r1 h1
   obtain ⟨y,hy,ry⟩:=dP r2 h2
   exact kH I (he j x y hx hy) X.A.in1 (by show X.A.units+1+n<cLine; lia) rx ry
 | @tup n a b xs ys es ha hb he=>
   cases rx; cases ry
   obtain ⟨its,r1,p1,_⟩:=I.tuple ha
   obtain ⟨its2,r2,p2,_⟩:=I.tuple hb
   have l1:=r1.length
   have l2:=r2.length
   refine SeqAt.eq_tupleAt (e:=es) (show s.heap.IsTuple a its.toArray from p1) (show s.heap.IsTuple b its2.toArray from p2) (by lia) (λ j h1 h2=>?_) (fin_bl I q (by rw [y9,y9,l1,l2]))
   obtain ⟨x,hx,rx⟩:=dP r1 h1
   obtain ⟨y,hy,ry⟩:=dP r2 h2
   exact kH I (he j x y hx hy) X.A.in1 (by show X.A.units+1+n<cLine; lia) rx ry
theorem op_neT {n:Nat}(hu:X.A.units+n<cLine):OpR X (compareOp .NotEq) (λ x y H Q=> ∃k,EqT X.K H n x y k/\Q (.bl (!k)) H):=by
 intro pins s σ H x y v u Q I rx ry h
 obtain ⟨k,h,q⟩:=h
 cases h with
 | @len n a b xs ys ha hb hl=>
   cases rx; cases ry
   obtain ⟨its,r1,p1,_⟩:=I.list ha
   obtain ⟨its2,r2,p2,_⟩:=I.list hb
   have l1:=r1.length
   have l2:=r2.length
   exact EqBoolInt.of_rcne (SeqAt.RcNeAt.lists_lengths p1.isList p2.isList (by simp; lia) (by lia)) (fin_bl I q rfl)
 | @lst n a b xs ys es ha hb hl he=>
   cases rx; cases ry
   obtain ⟨its,r1,p1,_⟩:=I.list ha
   obtain ⟨its2,r2,p2,_⟩:=I.list hb
   have l1:=r1.length
   have l2:=r2.length
   refine EqBoolInt.of_rcne (SeqAt.RcNeAt.lists (e:=es) p1.isList p2.isList (by simp; lia) (by lia) (λ j h1 h2=>?_)) (fin_bl I q (by rw [y9,l1]))
   obtain ⟨x,hx,rx⟩:=dP r1 h1
   obtain ⟨y,hy,ry⟩:=dP r2 h2
   exact kH I (he j x y hx hy) X.A.in1 (by show X.A.units+1+n<cLine; lia) rx ry
 | @tup n a b xs ys es ha hb he=>
   cases rx; cases ry
   obtain ⟨its,r1,p1,_⟩:=I.tuple ha
   obtain ⟨its2,r2,p2,_⟩:=I.tuple hb
   have l1:=r1.length
   have l2:=r2.length
   refine EqBoolInt.of_rcne (SeqAt.RcNeAt.tuples (e:=es) (show s.heap.IsTuple a its.toArray from p1) (show s.heap.IsTuple b its2.toArray from p2) (by lia) (λ j h1 h2=>?_)) (fin_bl I q (by rw [y9,y9,l1,l2]))
   obtain ⟨x,hx,rx⟩:=dP r1 h1
   obtain ⟨y,hy,ry⟩:=dP r2 h2
   exact kH I (he j x y hx hy) X.A.in1 (by show X.A.units+1+n<cLine; lia) rx ry
end
def jg (op:Operator) (x y:V) (H:Hp) (Q:VK):Prop:=match op,x,y with
 | .Add,.int i,.int j=>Q (.int (i+j)) H
 | .Add,.str i,.str j=>i.length+j.length<=sizeLine/\Q (.str (i++j)) H
 | .Add,.ref a,.ref b=>rCat (.ref a) (.ref b) H Q
 | .Sub,.int i,.int j=>Q (.int (i - j)) H
 | .Mult,.int i,.int j=>ve i j/\Q (.int (i*j)) H
 | .FloorDiv,.int i,.int j=>CDiv i j/\Q (.int (i / j)) H
 | .Mod,.int i,.int j=>0<j/\Q (.int (i % j)) H
 | .Pow,.int i,.int j=>CPow i j/\Q (.int (i ^ j.toNat)) H
 | _,_,_=>False
section
variable {X:Cx}{a b c:Expr}{ta tb tc:TE}{pos:Pos}
theorem op_bin (op:Operator):OpR X (binaryOp op) (jg op):=by
 intro pins s σ H x y v u Q I rx ry h
 unfold jg at h
 split at h
 ·exact op_add pins s σ H _ _ v u Q I rx ry ⟨_,_,rfl,rfl,h⟩
 ·exact qS pins s σ H _ _ v u Q I rx ry ⟨_,_,rfl,rfl,h.1,h.2⟩
 ·exact op_cat pins s σ H _ _ v u Q I rx ry h
 ·exact op_sub pins s σ H _ _ v u Q I rx ry ⟨_,_,rfl,rfl,h⟩
 ·exact op_mul pins s σ H _ _ v u Q I rx ry ⟨_,_,rfl,rfl,h.1,h.2⟩
 ·exact op_fdiv pins s σ H _ _ v u Q I rx ry ⟨_,_,rfl,rfl,h.1,h.2⟩
 ·exact op_mod pins s σ H _ _ v u Q I rx ry ⟨_,_,rfl,rfl,h.1,h.2⟩
 ·exact op_pow pins s σ H _ _ v u Q I rx ry ⟨_,_,rfl,rfl,h.1,h.2⟩
 ·exact h.elim
def eqB:V->V->Option Bool
 | .non,.non=>some true
 | .int i,.int j=>some (decide (i=j))
 | .bl i,.bl j=>some (decide (i=j))
 | .str i,.str j=>some (decide (i=j))
 | .non,.int _=>some false | .int _,.non=>some false | .non,.bl _=>some false | .bl _,.non=>some false | .non,.str _=>some false | .str _,.non=>some false
 | .int _,.str _=>some false | .str _,.int _=>some false | .bl _,.str _=>some false | .str _,.bl _=>some false
 | _,_=>none
theorem pX {x y:V}{k:Bool}(h:eqB x y=some k):scal x y=true/\decide (x=y)=k:=by
 cases x<;>cases y<;>simp [eqB,scal] at h ⊢ <;>first | exact h | (subst h; rfl)
def aL (K:Frag) (op:CmpOp) (x y:V) (H:Hp) (Q:VK):Prop:=match op,x,y with
 | .Eq,.ref a,.ref b=> ∃k,EqT K H 20 (.ref a) (.ref b) k/\Q (.bl k) H
 | .NotEq,.ref a,.ref b=> ∃k,EqT K H 20 (.ref a) (.ref b) k/\Q (.bl (!k)) H
 | .Eq,x,y=>match eqB x y with | some k=>Q (.bl k) H | none=>False
 | .NotEq,x,y=>match eqB x y with | some k=>Q (.bl (!k)) H | none=>False
 | .Lt,.int i,.int j=>Q (.bl (decide (i<j))) H
 | .LtE,.int i,.int j=>Q (.bl (decide (i<=j))) H
 | .Gt,.int i,.int j=>Q (.bl (decide (j<i))) H
 | .GtE,.int i,.int j=>Q (.bl (decide (j<=i))) H
 | .Lt,.str i,.str j=>Q (.bl (decide (i.cps.toList<j.cps.toList))) H
 | .LtE,.str i,.str j=>Q (.bl (!decide (j.cps.toList<i.cps.toList))) H
 | .In,.str i,.str j=>Q (.bl (!(Builtin.Str.occurrences j i 0 j.length 1).isEmpty)) H
 | .NotIn,.str i,.str j=>Q (.bl (!(!(Builtin.Str.occurrences j i 0 j.length 1).isEmpty))) H
 | .In,x,.ref p=>rIn K false x (.ref p) H Q
 | .NotIn,x,.ref p=>rIn K true x (.ref p) H Q
 | .Is,x,.non=>Q (.bl (decide (x=.non))) H
 | .IsNot,x,.non=>Q (.bl (!decide (x=.non))) H
 | _,_,_=>False
theorem iX (op:CmpOp) (hu:X.A.units+20<cLine):OpR X (compareOp op) (aL X.K op):=by
 intro pins s σ H x y v u Q I rx ry h
 unfold aL at h
 split at h
 ·exact op_eqT hu pins s σ H _ _ v u Q I rx ry h
 ·exact op_neT hu pins s σ H _ _ v u Q I rx ry h
 ·split at h
  ·rename_i k e
   obtain ⟨h1,h2⟩:=pX e
   exact op_eq pins s σ H _ _ v u Q I rx ry ⟨h1,by rw [h2]; exact h⟩
  ·exact h.elim
 ·split at h
  ·rename_i k e
   obtain ⟨h1,h2⟩:=pX e
   exact op_ne pins s σ H _ _ v u Q I rx ry ⟨h1,by rw [h2]; exact h⟩
  ·exact h.elim
 ·exact op_lt pins s σ H _ _ v u Q I rx ry ⟨_,_,rfl,rfl,h⟩
 ·exact op_le pins s σ H _ _ v u Q I rx ry ⟨_,_,rfl,rfl,h⟩
 ·exact op_gt pins s σ H _ _ v u Q I rx ry ⟨_,_,rfl,rfl,h⟩
 ·exact op_ge pins s σ H _ _ v u Q I rx ry ⟨_,_,rfl,rfl,h⟩
 ·exact uv pins s σ H _ _ v u Q I rx ry ⟨_,_,rfl,rfl,h⟩
 ·exact uw pins s σ H _ _ v u Q I rx ry ⟨_,_,rfl,rfl,h⟩
 ·exact ux pins s σ H _ _ v u Q I rx ry ⟨_,_,rfl,rfl,h⟩
 ·exact nz pins s σ H _ _ v u Q I rx ry ⟨_,_,rfl,rfl,h⟩
 ·exact uy pins s σ H _ _ v u Q I rx ry h
 ·exact nA pins s σ H _ _ v u Q I rx ry h
 ·exact op_isN pins s σ H _ _ v u Q I rx ry ⟨rfl,h⟩
 ·exact op_notN pins s σ H _ _ v u Q I rx ry ⟨rfl,h⟩
 ·exact h.elim
def iH (i:Nat):TE:=λ σ H Q=>match σ[i]? with | some (some v)=>Q v H | _=>False
theorem cv (i:Nat) {x:Str}{pos:Pos}(hN:X.N[i]? =some x:=by rfl) (hv:Vis X.env.scope x:=by first | exact Or.inl rfl | exact Or.inr (Or.inl rfl) | exact Or.inr (Or.inr rfl)) (hd:(x == ("__debug__":Str))=false:=by decide)
  (hcd:(x == ("__classdict__":Str))=false:=by decide):PE X (.Name x pos) (iH i):=(pe_var hN hv hd hcd).imp λ σ H Q h=>by
 unfold iH at h
 split at h
 ·rename_i v e; exact ⟨v,e,h⟩
 ·exact h.elim
def og (op:Operator) (ta tb:TE):TE:=λ σ H Q=>ta σ H λ x H1=>tb σ H1 λ y H2=>jg op x y H2 Q
theorem ao {op:Operator}(ha:PE X a ta) (hb:PE X b tb):PE X (.BinOp a op b pos) (og op ta tb):=pe_op (op_bin op) ha hb
def dn (K:Frag) (op:CmpOp) (ta tb:TE):TE:=λ σ H Q=>ta σ H λ x H1=>tb σ H1 λ y H2=>aL K op x y H2 Q
def dc (Q:Bool->Hp->Prop):VK:=λ x H=>match x with | .bl k=>Q k H | _=>False
theorem dt {Q:Bool->Hp->Prop}{x:V}{H:Hp}(h:dc Q x H):∃k,x=.bl k/\Q k H:=by
 unfold dc at h
 split at h
 ·exact ⟨_,rfl,h⟩
 ·exact h.elim
theorem ce_cmp {op:CmpOp}(hu:X.A.units+20<cLine) (ha:PE X a ta) (hb:PE X b tb) (hm:behindInMarks op b=false:=by first | exact km _ | with_unfolding_all rfl):PE X (.Compare a [op] [b] pos) (dn X.K op ta tb):=pe_cmpR (iX op hu) ha hb hm
def eQ (t:TE):TT:=λ σ H Q=>t σ H (dc Q)
theorem ct_cmp {op:CmpOp}(hu:X.A.units+20<cLine) (ha:PE X a ta) (hb:PE X b tb) (hm:behindInMarks op b=false:=by first | exact km _ | with_unfolding_all rfl):PT X (.Compare a [op] [b] pos) (eQ (dn X.K op ta tb)):=by
 intro pins s σ H Q I h
 refine wpAny_isTrue_Compare1 (thn (ha pins s σ H _ I h) λ v s1 ⟨x,H1,I1,r1,q1⟩=>thn (hb pins s1 σ H1 _ I1 q1) λ u s2 ⟨y,H2,I2,r2,q2⟩=>
  thn (iX op hu pins s2 σ H2 x y v u _ I2 r1 r2 q2) λ c s3 ⟨z,H3,I3,r3,q3⟩=>?_) hm
 obtain ⟨k,e,q3⟩:=dt q3
 subst e
 cases r3
 exact wpAny_truthy_bool ⟨H3,I3,q3⟩
def je (K:Frag) (op op':CmpOp) (ta tb tc:TE):TE:=λ σ H Q=>ta σ H λ x H1=>tb σ H1 λ y H2=>aL K op x y H2 (dc λ k H3=>if k=true then tc σ H3 λ w' H4=>aL K op' y w' H4 Q else Q (.bl false) H3)
theorem yO {op op':CmpOp}(hu:X.A.units+20<cLine) (ha:PE X a ta) (hb:PE X b tb) (hc:PE X c tc) (hm:lastMarks [op,op'] [b,c]=false:=by with_unfolding_all rfl):PE X (.Compare a [op,op'] [b,c] pos) (je X.K op op' ta tb tc):=by
 intro pins s σ H Q I h
 refine Compare_chain (thn (ha pins s σ H _ I h) λ v s1 ⟨x,H1,I1,r1,q1⟩=>chain_link (thn (hb pins s1 σ H1 _ I1 q1) λ u s2 ⟨y,H2,I2,r2,q2⟩=>
  thn (iX op hu pins s2 σ H2 x y v u _ I2 r1 r2 q2) λ d s3 ⟨z,H3,I3,r3,q3⟩=>?_)) hm
 obtain ⟨k,e,q3⟩:=dt q3
 subst e
 cases r3
 refine wpAny_truthy_bool ?_
 cases k with
 | false=>exact ite_ff ⟨.bl false,H3,I3,rfl,q3⟩
 | true=>exact ite_tt (chain_last (thn (hc pins s3 σ H3 _ I3 q3) λ w' s4 ⟨z',H4,I4,r4,q4⟩=>iX op' hu pins s4 σ H4 y z' u w' Q I4 r2 r4 q4))
def iI (K:Frag) (op op':CmpOp) (ta tb tc:TE):TT:=λ σ H Q=>ta σ H λ x H1=>tb σ H1 λ y H2=>aL K op x y H2 (dc λ k H3=>if k=true then tc σ H3 λ w' H4=>aL K op' y w' H4 (dc Q) else Q false H3)
theorem yG {op op':CmpOp}(hu:X.A.units+20<cLine) (ha:PE X a ta) (hb:PE X b tb) (hc:PE X c tc) (hm:lastMarks [op,op'] [b,c]=false:=by with_unfolding_all rfl):PT X (.Compare a [op,op'] [b,c] pos) (iI X.K op op' ta tb tc):=by
 intro pins s σ H Q I h
 refine isTrue_chain (thn (ha pins s σ H _ I h) λ v s1 ⟨x,H1,I1,r1,q1⟩=>test_link (thn (hb pins s1 σ H1 _ I1 q1) λ u s2 ⟨y,H2,I2,r2,q2⟩=>
  thn (iX op hu pins s2 σ H2 x y v u _ I2 r1 r2 q2) λ d s3 ⟨z,H3,I3,r3,q3⟩=>?_)) hm
 obtain ⟨k,e,q3⟩:=dt q3
 subst e
 cases r3
 refine wpAny_truthy_bool ?_
 cases k with
 | false=>exact ite_ff ⟨H3,I3,q3⟩
 | true=>
   refine ite_tt (test_last (thn (hc pins s3 σ H3 _ I3 q3) λ w' s4 ⟨z',H4,I4,r4,q4⟩=>thn (iX op' hu pins s4 σ H4 y z' u w' _ I4 r2 r4 q4) λ d' s5 ⟨z2,H5,I5,r5,q5⟩=>?_))
   obtain ⟨k2,e2,q5⟩:=dt q5
   subst e2
   cases r5
   exact wpAny_truthy_bool ⟨H5,I5,q5⟩
theorem bq {e:Expr}{t:TE}(h:PE X e t) (he:∀whole,isTrue e X.env whole=(do let v<-whole; standAt e.pos; holding [v] (truthy v)):=by intro _; rfl):PT X e (eQ t):=by
 intro pins s σ H Q I hw
 refine isTrue_plain (thn (h pins s σ H _ I hw) λ v s1 ⟨x,H1,I1,r1,q1⟩=>?_) (he _)
 obtain ⟨d,rfl,q⟩:=dt q1
 cases r1
 exact wpAny_truthy_bool ⟨H1,I1,q⟩
variable {rest:List Expr}
def ma (ta tb:TE):TE:=λ σ H Q=>ta σ H (dc λ c H1=>if c=true then tb σ H1 Q else Q (.bl false) H1)
def cOrV (ta tb:TE):TE:=λ σ H Q=>ta σ H (dc λ c H1=>if c=true then Q (.bl true) H1 else tb σ H1 Q)
def tN (ta:TE):TE:=λ σ H Q=>ta σ H (dc λ c H1=>Q (.bl (!c)) H1)
theorem dB (ha:PE X a ta) (hb:PE X (.BoolOp .And (b::rest) pos) tb):PE X (.BoolOp .And (a::b::rest) pos) (ma ta tb):=by
 intro pins s σ H Q I h
 refine BoolOp_and (thn (ha pins s σ H _ I h) λ v s1 ⟨x,H1,I1,r1,q1⟩=>?_)
 obtain ⟨c,rfl,q1⟩:=dt q1
 cases r1
 refine wpAny_truthy_bool ?_
 cases c with
 | true=>exact hb pins s1 σ H1 Q I1 q1
 | false=>exact ⟨.bl false,H1,I1,rfl,q1⟩
theorem ce_or (ha:PE X a ta) (hb:PE X (.BoolOp .Or (b::rest) pos) tb):PE X (.BoolOp .Or (a::b::rest) pos) (cOrV ta tb):=by
 intro pins s σ H Q I h
 refine BoolOp_or (thn (ha pins s σ H _ I h) λ v s1 ⟨x,H1,I1,r1,q1⟩=>?_)
 obtain ⟨c,rfl,q1⟩:=dt q1
 cases r1
 refine wpAny_truthy_bool ?_
 cases c with
 | false=>exact hb pins s1 σ H1 Q I1 q1
 | true=>exact ⟨.bl true,H1,I1,rfl,q1⟩
theorem yM (ha:PE X a ta):PE X (.UnaryOp .Not a pos) (tN ta):=by
 intro pins s σ H Q I h
 refine UnaryOp_ (thn (ha pins s σ H _ I h) λ v s1 ⟨x,H1,I1,r1,q1⟩=>?_)
 obtain ⟨c,rfl,q1⟩:=dt q1
 cases r1
 exact not_of (wpAny_truthy_bool ⟨.bl (!c),H1,I1,rfl,q1⟩)
def cNeg (ta:TE):TE:=λ σ H Q=>ta σ H λ x H1=>match x with | .int i=>Q (.int (-i)) H1 | _=>False
theorem kM (ha:PE X a ta):PE X (.UnaryOp .USub a pos) (cNeg ta):=by
 intro pins s σ H Q I h
 refine UnaryOp_ (thn (ha pins s σ H _ I h) λ v s1 ⟨x,H1,I1,r1,q1⟩=>?_)
 cases x with
 | int i=>exact un_neg pins s1 σ H1 _ v Q I1 r1 ⟨i,rfl,q1⟩
 | _=>exact q1.elim
end
end L2
namespace L2
open PySem PySem.Spec PyProof.Rows
theorem bW:bootBuiltins "len"=some (.builtin "len"):=by decide+kernel
theorem om:bootBuiltins "all"=some (.builtin "all"):=by decide+kernel
theorem bo_any:bootBuiltins "any"=some (.builtin "any"):=by decide+kernel
theorem lu:bootBuiltins "isinstance"=some (.builtin "isinstance"):=by decide+kernel
theorem jf:bootBuiltins "sorted"=some (.builtin "sorted"):=by decide+kernel
theorem oi:bootBuiltins "int"=some (.type "int"):=by decide+kernel
theorem tP:bootBuiltins "bool"=some (.type "bool"):=by decide+kernel
theorem yR:bootBuiltins "str"=some (.type "str"):=by decide+kernel
theorem eX:bootBuiltins "list"=some (.type "list"):=by decide+kernel
theorem qh:bootBuiltins "tuple"=some (.type "tuple"):=by decide+kernel
theorem oh:bootBuiltins "set"=some (.type "set"):=by decide+kernel
theorem oj:bootBuiltins "enumerate"=some (.type "enumerate"):=by decide+kernel
inductive BT | int | bool | str | list | tuple | dict
 deriving DecidableEq
def BT.s:BT->String
 | .int=>"int" | .bool=>"bool" | .str=>"str" | .list=>"list" | .tuple=>"tuple" | .dict=>"dict"
def cA:BT->BT->Bool
 | .bool,.int=>true
 | .int,.int=>true | .bool,.bool=>true | .str,.str=>true | .list,.list=>true | .tuple,.tuple=>true | .dict,.dict=>true
 | _,_=>false
theorem kit_bt (K:Frag) (a T:BT):PySem.W.kitOne K (.type a.s) (.type T.s)=some (cA a T):=by
 cases a<;>cases T<;>kernel_rfl
theorem kit_non (K:Frag) (T:BT):PySem.W.kitOne K (.type "NoneType") (.type T.s)=some false:=by
 cases T<;>kernel_rfl
def isA (T:BT) (x:V) (H:Hp) (Q:VK):Prop:=match x with
 | .non=>Q (.bl false) H
 | .bl _=>Q (.bl (cA .bool T)) H
 | .int _=>Q (.bl (cA .int T)) H
 | .str _=>Q (.bl (cA .str T)) H
 | .ref a=>match H a with
   | some (.lst _)=>Q (.bl (cA .list T)) H
   | some (.frz _ (.lst _))=>Q (.bl (cA .list T)) H
   | some (.tup _)=>Q (.bl (cA .tuple T)) H
   | some (.dK _)=>Q (.bl (cA .dict T)) H
   | _=>False
 | _=>False
section
variable {X:Cx}{a b c e o:Expr}{ta tb tc te to:TE}{p p2 pos:Pos}{es:List Expr}{t:TA}
theorem is_ok (T:BT) {pins:List (Addr×Obj)}{s:Shared}{σ:St}{H:Hp}{x:V}{u:Value}{Q:VK}(I:Inv X pins σ H s) (rx:aN x u) (h:isA T x H Q):wpAny (model X.prog X.w) X.A (call (.builtin "isinstance") [u,.type T.s]) (EP X pins σ Q) X.xe s:=by
 have fin:∀{k:Bool} {tv:Value},jj X.K H x tv->PySem.W.kitOne X.K tv (.type T.s)=some k->Q (.bl k) H->wpAny (model X.prog X.w) X.A (call (.builtin "isinstance") [u,.type T.s]) (EP X pins σ Q) X.xe s:=λ ty e q=>
  uI I rx ty e λ tk=>⟨.bl _,H,I.tok tk,rfl,q⟩
 unfold isA at h
 cases x with
 | non=>exact fin .non (kit_non _ T) h
 | bl y=>exact fin (.bl y) (kit_bt _ .bool T) h
 | int y=>exact fin (.int y) (kit_bt _ .int T) h
 | str y=>exact fin (.str y) (kit_bt _ .str T) h
 | ref d=>
   dsimp only at h
   split at h
   ·rename_i e; exact fin (.lst e) (kit_bt _ .list T) h
   ·rename_i e; exact fin (.frz e) (kit_bt _ .list T) h
   ·rename_i e; exact fin (.tup e) (kit_bt _ .tuple T) h
   ·rename_i e; exact fin (.dK e) (kit_bt _ .dict T) h
   ·exact h.elim
 | _=>exact h.elim
def cIs (T:BT) (ta:TE):TE:=λ σ H Q=>ta σ H λ x H1=>isA T x H1 Q
theorem ce_is (T:BT) {n:Str}(ha:PE X a ta) (hg:Gl X "isinstance") (hm:X.mg "isinstance"=none) (hgT:Gl X n) (hmT:X.mg n=none) (hv:bootBuiltins n=some (.type T.s)) (hn:n≠"__name__":=by decide) (hdb:(n == ("__debug__":Str))=false:=by decide)
  (he:starEach [a,.Name n p2] X.env=(false,eval a X.env)::starEach [.Name n p2] X.env:=by rfl) (he2:starEach [.Name n p2] X.env=(false,eval (.Name n p2) X.env)::starEach [] X.env:=by rfl) (hpl:(backTo pos (starEach [.Name n p2] X.env)).any (·.1)=false:=by rfl):
  PE X (.Call (.Name "isinstance" p) [a,.Name n p2] [] pos) (cIs T ta):=by
 intro pins s σ H Q I h
 refine wpAny_Call_Name_kw (i8 I hg hm lu ?_ (by decide) (by decide))
 have hA:PA X [a,.Name n p2] (bh ta (bh (tC (.ty T.s)) cO)):=pa_cons ha (pa_cons (pe_bltn hgT hmT hv rfl hn hdb) pa_nil he2) he
 refine PyProof.Rows.callWith_builtin1 (thn (hA pos pins s σ H (λ vs H1=> ∃x,vs=[x,.ty T.s]/\isA T x H1 Q) I ?_) λ us s1 ⟨vs,H1,I1,r1,x,e,q1⟩=>?_) he hpl
 ·have mono:(λ (x:V) H1=>isA T x H1 Q)=λ x H1=>(bh (tC (.ty T.s)) cO) σ H1 λ xs H2=> ∃y,x::xs=[y,.ty T.s]/\isA T y H2 Q:=by
   funext x H1
   apply propext
   constructor
   ·intro q; exact ⟨x,rfl,q⟩
   ·rintro ⟨y,e,q⟩
    have:x=y:=by injection e
    subst this
    exact q
  show ta σ H _
  rw [<-mono]
  exact h
 ·subst e
  obtain ⟨u,w',rfl,ru,rt⟩:=vals2 r1
  cases rt
  exact is_ok T I1 ru q1
theorem IxR.imp {r r':R2}(h:IxR X r) (i:∀x y H Q,r' x y H Q->r x y H Q):IxR X r':=λ va sl pins s σ H x y v u Q I rx ry q hs=>h va sl pins s σ H x y v u Q I rx ry (i x y H Q q) hs
def ixA (K:Frag) (x y:V) (H:Hp) (Q:VK):Prop:=match x,y with
 | .str z,.int i=>z.length<=sizeLine/\∃c,atI z.cps.toList i=some c/\Q (.str ⟨#[c]⟩) H
 | .ref q,.int i=> ∃xs v,(SqL K H q xs\/SqT K H q xs)/\atI xs i=some v/\Q v H
 | _,_=>False
theorem ix_A:IxR X (ixA X.K):=(ix_seq (X:=X)).imp λ x y H Q h=>by
 unfold ixA at h
 split at h
 ·obtain ⟨h1,c,h2,q⟩:=h
  exact .inr (.inr ⟨_,_,c,rfl,rfl,h1,h2,q⟩)
 ·obtain ⟨xs,v,h1,h2,q⟩:=h
  rcases h1 with h1 | h1
  ·exact .inl ⟨_,xs,_,v,rfl,rfl,h1,h2,q⟩
  ·exact .inr (.inl ⟨_,xs,_,v,rfl,rfl,h1,h2,q⟩)
 ·exact h.elim
def cIx (K:Frag) (ta tb:TE):TE:=λ σ H Q=>ta σ H λ x H1=>tb σ H1 λ y H2=>ixA K x y H2 Q
theorem ce_ix (ha:PE X a ta) (hb:PE X b tb) (hs:oo b:=by exact λ _ _=>rfl):PE X (.Subscript a b pos) (cIx X.K ta tb):=pe_ix ix_A ha hb hs
def tM (t:TE):TO:=λ σ H Q=>t σ H λ x H1=>match x with | .int i=>Q (some i) H1 | _=>False
theorem gS (h:PE X e te):PO X (some e) (tM te):=by
 intro pins s σ H Q I hw
 rw [evalPart_some]
 refine thn (h pins s σ H _ I hw) λ u s1 ⟨x,H1,I1,r1,q1⟩=>?_
 cases x with
 | int i=>
   obtain ⟨t,rfl⟩:=r1
   exact ⟨some i,H1,I1,.int i t,q1⟩
 | _=>exact q1.elim
theorem SlR.imp {r r':V->Option Int->Option Int->Hp->VK->Prop}(h:SlR X r) (i:∀x lo hi H Q,r' x lo hi H Q->r x lo hi H Q):SlR X r':=λ pins s σ H x v vl vu lo hi sl Q I rx hs pl pu q=>h pins s σ H x v vl vu lo hi sl Q I rx hs pl pu (i x lo hi H Q q)
def slA (K:Frag) (x:V) (lo hi:Option Int) (H:Hp) (Q:VK):Prop:=match x with
 | .str z=>z.length<=sizeLine/\Q (.str (lq z lo hi)) H
 | .ref d=> ∃xs,SqL K H d xs/\∀q,H q=none->Q (.ref q) (upd H q (.lst (cutV xs lo hi)))
 | _=>False
theorem sl_A:SlR X (slA X.K):=((sl_str (X:=X)).or sl_list).imp λ x lo hi H Q h=>by
 unfold slA at h
 split at h
 ·exact .inl ⟨_,rfl,h.1,h.2⟩
 ·obtain ⟨xs,h1,h2⟩:=h
  exact .inr ⟨_,xs,rfl,h1,h2⟩
 ·exact h.elim
def cSl (K:Frag) (te:TE) (tl th:TO):TE:=λ σ H Q=>te σ H λ x H1=>tl σ H1 λ l H2=>th σ H2 λ u H3=>slA K x l u H3 Q
theorem ce_sl {lo hi:Option Expr}{tl th:TO}(he:PE X e te) (hl:PO X lo tl) (hu:PO X hi th):PE X (.Subscript e (.Slice lo hi none p2) pos) (cSl X.K te tl th):=xy sl_A he hl hu
def cB (r:List V->Hp->VK->Prop) (t:TA):TE:=λ σ H Q=>t σ H λ vs H1=>r vs H1 Q
def pM (K:Frag) (xs:List V) (H:Hp) (Q:VK):Prop:=match xs with
 | [.str z]=>z.length<=sizeLine/\Q (.int z.length) H
 | [.ref d]=> ∃ys,(SqL K H d ys\/SqT K H d ys)/\Q (.int ys.length) H
 | _=>False
theorem uW:bb X (.builtin "len") (pM X.K):=((oe (X:=X)).or oa).imp λ xs H Q h=>by
 unfold pM at h
 split at h
 ·exact .inr ⟨_,rfl,h.1,h.2⟩
 ·obtain ⟨ys,h1,h2⟩:=h
  exact .inl ⟨_,ys,rfl,h1,h2⟩
 ·exact h.elim
def minA (xs:List V) (H:Hp) (Q:VK):Prop:=match xs with
 | [.int i,.int j]=>Q (.int (if j<i then j else i)) H
 | _=>False
def strA (xs:List V) (H:Hp) (Q:VK):Prop:=match xs with
 | [.int i]=>i.natAbs.log2<1920/\Q (.str (toString i)) H
 | _=>False
def uK (xs:List V) (H:Hp) (Q:VK):Prop:=match xs with
 | [.str x]=> ∃n,PySem.intText? x=some n/\x.length<=640/\Q (.int n) H
 | [.bl k]=>Q (.int (if k then 1 else 0)) H
 | _=>False
theorem l0:bb X (.type "int") uK:=((ls (X:=X)).or uX).imp λ xs H Q h=>by
 unfold uK at h
 split at h
 ·obtain ⟨n,h1,h2,q⟩:=h
  exact .inl ⟨_,n,rfl,h1,h2,q⟩
 ·exact .inr (.inr ⟨_,rfl,h⟩)
 ·exact h.elim
def allA (K:Frag) (xs:List V) (H:Hp) (Q:VK):Prop:=match xs with
 | [.ref d]=> ∃ks:List Bool,SqL K H d (ks.map V.bl)/\Q (.bl (ks.all id)) H
 | _=>False
theorem uZ (hc:X.calm=true):bb X (.builtin "all") (allA X.K):=(yQ hc).imp λ xs H Q h=>by
 unfold allA at h
 split at h
 ·obtain ⟨ks,h1,q⟩:=h
  exact ⟨_,ks,rfl,h1,q⟩
 ·exact h.elim
theorem ce_B {id:String}{x:Str}{r:List V->Hp->VK->Prop}(hc:bb X (.builtin id) r) (hv:bootBuiltins x=some (.builtin id)) (hm:X.mg x=none) (ha:PA X (e::es) t) (hg:Gl X x:=by rfl) (hn:x≠"__name__":=by decide) (hdb:(x == ("__debug__":Str))=false:=by decide)
  (he:starEach (e::es) X.env=(false,eval e X.env)::starEach es X.env:=by rfl) (hpl:(backTo pos (starEach es X.env)).any (·.1)=false:=by rfl):PE X (.Call (.Name x p) (e::es) [] pos) (cB r t):=xA hc hg hm hv ha hn hdb he hpl
theorem ce_Ty {T:String}{x:Str}{r:List V->Hp->VK->Prop}(hc:bb X (.type T) r) (hv:bootBuiltins x=some (.type T)) (hm:X.mg x=none) (ha:PA X (e::es) t) (hg:Gl X x:=by rfl) (hn:x≠"__name__":=by decide) (hdb:(x == ("__debug__":Str))=false:=by decide)
  (he:starEach (e::es) X.env=(false,eval e X.env)::starEach es X.env:=by rfl) (hpl:(backTo pos (starEach es X.env)).any (·.1)=false:=by rfl):PE X (.Call (.Name x p) (e::es) [] pos) (cB r t):=ut hc hg hm hv ha hn hdb he hpl
def cSM (r:V->List V->Hp->VK->Prop) (to:TE) (t:TA):TE:=λ σ H Q=>to σ H λ x H1=>match x with | .str z=>t σ H1 λ xs H2=>r (.str z) xs H2 Q | _=>False
theorem ce_sm {name:Str}{apos cpos:Pos}{id:String}{r:V->List V->Hp->VK->Prop}(slot:Slot "str" name id) (hty:typeOf (.builtin id)=pure (.type "method_descriptor")) (hm:MtR X id r) (ho:PE X o to) (ha:PA X (e::es) t)
  (hbase:attributeBase o name X.env (eval o X.env)=eval o X.env:=by rfl)
  (hfew:((backTo cpos (starEach (e::es) X.env)).all (λ x=> !x.1)&&(backToKw cpos (keywordEach [] X.env)).all (λ x=>x.1.isSome)
   &&decide ((e::es).length+([]:List Keyword).length+(if ([]:List Keyword).isEmpty then 0 else 1)<30))=true:=by rfl)
  (hline:(apos.endLine == cpos.line)=true:=by rfl) (hs:starEach (e::es) X.env=(false,eval e X.env)::starEach es X.env:=by rfl) (hplain:(backTo cpos (starEach es X.env)).any (·.1)=false:=by rfl):
  PE X (.Call (.Attribute o name apos) (e::es) [] cpos) (cSM r to t):=by
 intro pins s σ H Q I h
 refine wpAny_Call_method_late hbase hfew hline rfl (thn (ho pins s σ H _ I h) λ v s1 ⟨x,H1,I1,r1,q1⟩=>?_)
 cases x with
 | str z=>
   have ty:tyV X.K "str" (.str z) H1:=rfl
   obtain ⟨h1,h2⟩:=mj I1 r1 ty
   refine ⟨"str",id,PySem.F.plainAttrs_str,slot,hty,h1,h2,?_⟩
   have hA:=ha cpos pins s1 σ H1 _ I1 q1
   rw [hs] at hA ⊢
   refine Calls.callWith_builtin (by show (false||(backTo cpos (starEach es X.env)).any (·.1))=false; rw [hplain]<;>rfl) (Calls.evalArgs_plain ?_)
   exact thn hA λ us s2 ⟨vs,H2,I2,r2,q2⟩=>hm pins s2 σ H2 _ vs v us Q I2 r1 r2 q2
 | _=>exact q1.elim
def u7 (r:V->List V->Hp->VK->Prop) (to:TE):TE:=λ σ H Q=>to σ H λ x H1=>match x with | .str z=>r (.str z) [] H1 Q | _=>False
theorem n6 {name:Str}{apos cpos:Pos}{id:String}{r:V->List V->Hp->VK->Prop}(slot:Slot "str" name id) (hty:typeOf (.builtin id)=pure (.type "method_descriptor")) (hm:MtR X id r) (ho:PE X o to)
  (hbase:attributeBase o name X.env (eval o X.env)=eval o X.env:=by rfl) (hline:(apos.endLine == cpos.line)=true:=by rfl):PE X (.Call (.Attribute o name apos) [] [] cpos) (u7 r to):=by
 intro pins s σ H Q I h
 refine wpAny_Call_method0_late hbase hline (thn (ho pins s σ H _ I h) λ v s1 ⟨x,H1,I1,r1,q1⟩=>?_)
 cases x with
 | str z=>
   have ty:tyV X.K "str" (.str z) H1:=rfl
   obtain ⟨h1,h2⟩:=mj I1 r1 ty
   exact ⟨"str",id,PySem.F.plainAttrs_str,slot,hty,h1,h2,Calls.callWith_builtin rfl (PySem.evalArgs_none (hm pins s1 σ H1 _ [] v [] Q I1 r1 .nil q1))⟩
 | _=>exact q1.elim
def swA (x:V) (vs:List V) (H:Hp) (Q:VK):Prop:=match x,vs with
 | .str a,[.str b]=>Q (.bl (b.cps.toList.isPrefixOf a.cps.toList)) H
 | _,_=>False
def pQ (K:Frag) (x:V) (vs:List V) (H:Hp) (Q:VK):Prop:=match x,vs with
 | .str sep,[.ref d]=> ∃ys:List Str,SqL K H d (ys.map V.str)/\(ys.map (·.length)).sum+ys.length*sep.length<=16777216/\Q (.str (Txt.join sep ys)) H
 | _,_=>False
theorem xI:MtR X "str.join" (pQ X.K):=(mt_join (X:=X)).imp λ x vs H Q h=>by
 unfold pQ at h
 split at h
 ·obtain ⟨ys,h1,h2,q⟩:=h
  exact ⟨_,_,ys,rfl,rfl,h1,h2,q⟩
 ·exact h.elim
def upA (x:V) (vs:List V) (H:Hp) (Q:VK):Prop:=match x,vs with
 | .str a,[]=>a.length<=sizeLine/\(∀c∈a.cps.toList,c<128)/\Q (.str ⟨a.cps.map up1⟩) H
 | _,_=>False
theorem mt_upA:MtR X "str.upper" upA:=(xG (X:=X)).imp λ x vs H Q h=>by
 unfold upA at h
 split at h
 ·exact ⟨_,rfl,rfl,h.1,h.2.1,h.2.2⟩
 ·exact h.elim
def cApp (to te:TE):TE:=λ σ H Q=>to σ H λ x H1=>match x with
 | .ref l=>(∃xs,H1 l=some (.lst xs))/\te σ H1 λ y H2=> ∃xs,H2 l=some (.lst xs)/\xs.length<sizeLine/\Q .non (upd H2 l (.lst (xs++[y])))
 | _=>False
theorem fo {apos cpos:Pos}(ho:PE X o to) (he:PE X e te) (hbase:attributeBase o "append" X.env (eval o X.env)=eval o X.env:=by rfl)
  (hfew:((backTo cpos (starEach [e] X.env)).all (λ x=> !x.1)&&(backToKw cpos (keywordEach [] X.env)).all (λ x=>x.1.isSome)
   &&decide ([e].length+([]:List Keyword).length+(if ([]:List Keyword).isEmpty then 0 else 1)<30))=true:=by rfl)
  (hline:(apos.endLine == cpos.line)=true:=by rfl) (hs:starEach [e] X.env=(false,eval e X.env)::starEach [] X.env:=by rfl) (hplain:(backTo cpos (starEach [] X.env)).any (·.1)=false:=by rfl):
  PE X (.Call (.Attribute o "append" apos) [e] [] cpos) (cApp to te):=by
 intro pins s σ H Q I h
 refine wpAny_Call_method_late hbase hfew hline rfl (thn (ho pins s σ H _ I h) λ v s1 ⟨x,H1,I1,r1,q1⟩=>?_)
 cases x with
 | ref l=>
   obtain ⟨⟨xs0,e0⟩,q1⟩:=q1
   have ty:tyV X.K "list" (.ref l) H1:=.inl ⟨rfl,xs0,SqL.of e0⟩
   obtain ⟨h1,h2⟩:=mj I1 r1 ty
   refine ⟨"list","list.append",PySem.F.plainAttrs_list,PySem.F.slot_list_append,PySem.F.type_list_append,h1,h2,?_⟩
   have hA:=(pa_cons he pa_nil hs:PA X [e] (bh te cO)) cpos pins s1 σ H1 (λ vs H2=> ∃y,vs=[y]/\∃xs,H2 l=some (.lst xs)/\xs.length<sizeLine/\Q .non (upd H2 l (.lst (xs++[y])))) I1 (by
    show te σ H1 λ y H2=> ∃y',[y]=[y']/\_
    have:(λ (y:V) (H2:Hp)=> ∃xs,H2 l=some (.lst xs)/\xs.length<sizeLine/\Q .non (upd H2 l (.lst (xs++[y]))))=λ y H2=> ∃y',[y]=[y']/\∃xs,H2 l=some (.lst xs)/\xs.length<sizeLine/\Q .non (upd H2 l (.lst (xs++[y']))):=by
     funext y H2
     apply propext
     constructor
     ·intro z; exact ⟨y,rfl,z⟩
     ·rintro ⟨y',e,z⟩
      have:y=y':=by injection e
      subst this; exact z
    rw [<-this]
    exact q1)
   rw [hs] at hA ⊢
   refine Calls.callWith_builtin (by show (false||(backTo cpos (starEach [] X.env)).any (·.1))=false; rw [hplain]<;>rfl) (Calls.evalArgs_plain ?_)
   exact thn hA λ us s2 ⟨vs,H2,I2,r2,y,e,xs,q3,q4,q5⟩=>uC pins s2 σ H2 _ vs v us Q I2 r1 r2 ⟨l,xs,y,rfl,e,q3,q4,q5⟩
 | _=>exact q1.elim
structure Cal (P:Program) (w:World) (K:Frag) (mg:Str->Option Value) (base:Heap) (name:Str) (ps:List Str) (k:Nat) (sp:Sp):Prop where
 ex:∃f fd,ba P w K mg base CX0 k f fd ps sp/\mg name=some (.ref f)/\PySem.W.keepIn K (.ref f)=true/\hJ K fd ps []
def dq (sp:Sp) (t:TA):TE:=λ σ H Q=>t σ H λ vs H1=>sp vs H1 Q E0
theorem ce_call {name:Str}{ps:List Str}{k j:Nat}{sp:Sp}(C:Cal X.prog X.w X.K X.mg X.base name ps k sp) (hr:cT j X.A) (hkj:k<=j) (ha:PA X (e::es) t) (hg:Gl X name:=by rfl) (hdb:(name == ("__debug__":Str))=false:=by decide)
  (he:starEach (e::es) X.env=(false,eval e X.env)::starEach es X.env:=by rfl) (hpl:(backTo pos (starEach es X.env)).any (·.1)=false:=by rfl):PE X (.Call (.Name name p) (e::es) [] pos) (dq sp t):=by
 obtain ⟨f,fd,F,hm,hk,hb⟩:=C.ex
 refine (pe_call F (hr.mono hkj) hg hm hk hb .nil xB ha hdb he hpl:PE X _ (wL sp [] E0 t)).imp λ σ H Q h=>?_
 unfold wL
 simp only [zt]
 exact h
end
end L2
namespace PySem
namespace F
end F
end PySem
namespace L2
open PySem PySem.Spec PyProof.Rows
section
variable {prog:Program}{w:World}{A:Around}{E:Value->Shared->Prop}{s:Shared}
end
section
variable {X:Cx}{o e:Expr}{to te:TE}
def cJR (K:Frag) (to te:TE):TE:=λ σ H Q=>to σ H λ x H1=>match x with
 | .str sep=>te σ H1 λ y H2=>match y with
   | .ref d=> ∃ys:List Str,SqL K H2 d (ys.map V.str)/\(ys.map (·.length)).sum+ys.length*sep.length<=16777216/\Q (.str (Txt.join sep ys.reverse)) H2
   | _=>False
 | _=>False
end
end L2
namespace L2
open PySem PySem.Spec PyProof.Rows
section
variable {X:Cx}{tg:Expr}
end
end L2
namespace L2
open PySem PySem.Spec PyProof.Rows
section
variable {X:Cx}
theorem xz {x:Str}{v:V}{pos:Pos}(hg:Gl X x) (h:∃u,X.mg x=some u/\aN v u) (hd:(x == ("__debug__":Str))=false:=by decide):PE X (.Name x pos) (tC v):=by
 obtain ⟨u,hm,r⟩:=h
 exact pe_glob hg hm r hd
end
theorem bQ {A:Around}{k:Nat}(hr:cT k A):A.units+20<cLine:=by
 have:=hr.units
 lia
theorem ah.upd {H H':Hp}{d:Addr}{o:HO}(h:ah H H') (hd:H' d=none):ah H (upd H' d o):=λ b ob e=>by
 have e':=h b ob e
 rw [aq (ar e' hd)]
 exact e'
end L2
namespace L2
open PySem PySem.Spec PyProof.Rows
section
variable {X:Cx}{a b c e o:Expr}{ta tb tc te to:TE}{p p2 pos:Pos}{es:List Expr}{t:TA}
theorem iB (K:Frag) {op:CmpOp}(hu:X.A.units+20<cLine) (ha:PE X a ta) (hb:PE X b tb) (hm:behindInMarks op b=false:=by first | exact km _ | with_unfolding_all rfl) (hK:X.K=K:=by rfl):PE X (.Compare a [op] [b] pos) (dn K op ta tb):=by
 subst hK; exact ce_cmp hu ha hb hm
theorem aJ (K:Frag) {op:CmpOp}(hu:X.A.units+20<cLine) (ha:PE X a ta) (hb:PE X b tb) (hm:behindInMarks op b=false:=by first | exact km _ | with_unfolding_all rfl) (hK:X.K=K:=by rfl):PT X (.Compare a [op] [b] pos) (eQ (dn K op ta tb)):=by
 subst hK; exact ct_cmp hu ha hb hm
theorem rA (K:Frag) {op op':CmpOp}(hu:X.A.units+20<cLine) (ha:PE X a ta) (hb:PE X b tb) (hc:PE X c tc) (hm:lastMarks [op,op'] [b,c]=false:=by with_unfolding_all rfl) (hK:X.K=K:=by rfl):PE X (.Compare a [op,op'] [b,c] pos) (je K op op' ta tb tc):=by
 subst hK; exact yO hu ha hb hc hm
theorem jL (K:Frag) {op op':CmpOp}(hu:X.A.units+20<cLine) (ha:PE X a ta) (hb:PE X b tb) (hc:PE X c tc) (hm:lastMarks [op,op'] [b,c]=false:=by with_unfolding_all rfl) (hK:X.K=K:=by rfl):PT X (.Compare a [op,op'] [b,c] pos) (iI K op op' ta tb tc):=by
 subst hK; exact yG hu ha hb hc hm
theorem kix (K:Frag) (ha:PE X a ta) (hb:PE X b tb) (hs:oo b:=by exact λ _ _=>rfl) (hK:X.K=K:=by rfl):PE X (.Subscript a b pos) (cIx K ta tb):=by
 subst hK; exact ce_ix ha hb hs
theorem ksl (K:Frag) {lo hi:Option Expr}{tl th:TO}(he:PE X e te) (hl:PO X lo tl) (hu:PO X hi th) (hK:X.K=K:=by rfl):PE X (.Subscript e (.Slice lo hi none p2) pos) (cSl K te tl th):=by
 subst hK; exact ce_sl he hl hu
theorem gB (K:Frag) (hK:X.K=K:=by rfl):bb X (.builtin "len") (pM K):=by
 subst hK; exact uW
theorem kall (K:Frag) (hc:X.calm=true:=by rfl) (hK:X.K=K:=by rfl):bb X (.builtin "all") (allA K):=by
 subst hK; exact uZ hc
theorem kjoin (K:Frag) (hK:X.K=K:=by rfl):MtR X "str.join" (pQ K):=by
 subst hK; exact xI
theorem kpl (K:Frag) {tg l:Expr}{tl:TE}(hl:PE X l tl) (hK:X.K=K:=by rfl):PI X tg l (pV K tl):=by
 subst hK; exact pi_list hl
theorem kpt (K:Frag) {tg l:Expr}{tl:TE}(hl:PE X l tl) (hK:X.K=K:=by rfl):PI X tg l (iTup K tl):=by
 subst hK; exact pi_tup hl
theorem kgt (K:Frag) {n:Nat}{k:Nat}{t:TGs}(h:PGs X es t) (hc:X.calm=true:=by rfl) (hn:(assignEach es X.env).length=n:=by rfl) (hst:List.findIdx? (λ x=>x.1) (assignEach es X.env)=none:=by rfl) (hK:X.K=K:=by rfl):PG X (.Tuple es k pos) (yb K n t):=by
 subst hK; exact pg_tup hc h hn hst
theorem kg {x:Str}{v:V}(h:∃u,X.mg x=some u/\aN v u) (hg:Gl X x:=by rfl) (hd:(x == ("__debug__":Str))=false:=by decide):PE X (.Name x pos) (tC v):=xz hg h hd
theorem kis (T:BT) {n:Str}(hm:X.mg "isinstance"=none) (hmT:X.mg n=none) (hv:bootBuiltins n=some (.type T.s)) (ha:PE X a ta) (hg:Gl X "isinstance":=by rfl) (hgT:Gl X n:=by rfl) (hn:n≠"__name__":=by decide) (hdb:(n == ("__debug__":Str))=false:=by decide)
  (he:starEach [a,.Name n p2] X.env=(false,eval a X.env)::starEach [.Name n p2] X.env:=by rfl) (he2:starEach [.Name n p2] X.env=(false,eval (.Name n p2) X.env)::starEach [] X.env:=by rfl) (hpl:(backTo pos (starEach [.Name n p2] X.env)).any (·.1)=false:=by rfl):
  PE X (.Call (.Name "isinstance" p) [a,.Name n p2] [] pos) (cIs T ta):=ce_is T ha hg hm hgT hmT hv hn hdb he he2 hpl
theorem kr1 {tg:Expr}{ta:TA}(hm:X.mg "range"=none) (ha:PA X [a] ta) (hg:Gl X "range":=by rfl) (hs:starEach [a] X.env=[(false,eval a X.env)]:=by rfl):PI X tg (.Call (.Name "range" p) [a] [] pos) (kD ta):=ur hg hm ha hs
theorem bV {N:List Str}{src:List (Option Nat)}{scope:Scope}(dsc:Scope) (XN:List Str) (h:rL dsc XN N src scope=true:=by decide+kernel) (he:X.env.scope=dsc:=by rfl) (hN:X.N=XN:=by rfl):bY X N src scope:=bY.of he hN h
theorem aX {i:Nat}{x:Str}(N:List Str) (hN:N.Nodup:=by decide+kernel) (hi:X.N[i]? =some x:=by rfl) (hx:Loc X.env.scope x:=by first | exact Or.inl rfl | exact Or.inr rfl) (hf:X.fn x=true\/X.env.scope.names.lookup x=some .local:=by first | exact .inl rfl | exact .inr rfl) (hNX:X.N=N:=by rfl):PG X (.Name x pos) (gName i):=
 bK (hNX▸hN) hi hx hf
theorem eO {N:List Str}{src:List (Option Nat)}{scope:Scope}{tg iter:Expr}{ifs:List Expr}{wi:TI}{g:TG}{tt:TT}(S:bY X N src scope) (hi:PI X tg iter wi) (hg:∀s H ex,PG (cxC X scope N s H ex) tg g) (ht:∀s H ex,qo (cxC X scope N s H ex) ifs tt) (he:∀s H ex,PE (cxC X scope N s H ex) e te)
  (hc:X.calm=true:=by rfl) (hs:∀x,foldedSetIterable iter X.env x=pure x:=by intro _; rfl):PE X (.ListComp e [⟨tg,iter,ifs,0⟩] scope pos) (tComp wi g tt te src):=pe_comp hc S hi hg ht he hs
end
end L2
namespace L2
open PySem PySem.Spec PyProof.Rows
theorem xq {K:Frag}{i j:Int}{H:Hp}{Q:VK}:(aL K .Eq (.int i) (.int j) H Q)=(Q (.bl (decide (i=j))) H):=rfl
theorem xf {K:Frag}{i j:Int}{H:Hp}{Q:VK}:(aL K .NotEq (.int i) (.int j) H Q)=(Q (.bl (!decide (i=j))) H):=rfl
theorem xp {K:Frag}{i j:Str}{H:Hp}{Q:VK}:(aL K .Eq (.str i) (.str j) H Q)=(Q (.bl (decide (i=j))) H):=rfl
theorem xc {K:Frag}{i j:Str}{H:Hp}{Q:VK}:(aL K .NotEq (.str i) (.str j) H Q)=(Q (.bl (!decide (i=j))) H):=rfl
theorem r_eq_bl {K:Frag}{i j:Bool}{H:Hp}{Q:VK}:(aL K .Eq (.bl i) (.bl j) H Q)=(Q (.bl (decide (i=j))) H):=rfl
theorem r_ne_bl {K:Frag}{i j:Bool}{H:Hp}{Q:VK}:(aL K .NotEq (.bl i) (.bl j) H Q)=(Q (.bl (!decide (i=j))) H):=rfl
theorem r_eq_nn {K:Frag}{H:Hp}{Q:VK}:(aL K .Eq .non .non H Q)=(Q (.bl true) H):=rfl
theorem r_ne_nn {K:Frag}{H:Hp}{Q:VK}:(aL K .NotEq .non .non H Q)=(Q (.bl (!true)) H):=rfl
theorem nc {K:Frag}{i:Int}{j:Str}{H:Hp}{Q:VK}:(aL K .Eq (.int i) (.str j) H Q)=(Q (.bl false) H):=rfl
theorem mW {K:Frag}{i:Int}{j:Str}{H:Hp}{Q:VK}:(aL K .NotEq (.int i) (.str j) H Q)=(Q (.bl (!false)) H):=rfl
theorem ni {K:Frag}{i:Int}{H:Hp}{Q:VK}:(aL K .Eq (.int i) .non H Q)=(Q (.bl false) H):=rfl
theorem mY {K:Frag}{i:Int}{H:Hp}{Q:VK}:(aL K .NotEq (.int i) .non H Q)=(Q (.bl (!false)) H):=rfl
theorem m8 {K:Frag}{i:Str}{j:Int}{H:Hp}{Q:VK}:(aL K .Eq (.str i) (.int j) H Q)=(Q (.bl false) H):=rfl
theorem mT {K:Frag}{i:Str}{j:Int}{H:Hp}{Q:VK}:(aL K .NotEq (.str i) (.int j) H Q)=(Q (.bl (!false)) H):=rfl
theorem pi {K:Frag}{i:Str}{j:Bool}{H:Hp}{Q:VK}:(aL K .Eq (.str i) (.bl j) H Q)=(Q (.bl false) H):=rfl
theorem oU {K:Frag}{i:Str}{j:Bool}{H:Hp}{Q:VK}:(aL K .NotEq (.str i) (.bl j) H Q)=(Q (.bl (!false)) H):=rfl
theorem m7 {K:Frag}{i:Str}{H:Hp}{Q:VK}:(aL K .Eq (.str i) .non H Q)=(Q (.bl false) H):=rfl
theorem mS {K:Frag}{i:Str}{H:Hp}{Q:VK}:(aL K .NotEq (.str i) .non H Q)=(Q (.bl (!false)) H):=rfl
theorem pr {K:Frag}{i:Bool}{j:Str}{H:Hp}{Q:VK}:(aL K .Eq (.bl i) (.str j) H Q)=(Q (.bl false) H):=rfl
theorem oW {K:Frag}{i:Bool}{j:Str}{H:Hp}{Q:VK}:(aL K .NotEq (.bl i) (.str j) H Q)=(Q (.bl (!false)) H):=rfl
theorem px {K:Frag}{i:Bool}{H:Hp}{Q:VK}:(aL K .Eq (.bl i) .non H Q)=(Q (.bl false) H):=rfl
theorem oX {K:Frag}{i:Bool}{H:Hp}{Q:VK}:(aL K .NotEq (.bl i) .non H Q)=(Q (.bl (!false)) H):=rfl
theorem na {K:Frag}{j:Int}{H:Hp}{Q:VK}:(aL K .Eq .non (.int j) H Q)=(Q (.bl false) H):=rfl
theorem mV {K:Frag}{j:Int}{H:Hp}{Q:VK}:(aL K .NotEq .non (.int j) H Q)=(Q (.bl (!false)) H):=rfl
theorem m9 {K:Frag}{j:Str}{H:Hp}{Q:VK}:(aL K .Eq .non (.str j) H Q)=(Q (.bl false) H):=rfl
theorem mU {K:Frag}{j:Str}{H:Hp}{Q:VK}:(aL K .NotEq .non (.str j) H Q)=(Q (.bl (!false)) H):=rfl
theorem pj {K:Frag}{j:Bool}{H:Hp}{Q:VK}:(aL K .Eq .non (.bl j) H Q)=(Q (.bl false) H):=rfl
theorem oV {K:Frag}{j:Bool}{H:Hp}{Q:VK}:(aL K .NotEq .non (.bl j) H Q)=(Q (.bl (!false)) H):=rfl
theorem r_eq_rr {K:Frag}{a b:Addr}{H:Hp}{Q:VK}:(aL K .Eq (.ref a) (.ref b) H Q)=(∃k,EqT K H 20 (.ref a) (.ref b) k/\Q (.bl k) H):=rfl
theorem r_ne_rr {K:Frag}{a b:Addr}{H:Hp}{Q:VK}:(aL K .NotEq (.ref a) (.ref b) H Q)=(∃k,EqT K H 20 (.ref a) (.ref b) k/\Q (.bl (!k)) H):=rfl
theorem xh {K:Frag}{i j:Int}{H:Hp}{Q:VK}:(aL K .Lt (.int i) (.int j) H Q)=(Q (.bl (decide (i<j))) H):=rfl
theorem iV {K:Frag}{i j:Int}{H:Hp}{Q:VK}:(aL K .LtE (.int i) (.int j) H Q)=(Q (.bl (decide (i<=j))) H):=rfl
theorem xo {K:Frag}{i j:Int}{H:Hp}{Q:VK}:(aL K .Gt (.int i) (.int j) H Q)=(Q (.bl (decide (j<i))) H):=rfl
theorem um {K:Frag}{i j:Int}{H:Hp}{Q:VK}:(aL K .GtE (.int i) (.int j) H Q)=(Q (.bl (decide (j<=i))) H):=rfl
theorem xg {K:Frag}{i j:Str}{H:Hp}{Q:VK}:(aL K .Lt (.str i) (.str j) H Q)=(Q (.bl (decide (i.cps.toList<j.cps.toList))) H):=rfl
theorem lM {K:Frag}{i j:Str}{H:Hp}{Q:VK}:(aL K .LtE (.str i) (.str j) H Q)=(Q (.bl (!decide (j.cps.toList<i.cps.toList))) H):=rfl
theorem pc {K:Frag}{i j:Str}{H:Hp}{Q:VK}:(aL K .In (.str i) (.str j) H Q)=(Q (.bl (!(Builtin.Str.occurrences j i 0 j.length 1).isEmpty)) H):=rfl
theorem oT {K:Frag}{i j:Str}{H:Hp}{Q:VK}:(aL K .NotIn (.str i) (.str j) H Q)=(Q (.bl (!(!(Builtin.Str.occurrences j i 0 j.length 1).isEmpty))) H):=rfl
theorem ip {K:Frag}{i:Int}{d:Addr}{H:Hp}{Q:VK}:(aL K .In (.int i) (.ref d) H Q)=(rIn K false (.int i) (.ref d) H Q):=rfl
theorem fZ {K:Frag}{i:Int}{d:Addr}{H:Hp}{Q:VK}:(aL K .NotIn (.int i) (.ref d) H Q)=(rIn K true (.int i) (.ref d) H Q):=rfl
theorem xn {K:Frag}{i:Int}{H:Hp}{Q:VK}:(aL K .Is (.int i) .non H Q)=(Q (.bl false) H):=rfl
theorem o8 {K:Frag}{i:Int}{H:Hp}{Q:VK}:(aL K .IsNot (.int i) .non H Q)=(Q (.bl true) H):=rfl
theorem fN {K:Frag}{i:Str}{d:Addr}{H:Hp}{Q:VK}:(aL K .In (.str i) (.ref d) H Q)=(rIn K false (.str i) (.ref d) H Q):=rfl
theorem jy {K:Frag}{i:Str}{d:Addr}{H:Hp}{Q:VK}:(aL K .NotIn (.str i) (.ref d) H Q)=(rIn K true (.str i) (.ref d) H Q):=rfl
theorem xk {K:Frag}{i:Str}{H:Hp}{Q:VK}:(aL K .Is (.str i) .non H Q)=(Q (.bl false) H):=rfl
theorem oY {K:Frag}{i:Str}{H:Hp}{Q:VK}:(aL K .IsNot (.str i) .non H Q)=(Q (.bl true) H):=rfl
theorem pe {K:Frag}{i:Bool}{d:Addr}{H:Hp}{Q:VK}:(aL K .In (.bl i) (.ref d) H Q)=(rIn K false (.bl i) (.ref d) H Q):=rfl
theorem j6 {K:Frag}{i:Bool}{d:Addr}{H:Hp}{Q:VK}:(aL K .NotIn (.bl i) (.ref d) H Q)=(rIn K true (.bl i) (.ref d) H Q):=rfl
theorem r_is_bl {K:Frag}{i:Bool}{H:Hp}{Q:VK}:(aL K .Is (.bl i) .non H Q)=(Q (.bl false) H):=rfl
theorem qP {K:Frag}{i:Bool}{H:Hp}{Q:VK}:(aL K .IsNot (.bl i) .non H Q)=(Q (.bl true) H):=rfl
theorem m6 {K:Frag}{d:Addr}{H:Hp}{Q:VK}:(aL K .In .non (.ref d) H Q)=(rIn K false .non (.ref d) H Q):=rfl
theorem jA {K:Frag}{d:Addr}{H:Hp}{Q:VK}:(aL K .NotIn .non (.ref d) H Q)=(rIn K true .non (.ref d) H Q):=rfl
theorem xm {K:Frag}{H:Hp}{Q:VK}:(aL K .Is .non .non H Q)=(Q (.bl true) H):=rfl
theorem o4 {K:Frag}{H:Hp}{Q:VK}:(aL K .IsNot .non .non H Q)=(Q (.bl false) H):=rfl
theorem mZ {K:Frag}{i:Addr}{d:Addr}{H:Hp}{Q:VK}:(aL K .In (.ref i) (.ref d) H Q)=(rIn K false (.ref i) (.ref d) H Q):=rfl
theorem jz {K:Frag}{i:Addr}{d:Addr}{H:Hp}{Q:VK}:(aL K .NotIn (.ref i) (.ref d) H Q)=(rIn K true (.ref i) (.ref d) H Q):=rfl
theorem xl {K:Frag}{i:Addr}{H:Hp}{Q:VK}:(aL K .Is (.ref i) .non H Q)=(Q (.bl false) H):=rfl
theorem oZ {K:Frag}{i:Addr}{H:Hp}{Q:VK}:(aL K .IsNot (.ref i) .non H Q)=(Q (.bl true) H):=rfl
theorem r_add {i j:Int}{H:Hp}{Q:VK}:(jg .Add (.int i) (.int j) H Q)=(Q (.int (i+j)) H):=rfl
theorem r_adds {i j:Str}{H:Hp}{Q:VK}:(jg .Add (.str i) (.str j) H Q)=(i.length+j.length<=sizeLine/\Q (.str (i++j)) H):=rfl
theorem r_addr {a b:Addr}{H:Hp}{Q:VK}:(jg .Add (.ref a) (.ref b) H Q)=(rCat (.ref a) (.ref b) H Q):=rfl
theorem r_sub {i j:Int}{H:Hp}{Q:VK}:(jg .Sub (.int i) (.int j) H Q)=(Q (.int (i - j)) H):=rfl
theorem r_mul {i j:Int}{H:Hp}{Q:VK}:(jg .Mult (.int i) (.int j) H Q)=(ve i j/\Q (.int (i*j)) H):=rfl
theorem r_fdiv {i j:Int}{H:Hp}{Q:VK}:(jg .FloorDiv (.int i) (.int j) H Q)=(CDiv i j/\Q (.int (i / j)) H):=rfl
theorem r_mod {i j:Int}{H:Hp}{Q:VK}:(jg .Mod (.int i) (.int j) H Q)=(0<j/\Q (.int (i % j)) H):=rfl
theorem r_pow {i j:Int}{H:Hp}{Q:VK}:(jg .Pow (.int i) (.int j) H Q)=(CPow i j/\Q (.int (i ^ j.toNat)) H):=rfl
theorem r_ixs {K:Frag}{z:Str}{i:Int}{H:Hp}{Q:VK}:(ixA K (.str z) (.int i) H Q)=(z.length<=sizeLine/\∃c,atI z.cps.toList i=some c/\Q (.str ⟨#[c]⟩) H):=rfl
theorem r_ixr {K:Frag}{d:Addr}{i:Int}{H:Hp}{Q:VK}:(ixA K (.ref d) (.int i) H Q)=(∃xs v,(SqL K H d xs\/SqT K H d xs)/\atI xs i=some v/\Q v H):=rfl
theorem r_sls {K:Frag}{z:Str}{lo hi:Option Int}{H:Hp}{Q:VK}:(slA K (.str z) lo hi H Q)=(z.length<=sizeLine/\Q (.str (lq z lo hi)) H):=rfl
theorem r_slr {K:Frag}{d:Addr}{lo hi:Option Int}{H:Hp}{Q:VK}:(slA K (.ref d) lo hi H Q)=(∃xs,SqL K H d xs/\∀q,H q=none->Q (.ref q) (upd H q (.lst (cutV xs lo hi)))):=rfl
theorem r_lens {K:Frag}{z:Str}{H:Hp}{Q:VK}:(pM K [.str z] H Q)=(z.length<=sizeLine/\Q (.int z.length) H):=rfl
theorem r_lenr {K:Frag}{d:Addr}{H:Hp}{Q:VK}:(pM K [.ref d] H Q)=(∃ys,(SqL K H d ys\/SqT K H d ys)/\Q (.int ys.length) H):=rfl
theorem r_min {i j:Int}{H:Hp}{Q:VK}:(minA [.int i,.int j] H Q)=(Q (.int (if j<i then j else i)) H):=rfl
theorem r_str {i:Int}{H:Hp}{Q:VK}:(strA [.int i] H Q)=(i.natAbs.log2<1920/\Q (.str (toString i)) H):=rfl
theorem r_ints {z:Str}{H:Hp}{Q:VK}:(uK [.str z] H Q)=(∃n,PySem.intText? z=some n/\z.length<=640/\Q (.int n) H):=rfl
theorem r_intb {k:Bool}{H:Hp}{Q:VK}:(uK [.bl k] H Q)=(Q (.int (if k then 1 else 0)) H):=rfl
theorem r_all {K:Frag}{d:Addr}{H:Hp}{Q:VK}:(allA K [.ref d] H Q)=(∃ks:List Bool,SqL K H d (ks.map V.bl)/\Q (.bl (ks.all id)) H):=rfl
theorem r_sw {a b:Str}{H:Hp}{Q:VK}:(swA (.str a) [.str b] H Q)=(Q (.bl (b.cps.toList.isPrefixOf a.cps.toList)) H):=rfl
theorem xi {K:Frag}{a:Str}{d:Addr}{H:Hp}{Q:VK}:(pQ K (.str a) [.ref d] H Q)=(∃ys:List Str,SqL K H d (ys.map V.str)/\(ys.map (·.length)).sum+ys.length*a.length<=16777216/\Q (.str (Txt.join a ys)) H):=rfl
theorem r_up {a:Str}{H:Hp}{Q:VK}:(upA (.str a) [] H Q)=(a.length<=sizeLine/\(∀c∈a.cps.toList,c<128)/\Q (.str ⟨a.cps.map up1⟩) H):=rfl
theorem uk {T:BT}{H:Hp}{Q:VK}:(isA T .non H Q)=(Q (.bl false) H):=rfl
theorem xj {T:BT}{b:Bool}{H:Hp}{Q:VK}:(isA T (.bl b) H Q)=(Q (.bl (cA .bool T)) H):=rfl
theorem ul {T:BT}{b:Int}{H:Hp}{Q:VK}:(isA T (.int b) H Q)=(Q (.bl (cA .int T)) H):=rfl
theorem uj {T:BT}{b:Str}{H:Hp}{Q:VK}:(isA T (.str b) H Q)=(Q (.bl (cA .str T)) H):=rfl
theorem r_b {k:Bool}{Q:Bool->Hp->Prop}{H:Hp}:dc Q (.bl k) H=Q k H:=rfl
end L2
namespace L2
open PySem PySem.Spec PyProof.Rows
def fg:Expr->Bool
 | .Starred _ _=>false
 | _=>true
theorem dU {e:Expr}{es:List Expr}{env:Env}(h:fg e=true):starEach (e::es) env=(false,eval e env)::starEach es env:=by
 cases e<;>first | rfl | cases h
theorem fT {pos:Pos}{env:Env}:∀{es:List Expr},es.all fg=true->(backTo pos (starEach es env)).any (·.1)=false
 | [],_=>rfl
 | e::es,h=>by
   rw [zD,Bu] at h
   rw [dU h.1]
   show (false||(backTo pos (starEach es env)).any (·.1))=false
   rw [fT h.2]
   rfl
theorem yX {pos:Pos}{env:Env}:∀{es:List Expr},es.all fg=true->(backTo pos (starEach es env)).all (λ x=> !x.1)=true
 | [],_=>rfl
 | e::es,h=>by
   rw [zD,Bu] at h
   rw [dU h.1]
   show (!false&&(backTo pos (starEach es env)).all (λ x=> !x.1))=true
   rw [yX h.2]
   rfl
section
variable {X:Cx}{a b c e o:Expr}{ta tb tc te to:TE}{p p2 pos:Pos}{es:List Expr}{t:TA}
theorem pac (ha:PE X e te) (hr:PA X es t) (h:fg e=true:=by rfl):PA X (e::es) (bh te t):=pa_cons ha hr (dU h)
theorem aB {name:Str}{ps:List Str}{k j:Nat}{sp:Sp}(C:Cal X.prog X.w X.K X.mg X.base name ps k sp) (hr:cT j X.A) (ha:PA X (e::es) t) (hkj:k<=j:=by decide) (hp:(e::es).all fg=true:=by rfl) (hg:Gl X name:=by rfl) (hdb:(name == ("__debug__":Str))=false:=by decide):PE X (.Call (.Name name p) (e::es) [] pos) (dq sp t):=by
 have hp':=hp
 rw [zD,Bu] at hp'
 exact ce_call C hr hkj ha hg hdb (dU hp'.1) (fT hp'.2)
theorem kB {id:String}{x:Str}{r:List V->Hp->VK->Prop}(hc:bb X (.builtin id) r) (hv:bootBuiltins x=some (.builtin id)) (hm:X.mg x=none) (ha:PA X (e::es) t) (hp:(e::es).all fg=true:=by rfl) (hg:Gl X x:=by rfl) (hn:x≠"__name__":=by decide) (hdb:(x == ("__debug__":Str))=false:=by decide):PE X (.Call (.Name x p) (e::es) [] pos) (cB r t):=by
 have hp':=hp
 rw [zD,Bu] at hp'
 exact ce_B hc hv hm ha hg hn hdb (dU hp'.1) (fT hp'.2)
theorem kTy {T:String}{x:Str}{r:List V->Hp->VK->Prop}(hc:bb X (.type T) r) (hv:bootBuiltins x=some (.type T)) (hm:X.mg x=none) (ha:PA X (e::es) t) (hp:(e::es).all fg=true:=by rfl) (hg:Gl X x:=by rfl) (hn:x≠"__name__":=by decide) (hdb:(x == ("__debug__":Str))=false:=by decide):PE X (.Call (.Name x p) (e::es) [] pos) (cB r t):=by
 have hp':=hp
 rw [zD,Bu] at hp'
 exact ce_Ty hc hv hm ha hg hn hdb (dU hp'.1) (fT hp'.2)
theorem ksm {name:Str}{apos cpos:Pos}{id:String}{r:V->List V->Hp->VK->Prop}(slot:Slot "str" name id) (hty:typeOf (.builtin id)=pure (.type "method_descriptor")) (hm:MtR X id r) (ho:PE X o to) (ha:PA X (e::es) t) (hp:(e::es).all fg=true:=by rfl) (hl:(e::es).length<20:=by decide)
  (hbase:attributeBase o name X.env (eval o X.env)=eval o X.env:=by rfl) (hline:(apos.endLine == cpos.line)=true:=by rfl):PE X (.Call (.Attribute o name apos) (e::es) [] cpos) (cSM r to t):=by
 have hp':=hp
 rw [zD,Bu] at hp'
 refine ce_sm slot hty hm ho ha hbase ?_ hline (dU hp'.1) (fT hp'.2)
 rw [yX hp]
 show (true&&true&&decide ((e::es).length+0+0<30))=true
 rw [decide_eq_true (by lia)]
 rfl
end
end L2
namespace L2
open PySem
theorem bZ {t u:TS}{D:de}{σ:St}{H:Hp}(P:St->Hp->Prop) (h:∀K:St->Hp->Prop,(∀σ' H',P σ' H'->K σ' H')->t {D with nx:=K} σ H) (h2:∀σ' H',P σ' H'->u D σ' H'):bj t u D σ H:=h (u D) h2
theorem bI {te:TE}{i:Nat}{u:TS}{D:de}{σ:St}{H:Hp}(P:V->Hp->Prop) (h:∀Q:VK,(∀v H',P v H'->Q v H')->te σ H Q) (h2:∀v H',P v H'->u D (σ.set i (some v)) H'):bj (tAsg te (gName i)) u D σ H:=h _ h2
theorem dL {c:TT}{t u:TS}{D:de}{σ:St}{H:Hp}(P:Bool->Hp->Prop) (hc:∀Q:Bool->Hp->Prop,(∀b H',P b H'->Q b H')->c σ H Q) (h1:∀H',P true H'->t {D with nx:=u D} σ H') (h2:∀H',P false H'->u D σ H'):bj (iN c t jR) u D σ H:=by
 refine hc _ λ b H' p=>?_
 cases b with
 | true=>exact gC (h1 H' p)
 | false=>exact fE (h2 H' p)
end L2
namespace L2
open PySem
def gR:List Expr->Option (List V)
 | []=>some []
 | .Constant (.int i) _ _::r=>(gR r).map (V.int i:: ·)
 | .Constant (.str x) _ _::r=>(gR r).map (V.str x:: ·)
 | .Constant (.bool b) _ _::r=>(gR r).map (V.bl b:: ·)
 | .Constant .none _ _::r=>(gR r).map (V.non:: ·)
 | _=>none
def cCs (vs:List V):TA:=λ _ H Q=>Q vs H
theorem bU {X:Cx}:∀{es:List Expr}{vs:List V},gR es=some vs->PA X es (cCs vs):=by
 intro es
 induction es with
 | nil=>intro vs h; cases h; exact pa_nil
 | cons e r ih=>
   intro vs h
   unfold gR at h
   split at h
   ·rename_i e1; cases e1
   ·rename_i e1
    cases e1
    obtain ⟨ws,h1,h2⟩:=BQ.mp h
    subst h2
    exact pac ag (ih h1)
   ·rename_i e1
    cases e1
    obtain ⟨ws,h1,h2⟩:=BQ.mp h
    subst h2
    exact pac bn (ih h1)
   ·rename_i e1
    cases e1
    obtain ⟨ws,h1,h2⟩:=BQ.mp h
    subst h2
    exact pac eK (ih h1)
   ·rename_i e1
    cases e1
    obtain ⟨ws,h1,h2⟩:=BQ.mp h
    subst h2
    exact pac cQ (ih h1)
   ·cases h
end L2
namespace L2
open PySem
theorem kI {g:TG}{tt:TT}{te:TE}{src:List (Option Nat)}{σ:St}{Q:VK}{J:It}{H1:Hp}(n:Nat) (N:Nat->List V->St->Hp->Prop) (hn:n<=sizeLine) (hlen:∀i ys σ H,N i ys σ H->ys.length<=i)
  (hgo:∀i ys σ H,N i ys σ H->i<n->J.go i H) (hstop:∀ys σ H,N n ys σ H->J.stop n H) (h0:N 0 [] (dG src σ) H1)
  (hturn:∀i ys σ' H' x H2,i<n->N i ys σ' H'->J.yld i H' x H2->∀(Kt:V->St->Hp->Prop) (Kf:St->Hp->Prop),(∀v σ3 H5,N (i+1) (ys++[v]) σ3 H5->Kt v σ3 H5)->(∀σ3 H4,N (i+1) ys σ3 H4->Kf σ3 H4)->
   g x σ' H2 λ σ3 H3=>tt σ3 H3 λ b H4=>if b=true then te σ3 H4 λ v H5=>Kt v σ3 H5 else Kf σ3 H4)
  (hQ:∀ys σ' H' d,N n ys σ' H'->H' d=none->Q (.ref d) (upd H' d (.lst ys))):dJ g tt te src σ Q J H1:=by
 refine ⟨λ i m ys σ' H'=>m=n - i/\i<=n/\N i ys σ' H',⟨n,by simp,AV _,h0⟩,?_⟩
 rintro i m ys σ' H' ⟨rfl,hi,hN⟩
 by_cases hlt:i<n
 ·refine .inr ⟨hgo i ys σ' H' hN hlt,?_,λ x H2 y=>?_⟩
  ·have:=hlen i ys σ' H' hN
   lia
  ·exact hturn i ys σ' H' x H2 hlt hN y _ _ (λ v σ3 H5 h=>⟨n - (i+1),by lia,rfl,hlt,h⟩) (λ σ3 H4 h=>⟨n - (i+1),by lia,rfl,hlt,h⟩)
 ·have e:i=n:=by lia
  subst e
  exact .inl ⟨hstop ys σ' H' hN,λ d hd=>hQ ys σ' H' d hN hd⟩
end L2
namespace L2
open PySem
theorem yi {ta:TA}{g:TG}{tb:TS}{D:de}{σ:St}{H:Hp}(n:Int) (hta:∀Q:List V->Hp->Prop,Q [.int n] H->ta σ H Q) (h0: -(2 ^ 62)<=n) (h1:n<2 ^ 62) (Pv:Nat->St->Hp->Prop) (hp0:Pv 0 σ H)
  (hs:∀i σ H,i<n.toNat->Pv i σ H->g (.int (0+i)) σ H λ σ2 H2=>tb {D with nx:=Pv (i+1),ct:=Pv (i+1),bk:=D.nx} σ2 H2) (hd:∀σ H,Pv n.toNat σ H->D.nx σ H):tFor (kD ta) g tb D σ H:=
 hta _ ⟨n,rfl,h0,h1,lU Pv hp0 hs hd⟩
theorem fF {K:Frag}{tl:TE}{g:TG}{tb:TS}{D:de}{σ:St}{H:Hp}(P:V->Hp->Prop) (htl:∀Q:VK,(∀v H',P v H'->Q v H')->tl σ H Q)
  (h:∀v H',P v H'->∃d xs,v=.ref d/\SqL K H' d xs/\∃Pv:Nat->St->Hp->Prop,Pv 0 σ H'/\(∀i σ H,i<=xs.length->Pv i σ H->SqL K H d xs)/\
   (∀(i:Nat) x σ H,xs[i]? =some x->Pv i σ H->g x σ H λ σ2 H2=>tb {D with nx:=Pv (i+1),ct:=Pv (i+1),bk:=D.nx} σ2 H2)/\(∀σ H,Pv xs.length σ H->D.nx σ H)):tFor (pV K tl) g tb D σ H:=
 htl _ λ v H' p=>by
  obtain ⟨d,xs,rfl,hq,Pv,a,b,c,e⟩:=h v H' p
  exact ⟨d,rfl,⟨xs,hq⟩,yj Pv a b c e⟩
theorem wO {c:TT}{t:TS}{D:de}{σ:St}{H:Hp}(P:Bool->Hp->Prop) (hc:∀Q:Bool->Hp->Prop,(∀b H',P b H'->Q b H')->c σ H Q) (h1:∀H',P true H'->t D σ H') (h2:∀H',P false H'->D.nx σ H'):iN c t jR D σ H:=by
 refine hc _ λ b H' p=>?_
 cases b with
 | true=>exact gC (h1 H' p)
 | false=>exact fE (h2 H' p)
end L2
namespace L2
open PySem PySem.Spec PyProof.Rows
def uniq (ns:List Int):List Int:=firstMet (λ i=>ns.getD i 0) ns.length
theorem qO (ns:List Int):(List.range ns.length).map (λ i=>ns.getD i 0)=ns:=by
 apply zR
 intro i
 rw [y8]
 by_cases h:i<ns.length
 ·rw [zJ h,y7 h]
  show some (ns.getD i 0)=_
  rw [zb,y7 h]
  rfl
 ·rw [zE (by rw [zI]; lia),zE (by lia)]
  rfl
theorem gD (val:Nat->Int):∀i,(firstMet val i).length=i<->((List.range i).map val).Nodup
 | 0=>by simp [firstMet_zero]
 | i+1=>by
   have ih:=gD val i
   have hle:=firstMet_length_le val i
   have ha:=firstMet_any val i (val i)
   rw [firstMet_succ,zS,zn,zZ]
   unfold step_dedup
   by_cases h:(firstMet val i).any (· == val i)=true
   ·rw [if_pos h]
    constructor
    ·intro e; lia
    ·intro e
     rw [ha,zF] at h
     obtain ⟨x,hx,e2⟩:=h
     have:x=val i:=beq_iff_eq.mp e2
     exact absurd this (e.2.2 x hx (val i) (by simp))
   ·rw [if_neg h,zm,Au]
    constructor
    ·intro e
     refine ⟨ih.mp (by lia),by simp,λ x hx y hy=>?_⟩
     have hy':y=val i:=by simpa using hy
     subst hy'
     intro e3
     apply h
     rw [ha,zF]
     exact ⟨x,hx,beq_iff_eq.mpr e3⟩
    ·intro e
     rw [ih.mpr e.1]
theorem wF (ns:List Int):(uniq ns).length=ns.length<->ns.Nodup:=by
 unfold uniq
 rw [gD,qO]
section
variable {X:Cx}
def setA (K:Frag) (xs:List V) (H:Hp) (Q:VK):Prop:=match xs with
 | [.ref d]=> ∃ns:List Int,SqL K H d (ns.map V.int)/\ns.length+1<scanBound/\∀q,H q=none->Q (.ref q) (upd H q (.set (λ k=>(uniq ns).any (· == k)) (uniq ns).length))
 | _=>False
theorem uV (hh:X.A.handled=none):bb X (.type "set") (setA X.K):=by
 intro pins s σ H xs us Q I r h
 unfold setA at h
 split at h
 ·rename_i d
  obtain ⟨ns,hq,hb,q⟩:=h
  obtain ⟨u,rfl,rx⟩:=dv r
  cases rx
  obtain ⟨its,r',pl,hz⟩:=I.list hq
  have hlen:=r'.length
  rw [y3] at hlen
  have hi:IntsAre its.toArray.toList ns:=kC r'
  have hs:its.toArray.size=ns.length:=by rw [y9,<-hlen]
  refine call_set_list hh pl.isList hi (by rw [hs]; exact hb) λ h' tk hS kp=>?_
  rw [hs] at hS
  have k2:∀b u,s.heap.get? b=some u->h'.get? b=some u:=λ b u e=>kp b u (Heap.lt_size e) e
  exact ⟨.ref s.heap.objs.size,_,I.laid (t':=tk) k2 (AU _) (show bH X.prog X.w _ h' _ (.set _ _) from hS),rfl,q _ (I.hok.fresh (AU _))⟩
 ·exact h.elim
def lenSA (xs:List V) (H:Hp) (Q:VK):Prop:=match xs with
 | [.ref d]=> ∃S n,H d=some (.set S n)/\Q (.int n) H
 | _=>False
theorem rQ:bb X (.builtin "len") lenSA:=by
 intro pins s σ H xs us Q I r h
 unfold lenSA at h
 split at h
 ·rename_i d
  obtain ⟨S,n,hd,q⟩:=h
  obtain ⟨u,rfl,rx⟩:=dv r
  cases rx
  obtain ⟨o,es,ep,t,h1,h2,h3,_,_,h6,h7,h8⟩:=(show bH X.prog X.w H s.heap d (.set S n) from I.hok d _ hd)
  subst h8
  have hb:es.size<4096:=h6
  exact PySem.call_len_set h1 h2 h3 h7 (by lia) ⟨.int es.size,H,I.tok _,⟨_,rfl⟩,q⟩
 ·exact h.elim
def wU (K:Frag) (xs:List V) (H:Hp) (Q:VK):Prop:=match xs with
 | [.ref d]=> ∃ns:List Int,SqL K H d (ns.map V.int)/\ns.length<64/\∀(ns':List Int) q,ns'.Perm ns->ns'.Pairwise (·<=·)->H q=none->Q (.ref q) (upd H q (.lst (ns'.map V.int)))
 | _=>False
theorem rM:bb X (.builtin "sorted") (wU X.K):=by
 intro pins s σ H xs us Q I r h
 unfold wU at h
 split at h
 ·rename_i d
  obtain ⟨ns,hq,hb,q⟩:=h
  obtain ⟨u,rfl,rx⟩:=dv r
  cases rx
  obtain ⟨its,r',pl,hz⟩:=I.list hq
  have hlen:=r'.length
  rw [y3] at hlen
  refine sorted_ints pl.isList (kC r') (by lia) λ out ns' a1 a2 a3=>?_
  obtain ⟨e,he⟩:=sortedAll_at s.heap its out
  have hl:=a2.length_eq
  have hz':(ns'.map V.int).length<=sizeLine:=by rw [y3,hl,sizeLine_eq]; lia
  exact ⟨.ref (s.heap.objs.size+1),_,I.laid (t':=s.toks) (λ _ _=>sortedAll_old) (AZ _) (show bH X.prog X.w _ _ _ (.lst (ns'.map V.int)) from ⟨hz',out.toList,e,iM a1,by simpa [seqObj] using he⟩),rfl,q ns' _ a2 a3 (I.hok.fresh (AZ _))⟩
 ·exact h.elim
def sR (K:Frag) (xs:List V) (H:Hp) (Q:VK):Prop:=match xs with
 | [.ref d]=> ∃ys,(SqL K H d ys\/SqT K H d ys)/\∀l,H l=none->Q (.ref l) (upd H l (.lst ys))
 | _=>False
theorem rP:bb X (.type "list") (sR X.K):=(n9 (X:=X)).imp λ xs H Q h=>by
 unfold sR at h
 split at h
 ·obtain ⟨ys,h1,q⟩:=h
  exact ⟨_,ys,rfl,h1,q⟩
 ·exact h.elim
theorem kset (K:Frag) {j:Nat}(hr:cT j X.A) (hK:X.K=K:=by rfl):bb X (.type "set") (setA K):=by
 subst hK; exact uV hr.hd
theorem ksort (K:Frag) (hK:X.K=K:=by rfl):bb X (.builtin "sorted") (wU K):=by
 subst hK; exact rM
theorem pO (K:Frag) (hK:X.K=K:=by rfl):bb X (.type "list") (sR K):=by
 subst hK; exact rP
theorem sW {T:BT}{a:Addr}{xs:List V}{H:Hp}{Q:VK}(h:H a=some (.lst xs)) (q:Q (.bl (cA .list T)) H):isA T (.ref a) H Q:=by
 simp only [isA,h]; exact q
theorem isA_tup {T:BT}{a:Addr}{xs:List V}{H:Hp}{Q:VK}(h:H a=some (.tup xs)) (q:Q (.bl (cA .tuple T)) H):isA T (.ref a) H Q:=by
 simp only [isA,h]; exact q
end
theorem yu {x:V}(h:flatV x=true):eqV x x=true:=by
 cases x<;>simp_all [flatV,eqV]
theorem lV (zs:List Int):(zs.map V.int).all flatV=true:=zA.mpr λ x hx=>by
 obtain ⟨z,_,rfl⟩:=y4.mp hx
 rfl
def Fl (K:Frag) (H:Hp) (p:Addr) (f:Str) (v:V):Prop:= ∃C dx fs,H p=some (.ins C dx fs)/\Cls K C/\bX K C f/\fs.lookup f=some v
def fldA (K:Frag) (x:V) (f:Str) (H:Hp) (Q:VK):Prop:=match x with
 | .ref a=> ∃v,Fl K H a f v/\Q v H
 | _=>False
def cFld (K:Frag) (to:TE) (f:Str):TE:=λ σ H Q=>to σ H λ x H1=>fldA K x f H1 Q
def tR (C:Addr) (m:Str) (H:Hp) (a:Addr):Prop:= ∃dx fs,H a=some (.ins C dx fs)/\fs.lookup m=none
structure y0 (P:Program) (w:World) (K:Frag) (mg:Str->Option Value) (base:Heap) (C:Addr) (m:Str) (ps:List Str) (k:Nat) (sp:Sp):Prop where
 ex:∃f fd,ba P w K mg base CX0 k f fd ps sp/\Meth K C m f/\hJ K fd ps []
 cl:Cls K C
structure kR (P:Program) (w:World) (K:Frag) (mg:Str->Option Value) (base:Heap) (name:Str) (C:Addr) (ps:List Str) (k:Nat) (sp:Sp):Prop where
 ex:∃f fd,Mk K C f/\ba P w K mg base CX0 k f fd ps sp/\mg name=some (.ref C)/\hJ K fd ps []
def methA (C:Addr) (m:Str) (x:V) (H:Hp) (R:Addr->Prop):Prop:=match x with
 | .ref a=>tR C m H a/\R a
 | _=>False
def cMeth (C:Addr) (m:Str) (sp:Sp) (to:TE) (t:TA):TE:=λ σ H Q=>to σ H λ x H1=>methA C m x H1 λ a=>t σ H1 λ vs H2=>sp (.ref a::vs) H2 Q E0
def tO (C:Addr) (sp:Sp) (t:TA):TE:=λ σ H Q=>t σ H λ vs H1=> ∀x dx,H1 x=none->H1 dx=none->dx≠x->sp (.ref x::vs) (upd (upd H1 dx (.own x)) x (.ins C dx [])) (λ v H2=>v=.non/\Q (.ref x) H2) E0
section
variable {X:Cx}{e o value:Expr}{te to tv:TE}{p pos pos' apos:Pos}{es:List Expr}{t:TA}{f m:Str}
theorem cz (K:Frag) (ho:PE X o to) (hb:attributeBase o f X.env (eval o X.env)=eval o X.env:=by rfl) (hK:X.K=K:=by rfl):PE X (.Attribute o f pos) (cFld K to f):=by
 subst hK
 intro pins s σ H Q I h
 refine attr_of hb (thn (ho pins s σ H _ I h) λ u s1 ⟨x,H1,I1,rx,q1⟩=>?_)
 cases x with
 | ref a=>
   obtain ⟨v,⟨C,dx,fs,ea,c,n,l⟩,q⟩:=q1
   obtain rfl:u=Value.ref a:=rx
   exact rD I1 ea c n l λ u' s2 I2 ru=>⟨v,H1,I2,ru,q⟩
 | _=>exact q1.elim
theorem g7 (K:Frag) (ho:PE X o to) (hv:PE X value tv) (hs:swapsWith value (some (.Attribute o f pos')) pos.line X.env=pure false:=by rfl) (hK:X.K=K:=by rfl):PS X (.Assign [.Attribute o f pos'] value pos) (ue K to tv f):=by
 subst hK; exact ps_fld ho hv hs
theorem xQ {C:Addr}{ps:List Str}{k j:Nat}{sp:Sp}{pl:Sem Bool}(M:y0 X.prog X.w X.K X.mg X.base C m ps k sp) (hr:cT j X.A) (ho:PE X o to) (ha:PA X (e::es) t) (hkj:k<=j:=by decide) (hp:(e::es).all fg=true:=by rfl)
  (ht:eval (.Call (.Attribute o m apos) (e::es) [] pos) X.env=(do
   let ov<-eval o X.env
   standAt apos.atName
   let (f,first)<-holding [ov] (getMethod ov m pl)
   callWith pos f first (backTo pos (starEach (e::es) X.env)) (backToKw pos (keywordEach [] X.env))):=by rfl):PE X (.Call (.Attribute o m apos) (e::es) [] pos) (cMeth C m sp to t):=by
 obtain ⟨f,fd,F,hm,hb⟩:=M.ex
 have hp':=hp
 rw [zD,Bu] at hp'
 intro pins s σ H Q I h
 refine PySem.W.methodCall_KW (pl:=pl) (thn (ho pins s σ H _ I h) λ u s1 ⟨x,H1,I1,rx,q⟩=>?_) ht
 cases x with
 | ref a=>
   obtain ⟨⟨dx,fs,ea,l⟩,q⟩:=q
   obtain rfl:u=Value.ref a:=rx
   refine rC I1 ea M.cl hm l ?_
   refine BY (first:=[.ref a]) (h₀:=X.base) I.ok.mod.kin hm.kp (thn (ha pos pins s1 σ H1 _ I1 q) λ us s2 ⟨vs,H2,I2,r,q2⟩=>⟨I2.kIn,?_⟩) (dU hp'.1) (fT hp'.2)
   refine w4 (us:=.ref a::us) (vs:=.ref a::vs) (dvs:=[]) (ds:=[]) F (hr.mono hkj) hb .nil xB I2 (.cons rfl r) ?_
   rw [zt]
   exact q2
 | _=>exact q.elim
theorem xR {name:Str}{C:Addr}{ps:List Str}{k j:Nat}{sp:Sp}(M:kR X.prog X.w X.K X.mg X.base name C ps k sp) (hr:cT j X.A) (ha:PA X (e::es) t) (hkj:k+1<=j:=by decide) (hp:(e::es).all fg=true:=by rfl) (hg:Gl X name:=by rfl) (hdb:(name == ("__debug__":Str))=false:=by decide):
  PE X (.Call (.Name name p) (e::es) [] pos) (tO C sp t):=by
 obtain ⟨f,fd,MK,F,hm,hb⟩:=M.ex
 have hp':=hp
 rw [zD,Bu] at hp'
 refine (pe_make MK F (hr.mono hkj) hg hm hb .nil xB ha hdb (dU hp'.1) (fT hp'.2):PE X _ (wJ C sp [] E0 t)).imp λ σ H Q h=>?_
 unfold wJ
 simp only [zt]
 exact h
end
def SameBut (k:Addr) (H H':Hp):Prop:= ∀b o,H b=some o->b≠k->H' b=some o
theorem SameBut.refl {k:Addr}(H:Hp):SameBut k H H:=λ _ _ h _=>h
theorem ah.but {k:Addr}{H H':Hp}(h:ah H H'):SameBut k H H':=λ b o e _=>h b o e
theorem SameBut.trans {k:Addr}{H H1 H2:Hp}(a:SameBut k H H1) (b:SameBut k H1 H2):SameBut k H H2:=λ c o e n=>b c o (a c o e n) n
theorem SameBut.self {k:Addr}{H H':Hp}{o:HO}(a:SameBut k H H'):SameBut k H (upd H' k o):=λ c ob e n=>by
 rw [aq n]; exact a c ob e n
theorem SameBut.new {k d:Addr}{H H':Hp}{o:HO}(a:SameBut k H H') (hd:H d=none):SameBut k H (upd H' d o):=λ c ob e n=>by
 rw [aq (ar e hd)]; exact a c ob e n
theorem ah.put {d:Addr}{H H':Hp}{o:HO}(a:ah H H') (hd:H d=none):ah H (L2.upd H' d o):=λ c ob e=>by
 rw [aq (ar e hd)]; exact a c ob e
theorem fB {H:Hp}{a b:Addr}{o o':HO}(ha:H a=some o) (hb:H b=some o') (h:o≠o'):a≠b:=λ e=>by
 subst e; rw [ha] at hb; exact h (Option.some.inj hb)
theorem st_asgH {to tv:TE}{f:Str}{K:Frag}{u:TS}{D:de}{σ:St}{H:Hp}(P:V->Hp->Prop) (h:∀Q:VK,(∀v H',P v H'->Q v H')->tv σ H Q) (p C dx:Addr) (hto:∀H' (Q:VK),Q (.ref p) H'->to σ H' Q) (hc:Cls K C) (hn:bX K C f)
  (h2:∀v H',P v H'->∃fs,H' p=some (.ins C dx fs)/\fs.length<1000/\u D σ (upd H' p (.ins C dx (putF f v fs)))):bj (ue K to tv f) u D σ H:=
 h _ λ v H' q=>by
  obtain ⟨fs,e,l,r⟩:=h2 v H' q
  exact hto _ _ ⟨p,C,dx,fs,rfl,e,hc,hn,l,r⟩
theorem r0 {to tv:TE}{f:Str}{K:Frag}{D:de}{σ:St}{H:Hp}(P:V->Hp->Prop) (h:∀Q:VK,(∀v H',P v H'->Q v H')->tv σ H Q) (p C dx:Addr) (hto:∀H' (Q:VK),Q (.ref p) H'->to σ H' Q) (hc:Cls K C) (hn:bX K C f)
  (h2:∀v H',P v H'->∃fs,H' p=some (.ins C dx fs)/\fs.length<1000/\D.nx σ (upd H' p (.ins C dx (putF f v fs)))):ue K to tv f D σ H:=
 h _ λ v H' q=>by
  obtain ⟨fs,e,l,r⟩:=h2 v H' q
  exact hto _ _ ⟨p,C,dx,fs,rfl,e,hc,hn,l,r⟩
end L2
namespace L2
open PySem PySem.Spec PyProof.Rows
def Ev (t:TE) (σ:St) (H:Hp) (v:V):Prop:= ∀Q:VK,Q v H->t σ H Q
def Tv (t:TT) (σ:St) (H:Hp) (b:Bool):Prop:= ∀Q:Bool->Hp->Prop,Q b H->t σ H Q
def Av (t:TA) (σ:St) (H:Hp) (vs:List V):Prop:= ∀Q:List V->Hp->Prop,Q vs H->t σ H Q
section
variable {K:Frag}{σ:St}{H:Hp}{ta tb tc te to:TE}{t u:TT}{x y:V}{i j k:Int}{a b:Bool}{z z':Str}
theorem am:Ev (tC x) σ H x:=λ Q q=>q
theorem aa {n:Nat}(h:σ[n]? =some (some x)):Ev (iH n) σ H x:=λ Q q=>by unfold iH; rw [h]; exact q
theorem bB (ha:Ev ta σ H (.int i)) (hb:Ev tb σ H (.int j)):Ev (og .Add ta tb) σ H (.int (i+j)):=λ Q q=>ha _ (hb _ q)
theorem gE (ha:Ev ta σ H (.int i)) (hb:Ev tb σ H (.int j)):Ev (og .Sub ta tb) σ H (.int (i - j)):=λ Q q=>ha _ (hb _ q)
theorem dA (ha:Ev ta σ H (.int i)) (hb:Ev tb σ H (.int j)) (h:ve i j):Ev (og .Mult ta tb) σ H (.int (i*j)):=λ Q q=>ha _ (hb _ ⟨h,q⟩)
theorem bC (ha:Ev ta σ H (.int i)) (hb:Ev tb σ H (.int j)) (h:CDiv i j):Ev (og .FloorDiv ta tb) σ H (.int (i / j)):=λ Q q=>ha _ (hb _ ⟨h,q⟩)
theorem aK (ha:Ev ta σ H (.int i)) (hb:Ev tb σ H (.int j)) (h:0<j):Ev (og .Mod ta tb) σ H (.int (i % j)):=λ Q q=>ha _ (hb _ ⟨h,q⟩)
theorem kE (ha:Ev ta σ H (.int i)):Ev (cNeg ta) σ H (.int (-i)):=λ Q q=>ha _ q
theorem aU {p:Addr}{f:Str}(ho:Ev to σ H (.ref p)) (h:Fl K H p f x):Ev (cFld K to f) σ H x:=λ Q q=>ho _ ⟨x,h,q⟩
theorem aT {p:Addr}{xs:List V}(ho:Ev to σ H (.ref p)) (hi:Ev ta σ H (.int i)) (h:SqL K H p xs\/SqT K H p xs) (e:atI xs i=some x):Ev (cIx K to ta) σ H x:=λ Q q=>ho _ (hi _ ⟨xs,x,h,e,q⟩)
theorem cS {c:Nat}(ho:Ev to σ H (.str z)) (hi:Ev ta σ H (.int i)) (h:z.length<=sizeLine) (e:atI z.cps.toList i=some c):Ev (cIx K to ta) σ H (.str ⟨#[c]⟩):=λ Q q=>ho _ (hi _ ⟨h,c,e,q⟩)
theorem dk {p:Addr}{xs:List V}(ho:Ev to σ H (.ref p)) (h:SqL K H p xs\/SqT K H p xs):Ev (cB (pM K) (bh to cO)) σ H (.int xs.length):=λ Q q=>ho _ ⟨xs,h,q⟩
theorem tz (ho:Ev to σ H (.str z)) (h:z.length<=sizeLine):Ev (cB (pM K) (bh to cO)) σ H (.int z.length):=λ Q q=>ho _ ⟨h,q⟩
theorem ev_isl {p:Addr}{xs:List V}{T:BT}(ho:Ev to σ H (.ref p)) (h:H p=some (.lst xs)):Ev (cIs T to) σ H (.bl (cA .list T)):=λ Q q=>ho _ (sW h q)
theorem yn {T:BT}(ho:Ev to σ H (.int i)):Ev (cIs T to) σ H (.bl (cA .int T)):=λ Q q=>ho _ q
theorem ym (ha:Ev ta σ H (.bl a)):Ev (tN ta) σ H (.bl (!a)):=λ Q q=>ha _ q
theorem cC (ha:Ev ta σ H (.bl a)) (hb:a=true->Ev tb σ H (.bl b)):Ev (ma ta tb) σ H (.bl (a&&b)):=λ Q q=>ha _ (by
 cases a with
 | true=>exact hb rfl Q q
 | false=>exact q)
theorem ev_or (ha:Ev ta σ H (.bl a)) (hb:a=false->Ev tb σ H (.bl b)):Ev (cOrV ta tb) σ H (.bl (a||b)):=λ Q q=>ha _ (by
 cases a with
 | true=>exact q
 | false=>exact hb rfl Q q)
theorem yq (ht:Tv t σ H b) (h1:b=true->Ev ta σ H x) (h2:b=false->Ev tb σ H y):Ev (tIf t ta tb) σ H (if b=true then x else y):=λ Q q=>ht _ (by
 cases b with
 | true=>exact gC (h1 rfl _ q)
 | false=>exact fE (h2 rfl _ q))
theorem g8 (ha:Ev ta σ H (.int i)) (hb:Ev tb σ H (.int j)):Ev (dn K .Eq ta tb) σ H (.bl (decide (i=j))):=λ Q q=>ha _ (hb _ q)
theorem tm (ha:Ev ta σ H (.int i)) (hb:Ev tb σ H (.int j)):Ev (dn K .NotEq ta tb) σ H (.bl (!decide (i=j))):=λ Q q=>ha _ (hb _ q)
theorem tw (ha:Ev ta σ H (.int i)) (hb:Ev tb σ H (.int j)):Ev (dn K .Lt ta tb) σ H (.bl (decide (i<j))):=λ Q q=>ha _ (hb _ q)
theorem ev_ge (ha:Ev ta σ H (.int i)) (hb:Ev tb σ H (.int j)):Ev (dn K .GtE ta tb) σ H (.bl (decide (j<=i))):=λ Q q=>ha _ (hb _ q)
theorem dl (ha:Ev ta σ H (.str z)) (hb:Ev tb σ H (.str z')):Ev (dn K .Eq ta tb) σ H (.bl (decide (z=z'))):=λ Q q=>ha _ (hb _ q)
theorem jc (ha:Ev ta σ H (.str z)) (hb:Ev tb σ H (.str z')):Ev (dn K .NotEq ta tb) σ H (.bl (!decide (z=z'))):=λ Q q=>ha _ (hb _ q)
theorem pU (i:Int) (ns:List Int):inV (.int i) (ns.map V.int)=decide (i∈ns):=by
 unfold inV
 rw [Ah]
 by_cases h:i∈ns
 ·rw [decide_eq_true h]
  exact zF.mpr ⟨i,h,by simp [eqV]⟩
 ·rw [decide_eq_false h]
  apply zL.mpr
  intro y hy
  have:y≠i:=λ e=>h (e▸hy)
  simp [eqV,this]
theorem yp {p:Addr}{ns:List Int}(ha:Ev ta σ H (.int i)) (hb:Ev tb σ H (.ref p)) (h:SqL K H p (ns.map V.int)\/SqT K H p (ns.map V.int)):Ev (dn K .In ta tb) σ H (.bl (decide (i∈ns))):=λ Q q=>ha _ (hb _ (by
 rw [ip]
 refine ⟨p,_,rfl,h,rfl,lV ns,?_⟩
 rw [pU]
 exact q))
theorem rF {p:Addr}{ns:List Int}(ha:Ev ta σ H (.int i)) (hb:Ev tb σ H (.ref p)) (h:SqL K H p (ns.map V.int)\/SqT K H p (ns.map V.int)):Ev (dn K .NotIn ta tb) σ H (.bl (!decide (i∈ns))):=λ Q q=>ha _ (hb _ (by
 rw [fZ]
 refine ⟨p,_,rfl,h,rfl,lV ns,?_⟩
 rw [pU]
 exact q))
theorem fR (ha:Ev ta σ H (.int i)) (hb:Ev tb σ H .non):Ev (dn K .IsNot ta tb) σ H (.bl true):=λ Q q=>ha _ (hb _ q)
theorem eP (ha:Ev ta σ H .non) (hb:Ev tb σ H .non):Ev (dn K .IsNot ta tb) σ H (.bl false):=λ Q q=>ha _ (hb _ q)
theorem ev_is_i (ha:Ev ta σ H (.int i)) (hb:Ev tb σ H .non):Ev (dn K .Is ta tb) σ H (.bl false):=λ Q q=>ha _ (hb _ q)
theorem ev_is_n (ha:Ev ta σ H .non) (hb:Ev tb σ H .non):Ev (dn K .Is ta tb) σ H (.bl true):=λ Q q=>ha _ (hb _ q)
theorem tF (ha:Ev ta σ H (.int i)) (hb:Ev tb σ H (.int j)) (hc:i<=j->Ev tc σ H (.int k)):Ev (je K .LtE .LtE ta tb tc) σ H (.bl (decide (i<=j/\j<=k))):=λ Q q=>ha _ (hb _ (by
 rw [iV]
 by_cases h:i<=j
 ·rw [decide_eq_true h]
  refine hc h _ ?_
  have e:decide (i<=j/\j<=k)=decide (j<=k):=by simp [h]
  rw [e] at q
  exact q
 ·rw [decide_eq_false h]
  have e:decide (i<=j/\j<=k)=false:=by simp [h]
  rw [e] at q
  exact q))
theorem aD {sp:Sp}{t:TA}{vs:List V}(ht:Av t σ H vs) (h:∀Q:VK,Q x H->sp vs H Q E0):Ev (dq sp t) σ H x:=λ Q q=>ht _ (h Q q)
theorem au:Av cO σ H []:=λ Q q=>q
theorem ad {t:TA}{vs:List V}(ha:Ev ta σ H x) (ht:Av t σ H vs):Av (bh ta t) σ H (x::vs):=λ Q q=>ha _ (ht _ q)
theorem hG {vs:List V}:Av (cCs vs) σ H vs:=λ Q q=>q
theorem aQ (h:Ev te σ H (.bl b)):Tv (eQ te) σ H b:=λ Q q=>h _ q
theorem bM (h:Tv t σ H b):Tv (qx t) σ H (!b):=λ Q q=>h _ q
theorem fH (ha:Tv t σ H a) (hb:a=true->Tv u σ H b):Tv (tAnd t u) σ H (a&&b):=λ Q q=>ha _ (by
 cases a with
 | true=>exact gC (hb rfl _ q)
 | false=>exact fE q)
theorem fW (ha:Tv t σ H a) (hb:a=false->Tv u σ H b):Tv (tOr t u) σ H (a||b):=λ Q q=>ha _ (by
 cases a with
 | true=>exact gC q
 | false=>exact fE (hb rfl _ q))
theorem jE (ha:Ev ta σ H (.int i)) (hb:Ev tb σ H (.int j)) (hc:i<=j->Ev tc σ H (.int k)):Tv (iI K .LtE .Lt ta tb tc) σ H (decide (i<=j/\j<k)):=λ Q q=>ha _ (hb _ (by
 rw [iV]
 by_cases h:i<=j
 ·rw [decide_eq_true h]
  refine hc h _ ?_
  have e:decide (i<=j/\j<k)=decide (j<k):=by simp [h]
  rw [e] at q
  exact q
 ·rw [decide_eq_false h]
  have e:decide (i<=j/\j<k)=false:=by simp [h]
  rw [e] at q
  exact q))
end
section
variable {te:TE}{c:TT}{t u:TS}{D:de}{σ:St}{H:Hp}{v:V}{b:Bool}
theorem aM {i:Nat}(h:Ev te σ H v) (h2:u D (σ.set i (some v)) H):bj (tAsg te (gName i)) u D σ H:=h _ h2
theorem ic {i:Nat}(h:Ev te σ H v) (h2:D.nx (σ.set i (some v)) H):tAsg te (gName i) D σ H:=h _ h2
theorem aG (h:Ev te σ H v) (h2:D.rt v H):cJ te D σ H:=h _ h2
theorem aV (hc:Tv c σ H b) (h1:b=true->t {D with nx:=u D} σ H) (h2:b=false->u D σ H):bj (iN c t jR) u D σ H:=hc _ (by
 cases b with
 | true=>exact gC (h1 rfl)
 | false=>exact fE (h2 rfl))
theorem ib (hc:Tv c σ H b) (h1:b=true->t D σ H) (h2:b=false->D.nx σ H):iN c t jR D σ H:=hc _ (by
 cases b with
 | true=>exact gC (h1 rfl)
 | false=>exact fE (h2 rfl))
end
section
variable {K:Frag}{σ rest:St}{H:Hp}{tl te:TE}{tt:TT}{src:List (Option Nat)}{Q:VK}
theorem df:Tv jQ σ H true:=λ Q q=>q
theorem gF {J:It}{xs:List V}(hz:xs.length<=sizeLine) (hs:dG src σ=none::rest) (p:V->Bool) (f:V->V) (hgo:∀i,i<xs.length->J.go i H) (hstop:J.stop xs.length H) (hyld:∀i v H',i<xs.length->J.yld i H v H'->H'=H/\xs[i]? =some v)
  (ht:∀x∈xs,Tv tt (some x::rest) H (p x)) (he:∀x∈xs,p x=true->Ev te (some x::rest) H (f x)) (q:∀d',H d'=none->Q (.ref d') (upd H d' (.lst ((xs.filter p).map f)))):dJ (gName 0) tt te src σ Q J H:=by
 refine ⟨λ i m ys σ' H'=>m=xs.length - i/\i<=xs.length/\ys=((xs.take i).filter p).map f/\(∃o,σ'=o::rest)/\H'=H,⟨xs.length,by simp,AV _,by simp,⟨none,hs⟩,rfl⟩,?_⟩
 rintro i m ys σ' H' ⟨rfl,hi,rfl,⟨o,rfl⟩,rfl⟩
 by_cases hlt:i<xs.length
 ·refine .inr ⟨hgo i hlt,?_,λ x H2 y=>?_⟩
  ·rw [y3]
   have h1:=zN p (xs.take i)
   rw [zx] at h1
   lia
  ·obtain ⟨rfl,hx⟩:=hyld i x H2 hlt y
   have tk:(xs.take (i+1)).filter p=(xs.take i).filter p++(if p x then [x] else []):=take_succ_filter p xs i x hx
   have hm:x∈xs:=zu hx
   show tt (some x::rest) H2 _
   refine ht x hm _ ?_
   cases hp:p x with
   | true=>
     refine gC (he x hm hp _ ?_)
     refine ⟨xs.length - (i+1),by lia,rfl,hlt,?_,⟨_,rfl⟩,rfl⟩
     rw [tk,hp,if_pos rfl,zn]
     rfl
   | false=>
     refine fE ?_
     refine ⟨xs.length - (i+1),by lia,rfl,hlt,?_,⟨_,rfl⟩,rfl⟩
     rw [tk,hp,if_neg (by simp),zt]
 ·have e:i=xs.length:=by lia
  subst e
  refine .inl ⟨hstop,λ d hd=>?_⟩
  rw [Ai]
  exact q d hd
theorem eV {d:Addr}{xs:List V}(hl:Ev tl σ H (.ref d)) (hx:SqL K H d xs) (hz:xs.length<=sizeLine) (hs:dG src σ=none::rest) (p:V->Bool) (f:V->V)
  (ht:∀x∈xs,Tv tt (some x::rest) H (p x)) (he:∀x∈xs,p x=true->Ev te (some x::rest) H (f x)) (q:∀d',H d'=none->Q (.ref d') (upd H d' (.lst ((xs.filter p).map f)))):tComp (pV K tl) (gName 0) tt te src σ H Q:=
 hl _ ⟨d,rfl,⟨xs,hx⟩,gF hz hs p f (λ i hi=>⟨xs,xs[i],hx,y7 hi⟩) ⟨xs,hx,AU _⟩ (λ i v H' _ y=>⟨y.1,y.2 xs hx⟩) ht he q⟩
theorem iF {ta:TA}{n:Int}(hl:Av ta σ H [.int n]) (h0:0<=n) (hz:n.toNat<=sizeLine) (h1:n<2 ^ 62) (hs:dG src σ=none::rest) (p:V->Bool) (f:V->V)
  (ht:∀i:Nat,i<n.toNat->Tv tt (some (.int (0+(i:Int)))::rest) H (p (.int (0+(i:Int))))) (he:∀i:Nat,i<n.toNat->p (.int (0+(i:Int)))=true->Ev te (some (.int (0+(i:Int)))::rest) H (f (.int (0+(i:Int)))))
  (q:∀d',H d'=none->Q (.ref d') (upd H d' (.lst ((((List.range n.toNat).map λ (i:Nat)=>V.int (0+(i:Int))).filter p).map f)))):tComp (kD ta) (gName 0) tt te src σ H Q:=by
 have hin:∀x∈(List.range n.toNat).map λ (i:Nat)=>V.int (0+(i:Int)),∃i:Nat,i<n.toNat/\x=.int (0+(i:Int)):=λ x hx=>by
  obtain ⟨i,hi,rfl⟩:=y4.mp hx
  exact ⟨i,zc.mp hi,rfl⟩
 have hlen:((List.range n.toNat).map λ (i:Nat)=>V.int (0+(i:Int))).length=n.toNat:=by simp
 refine hl _ ⟨n,rfl,by lia,h1,gF (xs:=(List.range n.toNat).map λ (i:Nat)=>V.int (0+(i:Int))) (by rw [hlen]; exact hz) hs p f (λ i hi=>by rw [hlen] at hi; exact hi) (by rw [hlen]; exact AU _) (λ i v H' hi y=>⟨y.1,?_⟩) (λ x hx=>?_) (λ x hx hp=>?_) q⟩
 ·rw [hlen] at hi
  rw [y8,zJ hi,y.2]
  rfl
 ·obtain ⟨i,hi,rfl⟩:=hin x hx
  exact ht i hi
 ·obtain ⟨i,hi,rfl⟩:=hin x hx
  exact he i hi hp
end
section
variable {K:Frag}{te to tv:TE}{t:TA}{c:TT}{u:TS}{D:de}{σ:St}{H:Hp}{v x y:V}
theorem tu {C p:Addr}{m:Str}{sp:Sp}{vs:List V}(ho:Ev to σ H (.ref p)) (hi:tR C m H p) (ht:Av t σ H vs) (h:∀Q:VK,Q x H->sp (.ref p::vs) H Q E0):Ev (cMeth C m sp to t) σ H x:=λ Q q=>ho _ ⟨hi,ht _ (h Q q)⟩
theorem st_app {l:Addr}{xs:List V}(ho:Ev to σ H (.ref l)) (he:Ev te σ H y) (hl:H l=some (.lst xs)) (hz:xs.length<sizeLine) (h2:u D σ (upd H l (.lst (xs++[y])))):bj (gX (cApp to te)) u D σ H:=ho _ ⟨⟨xs,hl⟩,he _ ⟨xs,hl,hz,h2⟩⟩
theorem st_app1 {l:Addr}{xs:List V}(ho:Ev to σ H (.ref l)) (he:Ev te σ H y) (hl:H l=some (.lst xs)) (hz:xs.length<sizeLine) (h2:D.nx σ (upd H l (.lst (xs++[y])))):gX (cApp to te) D σ H:=ho _ ⟨⟨xs,hl⟩,he _ ⟨xs,hl,hz,h2⟩⟩
theorem qy {f:Str}{p C dx:Addr}{fs:List (Str×V)}(h:Ev tv σ H v) (ho:Ev to σ H (.ref p)) (hp:H p=some (.ins C dx fs)) (hc:Cls K C) (hn:bX K C f) (hl:fs.length<1000) (h2:u D σ (upd H p (.ins C dx (putF f v fs)))):bj (ue K to tv f) u D σ H:=h _ (ho _ ⟨p,C,dx,fs,rfl,hp,hc,hn,hl,h2⟩)
theorem eZ {i:Nat}(h2:∀q,H q=none->u D (σ.set i (some (.ref q))) (upd H q (.lst []))):bj (tAsg (wK cO) (gName i)) u D σ H:=⟨AV _,λ q hq=>h2 q hq⟩
end
section
variable {K:Frag}{te to ta tb ti:TE}{t:TA}{c:TT}{σ:St}{H:Hp}{Q:VK}{R:Bool->Hp->Prop}{v x y:V}{vs:List V}{sp:Sp}
theorem evk (h:Ev te σ H v) (q:Q v H):te σ H Q:=h Q q
theorem eW (h:Av t σ H vs) (q:sp vs H Q E0):dq sp t σ H Q:=h _ q
theorem jd (h:Av t σ H vs) (q:sp vs H (dc λ c H1=>R (!c) H1) E0):qx (eQ (dq sp t)) σ H R:=h _ q
theorem b1_k {r:List V->Hp->VK->Prop}(h:Ev to σ H v) (q:r [v] H Q):cB r (bh to cO) σ H Q:=h _ q
theorem eG (ha:Ev ta σ H x) (hb:Ev tb σ H y) (q:∀p,H p=none->Q (.ref p) (upd H p (.tup [x,y]))):wI (bh ta (bh tb cO)) σ H Q:=ha _ (hb _ ⟨by show 2<=sizeLine; decide,q⟩)
theorem iy {i:Int}(h:Av t σ H vs) (hz:vs.length<=1000) (hi:∀H',Ev ti σ H' (.int i)) (e:atI vs i=some v) (q:∀H',ah H H'->Q v H'):cIx K (wK t) ti σ H Q:=h _ ⟨AX hz (by decide),λ p hp=>hi _ _ ⟨vs,v,.inl (SqL.of af),e,q _ ((ah.refl H).upd hp)⟩⟩
end
section
variable {K:Frag}{te to ta tb:TE}{D:de}{σ:St}{H:Hp}{Q:VK}{x y:V}
theorem jw {l:Addr}(ho:Ev to σ H (.ref l)) (hl:∃xs,H l=some (.lst xs)) (q:te σ H λ y H2=> ∃xs,H2 l=some (.lst xs)/\xs.length<sizeLine/\D.nx σ (upd H2 l (.lst (xs++[y])))):gX (cApp to te) D σ H:=ho _ ⟨hl,q⟩
end
end L2
namespace L2
open PySem PySem.Spec PyProof.Rows
def oI:Option Int->V
 | some n=>.int n
 | none=>.non
structure kS (K:Frag) (C:Addr):Prop where
 cl:Cls K C
 wide:bX K C "wide"
 high:bX K C "high"
 holes:bX K C "holes"
 firm:bX K C "firm"
def gG (wi hi:Int) (ph pf:Addr):List (Str×V):=putF "firm" (.ref pf) (putF "holes" (.ref ph) (putF "high" (.int hi) (putF "wide" (.int wi) [])))
theorem bf_wide (wi hi:Int) (ph pf:Addr):(gG wi hi ph pf).lookup ("wide":Str)=some (.int wi):=by
 unfold gG
 rw [av,if_neg (by decide+kernel),av,if_neg (by decide+kernel),av,if_neg (by decide+kernel),av,if_pos rfl]
theorem bf_high (wi hi:Int) (ph pf:Addr):(gG wi hi ph pf).lookup ("high":Str)=some (.int hi):=by
 unfold gG
 rw [av,if_neg (by decide+kernel),av,if_neg (by decide+kernel),av,if_pos rfl]
theorem yS (wi hi:Int) (ph pf:Addr):(gG wi hi ph pf).lookup ("holes":Str)=some (.ref ph):=by
 unfold gG
 rw [av,if_neg (by decide+kernel),av,if_pos rfl]
theorem bf_firm (wi hi:Int) (ph pf:Addr):(gG wi hi ph pf).lookup ("firm":Str)=some (.ref pf):=by
 unfold gG
 rw [av,if_pos rfl]
theorem bf_no (wi hi:Int) (ph pf:Addr) {m:Str}(h1:¬m="wide") (h2:¬m="high") (h3:¬m="holes") (h4:¬m="firm"):(gG wi hi ph pf).lookup m=none:=by
 unfold gG
 rw [av,if_neg h4,av,if_neg h3,av,if_neg h2,av,if_neg h1]
 rfl
def firmL (wi hi:Int) (hs:List Int):List Bool:=(List.range (wi*hi).toNat).map λ (s:Nat)=> !decide ((s:Int)∈hs)
structure cj (K:Frag) (C:Addr) (H:Hp) (p:Addr) (wi hi:Int) (hs:List Int):Prop where
 ex:∃dx ph pf,H p=some (.ins C dx (gG wi hi ph pf))/\H ph=some (.lst (hs.map V.int))/\H pf=some (.lst ((firmL wi hi hs).map V.bl))
 w1:1<=wi
 w8:wi<=8
 h1:1<=hi
 h8:hi<=8
 good:∀h∈hs,0<=h/\h<wi*hi
 srt:hs.Pairwise (·<=·)
 nd:hs.Nodup
section
variable {K:Frag}{C:Addr}{H H':Hp}{p:Addr}{wi hi:Int}{hs:List Int}
theorem cj.same (B:cj K C H p wi hi hs) (s:ah H H'):cj K C H' p wi hi hs:=by
 obtain ⟨⟨dx,ph,pf,a,b,c⟩,w1,w8,h1,h8,g,sr,nd⟩:=B
 exact ⟨⟨dx,ph,pf,s _ _ a,s _ _ b,s _ _ c⟩,w1,w8,h1,h8,g,sr,nd⟩
theorem cj.wide (B:cj K C H p wi hi hs) (D:kS K C):Fl K H p "wide" (.int wi):=by
 obtain ⟨dx,ph,pf,a,_,_⟩:=B.ex
 exact ⟨C,dx,_,a,D.cl,D.wide,bf_wide _ _ _ _⟩
theorem cj.high (B:cj K C H p wi hi hs) (D:kS K C):Fl K H p "high" (.int hi):=by
 obtain ⟨dx,ph,pf,a,_,_⟩:=B.ex
 exact ⟨C,dx,_,a,D.cl,D.high,bf_high _ _ _ _⟩
theorem cj.firm (B:cj K C H p wi hi hs) (D:kS K C):∃pf,Fl K H p "firm" (.ref pf)/\H pf=some (.lst ((firmL wi hi hs).map V.bl)):=by
 obtain ⟨dx,ph,pf,a,_,c⟩:=B.ex
 exact ⟨pf,⟨C,dx,_,a,D.cl,D.firm,bf_firm _ _ _ _⟩,c⟩
theorem cj.holes (B:cj K C H p wi hi hs) (D:kS K C):∃ph,Fl K H p "holes" (.ref ph)/\H ph=some (.lst (hs.map V.int)):=by
 obtain ⟨dx,ph,pf,a,b,c⟩:=B.ex
 exact ⟨ph,⟨C,dx,_,a,D.cl,D.holes,yS _ _ _ _⟩,b⟩
theorem cj.no (B:cj K C H p wi hi hs) {m:Str}(h1:¬m="wide":=by decide+kernel) (h2:¬m="high":=by decide+kernel) (h3:¬m="holes":=by decide+kernel) (h4:¬m="firm":=by decide+kernel):tR C m H p:=by
 obtain ⟨dx,ph,pf,a,b,c⟩:=B.ex
 exact ⟨dx,_,a,bf_no _ _ _ _ h1 h2 h3 h4⟩
theorem cj.many (B:cj K C H p wi hi hs):1<=wi*hi/\wi*hi<=64:=by
 have a:=B.w1; have b:=B.w8; have c:=B.h1; have d:=B.h8
 have e1:1*1<=wi*hi:=Bk a c (by lia) (by lia)
 have e2:wi*hi<=8*8:=Bk b d (by lia) (by lia)
 lia
theorem firm_at {s:Int}(h0:0<=s) (h1:s<wi*hi):atI ((firmL wi hi hs).map V.bl) s=some (.bl (!decide (s∈hs))):=by
 have e:s=((s.toNat:Nat):Int):=by lia
 have hl:s.toNat<(wi*hi).toNat:=by lia
 have:((firmL wi hi hs).map V.bl)[s.toNat]? =some (.bl (!decide (((s.toNat:Nat):Int)∈hs))):=by
  unfold firmL
  rw [y8,y8,zJ hl]
  rfl
 have q:=bz this
 rw [<-e] at q
 exact q
end
def mvd (wi hi:Int) (hs:List Int) (s ax up:Int):Option Int:=
 if 0<=s % wi+ax/\s % wi+ax<wi/\0<=s / wi+up/\s / wi+up<hi then (if (s / wi+up)*wi+(s % wi+ax)∈hs then none else some ((s / wi+up)*wi+(s % wi+ax))) else none
def sqK (wi s ax up:Int) (k:Nat):Int:=(s / wi+k*up)*wi+(s % wi+k*ax)
def okK (wi hi:Int) (hs:List Int) (s ax up:Int) (k:Nat):Prop:=0<=s % wi+k*ax/\s % wi+k*ax<wi/\0<=s / wi+k*up/\s / wi+k*up<hi/\¬sqK wi s ax up k∈hs
instance {wi hi:Int} {hs:List Int} {s ax up:Int} {k:Nat}:Decidable (okK wi hi hs s ax up k):=by unfold okK; infer_instance
def fG (wi hi:Int) (hs:List Int) (s ax up:Int) (n:Nat):Prop:=(∀j<n,okK wi hi hs s ax up (j+1))/\¬okK wi hi hs s ax up (n+1)
def rayL (wi s ax up:Int) (n:Nat):List Int:=(List.range n).map λ j=>sqK wi s ax up (j+1)
theorem fG.uniq {wi hi:Int}{hs hs':List Int}{s ax up:Int}{m n:Nat}(h:fG wi hi hs s ax up m) (h':fG wi hi hs' s ax up n) (e:∀x,x∈hs<->x∈hs'):m=n:=by
 have c:∀k,okK wi hi hs s ax up k<->okK wi hi hs' s ax up k:=λ k=>by unfold okK; rw [e]
 rcases A8 m n with l | l | l
 ·exact absurd ((c _).mpr (h'.1 m l)) h.2
 ·exact l
 ·exact absurd ((c _).mp (h.1 n l)) h'.2
theorem fA {wi s ax up:Int}{n:Nat}:(rayL wi s ax up n).length=n:=by unfold rayL; simp
theorem ug {wi s ax up:Int}{n:Nat}:rayL wi s ax up (n+1)=rayL wi s ax up n++[sqK wi s ax up (n+1)]:=by
 unfold rayL; rw [zS,zn]; rfl
theorem q9 {wi hi:Int}{hs:List Int}{s ax up:Int}{k:Nat}(w8:wi<=8) (h8:hi<=8) (w1:1<=wi) (s0:0<=s) (s1:s<wi*hi) (n0:¬(ax=0/\up=0)) (h:okK wi hi hs s ax up k):k<8:=by
 obtain ⟨a,b,c,d,_⟩:=h
 have m0:=Bg s (by lia:wi≠0)
 have m1:=Bh s (by lia:0<wi)
 have d0:0<=s / wi:=Int.ediv_nonneg s0 (by lia)
 have d1:s / wi<hi:=Int.ediv_lt_of_lt_mul (by lia) (by rw [Bl]; exact s1)
 apply Classical.byContradiction
 intro hk
 have hk:8<=k:=by lia
 have k8:(8:Int)<=(k:Int):=by lia
 rcases Int.lt_trichotomy ax 0 with l | l | l
 ·have:(k:Int)*ax<=(k:Int)*(-1):=Bm (by lia) (by lia)
  lia
 ·rcases Int.lt_trichotomy up 0 with l' | l' | l'
  ·have:(k:Int)*up<=(k:Int)*(-1):=Bm (by lia) (by lia)
   lia
  ·exact n0 ⟨l,l'⟩
  ·have:(k:Int)*1<=(k:Int)*up:=Bm (by lia) (by lia)
   lia
 ·have:(k:Int)*1<=(k:Int)*ax:=Bm (by lia) (by lia)
  lia
theorem mr {wi s ax up:Int}{k:Nat}(w1:1<=wi) (a:0<=s % wi+k*ax) (b:s % wi+k*ax<wi):sqK wi s ax up k % wi=s % wi+k*ax/\sqK wi s ax up k / wi=s / wi+k*up:=by
 unfold sqK
 rw [Int.add_comm ((s / wi+k*up)*wi)]
 constructor
 ·rw [Int.add_mul_emod_self_right]; exact Bo a b
 ·rw [Int.add_mul_ediv_right _ _ (by lia),Int.ediv_eq_zero_of_lt a b]; lia
theorem oz {wi s ax up:Int}(w1:1<=wi):sqK wi s ax up 0=s:=by
 unfold sqK
 have e:=Int.mul_ediv_add_emod s wi
 rw [Bl] at e
 have z:((0:Nat):Int)=0:=rfl
 rw [z,Int.zero_mul,Int.zero_mul,Int.add_zero,Int.add_zero]
 exact e
theorem jK {wi hi:Int}{hs:List Int}{s ax up:Int}{k:Nat}(w1:1<=wi) (a:0<=s % wi+k*ax) (b:s % wi+k*ax<wi):mvd wi hi hs (sqK wi s ax up k) ax up=if okK wi hi hs s ax up (k+1) then some (sqK wi s ax up (k+1)) else none:=by
 obtain ⟨e1,e2⟩:=mr (up:=up) w1 a b
 unfold mvd
 rw [e1,e2]
 have ze:((k+1:Nat):Int)=(k:Int)+1:=rfl
 have f1:s % wi+(k:Int)*ax+ax=s % wi+((k+1:Nat):Int)*ax:=by rw [ze,Int.add_mul,Bn]; lia
 have f2:s / wi+(k:Int)*up+up=s / wi+((k+1:Nat):Int)*up:=by rw [ze,Int.add_mul,Bn]; lia
 rw [f1,f2]
 have f3:(s / wi+((k+1:Nat):Int)*up)*wi+(s % wi+((k+1:Nat):Int)*ax)=sqK wi s ax up (k+1):=rfl
 rw [f3]
 by_cases c:0<=s % wi+((k+1:Nat):Int)*ax/\s % wi+((k+1:Nat):Int)*ax<wi/\0<=s / wi+((k+1:Nat):Int)*up/\s / wi+((k+1:Nat):Int)*up<hi
 ·rw [if_pos c]
  by_cases m:sqK wi s ax up (k+1)∈hs
  ·rw [if_pos m,if_neg (show¬okK wi hi hs s ax up (k+1) from λ z=>z.2.2.2.2 m)]
  ·rw [if_neg m,if_pos (show okK wi hi hs s ax up (k+1) from ⟨c.1,c.2.1,c.2.2.1,c.2.2.2,m⟩)]
 ·rw [if_neg c,if_neg (show¬okK wi hi hs s ax up (k+1) from λ z=>c ⟨z.1,z.2.1,z.2.2.1,z.2.2.2.1⟩)]
def spAmI:Sp:=λ vs H Q _=> ∃t a b:Int,vs=[.int t,.int a,.int b]/\Q (.bl (decide (a<=t/\t<=b))) H
def spCol:Sp:=λ vs H Q _=> ∃w s:Int,vs=[.int w,.int s]/\0<w/\Q (.int (s % w)) H
def spRow:Sp:=λ vs H Q _=> ∃w s:Int,vs=[.int w,.int s]/\0<w/\w<100/\Q (.int (s / w)) H
def wP:Sp:=λ vs H Q _=> ∃w c r:Int,vs=[.int w,.int c,.int r]/\-100<w/\w<100/\Q (.int (r*w+c)) H
def oM:Sp:=λ vs H Q _=> ∃(d:Addr) (m:Int) (hs:List Int),vs=[.ref d,.int m]/\H d=some (.lst (hs.map V.int))/\(∀h∈hs,0<=h/\h<m)/\hs.Nodup/\(hs.length:Int)<m/\m<=64/\∀H',ah H H'->Q (.bl true) H'
def mC (K:Frag) (C:Addr):Sp:=λ vs H Q _=> ∃(p d dx:Addr) (wi hi:Int) (hs:List Int),vs=[.ref p,.int wi,.int hi,.ref d]/\H p=some (.ins C dx [])/\H d=some (.lst (hs.map V.int))/\1<=wi/\wi<=8/\1<=hi/\hi<=8/\(∀h∈hs,0<=h/\h<wi*hi)/\hs.Nodup/\(hs.length:Int)<wi*hi/\
 ∀(hs':List Int) H',hs'.Perm hs->cj K C H' p wi hi hs'->SameBut p H H'->Q .non H'
def sn (K:Frag) (C:Addr):Sp:=λ vs H Q _=> ∃(p:Addr) (wi hi:Int) (hs:List Int) (s ax up:Int),vs=[.ref p,.int s,.int ax,.int up]/\cj K C H p wi hi hs/\Q (oI (mvd wi hi hs s ax up)) H
def spRay (K:Frag) (C:Addr):Sp:=λ vs H Q _=> ∃(p:Addr) (wi hi:Int) (hs:List Int) (s ax up:Int),vs=[.ref p,.int s,.int ax,.int up]/\cj K C H p wi hi hs/\0<=s/\s<wi*hi/\¬(ax=0/\up=0)/\
 ∀(n:Nat) (q:Addr) (H':Hp),fG wi hi hs s ax up n->n<=8->H q=none->H' q=some (.lst ((rayL wi s ax up n).map V.int))->ah H H'->Q (.ref q) H'
structure CA (P:Program) (w:World) (K:Frag) (mg:Str->Option Value) (base:Heap):Prop where
 is_among:Cal P w K mg base "is_among" ["thing","least","most"] 2 spAmI
structure CB (P:Program) (w:World) (K:Frag) (mg:Str->Option Value) (base:Heap):Prop where
 column_of:Cal P w K mg base "column_of" ["wide","square"] 1 spCol
 row_of:Cal P w K mg base "row_of" ["wide","square"] 1 spRow
 square_at:Cal P w K mg base "square_at" ["wide","column","row"] 1 wP
structure CB2 (P:Program) (w:World) (K:Frag) (mg:Str->Option Value) (base:Heap):Prop extends CA P w K mg base where
 are_holes:Cal P w K mg base "are_holes" ["thing","many"] 3 oM
structure CB3 (P:Program) (w:World) (K:Frag) (mg:Str->Option Value) (base:Heap) (cB:Addr):Prop extends CB2 P w K mg base where
 Board:kR P w K mg base "Board" cB ["self","wide","high","holes"] 4 (mC K cB)
 Board_moved:y0 P w K mg base cB "moved" ["self","square","across","up"] 2 (sn K cB)
end L2
namespace L2
open PySem PySem.Spec PyProof.Rows
section
variable {X:Cx}{pins:List (Addr×Obj)}{σ:St}{H:Hp}{s:Shared}{h':Heap}
theorem Inv.turned_laid {t':Nat}{e it a:Addr}{o:HO}(I:Inv X pins σ H s) (k:∀b ob,b≠e->b≠it->s.heap.get? b=some ob->h'.get? b=some ob) (he:ia X pins H e) (hi:ia X pins H it) (hp:s.heap.objs.size<=a) (new:bH X.prog X.w (upd H a o) h' a o):
  Inv X pins σ (upd H a o) {s with heap:=h',toks:=t'}:=by
 obtain ⟨e0,e1,e2,e3,e4,e5⟩:=he
 obtain ⟨i0,i1,i2,i3,i4,i5⟩:=hi
 have hn:H a=none:=I.hok.fresh hp
 have ne:∀b u,H b=some u->b≠e:=λ b u q z=>by rw [z,e0] at q; cases q
 have nit:∀b u,H b=some u->b≠it:=λ b u q z=>by rw [z,i0] at q; cases q
 have kk:∀b ob,b∉[e,it]->s.heap.get? b=some ob->h'.get? b=some ob:=λ b ob hc q=>k b ob (λ z=>hc (by simp [z])) (λ z=>hc (by simp [z])) q
 refine I.step (g':=s.gens) (d':=s.drawn) (ch:=[e,it]) (λ b hb=>?_) (λ b ob _ _ hc q _=>kk b ob hc q) (λ b ob _ _ hc q _=>⟨ob.slots,kk b ob hc q⟩)
  (λ b ob hc q n=>by rw [aq (AW (AY (Heap.lt_size q) hp))]; exact n) (λ b ob hc q=>⟨ob,kk b ob hc q⟩) (λ b xs q=>by rw [aq (ar q hn)]; exact q) (λ b ob u q=>by rw [aq (ar q hn)]; exact q)
  (λ b ps q=>⟨#[],by rw [aq (ar q hn),q]; simp⟩) (λ m hm=>?_) (λ b u q=>?_) I.bare
 ·rcases y6.mp hb with rfl | hb
  ·exact ⟨e3,e1,e4,e5⟩
  ·rw [zh.mp hb]; exact ⟨i3,i1,i4,i5⟩
 ·obtain ⟨ob,es,ep,ho,r⟩:=hm
  exact ⟨ob,es,ep,k _ ob (Ne.symm e1) (Ne.symm i1) ho,r⟩
 ·by_cases hb:b=a
  ·subst hb; rw [af] at q; cases q; exact new
  ·rw [aq hb] at q
   refine (I.hok b u q).stay (λ c v hc z=>k c v ?_ ?_ z) (λ c z=>by rw [aq (ar z hn)]; exact z) λ c xs z=>by rw [aq (ar z hn)]; exact z
   ·rcases hc with z | z
    ·rw [z]; exact ne b u q
    ·exact ne c _ z
   ·rcases hc with z | z
    ·rw [z]; exact nit b u q
    ·exact nit c _ z
theorem Inv.turned2 {t':Nat}{e it:Addr}(I:Inv X pins σ H s) (k:∀b ob,b≠e->b≠it->s.heap.get? b=some ob->h'.get? b=some ob) (he:ia X pins H e) (hi:ia X pins H it):Inv X pins σ H {s with heap:=h',toks:=t'}:=by
 obtain ⟨e0,e1,e2,e3,e4,e5⟩:=he
 obtain ⟨i0,i1,i2,i3,i4,i5⟩:=hi
 have ne:∀b u,H b=some u->b≠e:=λ b u q z=>by rw [z,e0] at q; cases q
 have nit:∀b u,H b=some u->b≠it:=λ b u q z=>by rw [z,i0] at q; cases q
 have kk:∀b ob,b∉[e,it]->s.heap.get? b=some ob->h'.get? b=some ob:=λ b ob hc q=>k b ob (λ z=>hc (by simp [z])) (λ z=>hc (by simp [z])) q
 refine I.step (g':=s.gens) (d':=s.drawn) (ch:=[e,it]) (λ b hb=>?_) (λ b ob _ _ hc q _=>kk b ob hc q) (λ b ob _ _ hc q _=>⟨ob.slots,kk b ob hc q⟩)
  (λ _ _ _ _ n=>n) (λ b ob hc q=>⟨ob,kk b ob hc q⟩) (λ _ _ q=>q) (λ _ _ _ q=>q)
  (λ b ps q=>⟨#[],by rw [q]; simp⟩) (λ m hm=>?_) (λ b u q=>?_) I.bare
 ·rcases y6.mp hb with rfl | hb
  ·exact ⟨e3,e1,e4,e5⟩
  ·rw [zh.mp hb]; exact ⟨i3,i1,i4,i5⟩
 ·obtain ⟨ob,es,ep,ho,r⟩:=hm
  exact ⟨ob,es,ep,k _ ob (Ne.symm e1) (Ne.symm i1) ho,r⟩
 ·refine (I.hok b u q).stay (λ c v hc z=>k c v ?_ ?_ z) (λ c z=>z) λ c xs z=>z
  ·rcases hc with z | z
   ·rw [z]; exact ne b u q
   ·exact ne c _ z
  ·rcases hc with z | z
   ·rw [z]; exact nit b u q
   ·exact nit c _ z
end
def ItE (K:Frag) (a:Addr):It:=
 ⟨λ i H=> ∃xs x,SqL K H a xs/\xs[i]? =some x,λ i H x H'=> ∃t v,x=.ref t/\H t=none/\H'=upd H t (.tup [.int (i:Int),v])/\∀xs,SqL K H a xs->xs[i]? =some v,λ i H=> ∃xs,SqL K H a xs/\xs.length<=i⟩
theorem qv {P:Program}{w:World}{K:Frag}{elts:List Expr}{k0:Nat}{pos:Pos}(a e it:Addr) (hne:e≠it):u9 P w K (.Tuple elts k0 pos) (ItE K a) [e,it] e (λ i h=>(∃old,IsEnum h e it (i:Int) old)/\h.IsListIter it a i) where
 mem:=by simp
 obj:=λ i h st b hb=>by
  obtain ⟨⟨old,he⟩,o,ho,c,d⟩:=st
  rcases y6.mp hb with rfl | hb
  ·exact ⟨_,he,λ v z=>by cases z⟩
  ·rw [zh.mp hb]
   exact ⟨o,ho,λ v z=>by rw [d] at z; cases z⟩
 keep:=λ i h h' st k=>by
  obtain ⟨⟨old,he⟩,hi⟩:=st
  exact ⟨⟨old,k e (by simp) _ he⟩,hi.at λ o x=>k it (by simp) o x⟩
 item:=by
  intro X hP hw hK hc i pins s σ H E I hf st hg
  subst hP hw hK
  obtain ⟨xs,x,hq,hx⟩:=hg
  obtain ⟨its,rv,p,hz⟩:=I.list hq
  obtain ⟨u,hu,ru⟩:=rv.get hx
  obtain ⟨⟨old,he⟩,hit⟩:=st
  have fe:=hf e (by simp)
  have fi:=hf it (by simp)
  obtain ⟨oL,hoL,hcL,nL,hdL⟩:=p.isList
  have hai:a≠it:=λ z=>by
   subst z
   obtain ⟨o',ho',hc',_⟩:=hit
   rw [hoL] at ho'
   cases ho'
   rw [hcL] at hc'
   injection hc' with hz'
   exact absurd hz' (by decide)
  have hae:a≠e:=λ z=>by
   subst z
   have he':s.heap.get? a=_:=he
   rw [hoL] at he'
   cases he'
   injection hcL with hz'
   exact absurd hz' (by decide)
  have D:=Draws.list (prog:=X.prog) (w:=X.w) (A:=X.A.in1) (by show X.A.handled=none; exact I.ok.hd hc) it a hai its.toArray
  have hlt:i<its.toArray.size:=by
   have:=(zo.mp hu).1
   simpa using this
  refine wpAny_pyNext_enum_itemD D he ⟨hit,p.isList⟩ hlt hne (by simp [hne,hae.symm]) λ x' h1 tk hP' ho hs' hT hsz hk=>?_
  have ex:x'=u:=by
   have:its.toArray[i]? =some x':=hP'
   rw [Ax,hu] at this
   exact (Option.some.inj this).symm
  subst ex
  refine ⟨_,rfl,wpAny_letOwnedTupleGo_enum ho λ h2 he2 sb=>?_⟩
  have hlt2:e<s.heap.objs.size:=Heap.lt_size he
  have kk:∀b ob,b≠e->b≠it->s.heap.get? b=some ob->h2.get? b=some ob:=λ b ob b1 b2 q=>(sb.2 b b1).trans (hk b ob b1 b2 q)
  have hT2:h2.get? s.heap.objs.size=some {cls:=.type "tuple",data:=.seq #[.int i tk,x']}:=(sb.2 _ (A1 hlt2)).trans hT
  have new:bH X.prog X.w (upd H s.heap.objs.size (.tup [.int (i:Int),x])) h2 s.heap.objs.size (.tup [.int (i:Int),x]):=
   ⟨by show 2<=sizeLine; decide,[.int i tk,x'],.cons ⟨tk,rfl⟩ (.cons ru .nil),⟨_,hT2,rfl,_,rfl⟩⟩
  have I2:=I.turned_laid (t':=tk+1) kk fe fi (AU _) new
  refine ⟨.ref s.heap.objs.size,_,I2,rfl,⟨_,x,rfl,I.hok.fresh (AU _),rfl,λ ys hy=>by rw [I.list_inj hy hq]; exact hx⟩,⟨⟨_,by simpa using he2⟩,hs'.1.at λ o z=>(sb.2 it (Ne.symm hne)).trans z⟩,λ b hb=>?_⟩
  rcases y6.mp hb with rfl | hb
  ·rw [aq (AW hlt2)]; exact fe.1
  ·rw [zh.mp hb]
   obtain ⟨o',ho',_⟩:=hit
   rw [aq (AW (Heap.lt_size ho'))]; exact fi.1
 done:=by
   intro X hP hw hK hc i pins s σ H E I hf st hg
   subst hP hw hK
   obtain ⟨xs,hq,hx⟩:=hg
   obtain ⟨its,rv,p,hz⟩:=I.list hq
   obtain ⟨⟨old,he⟩,hit⟩:=st
   have fe:=hf e (by simp)
   have fi:=hf it (by simp)
   have hl:=rv.length
   obtain ⟨oL,hoL,hcL,nL,hdL⟩:=p.isList
   have hai:a≠it:=λ z=>by
    subst z
    obtain ⟨o',ho',hc',_⟩:=hit
    rw [hoL] at ho'
    cases ho'
    rw [hcL] at hc'
    injection hc' with hz'
    exact absurd hz' (by decide)
   have hT:s.TypeIs (.ref e) "enumerate":=⟨_,he,rfl⟩
   unfold pyNext
   refine wpAny_bind (wpAny_attempt (wpAny_callSpecial?_slot (name:=Str.ofString "__next__") hT F.slot_enumerate_next
    (wpAny_call_entry F.slot_enumerate_next hT F.entry_enumerate_next ?_ (F.args_enumerate_next_1 _))))
   show wpAny _ _ (field (.ref e) 2 >>= _) _ _ _
   refine wpAny_bind (wpAny_field he rfl (x:=.ref it) rfl ?_)
   refine wpAny_bind (wpAny_nextOf_list_end (by show X.A.handled=none; exact I.ok.hd hc) hit p.isList (by simp; lia) λ h' x he' hx'=>?_)
   obtain ⟨o,ho,hcx⟩:=hx'
   refine wpAny_bind (wpAny_isInstance (T:="StopIteration") (b:=true) ⟨o,ho,hcx⟩ isSubtype_stop ?_)
   exact wpAny_pure ⟨rfl,I.turned2 (t':=s.toks) (λ b ob _ b2 q=>he' b ob b2 q) fe fi⟩
 self:=λ A i s Q E st h=>by
  obtain ⟨⟨old,he⟩,_⟩:=st
  exact wpAny_pyIter_enum he h
end L2
namespace L2
open PySem PySem.Spec PyProof.Rows
def vd (x:Str):It:=
 ⟨λ i _=>i<x.cps.size,λ i H v H'=> ∃t c,v=.ref t/\H t=none/\x.cps.toList[i]? =some c/\H'=upd H t (.tup [.int (i:Int),.str ⟨#[c]⟩]),λ i _=>i=x.cps.size⟩
theorem lX {prog:Program}{w:World}{A:Around}(hh:A.handled=none) (it:Addr) (x:Str) (t:Tok):Draws prog w A it [it] x.cps.size (λ i v=> ∃c u,x.cps[i]? =some c/\v=.str ⟨#[c]⟩ u) (λ i h=>h.IsStrIter it (strIterType x) x t i):=by
 unfold strIterType
 split
 ·exact Draws.strAscii hh it x t
 ·exact Draws.strWide hh it x t
theorem qu {P:Program}{w:World}{K:Frag}{elts:List Expr}{k0:Nat}{pos:Pos}(e it:Addr) (x:Str) (t:Tok) (hne:e≠it):u9 P w K (.Tuple elts k0 pos) (vd x) [e,it] e (λ i h=>(∃old,IsEnum h e it (i:Int) old)/\h.IsStrIter it (strIterType x) x t i) where
 mem:=by simp
 obj:=λ i h st b hb=>by
  obtain ⟨⟨old,he⟩,o,ho,c,d⟩:=st
  rcases y6.mp hb with rfl | hb
  ·exact ⟨_,he,λ v z=>by cases z⟩
  ·rw [zh.mp hb]
   exact ⟨o,ho,λ v z=>by rw [d] at z; cases z⟩
 keep:=λ i h h' st k=>by
  obtain ⟨⟨old,he⟩,o,ho,r⟩:=st
  exact ⟨⟨old,k e (by simp) _ he⟩,o,k it (by simp) o ho,r⟩
 item:=by
  intro X hP hw hK hc i pins s σ H E I hf st hg
  subst hP hw hK
  obtain ⟨⟨old,he⟩,hit⟩:=st
  have fe:=hf e (by simp)
  have fi:=hf it (by simp)
  have D:=lX (prog:=X.prog) (w:=X.w) (A:=X.A.in1) (by show X.A.handled=none; exact I.ok.hd hc) it x t
  refine wpAny_pyNext_enum_itemD D he hit hg hne (by simp [hne]) λ x' h1 tk hP' ho hs' hT hsz hk=>?_
  obtain ⟨c,u,hcx,rfl⟩:=hP'
  refine ⟨_,rfl,wpAny_letOwnedTupleGo_enum ho λ h2 he2 sb=>?_⟩
  have hlt2:e<s.heap.objs.size:=Heap.lt_size he
  have kk:∀b ob,b≠e->b≠it->s.heap.get? b=some ob->h2.get? b=some ob:=λ b ob b1 b2 q=>(sb.2 b b1).trans (hk b ob b1 b2 q)
  have hT2:h2.get? s.heap.objs.size=some {cls:=.type "tuple",data:=.seq #[.int i tk,.str ⟨#[c]⟩ u]}:=(sb.2 _ (A1 hlt2)).trans hT
  have new:bH X.prog X.w (upd H s.heap.objs.size (.tup [.int (i:Int),.str ⟨#[c]⟩])) h2 s.heap.objs.size (.tup [.int (i:Int),.str ⟨#[c]⟩]):=
   ⟨by show 2<=sizeLine; decide,[.int i tk,.str ⟨#[c]⟩ u],.cons ⟨tk,rfl⟩ (.cons ⟨u,rfl⟩ .nil),⟨_,hT2,rfl,_,rfl⟩⟩
  have I2:=I.turned_laid (t':=tk+1) kk fe fi (AU _) new
  have hs2:h2.IsStrIter it (strIterType x) x t (i+1):=by
   obtain ⟨o',ho',r⟩:=hs'
   exact ⟨o',(sb.2 it (Ne.symm hne)).trans ho',r⟩
  refine ⟨.ref s.heap.objs.size,_,I2,rfl,⟨_,c,rfl,I.hok.fresh (AU _),by rw [BI]; exact hcx,rfl⟩,⟨⟨_,by simpa using he2⟩,hs2⟩,λ b hb=>?_⟩
  rcases y6.mp hb with rfl | hb
  ·rw [aq (AW hlt2)]; exact fe.1
  ·rw [zh.mp hb]
   obtain ⟨o',ho',_⟩:=hit
   rw [aq (AW (Heap.lt_size ho'))]; exact fi.1
 done:=by
   intro X hP hw hK hc i pins s σ H E I hf st hg
   subst hP hw hK
   obtain ⟨⟨old,he⟩,hit⟩:=st
   have hg:i=x.cps.size:=hg
   subst hg
   have fe:=hf e (by simp)
   have fi:=hf it (by simp)
   have D:=lX (prog:=X.prog) (w:=X.w) (A:=X.A.in1) (by show X.A.handled=none; exact I.ok.hd hc) it x t
   exact wpAny_pyNext_enum_endD D he hit λ h' hx=>⟨rfl,I.turned2 (t':=s.toks) (λ b ob _ b2 q=>hx b ob b2 q) fe fi⟩
 self:=λ A i s Q E st h=>by
  obtain ⟨⟨old,he⟩,_⟩:=st
  exact wpAny_pyIter_enum he h
section
variable {X:Cx}{p pos pos2:Pos}{a:Expr}{elts:List Expr}{k0:Nat}{ta:TE}
def sY (K:Frag) (ta:TE):TI:=λ σ H R=>ta σ H λ x H1=>match x with
 | .ref d=>(∃xs,SqL K H1 d xs)/\R (ItE K d) H1
 | .str z=>R (vd z) H1
 | _=>False
theorem pi_enum (hm:X.mg "enumerate"=none) (ha:PE X a ta) (hg:Gl X "enumerate":=by rfl) (hs:starEach [a] X.env=[(false,eval a X.env)]:=by rfl):PI X (.Tuple elts k0 pos2) (.Call (.Name "enumerate" p) [a] [] pos) (sY X.K ta):=by
 intro pins s σ H R I h
 have hA:PA X [a] (bh ta cO):=pa_cons ha pa_nil (by rw [hs]; rfl)
 refine Call_ (i8 I hg hm oj (PyProof.Rows.callWith_type1 (thn (hA pos pins s σ H (λ vs H1=> ∃x,vs=[x]/\(match x with | .ref d=>(∃xs,SqL X.K H1 d xs)/\R (ItE X.K d) H1 | .str z=>R (vd z) H1 | _=>False)) I ?_) λ us s1 ⟨vs,H1,I1,r1,x,e1,q1⟩=>?_) (by rw [hs]; rfl) rfl) (by decide) (by decide))
 ·show ta σ H _
  have e:(λ (x:V) (H1:Hp)=>match x with | .ref d=>(∃xs,SqL X.K H1 d xs)/\R (ItE X.K d) H1 | .str z=>R (vd z) H1 | _=>False)=λ x H1=>cO σ H1 λ xs H2=> ∃y,x::xs=[y]/\(match y with | .ref d=>(∃xs,SqL X.K H2 d xs)/\R (ItE X.K d) H2 | .str z=>R (vd z) H2 | _=>False):=by
   funext x H1
   apply propext
   constructor
   ·intro q; exact ⟨x,rfl,q⟩
   ·rintro ⟨y,e,q⟩
    have:x=y:=by injection e
    subst this
    exact q
  rw [<-e]
  exact h
 ·subst e1
  obtain ⟨u,rfl,ru⟩:=dv r1
  cases x with
  | ref d=>
    obtain ⟨⟨xs,hq⟩,q⟩:=q1
    cases ru
    obtain ⟨its,rv,pl,hz⟩:=I1.list hq
    refine call_enumerate_list pl.isList λ h' he hit hsz hk=>?_
    have I2:Inv X pins σ H1 {s1 with heap:=h'}:=I1.kept (t':=s1.toks) hk
    refine wpAny_pyIter_enum he ⟨s1.heap.objs.size+1,[s1.heap.objs.size+1,s1.heap.objs.size],_,_,H1,rfl,I2,qv d _ _ (A7 _),⟨⟨_,he⟩,hit⟩,λ b hb=>?_,q⟩
    rcases y6.mp hb with rfl | hb
    ·exact I1.fpOk (AZ _) (I1.hok.fresh (AZ _))
    ·rw [zh.mp hb]
     exact I1.fpOk (AU _) (I1.hok.fresh (AU _))
  | str z=>
    obtain ⟨t,rfl⟩:=ru
    refine call_enumerate_str λ h' he hit hsz hk=>?_
    have I2:Inv X pins σ H1 {s1 with heap:=h'}:=I1.kept (t':=s1.toks) hk
    refine wpAny_pyIter_enum he ⟨s1.heap.objs.size+1,[s1.heap.objs.size+1,s1.heap.objs.size],_,_,H1,rfl,I2,qu _ _ z t (A7 _),⟨⟨_,he⟩,hit⟩,λ b hb=>?_,q1⟩
    rcases y6.mp hb with rfl | hb
    ·exact I1.fpOk (AZ _) (I1.hok.fresh (AZ _))
    ·rw [zh.mp hb]
     exact I1.fpOk (AU _) (I1.hok.fresh (AU _))
  | _=>exact q1.elim
theorem kenum (K:Frag) (hm:X.mg "enumerate"=none) (ha:PE X a ta) (hg:Gl X "enumerate":=by rfl) (hs:starEach [a] X.env=[(false,eval a X.env)]:=by rfl) (hK:X.K=K:=by rfl):PI X (.Tuple elts k0 pos2) (.Call (.Name "enumerate" p) [a] [] pos) (sY K ta):=by
 subst hK; exact pi_enum hm ha hg hs
end
end L2
namespace L2
open PySem PySem.Spec PyProof.Rows
section
variable {X:Cx}
def loA (x:V) (vs:List V) (H:Hp) (Q:VK):Prop:=match x,vs with
 | .str a,[]=>a.length<=sizeLine/\(∀c∈a.cps.toList,c<128)/\Q (.str ⟨a.cps.map lo1⟩) H
 | _,_=>False
theorem xH:MtR X "str.lower" loA:=by
 unfold MtR
 intro pins s σ H x xs v us Q I rx r h
 unfold loA at h
 split at h
 ·rename_i a
  obtain ⟨hz,ha,q⟩:=h
  obtain ⟨t,rfl⟩:=rx
  cases r
  have e:placed a (λ i _=>Unicode.lowerAt a.cps i)=a.cps.map lo1:=placed_single a _ lo1 λ i c hc=>by
   have hc':a.cps[i]? =some c:=by simpa using hc
   have hlt:=ha c (zu hc)
   unfold Unicode.lowerAt
   rw [hc']
   have hne:(c == 0x3A3)=false:=by rw [beq_eq_false_iff_ne]; lia
   simp only [hne,Bool.false_and,Bv,if_false]
   exact lowerOf_ascii c hlt
  have hfit:Builtin.Str.tooLong (placed a λ i _=>Unicode.lowerAt a.cps i).size=false:=by
   rw [e,BL]
   unfold Builtin.Str.tooLong
   exact decide_eq_false (by show¬a.cps.size > sizeLine; have:a.length=a.cps.size:=rfl; lia)
  refine call_gives F.slot_str_lower (typeIs_str _ _ _) F.entry_str_lower (F.args_str_lower_1 _) (gives_str_lower a t hfit) ?_
  rw [e]
  exact ⟨by show (a.cps.map lo1).size<=sizeLine; rw [BL]; exact hz,⟨.str _,H,I.tok _,⟨_,rfl⟩,q⟩⟩
 ·exact h.elim
theorem rB:∀c,c<128->(Unicode.isUpper c&& !(Unicode.isLower c||Unicode.isTitle c))=decide (65<=c/\c<=90):=by decide+kernel
def iuA (x:V) (vs:List V) (H:Hp) (Q:VK):Prop:=match x,vs with
 | .str a,[]=> ∃c,a=⟨#[c]⟩/\c<128/\Q (.bl (decide (65<=c/\c<=90))) H
 | _,_=>False
theorem mt_iuA:MtR X "str.isupper" iuA:=by
 unfold MtR
 intro pins s σ H x xs v us Q I rx r h
 unfold iuA at h
 split at h
 ·rename_i a
  obtain ⟨c,rfl,hc,q⟩:=h
  obtain ⟨t,rfl⟩:=rx
  cases r
  refine call_gives F.slot_str_isupper (typeIs_str _ _ _) F.entry_str_isupper (F.args_str_isupper_1 _) (gives_str_isupper _ t) ?_
  refine fin_bl I q ?_
  rw [<-rB c hc]
  simp
 ·exact h.elim
theorem r_lo {a:Str}{H:Hp}{Q:VK}:(loA (.str a) [] H Q)=(a.length<=sizeLine/\(∀c∈a.cps.toList,c<128)/\Q (.str ⟨a.cps.map lo1⟩) H):=rfl
end
end L2
namespace L2
open PySem PySem.Spec PyProof.Rows
abbrev one (c:Nat):Str:=⟨#[c]⟩
def Ltr (c:Nat):Prop:=97<=c/\c<=122
def Sg (c:Nat):Prop:=c=46\/c=35\/(97<=c/\c<=122)\/(65<=c/\c<=90)
theorem Sg.lt {c:Nat}(h:Sg c):c<128:=by unfold Sg at h; lia
def jr (c:Nat):V:=if c=46\/c=35 then .non else .str (one (lo1 c))
def bF (c:Nat):V:=if c=46\/c=35 then .non else .int (if 65<=c/\c<=90 then 0 else 1)
theorem yY:("abcdefghijklmnopqrstuvwxyz":Str).cps.toList=[97,98,99,100,101,102,103,104,105,106,107,108,109,110,111,112,113,114,115,116,117,118,119,120,121,122]:=by decide+kernel
theorem dh_in (c:Nat):decide (c∈(".#":Str).cps.toList)=decide (c=46\/c=35):=by
 have e:(".#":Str).cps.toList=[46,35]:=by decide+kernel
 rw [e,Bw]
 simp only [decide_eq_true_eq,y6,zq,or_false]
theorem abc_at {i:Int}(h0:0<=i) (h1:i<26):atI ("abcdefghijklmnopqrstuvwxyz":Str).cps.toList i=some (97+i.toNat):=by
 have e:i=((i.toNat:Nat):Int):=by lia
 have hx:∀k<26,("abcdefghijklmnopqrstuvwxyz":Str).cps.toList[k]? =some (97+k):=by rw [yY]; decide
 have q:=bz (hx i.toNat (by lia))
 rw [<-e] at q
 exact q
theorem dh_at (b:Bool):atI (".#":Str).cps.toList (if b=true then 1 else 0)=some (if b=true then 35 else 46):=by
 have e:(".#":Str).cps.toList=[46,35]:=by decide+kernel
 rw [e]
 cases b<;>decide
theorem str_dot:(".":Str)=one 46:=by decide+kernel
theorem wN:("#":Str)=one 35:=by decide+kernel
section
variable {K:Frag}{σ rest:St}{H:Hp}{te ta tb tl:TE}{tt:TT}{R:Bool->Hp->Prop}{Q:VK}{c:Nat}{z:Str}{src:List (Option Nat)}
theorem in2_k (h:Ev te σ H (.str (one c))) (ha:Ev ta σ H (.str (one 46))) (hb:Ev tb σ H (.str (one 35))) (q:∀H',ah H H'->R (decide (c=46\/c=35)) H'):eQ (dn K .In te (wI (bh ta (bh tb cO)))) σ H R:=
 h _ (ha _ (hb _ ⟨by show 2<=sizeLine; decide,λ t ht=>by
  show aL K .In (.str (one c)) (.ref t) _ (dc R)
  rw [fN]
  refine ⟨t,_,rfl,.inr (SqT.of af),rfl,rfl,?_⟩
  have e:inV (.str (one c)) [.str (one 46),.str (one 35)]=decide (c=46\/c=35):=by
   unfold inV
   have e1:eqV (.str (one 46)) (.str (one c))=decide (c=46):=by
    show ((one 46) == (one c))=_
    by_cases h:c=46
    ·subst h; simp
    ·rw [decide_eq_false h]
     exact beq_eq_false_iff_ne.mpr (λ e=>h (by have:=congrArg (λ x:Str=>x.cps.toList) e; simp [one] at this; lia))
   have e2:eqV (.str (one 35)) (.str (one c))=decide (c=35):=by
    show ((one 35) == (one c))=_
    by_cases h:c=35
    ·subst h; simp
    ·rw [decide_eq_false h]
     exact beq_eq_false_iff_ne.mpr (λ e=>h (by have:=congrArg (λ x:Str=>x.cps.toList) e; simp [one] at this; lia))
   show (eqV (.str (one 46)) (.str (one c))||(eqV (.str (one 35)) (.str (one c))||false))=_
   rw [e1,e2]
   by_cases h1:c=46<;>by_cases h2:c=35<;>simp [h1,h2]
  show dc R (.bl (if false then _ else inV (.str (one c)) [.str (one 46),.str (one 35)])) _
  rw [e]
  exact q _ ((ah.refl H).upd ht)⟩))
theorem ev_ins (ha:Ev ta σ H (.str (one c))) (hb:Ev tb σ H (.str z)):Ev (dn K .In ta tb) σ H (.bl (decide (c∈z.cps.toList))):=λ Q q=>ha _ (hb _ (by
 show aL K .In _ _ _ _
 rw [pc,StrLaws.found_one]
 exact q))
theorem ev_up (ha:Ev ta σ H (.str (one c))) (hc:Ltr c):Ev (u7 upA ta) σ H (.str (one (c - 32))):=λ Q q=>ha _ (by
 show upA (.str (one c)) [] H Q
 rw [r_up]
 refine ⟨by show 1<=sizeLine; decide,λ d hd=>?_,?_⟩
 ·have e:d=c:=by simpa [one] using hd
  have:=hc.2
  lia
 have e:(⟨(one c).cps.map up1⟩:Str)=one (c - 32):=by
  show (⟨#[c].map up1⟩:Str)=_
  have:up1 c=c - 32:=by unfold up1; exact if_pos hc
  simp [one,this]
 rw [e]
 exact q)
theorem ev_lo (ha:Ev ta σ H (.str (one c))) (hc:c<128):Ev (u7 loA ta) σ H (.str (one (lo1 c))):=λ Q q=>ha _ (by
 show loA (.str (one c)) [] H Q
 rw [r_lo]
 refine ⟨by show 1<=sizeLine; decide,λ d hd=>?_,?_⟩
 ·have e:d=c:=by simpa [one] using hd
  lia
 have e:(⟨(one c).cps.map lo1⟩:Str)=one (lo1 c):=by
  show (⟨#[c].map lo1⟩:Str)=_
  simp [one]
 rw [e]
 exact q)
theorem ev_iu (ha:Ev ta σ H (.str (one c))) (hc:c<128):Ev (u7 iuA ta) σ H (.bl (decide (65<=c/\c<=90))):=λ Q q=>ha _ (by
 show iuA (.str (one c)) [] H Q
 exact ⟨c,rfl,hc,q⟩)
theorem sH:∀Q:Option Int->Hp->Prop,Q none H->jF σ H Q:=λ Q q=>q
theorem sI {i:Int}(h:Ev te σ H (.int i)):∀Q:Option Int->Hp->Prop,Q (some i) H->tM te σ H Q:=λ Q q=>h _ q
theorem mG {sd:Int}:aL K .Eq (bF c) (.int sd) H Q=Q (.bl (decide (bF c=.int sd))) H:=by
 unfold bF
 by_cases h:c=46\/c=35
 ·rw [if_pos h]
  show Q (.bl false) H=Q (.bl (decide (V.non=V.int sd))) H
  rw [decide_eq_false (by intro z; cases z)]
 ·rw [if_neg h]
  show Q (.bl (decide (_=sd))) H=Q (.bl (decide (V.int _=V.int sd))) H
  have:∀i:Int,decide (i=sd)=decide (V.int i=V.int sd):=λ i=>by
   by_cases e:i=sd
   ·rw [decide_eq_true e,decide_eq_true (congrArg V.int e)]
   ·rw [decide_eq_false e,decide_eq_false (λ z=>e (by injection z))]
  rw [this]
def enL (l:List Nat) (p:Nat->Nat->Bool) (f:Nat->Nat->V) (n:Nat):List V:=((List.range n).filter λ i=>p i (l.getD i 0)).map λ i=>f i (l.getD i 0)
theorem pZ {l:List Nat}{p:Nat->Nat->Bool}{f:Nat->Nat->V}{n:Nat}:enL l p f (n+1)=enL l p f n++(if p n (l.getD n 0)=true then [f n (l.getD n 0)] else []):=by
 unfold enL
 rw [zS,Ay,zn]
 congr 1
 by_cases h:p n (l.getD n 0)=true
 ·rw [if_pos h]
  have e:(List.filter (λ i=>p i (l.getD i 0)) [n])=[n]:=by rw [zT]; exact if_pos h
  rw [e]; rfl
 ·rw [if_neg h]
  have e:(List.filter (λ i=>p i (l.getD i 0)) [n])=[]:=by rw [zT]; exact if_neg h
  rw [e]; rfl
theorem enL_len {l:List Nat}{p:Nat->Nat->Bool}{f:Nat->Nat->V}{n:Nat}:(enL l p f n).length<=n:=by
 unfold enL
 rw [y3]
 exact AX (zN _ _) (by rw [zI]; exact AU _)
theorem yI (hl:Ev tl σ H (.str z)) (hz:z.length<=1000) (hs:dG src σ=none::none::rest) (p:Nat->Nat->Bool) (f:Nat->Nat->V)
  (ht:∀(i c:Nat) (H':Hp),z.cps.toList[i]? =some c->ah H H'->∀R:Bool->Hp->Prop,(∀H'',ah H' H''->R (p i c) H'')->tt (some (.int (i:Int))::some (.str (one c))::rest) H' R)
  (he:∀(i c:Nat) (H':Hp),z.cps.toList[i]? =some c->p i c=true->ah H H'->Ev te (some (.int (i:Int))::some (.str (one c))::rest) H' (f i c))
  (q:∀H' d,ah H H'->H' d=none->Q (.ref d) (upd H' d (.lst (enL z.cps.toList p f z.length)))):tComp (sY K tl) (yb K 2 (jt (gName 0) (jt (gName 1) gNil))) tt te src σ H Q:=by
 refine hl _ ?_
 show dJ _ tt te src σ Q (vd z) H
 refine kI z.length (λ i ys σ' H'=>ah H H'/\(∃o0 o1,σ'=o0::o1::rest)/\ys=enL z.cps.toList p f i) (AX hz (by decide)) (λ i ys σ H h=>by rw [h.2.2]; exact enL_len) (λ i ys σ H h hi=>hi) (λ ys σ H h=>rfl) ⟨ah.refl H,⟨_,_,hs⟩,rfl⟩ ?_ ?_
 ·rintro i ys _ H1 x H2 hi ⟨s1,⟨o0,o1,rfl⟩,rfl⟩ ⟨t,c,rfl,ht0,hc,rfl⟩ Kt Kf kt kf
  have s2:ah H (upd H1 t (.tup [.int (i:Int),.str ⟨#[c]⟩])):=s1.upd ht0
  refine ⟨t,_,rfl,SqT.of af,rfl,_,_,rfl,_,_,rfl,rfl,?_⟩
  have eg:z.cps.toList.getD i 0=c:=by rw [zb,hc]; rfl
  show tt (some (.int (i:Int))::some (.str (one c))::rest) _ _
  refine ht i c _ hc s2 _ (λ H3 s3=>?_)
  cases hp:p i c with
  | true=>
    refine gC (he i c _ hc hp (s2.trans s3) _ (kt _ _ _ ⟨s2.trans s3,⟨_,_,rfl⟩,?_⟩))
    rw [pZ,eg,hp,if_pos rfl]
  | false=>
    refine fE (kf _ _ ⟨s2.trans s3,⟨_,_,rfl⟩,?_⟩)
    rw [pZ,eg,hp,if_neg (by simp),zt]
 ·rintro ys σ' H' d ⟨s1,_,rfl⟩ hd
  exact q H' d s1 hd
end
theorem uH (cs:List Nat):Txt.join ("":Str) (cs.map one)=⟨cs.toArray⟩:=by
 have key:∀(r:List Nat) (acc:Array Nat),(r.map one).foldl (λ acc p=>acc++("":Str).cps++p.cps) acc=acc++r.toArray:=by
  intro r
  induction r with
  | nil=>intro acc; simp
  | cons a r ih=>
    intro acc
    rw [zB,List.foldl_cons,ih]
    have e:("":Str).cps= #[]:=by decide+kernel
    rw [e]
    apply BM.mp
    simp [one]
 unfold Txt.join Builtin.Str.glued
 cases cs with
 | nil=>rfl
 | cons a r=>
   show (⟨((r.map one).foldl (λ acc p=>acc++("":Str).cps++p.cps) (one a).cps)⟩:Str)=_
   rw [key]
   apply mq
   simp [one]
def sqsOf (row:Str) (sd:Int):List Int:=((List.range row.length).filter λ i=>decide (bF (row.cps.toList.getD i 0)=.int sd)).map λ (i:Nat)=>(i:Int)
def wS:Sp:=λ vs H Q _=> ∃c:Nat,vs=[.str (one c)]/\c<128/\∀H',ah H H'->Q (jr c) H'
def jU:Sp:=λ vs H Q _=> ∃c:Nat,vs=[.str (one c)]/\c<128/\∀H',ah H H'->Q (bF c) H'
def lE:Sp:=λ vs H Q _=> ∃(row:Str) (sd:Int),vs=[.str row,.int sd]/\row.length<=100/\(∀c∈row.cps.toList,c<128)/\∀(q:Addr) (H':Hp),H q=none->H' q=some (.lst ((sqsOf row sd).map V.int))->ah H H'->Q (.ref q) H'
section
variable {K:Frag}{σ:St}{H:Hp}{tb:TE}{t:TA}{op:CmpOp}{R:Bool->Hp->Prop}{vs:List V}{sp:Sp}
theorem yr:Ev (tC (.str ".")) σ H (.str (one 46)):=by rw [<-str_dot]; exact am
theorem tE:Ev (tC (.str "#")) σ H (.str (one 35)):=by rw [<-wN]; exact am
theorem yt (h:Av t σ H vs) (q:sp vs H (λ x H1=>tb σ H1 λ y H2=>aL K op x y H2 (dc R)) E0):eQ (dn K op (dq sp t) tb) σ H R:=h _ q
end
theorem sm1_k {σ:St}{H:Hp}{Q:VK}{to te:TE}{z:Str}{r:V->List V->Hp->VK->Prop}(ho:Ev to σ H (.str z)) (q:te σ H λ x H2=>r (.str z) [x] H2 Q):cSM r to (bh te cO) σ H Q:=ho _ q
structure CP1 (P:Program) (w:World) (K:Frag) (mg:Str->Option Value) (base:Heap):Prop where
 side_of:Cal P w K mg base "side_of" ["sign"] 1 jU
end L2
namespace L2
open PySem PySem.Spec PyProof.Rows
section
variable {K:Frag}{σ rest:St}{H:Hp}{te to ta tb tl:TE}{t:TA}{tt u:TT}{src:List (Option Nat)}{Q:VK}{R:Bool->Hp->Prop}{D:de}{g:TG}{tB:TS}{v x y:V}{vs:List V}{sp:Sp}
theorem tD {b:Bool}(h:Ev te σ H (.bl b)):Ev (cB uK (bh te cO)) σ H (.int (if b then 1 else 0)):=λ Q q=>h _ q
theorem uU {ta:TA}{n:Int}(hl:∀Q:List V->Hp->Prop,(∀H',ah H H'->Q [.int n] H')->ta σ H Q) (h0:0<=n) (hz:n.toNat<=sizeLine) (h1:n<2 ^ 62) (hs:dG src σ=none::rest) (p:V->Bool) (f:V->V)
  (ht:∀(i:Nat) H',ah H H'->i<n.toNat->Tv tt (some (.int (0+(i:Int)))::rest) H' (p (.int (0+(i:Int))))) (he:∀(i:Nat) H',ah H H'->i<n.toNat->p (.int (0+(i:Int)))=true->Ev te (some (.int (0+(i:Int)))::rest) H' (f (.int (0+(i:Int)))))
  (q:∀H' d',ah H H'->H' d'=none->Q (.ref d') (upd H' d' (.lst ((((List.range n.toNat).map λ (i:Nat)=>V.int (0+(i:Int))).filter p).map f)))):tComp (kD ta) (gName 0) tt te src σ H Q:=by
 have hin:∀x∈(List.range n.toNat).map λ (i:Nat)=>V.int (0+(i:Int)),∃i:Nat,i<n.toNat/\x=.int (0+(i:Int)):=λ x hx=>by
  obtain ⟨i,hi,rfl⟩:=y4.mp hx
  exact ⟨i,zc.mp hi,rfl⟩
 have hlen:((List.range n.toNat).map λ (i:Nat)=>V.int (0+(i:Int))).length=n.toNat:=by simp
 refine hl _ λ H' s=>⟨n,rfl,by lia,h1,gF (xs:=(List.range n.toNat).map λ (i:Nat)=>V.int (0+(i:Int))) (by rw [hlen]; exact hz) hs p f (λ i hi=>by rw [hlen] at hi; exact hi) (by rw [hlen]; exact AU _) (λ i v H2 hi y=>⟨y.1,?_⟩) (λ x hx=>?_) (λ x hx hp=>?_) (λ d' hd'=>q H' d' s hd')⟩
 ·rw [hlen] at hi
  rw [y8,zJ hi,y.2]
  rfl
 ·obtain ⟨i,hi,rfl⟩:=hin x hx
  exact ht i H' s hi
 ·obtain ⟨i,hi,rfl⟩:=hin x hx
  exact he i H' s hi hp
theorem jb {ta:TA}(n:Int) (hta:∀Q:List V->Hp->Prop,(∀H',ah H H'->Q [.int n] H')->ta σ H Q) (h0: -(2 ^ 62)<=n) (h1:n<2 ^ 62) (Pv:Nat->St->Hp->Prop) (hp0:∀H',ah H H'->Pv 0 σ H')
  (hs:∀i σ H,i<n.toNat->Pv i σ H->g (.int (0+i)) σ H λ σ2 H2=>tB {D with nx:=Pv (i+1),ct:=Pv (i+1),bk:=D.nx} σ2 H2) (hd:∀σ H,Pv n.toNat σ H->D.nx σ H):tFor (kD ta) g tB D σ H:=
 hta _ λ H' s=>⟨n,rfl,h0,h1,lU Pv (hp0 H' s) hs hd⟩
theorem sE {i:Int}{Q:List V->Hp->Prop}(h:Av t σ H vs) (hz:vs.length<=1000) (hi:∀H',Ev te σ H' (.int i)) (e:atI vs i=some v) (q:∀H',ah H H'->Q [v] H'):bh (cIx K (wK t) te) cO σ H Q:=iy (K:=K) (Q:=λ x H1=>Q [x] H1) h hz hi e q
theorem jP {tc:TE}{z:V}(ha:Ev ta σ H x) (hb:Ev tb σ H y) (hc:Ev tc σ H z) (q:∀p,H p=none->Q (.ref p) (upd H p (.tup [x,y,z]))):wI (bh ta (bh tb (bh tc cO))) σ H Q:=ha _ (hb _ (hc _ ⟨by show 3<=sizeLine; decide,q⟩))
theorem tor_k (h:Tv tt σ H false) (q:u σ H R):tOr tt u σ H R:=h _ (fE q)
theorem yk (P0:Addr->Hp->Prop) (htl:∀Q:VK,(∀d H',P0 d H'->Q (.ref d) H')->tl σ H Q)
  (h:∀d H',P0 d H'->∃xs,SqL K H' d xs/\∃Pv:Nat->St->Hp->Prop,Pv 0 σ H'/\(∀i σ' H',Pv i σ' H'->SqL K H' d xs)/\
   (∀(i:Nat) x σ' H' t,xs[i]? =some x->Pv i σ' H'->H' t=none->g (.ref t) σ' (upd H' t (.tup [.int (i:Int),x])) λ σ2 H2=>tB {D with nx:=Pv (i+1),ct:=Pv (i+1),bk:=D.nx} σ2 H2)/\(∀σ' H',Pv xs.length σ' H'->D.nx σ' H')):tFor (sY K tl) g tB D σ H:=by
 refine htl _ λ d H1 p1=>?_
 obtain ⟨xs,hq,Pv,hp0,hl,hs,hd⟩:=h d H1 p1
 refine ⟨⟨xs,hq⟩,λ i m σ' H'=>m=xs.length - i/\i<=xs.length/\Pv i σ' H',⟨_,rfl,AV _,hp0⟩,?_⟩
 rintro i m σ' H' ⟨rfl,hi,pv⟩
 have hS:=hl i σ' H' pv
 by_cases hlt:i<xs.length
 ·refine .inr ⟨⟨xs,xs[i],hS,y7 hlt⟩,Pv (i+1),λ σ2 H2 p2=>⟨xs.length - (i+1),by lia,rfl,hlt,p2⟩,?_⟩
  rintro x H2 ⟨t,w,rfl,ht,rfl,hx⟩
  exact hs i w σ' H' t (hx xs hS) pv ht
 ·have e:i=xs.length:=by lia
  subst e
  exact .inl ⟨⟨xs,hS,AU _⟩,hd σ' H' pv⟩
theorem lJ {d:Addr}{xs:List V}{lo hi:Option Int}{tl' th:TO}(ha:Ev ta σ H (.ref d)) (hl:∀Q:Option Int->Hp->Prop,Q lo H->tl' σ H Q) (hh:∀Q:Option Int->Hp->Prop,Q hi H->th σ H Q) (hx:SqL K H d xs) (q:∀p,H p=none->Q (.ref p) (upd H p (.lst (cutV xs lo hi)))):cSl K ta tl' th σ H Q:=ha _ (hl _ (hh _ ⟨xs,hx,q⟩))
theorem j7 {ns:List Int}{i:Int}(h0:0<=i) (h1:i<ns.length):∃n:Int,atI (ns.map V.int) i=some (.int n)/\n∈ns:=by
 have hlt:i.toNat<ns.length:=by lia
 have e:(ns.map V.int)[i.toNat]? =some (.int ns[i.toNat]):=by rw [y8,y7 hlt]; rfl
 have q:=bz e
 have ei:((i.toNat:Nat):Int)=i:=by lia
 rw [ei] at q
 exact ⟨_,q,zp hlt⟩
theorem pickV {xs:List V}{i:Int}(h0:0<=i) (h1:i<xs.length):∃v,atI xs i=some v/\v∈xs:=by
 have hlt:i.toNat<xs.length:=by lia
 have q:=bz (y7 hlt)
 have ei:((i.toNat:Nat):Int)=i:=by lia
 rw [ei] at q
 exact ⟨_,q,zp hlt⟩
theorem gpair {i j:Nat}{d:Addr}{a b:V}{R:St->Hp->Prop}(h:H d=some (.tup [a,b])) (q:R ((σ.set i (some a)).set j (some b)) H):yb K 2 (jt (gName i) (jt (gName j) gNil)) (.ref d) σ H R:=⟨d,_,rfl,SqT.of h,rfl,_,_,rfl,_,_,rfl,rfl,q⟩
theorem gtrip {i j l:Nat}{d:Addr}{a b c:V}{R:St->Hp->Prop}(h:H d=some (.tup [a,b,c])) (q:R (((σ.set i (some a)).set j (some b)).set l (some c)) H):yb K 3 (jt (gName i) (jt (gName j) (jt (gName l) gNil))) (.ref d) σ H R:=⟨d,_,rfl,SqT.of h,rfl,_,_,rfl,_,_,rfl,_,_,rfl,rfl,q⟩
theorem asgc_k (h:Av t σ H vs) (q:sp vs H (λ x H1=>g x σ H1 D.nx) E0):tAsg (dq sp t) g D σ H:=h _ q
theorem yD {xs:List V}{lo hi:Option Int}{v:V}(h:v∈cutV xs lo hi):v∈xs:=AJ (zU h)
end
theorem xv:∀(n:Nat) (l:List Int),l.length<n->∃s:Nat,s<n/\¬((s:Int)∈l)
 | 0,l,h=>by lia
 | n+1,l,h=>by
   by_cases m:((n:Nat):Int)∈l
   ·have hl:=Az m
    have hp:=Aj m
    obtain ⟨s,h1,h2⟩:=xv n (l.erase ((n:Nat):Int)) (by lia)
    refine ⟨s,by lia,λ z=>h2 ?_⟩
    exact (AA (by lia)).mpr z
   ·exact ⟨n,by lia,m⟩
def dS (wi hi:Int) (hs:List Int):List Int:=((List.range (wi*hi).toNat).map λ (i:Nat)=>(i:Int)).filter λ i=> !decide (i∈hs)
theorem yg {wi hi:Int}{hs:List Int}{s:Int}(h:s∈dS wi hi hs):0<=s/\s<wi*hi/\¬s∈hs:=by
 unfold dS at h
 rw [zy] at h
 obtain ⟨h1,h2⟩:=h
 obtain ⟨i,hi,rfl⟩:=y4.mp h1
 have hi:=zc.mp hi
 refine ⟨by lia,by lia,?_⟩
 intro z
 rw [decide_eq_true z] at h2
 cases h2
theorem uO {wi hi:Int}{hs:List Int}(h:(hs.length:Int)<wi*hi):0<(dS wi hi hs).length:=by
 obtain ⟨s,h1,h2⟩:=xv (wi*hi).toNat hs (by lia)
 refine Aj (a:=(s:Int)) ?_
 unfold dS
 rw [zy]
 refine ⟨y4.mpr ⟨s,zc.mpr h1,rfl⟩,?_⟩
 rw [decide_eq_false h2]
 rfl
def yf (hs:List Int):V->Bool
 | .int i=> !decide (i∈hs)
 | _=>false
theorem rE {wi hi:Int}{hs:List Int}:(((List.range (wi*hi).toNat).map λ (i:Nat)=>V.int (0+(i:Int))).filter (yf hs)).map (λ v=>v)=(dS wi hi hs).map V.int:=by
 unfold dS
 rw [List.map_id',zV,zV,zk]
 have e:(yf hs∘λ (i:Nat)=>V.int (0+(i:Int)))=((λ i=> !decide (i∈hs))∘λ (i:Nat)=>(i:Int)):=by
  funext i
  show (!decide (0+(i:Int)∈hs))= !decide ((i:Int)∈hs)
  rw [Bj]
 rw [e]
 refine zH λ i _=>?_
 show V.int (0+(i:Int))=V.int (i:Int)
 rw [Bj]
def cellAt (ns:List Int) (k:Int):Int:=ns.getD k.toNat 0
def mixed (c k:Int):Int:=(c+7919*k+3)*48271 % 2147483647
def h9 (b s:Int) (n:Nat):List Nat:=(List.range n).map λ (k:Nat)=>97+((b+s*(k:Int)) % 26).toNat
theorem rp {b s:Int}{n:Nat}:∀c∈h9 b s n,Ltr c:=by
 intro c hc
 obtain ⟨k,_,rfl⟩:=y4.mp hc
 unfold Ltr
 lia
theorem uG {b s:Int}{n:Nat}(hn:n<=6) (hs:s∈([1,3,5,7,9,11]:List Int)):(h9 b s n).Nodup:=by
 unfold h9
 rw [zC,zv]
 refine List.Pairwise.imp_of_mem ?_ (zC.mp Ak)
 intro i j hi hj ne e
 have hi:=zc.mp hi
 have hj:=zc.mp hj
 apply ne
 simp only [y6,zq,or_false] at hs
 rcases hs with rfl | rfl | rfl | rfl | rfl | rfl
 all_goals omega
def strV (c:Nat):V:=.str (one c)
def ii (K:Frag):Sp:=λ vs H Q _=> ∃(a:Addr) (ns:List Int) (k:Int),vs=[.ref a,.int k]/\SqL K H a (ns.map V.int)/\0<=k/\Q (.int (cellAt ns k)) H
def ms:Sp:=λ vs H Q _=> ∃c k:Int,vs=[.int c,.int k]/\Q (.int (mixed c k)) H
def oJ (K:Frag):Sp:=λ vs H Q _=> ∃(a:Addr) (ns:List Int),vs=[.ref a]/\SqL K H a (ns.map V.int)/\∀(t q:Addr) (wi hi:Int) (hs:List Int) (H':Hp),1<=wi->wi<=8->1<=hi->hi<=8->H' t=some (.tup [.int wi,.int hi,.ref q])->H' q=some (.lst (hs.map V.int))->(∀h∈hs,0<=h/\h<wi*hi)->hs.Nodup->(hs.length:Int)<wi*hi->hs.length<=2->H q=none->H t=none->ah H H'->Q (.ref t) H'
def oH:Sp:=λ vs H Q _=> ∃c:Int,vs=[.int c]/\∀(q:Addr) (ks:List Nat) (H':Hp),H q=none->H' q=some (.lst (ks.map strV))->(∀k∈ks,Ltr k)->ks.Nodup->1<=ks.length->ks.length<=6->ah H H'->Q (.ref q) H'
structure LG1 (P:Program) (w:World) (K:Frag) (mg:Str->Option Value) (base:Heap):Prop where
 _law_cell_at:Cal P w K mg base "_law_cell_at" ["_law_script","_law_k"] 1 (ii K)
 _law_mixed:Cal P w K mg base "_law_mixed" ["_law_cell","_law_k"] 1 ms
end L2
namespace L2
open PySem PySem.Spec PyProof.Rows
section
variable {κ:Type} [DecidableEq κ]
def ddp (l:List κ) (x:κ):List κ:=if x∈l then l else l++[x]
def bE (val:Nat->κ):Nat->List κ
 | 0=>[]
 | i+1=>ddp (bE val i) (val i)
theorem ix (val:Nat->κ):∀i,(bE val i).length<=i
 | 0=>AU 0
 | i+1=>by
   have ih:=ix val i
   show (ddp (bE val i) (val i)).length<=i+1
   unfold ddp
   by_cases h:val i∈bE val i
   ·rw [if_pos h]; lia
   ·rw [if_neg h,zm]; show _+1<=_; lia
theorem ko (val:Nat->κ) (x:κ):∀i,x∈bE val i<->x∈(List.range i).map val
 | 0=>by simp [bE]
 | i+1=>by
   have ih:=ko val x i
   show x∈ddp (bE val i) (val i)<->_
   rw [zS,zn,zj,<-ih]
   unfold ddp
   by_cases h:val i∈bE val i
   ·rw [if_pos h]
    constructor
    ·exact λ z=>.inl z
    ·rintro (z | z)
     ·exact z
     ·have:x=val i:=by simpa using z
      rw [this]; exact h
   ·rw [if_neg h,zj]
    simp
theorem kn (val:Nat->κ):∀i,(bE val i).length=i<->((List.range i).map val).Nodup
 | 0=>by simp [bE]
 | i+1=>by
   have ih:=kn val i
   have hle:=ix val i
   have hm:=ko val (val i) i
   show (ddp (bE val i) (val i)).length=i+1<->_
   rw [zS,zn,zZ]
   unfold ddp
   by_cases h:val i∈bE val i
   ·rw [if_pos h]
    constructor
    ·intro z; lia
    ·intro z
     exact absurd rfl (z.2.2 (val i) (hm.mp h) (val i) (by simp))
   ·rw [if_neg h,zm]
    constructor
    ·intro z
     have z:(bE val i).length+1=i+1:=z
     refine ⟨ih.mp (by lia),by simp,λ a ha b hb e=>h (hm.mpr ?_)⟩
     have:b=val i:=by simpa using hb
     rw [<-this,<-e]; exact ha
    ·intro z
     rw [ih.mpr z.1]
     rfl
end
section
variable {prog:Program}{w:World}{A:Around}{R:Result->Shared->Prop}{I:Addr}{fp wr:List Addr}{G:Array GenState->Array GenState->Prop}{n:Nat}{Pt:Nat->Value->Prop}{St:Nat->Shared->Prop}{κ:Type} [DecidableEq κ] {knd:KeyKind prog w κ}
theorem wY (W:WalksS prog w A.in1 I fp wr G n Pt St) (D:Addr) (hD:D∉fp) (val:Nat->κ) (hv:∀i v,Pt i v->knd.is (val i) v=true/\v.scannable=true) (hb:n+1<scanBound):
  ∀(k i:Nat) (s:Shared),n - i=k->i<=n->St i s->s.heap.SetOf knd D (λ x=>decide (x∈bE val i)) (bE val i).length->
   (∀s2,Moved (D::wr) G s s2->s2.heap.SetOf knd D (λ x=>decide (x∈bE val n)) (bE val n).length->R (.ok (.ret .none)) s2)->codeAny (model prog w) A (.builtin "set.update.loop" ⟨[.ref D,.ref I],[]⟩) R s:=by
 have nW:D∉wr:=λ z=>hD (W.sub _ z)
 have up:∀b∈wr,b∈D::wr:=λ b z=>zg _ z
 have mv:∀{s s2:Shared} {S:κ->Bool} {m:Nat},Moved wr G s s2->s.heap.SetOf knd D S m->s2.heap.SetOf knd D S m:=λ {s s2 S m} hm ⟨o,es,ep,t,ho,r⟩=>⟨o,es,ep,t,hm.heap D _ nW ho,r⟩
 intro k
 induction k with
 | zero=>
   intro i s e1 e2 st hS hR
   have e3:i=n:=by lia
   subst e3
   refine codeAny_builtin F.entry_set_update_loop ?_
   rw [Around.under_plainId F.plain_set_update_loop _]
   show wpAny _ A.in1 (pyNext (.ref I) >>= _) _ _ s
   refine wpAny_bind (W.done s _ _ st λ s2 hm=>?_)
   show wpAny _ A.in1 (ret Value.none) _ _ s2
   exact wpAny_pure (hR s2 (hm.mono up) (mv hm hS))
 | succ k ih=>
   intro i s e1 e2 st hS hR
   have e3:i<n:=by lia
   refine codeAny_builtin F.entry_set_update_loop ?_
   rw [Around.under_plainId F.plain_set_update_loop _]
   show wpAny _ A.in1 (pyNext (.ref I) >>= _) _ _ s
   refine wpAny_bind (W.item i s _ _ e3 st λ v s2 hp st2 hm=>?_)
   obtain ⟨kv,sv⟩:=hv i v hp
   have hS2:=mv hm hS
   show wpAny _ A.in1 (holding [v] (setAdd D v) >>= _) _ _ s2
   refine wpAny_bind (wpAny_holding ?_)
   unfold setAdd
   refine wpAny_holding (wpAny_bind (knd.pyHash (k:=val i) kv ?_))
   have room:(bE val i).length+1<scanBound:=by have:=ix val i; lia
   refine wpAny_setAddHashed_of (knd:=knd) (s:={s2 with toks:=s2.toks+1}) kv sv hS2 room λ h2 sb hS3=>?_
   have hS4:h2.SetOf knd D (λ x=>decide (x∈bE val (i+1))) (bE val (i+1)).length:=by
    refine SetOf_congr hS3 (λ x=>?_) ?_
    ·show (decide (x∈bE val i)||decide (x=val i))=decide (x∈ddp (bE val i) (val i))
     unfold ddp
     by_cases m:val i∈bE val i
     ·rw [if_pos m]
      by_cases e:x=val i
      ·subst e; rw [decide_eq_true m]; simp
      ·rw [decide_eq_false e,Bz]
     ·rw [if_neg m,Bw]
      simp
    ·show (if decide (val i∈bE val i)=true then _ else _)=(ddp (bE val i) (val i)).length
     unfold ddp
     by_cases m:val i∈bE val i
     ·rw [if_pos (decide_eq_true m),if_pos m]
     ·rw [if_neg (by rw [decide_eq_false m]; decide),if_neg m,zm]; rfl
   refine wpAny_pure ⟨plainId_quiet F.plain_set_update_loop _,ih (i+1) _ (by lia) e3 (W.frame _ s2 _ _ st2 (AZ _) λ b hb o e=>?_) hS4 λ s3 hm3 hS5=>?_⟩
   ·exact (sb.2 b (λ z:b=D=>hD (z▸hb))).trans e
   ·refine hR s3 (Moved.trans W.gtrans ((hm.mono up).then_heap (AZ _) λ b o hb e=>?_) hm3) hS5
    exact (sb.2 b (λ z:b=D=>hb (by rw [z]; exact zi))).trans e
end
section
variable {prog:Program}{w:World}{A:Around}{E:Value->Shared->Prop}{s:Shared}{κ:Type} [DecidableEq κ] {knd:KeyKind prog w κ}
abbrev ca (led:Bool):Obj:={cls:=.type "set",dict:=none,data:=.set #[] 0 (.fresh 0 0 led)}
theorem wW {l:Addr}{its:Array Value}{Q:Value->Shared->Prop}(val:Nat->κ) (hh:A.handled=none) (hl:s.heap.IsList l its) (hv:∀i v,its[i]? =some v->knd.is (val i) v=true/\v.scannable=true) (hb:its.size+1<scanBound)
  (k:∀(h2:Heap) (tk:Nat),h2.SetOf knd s.heap.objs.size (λ x=>decide (x∈bE val its.size)) (bE val its.size).length->(∀b o,b<s.heap.objs.size->s.heap.get? b=some o->h2.get? b=some o)->Q (.ref s.heap.objs.size) {s with heap:=h2,toks:=tk}):
  wpAny (model prog w) A (call (.type "set") [.ref l]) Q E s:=by
 obtain ⟨c0,tl0,hmro⟩:=F.called_set.mro
 have hmade:=F.called_set.made
 have hsub:=F.called_set.sub
 have n1:=F.called_set.notType
 have n2:=F.called_set.canCreate
 have n3:=F.typeCall_set_1 (.ref l)
 refine wpAny_call (codeAny_of_tree ?_)
 show wpAny _ _ (callAny (.type "set") _) _ _ _
 refine wpAny_pure ⟨Code.quiet_builtin _ (by decide+kernel),codeAny_builtin F.entry_type_call ?_⟩
 rw [Around.under_plain (weight_type_call_type "set" [.ref l] []) rfl]
 repeat (any_goals (first | assumption | wp_step))
 refine codeAny_mono (code_set_new_1 (.ref l) (E:=E) (Q₁:=λ o s1=> ∃led:Bool,o=.ref s.heap.objs.size/\s1={s with heap:=s.heap.push (ca led)}) λ led=>⟨led,rfl,rfl⟩) λ r s1 hr=>?_
 cases r with
 | error e=>exact hr
 | ok fl=>
   cases fl with
   | ret ob=>
     obtain ⟨led,rfl,rfl⟩:=hr
     have g0:(s.heap.push (ca led)).get? s.heap.objs.size=some (ca led):=Heap.get?_push_size _ rfl
     have ty:Shared.TypeIs {s with heap:=s.heap.push (ca led)} (.ref s.heap.objs.size) "set":=⟨_,g0,rfl⟩
     have m1:=F.called_set.init.lookup
     have m2:=F.called_set.init.bind (.ref s.heap.objs.size)
     repeat (any_goals (first | assumption | wp_step))
     refine codeAny_mono (codeAny_call_builtin (R:=wants (λ r s2=>r=.none/\∃h2 tk,s2={s with heap:=h2,toks:=tk}/\h2.SetOf knd s.heap.objs.size (λ x=>decide (x∈bE val its.size)) (bE val its.size).length/\
       (∀b o,b<s.heap.objs.size->s.heap.get? b=some o->h2.get? b=some o)) E) F.called_set.init.plain F.entry_set_init (check_set_init_1 ty ?_)) λ r2 s2 hr2=>?_
     ·obtain ⟨⟨oc,od,oda,osl⟩,ho,hc,nl,hd⟩:=hl
      simp only at hc hd
      subst hc; subst hd
      have hol:(s.heap.push (ca led)).get? l=some {cls:=.type "list",dict:=od,data:=.seq its nl,slots:=osl}:=Heap.get?_push_of_some _ ho
      have b1:=F.sub_list_set
      have b2:=F.sub_list_frozenset
      have b3:(Value.type "list" == Value.type "dict")=false:=by decide
      have hl1:(s.heap.push (ca led)).IsList l its:=⟨_,hol,rfl,nl,rfl⟩
      unfold Builtin.«set.__init__» noKeywords Builtin.Frozenset.updateFrom
      generalize hPI:pyIter=PI
      wp_walk
      subst hPI
      refine wpAny_pyIter_list hl1 (wpAny_bind (wpAny_runValue ?_))
      have hlt:l<s.heap.objs.size:=Heap.lt_size ho
      have h3:A.in1.in1.in1.handled=none:=by simp [hh]
      have sz:(s.heap.push (ca led)).objs.size=s.heap.objs.size+1:=Heap.size_push ..
      have ne1:l≠(s.heap.push (ca led)).objs.size:=by rw [sz]; exact AW (A3 hlt)
      have ne2:s.heap.objs.size∉[(s.heap.push (ca led)).objs.size,l]:=by
       rw [sz]
       intro z
       rcases y6.mp z with z | z
       ·exact A7 _ z.symm
       ·exact A1 hlt (zh.mp z)
      refine wY (knd:=knd) ((Walks.list h3 _ l ne1 its).toS) s.heap.objs.size ne2 val hv hb (its.size - 0) 0 _ (by lia) (AV _) ⟨⟨_,Heap.get?_push_size _ rfl,rfl,rfl⟩,(hl1.push _)⟩ ?_ (λ s3 hm hS3=>?_)
      ·refine SetOf_congr ((setObjOf_fresh (knd:=knd) led).setOf (Heap.get?_push_of_some _ g0) (by unfold scanBound; lia)) (λ x=>?_) rfl
       show false=decide (x∈([]:List κ))
       simp
      ·obtain ⟨hh3,gg3,dd3,tk3,os3⟩:=s3
       obtain rfl:gg3=s.gens:=hm.gens
       obtain rfl:dd3=s.drawn:=hm.drawn
       obtain rfl:os3=s.os:=hm.os
       show wpAny _ _ _ _ _ _
       refine wpAny_pure ?_
       show wpAny _ _ (ret Value.none) _ _ _
       refine wpAny_pure ⟨rfl,hh3,tk3,rfl,hS3,λ b o hb2 e=>?_⟩
       refine hm.heap b o ?_ (Heap.get?_push_of_some _ (Heap.get?_push_of_some _ e))
       rw [sz]
       intro z
       rcases y6.mp z with z | z
       ·exact AW hb2 z
       ·exact AW (A3 hb2) (zh.mp z)
     ·cases r2 with
      | error e=>exact hr2
      | ok fl2=>
        cases fl2 with
        | ret r3=>
          obtain ⟨rfl,h2,tk,rfl,hS2,kp⟩:=hr2
          repeat (any_goals (first | assumption | wp_step))
          exact k _ _ hS2 kp
        | _=>exact hr2.elim
   | _=>exact hr.elim
end
def jl (ss:List Str):List Str:=bE (λ i=>ss.getD i Str.empty) ss.length
theorem gM (ss:List Str):(jl ss).length=ss.length<->ss.Nodup:=by
 unfold jl
 rw [kn]
 have e:(List.range ss.length).map (λ i=>ss.getD i Str.empty)=ss:=by
  apply zR
  intro i
  rw [y8]
  by_cases h:i<ss.length
  ·rw [zJ h,y7 h]
   show some (ss.getD i Str.empty)=_
   rw [zb,y7 h]
   rfl
  ·rw [zE (by rw [zI]; lia),zE (by lia)]
   rfl
 rw [e]
section
variable {X:Cx}
def sB (K:Frag) (xs:List V) (H:Hp) (Q:VK):Prop:=match xs with
 | [.ref d]=> ∃ss:List Str,SqL K H d (ss.map V.str)/\ss.length+1<scanBound/\∀q φ,H q=none->(∀h:Heap,φ h->∃(o:Obj) (es:Array (Int×Value)) (ep:Nat) (t:SetTable),h.get? q=some o/\o.ExactSet/\o.data=.set es ep t/\t.fits es.size=true/\es.size=(jl ss).length)->Q (.ref q) (upd H q (.ext φ))
 | _=>False
theorem rN (hh:X.A.handled=none):bb X (.type "set") (sB X.K):=by
 intro pins s σ H xs us Q I r h
 unfold sB at h
 split at h
 ·rename_i d
  obtain ⟨ss,hq,hb,q⟩:=h
  obtain ⟨u,rfl,rx⟩:=dv r
  cases rx
  obtain ⟨its,r',pl,hz⟩:=I.list hq
  have hlen:=r'.length
  rw [y3] at hlen
  have hs:its.toArray.size=ss.length:=by rw [y9,<-hlen]
  refine wW (knd:=PySem.strKind X.prog X.w) (λ i=>ss.getD i Str.empty) hh pl.isList (λ i v hv=>?_) (by rw [hs]; exact hb) λ h2 tk hS kp=>?_
  ·rw [Ax] at hv
   have hi:i<its.length:=(zo.mp hv).1
   have hx:(ss.map V.str)[i]? =some (.str (ss.getD i Str.empty)):=by
    rw [y8,zb,y7 (by lia)]
    rfl
   obtain ⟨u,hu,ru⟩:=r'.get hx
   rw [hv] at hu
   cases hu
   obtain ⟨t,rfl⟩:=ru
   exact ⟨by simp [PySem.strKind,Value.isStrOf],rfl⟩
  ·rw [hs] at hS
   have k2:∀b u,s.heap.get? b=some u->h2.get? b=some u:=λ b u e=>kp b u (Heap.lt_size e) e
   obtain ⟨o,es,ep,t,h1,h2',h3,_,_,h6,h7,h8⟩:=hS
   refine ⟨.ref s.heap.objs.size,upd H s.heap.objs.size (.ext λ h=>h.get? s.heap.objs.size=some o),I.laid (t':=tk) k2 (AU _) ?_,rfl,q _ _ (I.hok.fresh (AU _)) λ h e=>⟨o,es,ep,t,e,h2',h3,h7,h8⟩⟩
   exact ⟨h1,⟨o,h1⟩,λ h1 h2 e k=>k o e⟩
 ·exact h.elim
def xO (xs:List V) (H:Hp) (Q:VK):Prop:=match xs with
 | [.ref d]=> ∃(φ:Heap->Prop) (n:Nat),H d=some (.ext φ)/\n<=1000/\(∀h:Heap,φ h->∃(o:Obj) (es:Array (Int×Value)) (ep:Nat) (t:SetTable),h.get? d=some o/\o.ExactSet/\o.data=.set es ep t/\t.fits es.size=true/\es.size=n)/\Q (.int n) H
 | _=>False
theorem kN:bb X (.builtin "len") xO:=by
 intro pins s σ H xs us Q I r h
 unfold xO at h
 split at h
 ·rename_i d
  obtain ⟨φ,n,hd,hn,hφ,q⟩:=h
  obtain ⟨u,rfl,rx⟩:=dv r
  cases rx
  obtain ⟨p,_,_⟩:=(show bH X.prog X.w H s.heap d (.ext φ) from I.hok d _ hd)
  obtain ⟨o,es,ep,t,h1,h2,h3,h4,h5⟩:=hφ _ p
  subst h5
  exact PySem.call_len_set h1 h2 h3 h4 (by lia) ⟨.int es.size,H,I.tok _,⟨_,rfl⟩,q⟩
 ·exact h.elim
theorem ksetS (K:Frag) {j:Nat}(hr:cT j X.A) (hK:X.K=K:=by rfl):bb X (.type "set") (sB K):=by
 subst hK; exact rN hr.hd
end
theorem pL {K:Frag}{σ:St}{H:Hp}{Q:VK}{te:TE}{d:Addr}{ss:List Str}(h:Ev te σ H (.ref d)) (hd:SqL K H d (ss.map V.str)) (hl:ss.length<=1000) (q:∀H',ah H H'->Q (.int (jl ss).length) H'):cB xO (bh (cB (sB K) (bh te cO)) cO) σ H Q:=
 h _ ⟨ss,hd,by show ss.length+1<4096; lia,λ p φ hp hφ=>⟨φ,_,af,AX (ix _ _) hl,hφ,q _ ((ah.refl H).upd hp)⟩⟩
end L2
namespace L2
open PySem PySem.Spec PyProof.Rows
section
variable {X:Cx}
theorem uh (ks:List Bool):(List.range ks.length).any (λ i=>ks.getD i false)=ks.any id:=by
 rw [Bw,zF,zF]
 constructor
 ·rintro ⟨i,hi,e⟩
  have hi:=zc.mp hi
  rw [zb,y7 hi] at e
  exact ⟨_,zp hi,e⟩
 ·rintro ⟨b,hb,e⟩
  obtain ⟨i,hi,e2⟩:=AI.mp hb
  refine ⟨i,zc.mpr hi,?_⟩
  rw [zb,y7 hi,e2]
  exact e
def anyA (K:Frag) (xs:List V) (H:Hp) (Q:VK):Prop:=match xs with
 | [.ref d]=> ∃ks:List Bool,SqL K H d (ks.map V.bl)/\Q (.bl (ks.any id)) H
 | _=>False
theorem uY (hc:X.calm=true):bb X (.builtin "any") (anyA X.K):=by
 intro pins s σ H xs us Q I r h
 unfold anyA at h
 split at h
 ·rename_i p
  obtain ⟨ks,hp,q⟩:=h
  obtain ⟨u,rfl,ru⟩:=dv r
  cases ru
  obtain ⟨its,rv,pl,hl⟩:=I.list hp
  have hlen:=rv.length
  rw [y3] at hlen
  refine call_any_walk (wpAny_pyIter_list pl.isList ?_)
  have hne:p≠s.heap.objs.size:=by
   obtain ⟨o,ho,_⟩:=pl.isList
   exact AW (Heap.lt_size ho)
  have W:=Walks.list (prog:=X.prog) (w:=X.w) (A:=X.A.in1) (show X.A.in1.handled=none from I.ok.hd hc) s.heap.objs.size p hne its.toArray
  have hpush:∀o b ob,s.heap.get? b=some ob->(s.heap.push o).get? b=some ob:=λ o b ob e=>Heap.get?_push_of_some _ e
  refine ⟨_,_,_,_,_,_,λ i=>ks.getD i false,rfl,W,⟨⟨_,Heap.get?_push_size _ rfl,rfl,rfl⟩,pl.isList.at λ o e=>hpush _ _ o e⟩,ou rv,λ h' tk k=>?_⟩
  have e:(List.range its.toArray.size).any (λ i=>ks.getD i false)=ks.any id:=by
   rw [<-uh,y9,<-hlen]
  rw [e]
  refine ⟨.bl _,H,I.kept (t':=tk) (h':=h') λ b ob e=>k b ob ?_ (hpush _ b ob e),rfl,q⟩
  intro hb
  have:b=s.heap.objs.size:=by simpa using hb
  subst this
  exact absurd (Heap.lt_size e) (A0 _)
 ·exact h.elim
theorem kany (K:Frag) (hc:X.calm=true:=by rfl) (hK:X.K=K:=by rfl):bb X (.builtin "any") (anyA K):=by
 subst hK; exact uY hc
end
def Thg (H:Hp):V->Prop
 | .non=>True
 | .bl _=>True
 | .int _=>True
 | .str z=>z.length<=1000
 | .ref a=>(∃xs,H a=some (.lst xs))\/(∃xs,H a=some (.tup xs))\/(∃kvs,H a=some (.dK kvs))
 | _=>False
def kA (T:BT) (H:Hp):V->Bool
 | .bl _=>cA .bool T
 | .int _=>cA .int T
 | .str _=>cA .str T
 | .ref a=>match H a with
   | some (.lst _)=>cA .list T
   | some (.tup _)=>cA .tuple T
   | some (.dK _)=>cA .dict T
   | _=>false
 | _=>false
def tupOf (H:Hp):V->Option (List V)
 | .ref a=>match H a with
   | some (.tup xs)=>some xs
   | _=>none
 | _=>none
def lstOf (H:Hp):V->Option (List V)
 | .ref a=>match H a with
   | some (.lst xs)=>some xs
   | _=>none
 | _=>none
def dY (H:Hp):Nat->V->Prop
 | 0,v=>Thg H v
 | n+1,v=>Thg H v/\∀xs,(tupOf H v=some xs\/lstOf H v=some xs)->∀x∈xs,dY H n x
theorem dY.thg {H:Hp}{n:Nat}{v:V}(h:dY H n v):Thg H v:=by
 cases n with
 | zero=>exact h
 | succ n=>exact h.1
def wC:V->Bool
 | .int _=>true
 | _=>false
def amongB (v:V) (a b:Int):Bool:=match v with
 | .int i=>decide (a<=i/\i<=b)
 | _=>false
def wordB (v:V) (ws:List Str):Bool:=match v with
 | .str z=>decide (z∈ws)
 | _=>false
section
variable {K:Frag}{σ:St}{H H':Hp}{te ta tb:TE}{v:V}{T:BT}{ws:List Str}
theorem Thg.same (h:Thg H v) (s:ah H H'):Thg H' v:=by
 cases v with
 | ref a=>
   rcases h with ⟨xs,e⟩ | ⟨xs,e⟩ | ⟨xs,e⟩
   ·exact .inl ⟨xs,s _ _ e⟩
   ·exact .inr (.inl ⟨xs,s _ _ e⟩)
   ·exact .inr (.inr ⟨xs,s _ _ e⟩)
 | _=>exact h
theorem eF (h:Thg H v) (s:ah H H'):tupOf H' v=tupOf H v:=by
 cases v with
 | ref a=>
   rcases h with ⟨xs,e⟩ | ⟨xs,e⟩ | ⟨xs,e⟩<;>simp only [tupOf,e,s _ _ e]
 | _=>rfl
theorem fQ (h:Thg H v) (s:ah H H'):lstOf H' v=lstOf H v:=by
 cases v with
 | ref a=>
   rcases h with ⟨xs,e⟩ | ⟨xs,e⟩ | ⟨xs,e⟩<;>simp only [lstOf,e,s _ _ e]
 | _=>rfl
theorem dY.same {n:Nat}:∀{v:V},dY H n v->ah H H'->dY H' n v:=by
 induction n with
 | zero=>intro v h s; exact Thg.same h s
 | succ n ih=>
   intro v h s
   refine ⟨h.1.same s,λ xs hx x hm=>ih (h.2 xs ?_ x hm) s⟩
   rw [eF h.1 s,fQ h.1 s] at hx
   exact hx
theorem fI {xs:List V}(h:tupOf H v=some xs):∃a,v=.ref a/\H a=some (.tup xs):=by
 cases v with
 | ref a=>
   simp only [tupOf] at h
   split at h
   ·rename_i e; cases h; exact ⟨a,rfl,e⟩
   ·cases h
 | _=>cases h
theorem eM {xs:List V}(h:lstOf H v=some xs):∃a,v=.ref a/\H a=some (.lst xs):=by
 cases v with
 | ref a=>
   simp only [lstOf] at h
   split at h
   ·rename_i e; cases h; exact ⟨a,rfl,e⟩
   ·cases h
 | _=>cases h
theorem lW (h:Ev te σ H v) (t:Thg H v):Ev (cIs T te) σ H (.bl (kA T H v)):=λ Q q=>h _ (by
 cases v with
 | ref a=>
   rcases t with ⟨xs,e⟩ | ⟨xs,e⟩ | ⟨xs,e⟩<;>(simp only [isA,e]; simp only [kA,e] at q; exact q)
 | non=>exact q
 | bl b=>exact q
 | int b=>exact q
 | str b=>exact q
 | _=>exact t.elim)
theorem wB (t:Thg H v):(kA .int H v&& !kA .bool H v)=wC v:=by
 cases v with
 | ref a=>rcases t with ⟨xs,e⟩ | ⟨xs,e⟩ | ⟨xs,e⟩<;>(simp only [kA,e]; rfl)
 | non=>rfl
 | bl b=>rfl
 | int b=>rfl
 | str b=>rfl
 | _=>exact t.elim
theorem wM (t:Thg H v):kA .str H v=(match v with | .str _=>true | _=>false):=by
 cases v with
 | ref a=>rcases t with ⟨xs,e⟩ | ⟨xs,e⟩ | ⟨xs,e⟩<;>(simp only [kA,e]; rfl)
 | non=>rfl
 | bl b=>rfl
 | int b=>rfl
 | str b=>rfl
 | _=>exact t.elim
theorem tup_is (t:Thg H v):kA .tuple H v=(tupOf H v).isSome:=by
 cases v with
 | ref a=>rcases t with ⟨xs,e⟩ | ⟨xs,e⟩ | ⟨xs,e⟩<;>(simp only [kA,tupOf,e]; rfl)
 | non=>rfl
 | bl b=>rfl
 | int b=>rfl
 | str b=>rfl
 | _=>exact t.elim
theorem lst_is (t:Thg H v):kA .list H v=(lstOf H v).isSome:=by
 cases v with
 | ref a=>rcases t with ⟨xs,e⟩ | ⟨xs,e⟩ | ⟨xs,e⟩<;>(simp only [kA,lstOf,e]; rfl)
 | non=>rfl
 | bl b=>rfl
 | int b=>rfl
 | str b=>rfl
 | _=>exact t.elim
theorem xV (z:Str) (ws:List Str):inV (.str z) (ws.map V.str)=decide (z∈ws):=by
 unfold inV
 rw [Ah]
 by_cases h:z∈ws
 ·rw [decide_eq_true h]
  exact zF.mpr ⟨z,h,by simp [eqV]⟩
 ·rw [decide_eq_false h]
  apply zL.mpr
  intro y hy
  have:y≠z:=λ e=>h (e▸hy)
  simp [eqV,this]
theorem uP (ss:List Str):(ss.map V.str).all flatV=true:=zA.mpr λ x hx=>by
 obtain ⟨z,_,rfl⟩:=y4.mp hx
 rfl
theorem yo {z:Str}{p:Addr}(ha:Ev ta σ H (.str z)) (hb:Ev tb σ H (.ref p)) (h:SqL K H p (ws.map V.str)\/SqT K H p (ws.map V.str)):Ev (dn K .In ta tb) σ H (.bl (decide (z∈ws))):=λ Q q=>ha _ (hb _ (by
 show aL K .In (.str z) (.ref p) H Q
 rw [fN]
 refine ⟨p,_,rfl,h,rfl,uP ws,?_⟩
 rw [xV]
 exact q))
end
def sortsL:List Str:=["leap","slide","jump"]
def aimsL:List Str:=["go","hit","any"]
def gb:List Str:=["without","home"]
def gf:List Str:=["lost","even","won"]
def tupB (H:Hp) (v:V) (n:Int):Bool:=match tupOf H v with
 | some xs=>decide ((xs.length:Int)=n)
 | none=>false
def i6 (H:Hp) (v:V) (a b:Int):Bool:=match lstOf H v with
 | some xs=>decide (a<=(xs.length:Int)/\(xs.length:Int)<=b)
 | none=>false
def limS (so:Str):Int:=if so="leap" then 3 else 1
def jm (so:Str) (x y:V):Bool:=amongB x (-limS so) (limS so)&&amongB y (-limS so) (limS so)&& !(decide (x=.int 0)&&decide (y=.int 0))
def gZ (xs:List V) (ws:List Str):Bool:=match xs with
 | [k,.str so,.str ai,x,y]=>wordB k ws&&decide (so∈sortsL)&&decide (ai∈aimsL)&& !(decide (so="jump")&& !decide (ai="hit"))&&jm so x y
 | _=>false
def dh (H:Hp) (v:V) (ws:List Str):Bool:=match tupOf H v with
 | some xs=>gZ xs ws
 | none=>false
def pC (xs:List V) (A B:List Str):Bool:=match xs with
 | [a,b]=>wordB a A&&wordB b B
 | _=>false
def di (H:Hp) (v:V) (A B:List Str):Bool:=match tupOf H v with
 | some xs=>pC xs A B
 | none=>false
def pairsB (H:Hp) (v:V) (A B:List Str):Bool:=match lstOf H v with
 | some vs=>decide (vs.length<=6)&&vs.all (λ x=>di H x A B)
 | none=>false
def ci (H:Hp) (v:V):Str:=match tupOf H v with
 | some (.str a::_)=>a
 | _=>Str.empty
def fu (H:Hp) (v:V):Str:=match tupOf H v with
 | some (_:: .str b::_)=>b
 | _=>Str.empty
def eE (H:Hp) (v:V) (ws:List Str):Bool:=pairsB H v ws ws&&match lstOf H v with
 | some vs=> !(vs.any λ x=>decide (fu H x∈vs.map (ci H)))&&decide ((vs.map (ci H)).Nodup)
 | none=>false
def jT:Sp:=λ vs H Q _=> ∃v,vs=[v]/\Thg H v/\Q (.bl (wC v)) H
def jW:Sp:=λ vs H Q _=> ∃v a b,vs=[v,.int a,.int b]/\Thg H v/\Q (.bl (amongB v a b)) H
def gc (K:Frag) (H:Hp) (d:Addr) (ws:List Str):Prop:=SqL K H d (ws.map V.str)\/SqT K H d (ws.map V.str)
def gO (K:Frag):Sp:=λ vs H Q _=> ∃v d ws,vs=[v,.ref d]/\Thg H v/\gc K H d ws/\Q (.bl (wordB v ws)) H
def iO:Sp:=λ vs H Q _=> ∃v n,vs=[v,.int n]/\Thg H v/\Q (.bl (tupB H v n)) H
def mt:Sp:=λ vs H Q _=> ∃v a b,vs=[v,.int a,.int b]/\Thg H v/\Q (.bl (i6 H v a b)) H
def si:Sp:=λ vs H Q _=> ∃so x y,vs=[.str so,x,y]/\Thg H x/\Thg H y/\Q (.bl (jm so x y)) H
def sj (K:Frag):Sp:=λ vs H Q _=> ∃v d ws,vs=[v,.ref d]/\dY H 1 v/\gc K H d ws/\Q (.bl (dh H v ws)) H
def sk (K:Frag):Sp:=λ vs H Q _=> ∃v d e A B,vs=[v,.ref d,.ref e]/\dY H 1 v/\gc K H d A/\gc K H e B/\Q (.bl (di H v A B)) H
def oF (K:Frag):Sp:=λ vs H Q _=> ∃v d e A B,vs=[v,.ref d,.ref e]/\dY H 2 v/\gc K H d A/\gc K H e B/\∀H',ah H H'->Q (.bl (pairsB H v A B)) H'
def oB (K:Frag):Sp:=λ vs H Q _=> ∃v d ws,vs=[v,.ref d]/\dY H 2 v/\gc K H d ws/\∀H',ah H H'->Q (.bl (eE H v ws)) H'
def sA (K:Frag):Sp:=λ vs H Q _=> ∃v d ws,vs=[v,.ref d]/\dY H 2 v/\gc K H d ws/\∀H',ah H H'->Q (.bl (pairsB H v gb ws)) H'
theorem yW {σ:St}{H:Hp}{Q:VK}{ta tb:TE}{a:Bool}(ha:Ev ta σ H (.bl a)) (h1:a=true->tb σ H Q) (h2:a=false->Q (.bl false) H):ma ta tb σ H Q:=ha _ (by
 cases a with
 | true=>exact h1 rfl
 | false=>exact h2 rfl)
theorem yL {K:Frag}{σ:St}{H:Hp}{Q:VK}{ta tb:TE}{op:CmpOp}(h:ta σ H λ x H1=>tb σ H1 λ y H2=>aL K op x y H2 Q):dn K op ta tb σ H Q:=h
theorem uu {H:Hp}{v:V}{A B:List Str}(h:pairsB H v A B=true):∃xs,lstOf H v=some xs/\xs.length<=6/\∀x∈xs,∃c f1 f2,x=.ref c/\H c=some (.tup [.str f1,.str f2]):=by
 unfold pairsB at h
 cases e1:lstOf H v with
 | none=>rw [e1] at h; cases h
 | some xs=>
   rw [e1] at h
   have h:(decide (xs.length<=6)&&xs.all (λ x=>di H x A B))=true:=h
   rw [Bu] at h
   refine ⟨xs,rfl,of_decide_eq_true h.1,λ x hx=>?_⟩
   have hp:=zA.mp h.2 x hx
   unfold di at hp
   cases e2:tupOf H x with
   | none=>rw [e2] at hp; cases hp
   | some ys=>
     rw [e2] at hp
     obtain ⟨c,rfl,hc⟩:=fI e2
     have hp:pC ys A B=true:=hp
     match ys,hp,hc with
     | [a,b],hp,hc=>
       have hp:(wordB a A&&wordB b B)=true:=hp
       rw [Bu] at hp
       cases a with
       | str f1=>
         cases b with
         | str f2=>exact ⟨c,f1,f2,rfl,hc⟩
         | _=>cases hp.2
       | _=>cases hp.1
     | [],hp,_=>cases hp
     | [_],hp,_=>cases hp
     | _::_::_::_,hp,_=>cases hp
structure RG0 (P:Program) (w:World) (K:Frag) (mg:Str->Option Value) (base:Heap):Prop where
 is_whole:Cal P w K mg base "is_whole" ["thing"] 1 jT
structure RG1 (P:Program) (w:World) (K:Frag) (mg:Str->Option Value) (base:Heap):Prop where
 is_among:Cal P w K mg base "is_among" ["thing","least","most"] 2 jW
structure RG2 (P:Program) (w:World) (K:Frag) (mg:Str->Option Value) (base:Heap):Prop where
 is_word:Cal P w K mg base "is_word" ["thing","words"] 1 (gO K)
 is_tuple_of:Cal P w K mg base "is_tuple_of" ["thing","many"] 1 iO
structure RG3 (P:Program) (w:World) (K:Frag) (mg:Str->Option Value) (base:Heap):Prop extends RG2 P w K mg base where
 is_step:Cal P w K mg base "is_step" ["sort","across","up"] 3 si
structure RG4 (P:Program) (w:World) (K:Frag) (mg:Str->Option Value) (base:Heap):Prop where
 is_list_of:Cal P w K mg base "is_list_of" ["thing","least","most"] 1 mt
 is_pair:Cal P w K mg base "is_pair" ["thing","firsts","seconds"] 2 (sk K)
structure RG5 (P:Program) (w:World) (K:Frag) (mg:Str->Option Value) (base:Heap):Prop where
 are_pairs:Cal P w K mg base "are_pairs" ["thing","firsts","seconds"] 3 (oF K)
end L2
namespace L2
open PySem PySem.Spec PyProof.Rows
def letB:V->Bool
 | .str z=>match z.cps.toList with
   | [c]=>decide (97<=c/\c<=122)
   | _=>false
 | _=>false
def gh:V->Str
 | .str z=>z
 | _=>Str.empty
def kz (H:Hp) (v:V):Bool:=match lstOf H v with
 | some xs=>decide (1<=xs.length/\xs.length<=6)&&xs.all letB&&decide ((xs.map gh).Nodup)
 | none=>false
def dM (H:Hp) (v:V) (ws:List Str):Bool:=match lstOf H v with
 | some xs=>decide (xs.length<=24)&&xs.all (λ x=>dh H x ws)
 | none=>false
theorem str_a:("a":Str).cps.toList=[97]:=by decide+kernel
theorem str_z:("z":Str).cps.toList=[122]:=by decide+kernel
theorem lt_one {c d:Nat}:([c]<[d])<->c<d:=by
 constructor
 ·intro h
  cases h with
  | rel h=>exact h
  | cons h=>cases h
 ·intro h; exact List.Lex.rel h
theorem ev_cles {K:Frag}{σ:St}{H:Hp}{ta tb tc:TE}{x y z:Str}(ha:Ev ta σ H (.str x)) (hb:Ev tb σ H (.str y)) (hc:Ev tc σ H (.str z)):Ev (je K .LtE .LtE ta tb tc) σ H (.bl (!decide (y.cps.toList<x.cps.toList)&& !decide (z.cps.toList<y.cps.toList))):=λ Q q=>ha _ (hb _ (by
 show aL K .LtE (.str x) (.str y) H _
 rw [lM,r_b]
 cases h: !decide (y.cps.toList<x.cps.toList) with
 | true=>
   rw [h] at q
   exact hc _ q
 | false=>
   rw [h] at q
   exact q))
def lG:Sp:=λ vs H Q _=> ∃v,vs=[v]/\Thg H v/\Q (.bl (letB v)) H
def oK:Sp:=λ vs H Q _=> ∃v,vs=[v]/\dY H 1 v/\∀H',ah H H'->Q (.bl (kz H v)) H'
def oE (K:Frag):Sp:=λ vs H Q _=> ∃v d ws,vs=[v,.ref d]/\dY H 2 v/\gc K H d ws/\∀H',ah H H'->Q (.bl (dM H v ws)) H'
theorem xN {v:V}(h:letB v=true):∃c,v=.str (one c)/\Ltr c:=by
 cases v with
 | str z=>
   match e:z.cps.toList with
   | [c]=>
     simp only [letB,e] at h
     exact ⟨c,by rw [mq (x:=z) (y:=one c) (by rw [e])],of_decide_eq_true (p:=97<=c/\c<=122) h⟩
   | []=>simp only [letB,e] at h; cases h
   | _::_::_=>simp only [letB,e] at h; cases h
 | _=>cases h
structure GmC (K:Frag) (C:Addr):Prop where
 cl:Cls K C
 board:bX K C "board"
 kinds:bX K C "kinds"
 rules:bX K C "rules"
 turns:bX K C "turns"
 ends:bX K C "ends"
 stuck:bX K C "stuck"
def gf1 (b:Addr):List (Str×V):=putF "board" (.ref b) []
def gf2 (b k:Addr):List (Str×V):=putF "kinds" (.ref k) (gf1 b)
def gf3 (b k r:Addr):List (Str×V):=putF "rules" (.ref r) (gf2 b k)
def gf4 (b k r t:Addr):List (Str×V):=putF "turns" (.ref t) (gf3 b k r)
def gf5 (b k r t e:Addr):List (Str×V):=putF "ends" (.ref e) (gf4 b k r t)
def iE (b k r t e:Addr) (st:Str):List (Str×V):=putF "stuck" (.str st) (gf5 b k r t e)
section
variable {b k r t e:Addr}{st:Str}
theorem x9:(iE b k r t e st).lookup ("board":Str)=some (.ref b):=by
 unfold iE gf5 gf4 gf3 gf2 gf1
 rw [av,if_neg (by decide+kernel),av,if_neg (by decide+kernel),av,if_neg (by decide+kernel),av,if_neg (by decide+kernel),av,if_neg (by decide+kernel),av,if_pos rfl]
theorem x8:(iE b k r t e st).lookup ("kinds":Str)=some (.ref k):=by
 unfold iE gf5 gf4 gf3 gf2
 rw [av,if_neg (by decide+kernel),av,if_neg (by decide+kernel),av,if_neg (by decide+kernel),av,if_neg (by decide+kernel),av,if_pos rfl]
theorem x6:(iE b k r t e st).lookup ("rules":Str)=some (.ref r):=by
 unfold iE gf5 gf4 gf3
 rw [av,if_neg (by decide+kernel),av,if_neg (by decide+kernel),av,if_neg (by decide+kernel),av,if_pos rfl]
theorem gf_no {m:Str}(h1:¬m="board") (h2:¬m="kinds") (h3:¬m="rules") (h4:¬m="turns") (h5:¬m="ends") (h6:¬m="stuck"):(iE b k r t e st).lookup m=none:=by
 unfold iE gf5 gf4 gf3 gf2 gf1
 rw [av,if_neg h6,av,if_neg h5,av,if_neg h4,av,if_neg h3,av,if_neg h2,av,if_neg h1]
 rfl
theorem gf_len:(gf1 b).length<=1/\(gf2 b k).length<=2/\(gf3 b k r).length<=3/\(gf4 b k r t).length<=4/\(gf5 b k r t e).length<=5:=by
 have a1:(gf1 b).length<=1:=bD "board" (.ref b) []
 have a2:(gf2 b k).length<=(gf1 b).length+1:=bD "kinds" (.ref k) (gf1 b)
 have a3:(gf3 b k r).length<=(gf2 b k).length+1:=bD "rules" (.ref r) (gf2 b k)
 have a4:(gf4 b k r t).length<=(gf3 b k r).length+1:=bD "turns" (.ref t) (gf3 b k r)
 have a5:(gf5 b k r t e).length<=(gf4 b k r t).length+1:=bD "ends" (.ref e) (gf4 b k r t)
 lia
end
structure fV (C:Addr) (H:Hp) (p b:Addr) (ks rs ts es:List V) (st:Str):Prop where
 ex:∃dx kq rq tq eq,H p=some (.ins C dx (iE b kq rq tq eq st))/\H kq=some (.lst ks)/\H rq=some (.lst rs)/\H tq=some (.lst ts)/\H eq=some (.lst es)
section
variable {K:Frag}{C:Addr}{H H':Hp}{p b:Addr}{ks rs ts es:List V}{st:Str}
theorem fV.same (G:fV C H p b ks rs ts es st) (s:ah H H'):fV C H' p b ks rs ts es st:=by
 obtain ⟨dx,kq,rq,tq,eq,a,c,d,e,f⟩:=G.ex
 exact ⟨dx,kq,rq,tq,eq,s _ _ a,s _ _ c,s _ _ d,s _ _ e,s _ _ f⟩
theorem fV.board (G:fV C H p b ks rs ts es st) (D:GmC K C):Fl K H p "board" (.ref b):=by
 obtain ⟨dx,kq,rq,tq,eq,a,_⟩:=G.ex
 exact ⟨C,dx,_,a,D.cl,D.board,x9⟩
theorem fV.kinds (G:fV C H p b ks rs ts es st) (D:GmC K C):∃q,Fl K H p "kinds" (.ref q)/\H q=some (.lst ks):=by
 obtain ⟨dx,kq,rq,tq,eq,a,c,d,e,f⟩:=G.ex
 exact ⟨kq,⟨C,dx,_,a,D.cl,D.kinds,x8⟩,c⟩
theorem fV.rules (G:fV C H p b ks rs ts es st) (D:GmC K C):∃q,Fl K H p "rules" (.ref q)/\H q=some (.lst rs):=by
 obtain ⟨dx,kq,rq,tq,eq,a,c,d,e,f⟩:=G.ex
 exact ⟨rq,⟨C,dx,_,a,D.cl,D.rules,x6⟩,d⟩
theorem fV.no (G:fV C H p b ks rs ts es st) {m:Str}(h1:¬m="board":=by decide+kernel) (h2:¬m="kinds":=by decide+kernel) (h3:¬m="rules":=by decide+kernel) (h4:¬m="turns":=by decide+kernel) (h5:¬m="ends":=by decide+kernel) (h6:¬m="stuck":=by decide+kernel):tR C m H p:=by
 obtain ⟨dx,kq,rq,tq,eq,a,_⟩:=G.ex
 exact ⟨dx,_,a,gf_no h1 h2 h3 h4 h5 h6⟩
end
section
variable {H H':Hp}{v:V}{A B ws:List Str}
theorem qQ (t:Thg H v) (s:ah H H'):di H' v A B=di H v A B:=by unfold di; rw [eF t s]
theorem qL (t:Thg H v) (s:ah H H'):dh H' v ws=dh H v ws:=by unfold dh; rw [eF t s]
theorem uN (t:Thg H v) (s:ah H H'):ci H' v=ci H v:=by unfold ci; rw [eF t s]
theorem tX (t:Thg H v) (s:ah H H'):fu H' v=fu H v:=by unfold fu; rw [eF t s]
theorem qj {f g:V->Bool}{xs:List V}(h:∀x∈xs,f x=g x):xs.all f=xs.all g:=by
 induction xs with
 | nil=>rfl
 | cons a r ih=>rw [zD,zD,h a (by simp),ih λ x hx=>h x (by simp [hx])]
theorem yV {f g:V->Bool}{xs:List V}(h:∀x∈xs,f x=g x):xs.any f=xs.any g:=by
 induction xs with
 | nil=>rfl
 | cons a r ih=>rw [Ae,Ae,h a (by simp),ih λ x hx=>h x (by simp [hx])]
theorem jp (t:dY H 2 v) (s:ah H H'):pairsB H' v A B=pairsB H v A B:=by
 unfold pairsB
 rw [fQ t.1 s]
 cases e:lstOf H v with
 | none=>rfl
 | some xs=>
   show (_&&xs.all _)=(_&&xs.all _)
   rw [qj (g:=λ x=>di H x A B) λ x hx=>qQ (t.2 xs (.inr e) x hx).thg s]
theorem oS (t:dY H 2 v) (s:ah H H'):dM H' v ws=dM H v ws:=by
 unfold dM
 rw [fQ t.1 s]
 cases e:lstOf H v with
 | none=>rfl
 | some xs=>
   show (_&&xs.all _)=(_&&xs.all _)
   rw [qj (g:=λ x=>dh H x ws) λ x hx=>qL (t.2 xs (.inr e) x hx).thg s]
theorem oq (t:dY H 2 v) (s:ah H H'):eE H' v ws=eE H v ws:=by
 unfold eE
 rw [jp t s,fQ t.1 s]
 cases e:lstOf H v with
 | none=>rfl
 | some xs=>
   have tx:∀x∈xs,Thg H x:=λ x hx=>(t.2 xs (.inr e) x hx).thg
   have em:xs.map (ci H')=xs.map (ci H):=zH λ x hx=>uN (tx x hx) s
   show (_&&((!xs.any λ x=>decide (fu H' x∈xs.map (ci H')))&&decide ((xs.map (ci H')).Nodup)))=(_&&((!xs.any λ x=>decide (fu H x∈xs.map (ci H)))&&decide ((xs.map (ci H)).Nodup)))
   rw [em,yV (g:=λ x=>decide (fu H x∈xs.map (ci H))) λ x hx=>by rw [tX (tx x hx) s]]
end
def mB (K:Frag) (C:Addr):Sp:=λ vs H Q _=> ∃(p b kd rd td ed dx:Addr) (ws:List Str) (rs ts es:List V) (st:Str),vs=[.ref p,.ref b,.ref kd,.ref rd,.ref td,.ref ed,.str st]/\H p=some (.ins C dx [])/\H kd=some (.lst (ws.map V.str))/\H rd=some (.lst rs)/\H td=some (.lst ts)/\H ed=some (.lst es)/\
 dY H 1 (.ref kd)/\dY H 2 (.ref rd)/\dY H 2 (.ref td)/\dY H 2 (.ref ed)/\kz H (.ref kd)=true/\dM H (.ref rd) ws=true/\eE H (.ref td) ws=true/\pairsB H (.ref ed) gb ws=true/\st∈gf/\st.length<=1000/\
 ∀H',fV C H' p b (ws.map V.str) rs ts es st->SameBut p H H'->Q .non H'
structure GG1 (P:Program) (w:World) (K:Frag) (mg:Str->Option Value) (base:Heap):Prop where
 is_list_of:Cal P w K mg base "is_list_of" ["thing","least","most"] 1 mt
 is_letter:Cal P w K mg base "is_letter" ["thing"] 1 lG
 is_rule:Cal P w K mg base "is_rule" ["thing","kinds"] 4 (sj K)
structure GG2 (P:Program) (w:World) (K:Frag) (mg:Str->Option Value) (base:Heap):Prop where
 are_kinds:Cal P w K mg base "are_kinds" ["thing"] 2 oK
 are_rules:Cal P w K mg base "are_rules" ["thing","kinds"] 5 (oE K)
 is_turns:Cal P w K mg base "is_turns" ["thing","kinds"] 4 (oB K)
 is_ends:Cal P w K mg base "is_ends" ["thing","kinds"] 4 (sA K)
 is_word:Cal P w K mg base "is_word" ["thing","words"] 1 (gO K)
theorem jG {K:Frag}{σ:St}{H:Hp}{to te:TE}{u:TS}{D:de}{f:Str}{p C dx d:Addr}{fs:List (Str×V)}{xs:List V}(he:Ev te σ H (.ref d)) (hd:H d=some (.lst xs)) (ho:∀H',Ev to σ H' (.ref p)) (hp:H p=some (.ins C dx fs)) (hc:Cls K C) (hn:bX K C f) (hl:fs.length<1000)
  (h2:∀q,H q=none->u D σ (upd (upd H q (.lst xs)) p (.ins C dx (putF f (.ref q) fs)))):bj (ue K to (cB (sR K) (bh te cO)) f) u D σ H:=
 he _ ⟨xs,.inl (SqL.of hd),λ q hq=>ho _ _ ⟨p,C,dx,fs,rfl,by rw [aq (ar hp hq)]; exact hp,hc,hn,hl,h2 q hq⟩⟩
end L2
namespace L2
open PySem PySem.Spec PyProof.Rows
def vb (H:Hp):V->Prop
 | .non=>True
 | .bl _=>True
 | .int _=>True
 | .str z=>z.length<=1000
 | .ref a=>(∃xs,H a=some (.lst xs))\/(∃xs,H a=some (.tup xs))
 | _=>False
def ThL (H:Hp):Nat->V->Prop
 | 0,v=>vb H v
 | n+1,v=>vb H v/\∀xs,(tupOf H v=some xs\/lstOf H v=some xs)->∀x∈xs,ThL H n x
theorem vb.thg {H:Hp}{v:V}(h:vb H v):Thg H v:=by
 cases v with
 | ref a=>
   rcases h with h | h
   ·exact .inl h
   ·exact .inr (.inl h)
 | _=>exact h
theorem ThL.n {H:Hp}:∀{n:Nat}{v:V},ThL H n v->dY H n v
 | 0,v,h=>vb.thg h
 | n+1,v,h=>⟨h.1.thg,λ xs hx x hm=>(h.2 xs hx x hm).n⟩
theorem ThL.flat {H:Hp}{n:Nat}{v:V}(h:vb H v) (f:flatV v=true):ThL H n v:=by
 cases n with
 | zero=>exact h
 | succ n=>
   refine ⟨h,λ xs hx=>?_⟩
   cases v with
   | ref a=>cases f
   | _=>rcases hx with z | z<;>cases z
theorem ThL.lst {H:Hp}{n:Nat}{a:Addr}{xs:List V}(h:H a=some (.lst xs)) (hx:∀x∈xs,ThL H n x):ThL H (n+1) (.ref a):=⟨.inl ⟨xs,h⟩,λ ys hy=>by
 rcases hy with z | z
 ·simp only [tupOf,h] at z; cases z
 ·simp only [lstOf,h] at z; cases z; exact hx⟩
theorem ThL.tup {H:Hp}{n:Nat}{a:Addr}{xs:List V}(h:H a=some (.tup xs)) (hx:∀x∈xs,ThL H n x):ThL H (n+1) (.ref a):=⟨.inr ⟨xs,h⟩,λ ys hy=>by
 rcases hy with z | z
 ·simp only [tupOf,h] at z; cases z; exact hx
 ·simp only [lstOf,h] at z; cases z⟩
section
variable {X:Cx}{a b:Expr}{ta tb:TE}{pos:Pos}
theorem test_of {r:R2}{op:CmpOp}(ho:OpR X (compareOp op) r) (ha:PE X a ta) (hb:PE X b tb) (hm:behindInMarks op b=false):PT X (.Compare a [op] [b] pos) (eQ λ σ H Q=>ta σ H λ x H1=>tb σ H1 λ y H2=>r x y H2 Q):=by
 intro pins s σ H Q I h
 refine wpAny_isTrue_Compare1 (thn (ha pins s σ H _ I h) λ v s1 ⟨x,H1,I1,r1,q1⟩=>thn (hb pins s1 σ H1 _ I1 q1) λ u s2 ⟨y,H2,I2,r2,q2⟩=>thn (ho pins s2 σ H2 x y v u _ I2 r1 r2 q2) λ c s3 ⟨z,H3,I3,r3,q3⟩=>?_) hm
 obtain ⟨k,rfl,q4⟩:=dt q3
 cases r3
 exact wpAny_truthy_bool ⟨H3,I3,q4⟩
end
section
variable {K:Frag}{σ:St}{H:Hp}{ta tb te:TE}{v:V}{z:Str}{d:Addr}{ws:List Str}{i j:Int}
end
end L2
namespace L2
open PySem PySem.Spec PyProof.Rows
section
variable {X:Cx}{a b:Expr}{ta tb:TE}{pos:Pos}
end
section
variable {X:Cx}{a b e o:Expr}{ta tb te to:TE}{pos p2:Pos}
end
section
variable {K:Frag}{te to ta tb ti:TE}{u:TS}{D:de}{σ:St}{H:Hp}{Q:VK}{v:V}
theorem put_k {l:Addr}{i:Int}{P:V->Hp->Prop}(h:∀Q:VK,(∀v H',P v H'->Q v H')->te σ H Q) (h2:∀v H',P v H'->Ev to σ H' (.ref l)/\Ev ti σ H' (.int i)/\∃xs,H' l=some (.lst xs)/\0<=i/\i<xs.length/\D.nx σ (upd H' l (.lst (xs.set i.toNat v)))):tAsg te (gSub to ti rSetL) D σ H:=
 h _ λ v H' p=>by
  obtain ⟨ho,hi,xs,hl,h0,h1,q⟩:=h2 v H' p
  refine ho _ (hi _ ⟨l,xs,i,i.toNat,rfl,rfl,hl,?_,q⟩)
  unfold ixN
  rw [if_pos h0,if_pos h1]
end
end L2
namespace L2
open PySem PySem.Spec PyProof.Rows
section
variable {prog:Program}{w:World}{A:Around}{E:Value->Shared->Prop}{s:Shared}{z TI TO i1 i2:Addr}{n1 n2 i:Nat}{P1 P2:Nat->Value->Prop}{S1 S2:Nat->Heap->Prop}{a b:Value}
end
section
variable {prog:Program}{w:World}{A:Around}{E:Value->Shared->Prop}{s:Shared}
end
end L2
namespace L2
open PySem PySem.Spec PyProof.Rows
section
variable {X:Cx}{pins:List (Addr×Obj)}{σ:St}{H:Hp}{s:Shared}{h':Heap}
end
section
variable {X:Cx}{p pos pos2:Pos}{a b:Expr}{elts:List Expr}{k0:Nat}{ta tb:TE}
end
section
variable {K:Frag}{σ rest:St}{H:Hp}{t:TA}{te:TE}{src:List (Option Nat)}{Q:VK}{x y:Str}
end
def jv (ks:List Nat) (c e:Nat):Bool:=if e=35 then decide (c=35) else decide (c=46\/c∈ks\/c∈ks.map (· - 32))
section
variable {K:Frag}{te ta tb:TE}{t ta':TA}{c:TT}{u e t1:TS}{D:de}{σ:St}{H:Hp}{Q:VK}{R:List V->Hp->Prop}{v:V}
theorem fJ (P:St->Hp->Prop) (hu:∀σ' H',P σ' H'->u D σ' H') (h:(∀σ' H',P σ' H'->u D σ' H')->bj (iN c t1 e) u D σ H):bj (iN c t1 e) u D σ H:=h hu
theorem ji {i:Nat}(h:te σ H (λ v H'=>D.nx (σ.set i (some v)) H')):tAsg te (gName i) D σ H:=h
theorem rK (h:Ev te σ H v) (q:ta' σ H (λ xs H2=>R (v::xs) H2)):bh te ta' σ H R:=h _ q
theorem dm (h:te σ H (λ x H1=>ta' σ H1 (λ xs H2=>R (x::xs) H2))):bh te ta' σ H R:=h
theorem iw (q:R [] H):cO σ H R:=q
theorem ku (q:t σ H (λ vs H2=>vs.length<=sizeLine/\∀p,H2 p=none->Q (.ref p) (upd H2 p (.lst vs)))):wK t σ H Q:=q
theorem qe (h:ta σ H λ x H1=>tb σ H1 λ y H2=>jg .Add x y H2 Q):og .Add ta tb σ H Q:=h
end
theorem one_eq {a b:Nat}:(one a=one b)<->a=b:=by
 constructor
 ·intro h
  have h:(one a).cps.toList=(one b).cps.toList:=by rw [h]
  have h:[a]=[b]:=h
  injection h
 ·intro h; rw [h]
end L2
namespace L2
open PySem
def Ris (xs:Array Nat):Prop:= ∀i j,i<j->j<xs.size->xs.getD i 0<xs.getD j 0
theorem bp {α:Type}{xs:Array α}{i:Nat}{d:α}(h:i<xs.size):xs.getD i d=xs[i]:=by simp [Array.getD,h]
theorem ad_any {xs:Array Nat}{i d e:Nat}(h:i<xs.size):xs.getD i d=xs.getD i e:=by rw [bp h,bp h]
theorem kO (xs:Array Nat) (j:Nat) (hr:Ris xs):∀(f lo hi:Nat),hi - lo<=f->lo<=hi->hi<=xs.size->(∀k,k<lo->xs.getD k 0<j)->(∀k,hi<=k->k<xs.size->j<=xs.getD k 0)->
  SetTable.below.go xs j f lo hi<=xs.size/\(∀k,k<SetTable.below.go xs j f lo hi->xs.getD k 0<j)/\(∀k,SetTable.below.go xs j f lo hi<=k->k<xs.size->j<=xs.getD k 0)
 | 0,lo,hi,h1,h2,h3,h4,h5=>by
   have:lo=hi:=by lia
   subst this
   exact ⟨h3,h4,h5⟩
 | f+1,lo,hi,h1,h2,h3,h4,h5=>by
   unfold SetTable.below.go
   by_cases h:lo<hi
   ·rw [if_pos h]
    have hm:(lo+hi) / 2<xs.size:=by lia
    dsimp only
    rw [ad_any (e:=0) hm]
    by_cases q:xs.getD ((lo+hi) / 2) 0<j
    ·rw [if_pos q]
     refine kO xs j hr f _ hi (by lia) (by lia) h3 (λ k hk=>?_) h5
     by_cases e:k=(lo+hi) / 2
     ·rw [e]; exact q
     ·exact A9 (hr k _ (by lia) hm) q
    ·rw [if_neg q]
     refine kO xs j hr f lo _ (by lia) (by lia) (by lia) h4 (λ k hk hks=>?_)
     by_cases e:k=(lo+hi) / 2
     ·rw [e]; lia
     ·have:=hr ((lo+hi) / 2) k (by lia) hks
      lia
   ·rw [if_neg h]
    have:lo=hi:=by lia
    subst this
    exact ⟨h3,h4,h5⟩
theorem dC (xs:Array Nat) (j:Nat) (hr:Ris xs):SetTable.below xs j<=xs.size/\(∀k,k<SetTable.below xs j->xs.getD k 0<j)/\(∀k,SetTable.below xs j<=k->k<xs.size->j<=xs.getD k 0):=
 kO xs j hr _ 0 xs.size (by lia) (AV _) (AU _) (λ k hk=>by lia) (λ k h1 h2=>by lia)
theorem rS {xs:Array Nat}(hr:Ris xs) {i:Nat}(h:i<xs.size):SetTable.below xs (xs.getD i 0+1)=i+1:=by
 obtain ⟨h1,h2,h3⟩:=dC xs (xs.getD i 0+1) hr
 rcases A8 (SetTable.below xs (xs.getD i 0+1)) (i+1) with q | q | q
 ·have:=h3 i (by lia) h
  lia
 ·exact q
 ·have:=h2 (i+1) (by lia)
  have:=hr i (i+1) (by lia) (by lia)
  lia
theorem qi {xs:Array Nat}(hr:Ris xs):SetTable.below xs 0=0:=by
 obtain ⟨h1,h2,h3⟩:=dC xs 0 hr
 rcases Be (SetTable.below xs 0) with q | q
 ·exact q
 ·have:=h2 0 q
  lia
def Free (xs:Array Nat) (j:Nat):Prop:= ∀k,k<xs.size->¬xs.getD k 0=j
theorem free_of {xs:Array Nat}{j:Nat}(hr:Ris xs) (h:(xs[SetTable.below xs j]? == some j)=false):Free xs j:=by
 obtain ⟨h1,h2,h3⟩:=dC xs j hr
 intro k hk e
 rcases A8 k (SetTable.below xs j) with q | q | q
 ·have:=h2 k q
  lia
 ·rw [<-q,BH hk,<-bp (d:=0) hk,e] at h
  simp at h
 ·have a1:=hr (SetTable.below xs j) k q hk
  have a2:=h3 (SetTable.below xs j) (AU _) (by lia)
  lia
theorem fj {α:Type}(xs:Array α) (p:Nat) (x:α):(SetTable.insertAt xs p x).size=xs.size+1:=by
 have h:=(SetTable.insertAt_perm xs p x).length_eq
 simpa using h
theorem mR {xs:Array Nat}:Ris xs<->xs.toList.Pairwise (· < ·):=by
 rw [Al]
 constructor
 ·intro h i j hi hj hij
  have hi':i<xs.size:=by simpa using hi
  have hj':j<xs.size:=by simpa using hj
  have:=h i j hij hj'
  rw [bp hi',bp hj'] at this
  simpa using this
 ·intro h i j hij hj
  have hi:i<xs.size:=by lia
  have:=h i j (by simpa using hi) (by simpa using hj) hij
  rw [bp hi,bp hj]
  simpa using this
theorem qM {xs:Array Nat}{j:Nat}(hr:Ris xs) (hf:Free xs j):Ris (SetTable.insertAt xs (SetTable.below xs j) j):=by
 obtain ⟨h1,h2,h3⟩:=dC xs j hr
 have g:∀m (hm:m<xs.toList.length),xs.toList[m]=xs.getD m 0:=λ m hm=>by
  have hm':m<xs.size:=by simpa using hm
  rw [bp hm']; simp
 rw [mR,SetTable.toList_insertAt,AK]
 have hp:=mR.mp hr
 refine ⟨hp.sublist (As _ _),Aa.mpr ⟨λ a ha=>?_,hp.sublist (List.drop_sublist _ _)⟩,λ a ha b hb=>?_⟩
 ·obtain ⟨k,hk,rfl⟩:=AL.mp ha
  have hk':SetTable.below xs j+k<xs.size:=by simpa [Nat.add_comm] using hk
  have a1:=h3 (SetTable.below xs j+k) (by lia) hk'
  have a2:=hf _ hk'
  rw [g]
  lia
 ·obtain ⟨k,hk,rfl⟩:=List.mem_take_iff_getElem.mp ha
  have hk1:k<SetTable.below xs j:=by lia
  have a1:=h2 k hk1
  rw [g]
  rcases y6.mp hb with rfl | hb
  ·exact a1
  ·obtain ⟨m,hm,rfl⟩:=AL.mp hb
   have hm':SetTable.below xs j+m<xs.size:=by simpa [Nat.add_comm] using hm
   have a2:=h3 (SetTable.below xs j+m) (by lia) hm'
   rw [g]
   lia
structure SG (led:Bool) (n:Nat) (t:SetTable):Prop where
 fits:t.fits n=true
 led:t.led=led
 ris:Ris t.place
theorem tY {t:SetTable}{j:Nat}(hr:Ris t.place) (h:t.slot j=.empty\/t.slot j=.dummy):Free t.place j:=by
 apply free_of hr
 unfold SetTable.slot at h
 dsimp only at h
 cases e:(t.place[SetTable.below t.place j]? == some j) with
 | false=>rfl
 | true=>
   rw [e] at h
   simp at h
theorem g6 {α:Type}(f:Nat->Option (Nat×α)) (hf:∀j p,f j=some p->p.1=j):∀(l:List Nat),l.Pairwise (· < ·)->((l.filterMap f).map (·.1)).Pairwise (· < ·)/\∀a∈(l.filterMap f).map (·.1),a∈l
 | [],_=>⟨by simp,by simp⟩
 | j::l,h=>by
   obtain ⟨h1,h2⟩:=Aa.mp h
   obtain ⟨i1,i2⟩:=g6 f hf l h2
   rw [zQ]
   cases e:f j with
   | none=>exact ⟨i1,λ a ha=>zg _ (i2 a ha)⟩
   | some p=>
     have ep:=hf j p e
     dsimp only
     rw [zB,ep]
     refine ⟨Aa.mpr ⟨λ a ha=>h1 a (i2 a ha),i1⟩,λ a ha=>?_⟩
     rcases y6.mp ha with rfl | ha
     ·exact zi
     ·exact zg _ (i2 a ha)
theorem kF {α:Type}{l:List α}{i:Nat}{x:α}(h:l[i]? =some x):(x::l.eraseIdx i).Perm l:=by
 have hi:i<l.length:=(zo.mp h).1
 have e:l=l.take i++x::l.drop (i+1):=by
  have e1:=(List.take_append_drop i l).symm
  have e2:l.drop i=x::l.drop (i+1):=by
   rw [Af hi]
   rw [y7 hi] at h
   rw [Option.some.inj h]
  rw [e2] at e1
  exact e1
 rw [List.eraseIdx_eq_take_drop_succ]
 conv=>rhs; rw [e]
 exact List.perm_middle.symm
theorem sD {α:Type}(next:Nat->Nat):∀(f k:Nat) (left:List α) (out:Array α),left.length<=f->(pickOrder.go next f k left out).toList.Perm (out.toList++left)
 | 0,k,left,out,h=>by
   have:left=[]:=Aw.mp (by lia)
   subst this
   simp [pickOrder.go]
 | f+1,k,left,out,h=>by
   unfold pickOrder.go
   split
   ·rename_i x e
    have hi:next k % left.length<left.length:=(zo.mp e).1
    have hl:=AM hi
    refine (sD next f (k+1) _ _ (by lia)).trans ?_
    rw [BN,zW]
    exact List.Perm.append_left _ (kF e)
   ·rename_i e
    have:left=[]:=by
     cases left with
     | nil=>rfl
     | cons a l=>
       rw [y7 (Ba _ (by simp))] at e
       cases e
    subst this
    simp
theorem uq {α:Type}(next:Nat->Nat) (xs:Array α):(pickOrder next xs).toList.Perm xs.toList:=by
 have:=sD next xs.size 0 xs.toList #[] (by simp)
 simpa [pickOrder] using this
end L2
namespace L2
open PySem
def it5 (M:Nat):Nat->Nat->Nat
 | 0,i=>i
 | n+1,i=>it5 M n ((i*5+1) % M)
theorem iC (M:Nat):∀(a b i:Nat),it5 M (a+b) i=it5 M b (it5 M a i)
 | 0,b,i=>by rw [A4]; rfl
 | a+1,b,i=>by
   rw [Nat.succ_add]
   show it5 M (a+b) _=it5 M b (it5 M a _)
   exact iC M a b _
def orb (M:Nat):Nat->Nat->List Nat
 | 0,_=>[]
 | n+1,i=>i::orb M n ((i*5+1) % M)
theorem ny (M:Nat):∀(n i e:Nat),e∈orb M n i->∃t,t<n/\it5 M t i=e
 | 0,i,e,h=>by cases h
 | n+1,i,e,h=>by
   rcases y6.mp h with rfl | h
   ·exact ⟨0,Bb _,rfl⟩
   ·obtain ⟨t,ht,e2⟩:=ny M n _ e h
    exact ⟨t+1,by lia,e2⟩
def jk (M:Nat):Prop:=(∀e,e<M->e∈orb M M 0)/\it5 M M 0=0
def chk (M:Nat):Bool:=(List.range M).all λ e=>(orb M M 0).contains e
theorem jN {M:Nat}(h:chk M=true) (h2:it5 M M 0=0):jk M:=⟨λ e he=>by
 have:=zA.mp h e (zc.mpr he)
 simpa using this,h2⟩
theorem full8:jk 8:=jN (by decide+kernel) (by decide+kernel)
theorem full32:jk 32:=jN (by decide+kernel) (by decide+kernel)
theorem full128:jk 128:=jN (by decide+kernel) (by decide+kernel)
theorem full512:jk 512:=jN (by decide+kernel) (by decide+kernel)
theorem full_go {M:Nat}(f:jk M) {i e:Nat}(hi:i<M) (he:e<M):∃t,t<M/\it5 M t i=e:=by
 obtain ⟨s,hs,es⟩:=ny M M 0 i (f.1 i hi)
 obtain ⟨t,ht,et⟩:=ny M M 0 e (f.1 e he)
 by_cases h:s<=t
 ·refine ⟨t - s,by lia,?_⟩
  rw [<-es,<-iC,<-et]
  congr 1
  lia
 ·refine ⟨M - s+t,by lia,?_⟩
  rw [<-es,<-iC,<-et]
  have:s+(M - s+t)=M+t:=by lia
  rw [this,iC,f.2]
def lp (mask:Nat) (h:Int):Nat->Nat×Nat
 | 0=>(SetTable.bits h % (mask+1),SetTable.bits h)
 | n+1=>SetTable.leap mask (lp mask h n).1 (lp mask h n).2
theorem sP (mask:Nat) (h:Int):∀n,(lp mask h n).2=SetTable.bits h / 32 ^ n
 | 0=>by simp [lp]
 | n+1=>by
   show (lp mask h n).2 / 32=_
   rw [sP mask h n,Nat.div_div_eq_div_mul,Nat.pow_succ]
theorem bits_lt (h:Int):SetTable.bits h<2 ^ 64:=by
 unfold SetTable.bits
 lia
theorem lp_lt (mask:Nat) (h:Int):∀n,(lp mask h n).1<mask+1
 | 0=>Ba _ (Bb _)
 | n+1=>Ba _ (Bb _)
theorem lp_zero (mask:Nat) (h:Int) {n:Nat}(hn:13<=n):(lp mask h n).2=0:=by
 rw [sP]
 apply Nat.div_eq_of_lt
 refine AY (bits_lt h) ?_
 have:(32:Nat) ^ 13<=32 ^ n:=Nat.pow_le_pow_right (by decide) hn
 refine AX ?_ this
 decide
theorem sO (mask:Nat) (h:Int):∀t,(lp mask h (13+t)).1=it5 (mask+1) t (lp mask h 13).1
 | 0=>rfl
 | t+1=>by
   have e:it5 (mask+1) (t+1) (lp mask h 13).1=(it5 (mask+1) t (lp mask h 13).1*5+1) % (mask+1):=by
    rw [iC]; rfl
   rw [e,<-sO mask h t]
   show ((lp mask h (13+t)).1*5+1+(lp mask h (13+t)).2 / 32) % (mask+1)=_
   rw [lp_zero mask h (by lia)]
theorem sQ {mask:Nat}(f:jk (mask+1)) (h:Int) {e:Nat}(he:e<=mask):∃N,N<=mask+13/\(lp mask h N).1=e:=by
 obtain ⟨t,ht,et⟩:=full_go f (lp_lt mask h 13) (Nat.lt_succ_of_le he)
 exact ⟨13+t,by lia,by rw [sO,et]⟩
end L2
namespace L2
open PySem
def PAt (mask:Nat) (h:Int) (n c:Nat) (p:SetTable.Probe):Prop:=
 p.i=(lp mask h n).1/\p.perturb=(lp mask h n).2/\p.j=(lp mask h n).1+c/\c+p.more=SetTable.runEnd mask (lp mask h n).1 - (lp mask h n).1
def sl (mask:Nat) (h:Int) (n c:Nat):Nat:=(lp mask h n).1+c
theorem j4 (mask i:Nat):SetTable.runEnd mask i - i<=9:=by
 unfold SetTable.runEnd
 split<;>lia
theorem PAt.start {t:SetTable}{h:Int}:PAt t.mask h 0 0 (t.probeStart h):=⟨rfl,rfl,rfl,by rw [A4]; rfl⟩
theorem PAt.more {t:SetTable}{h:Int}{n c:Nat}{p:SetTable.Probe}(a:PAt t.mask h n c p) (hm:0<p.more):PAt t.mask h n (c+1) (t.advance p):=by
 obtain ⟨a1,a2,a3,a4⟩:=a
 unfold SetTable.advance
 rw [if_pos hm]
 exact ⟨a1,a2,by show p.j+1=_; lia,by show c+1+(p.more - 1)=_; lia⟩
theorem PAt.leap {t:SetTable}{h:Int}{n c:Nat}{p:SetTable.Probe}(a:PAt t.mask h n c p) (hm:¬0<p.more):PAt t.mask h (n+1) 0 (t.advance p):=by
 obtain ⟨a1,a2,a3,a4⟩:=a
 unfold SetTable.advance
 rw [if_neg hm,a1,a2]
 exact ⟨rfl,rfl,rfl,by rw [A4]; rfl⟩
def Lt2 (n c n' c':Nat):Prop:=n<n'\/(n=n'/\c<c')
def Ok2 (mask:Nat) (h:Int) (n c:Nat):Prop:=c<=SetTable.runEnd mask (lp mask h n).1 - (lp mask h n).1
theorem PAt.ok {mask:Nat}{h:Int}{n c:Nat}{p:SetTable.Probe}(a:PAt mask h n c p):Ok2 mask h n c:=by
 obtain ⟨_,_,_,a4⟩:=a
 unfold Ok2
 lia
theorem nX {t:SetTable}(hd:t.dummies= #[]) {h:Int}(hashAt:Nat->Int) {N:Nat}(he:t.slot (sl t.mask h N 0)=.empty):∀(f n c:Nat) (p:SetTable.Probe),PAt t.mask h n c p->(n<N\/(n=N/\c=0))->10*(N - n)+1<=f+c->
  ∃n' c' p',PAt t.mask h n' c' p'/\(n'<N\/(n'=N/\c'=0))/\(Lt2 n c n' c'\/(n=n'/\c=c'))/\(∀a b,Ok2 t.mask h a b->(Lt2 n c a b\/(n=a/\c=b))->Lt2 a b n' c'->∃i,t.slot (sl t.mask h a b)=.live i/\¬hashAt i=h)/\
   ((t.slot (sl t.mask h n' c')=.empty/\SetTable.probe.go t hashAt h f p=some (.empty (sl t.mask h n' c') p.dummy))\/
    (∃i,t.slot (sl t.mask h n' c')=.live i/\hashAt i=h/\SetTable.probe.go t hashAt h f p=some (.candidate (sl t.mask h n' c') i (t.advance p'))/\n'<N/\p'.dummy=p.dummy))
 | 0,n,c,p,a,hn,hf=>by
   have:=j4 t.mask (lp t.mask h n).1
   have:=a.ok
   unfold Ok2 at this
   lia
 | f+1,n,c,p,a,hn,hf=>by
   have hj:p.j=sl t.mask h n c:=a.2.2.1
   have nodum:∀j,¬t.slot j=.dummy:=λ j e=>by
    unfold SetTable.slot at e
    rw [hd] at e
    dsimp only at e
    split at e
    ·cases e
    ·rw [if_neg (by simp [SetTable.has])] at e
     cases e
   cases q:t.slot p.j with
   | empty=>
     refine ⟨n,c,p,a,hn,.inr ⟨rfl,rfl⟩,λ x y _ h1 h2=>?_,.inl ⟨by rw [<-hj]; exact q,?_⟩⟩
     ·exfalso
      rcases h1 with h1 | h1<;>rcases h2 with h2 | h2<;>(unfold Lt2 at *; lia)
     ·unfold SetTable.probe.go
      rw [q,hj]
   | dummy=>exact absurd q (nodum _)
   | live i=>
     by_cases hh:hashAt i=h
     ·refine ⟨n,c,p,a,hn,.inr ⟨rfl,rfl⟩,λ x y _ h1 h2=>?_,.inr ⟨i,by rw [<-hj]; exact q,hh,?_,?_,rfl⟩⟩
      ·exfalso
       rcases h1 with h1 | h1<;>rcases h2 with h2 | h2<;>(unfold Lt2 at *; lia)
      ·unfold SetTable.probe.go
       rw [q]
       dsimp only
       rw [if_pos (by simp [hh]),hj]
      ·rcases hn with hn | ⟨rfl,rfl⟩
       ·exact hn
       ·rw [hj,he] at q; cases q
     ·have hlt:n<N:=by
       rcases hn with hn | ⟨rfl,rfl⟩
       ·exact hn
       ·rw [hj,he] at q; cases q
      have hgo:SetTable.probe.go t hashAt h (f+1) p=SetTable.probe.go t hashAt h f (t.advance p):=by
       conv=>lhs; unfold SetTable.probe.go
       rw [q]
       dsimp only
       rw [if_neg (by simp [hh])]
      rw [hgo]
      have hdm:(t.advance p).dummy=p.dummy:=by unfold SetTable.advance; split<;>rfl
      by_cases hm:0<p.more
      ·obtain ⟨n',c',p',b1,b2,b3,b4,b5⟩:=nX hd hashAt he f n (c+1) (t.advance p) (a.more hm) (.inl hlt) (by lia)
       refine ⟨n',c',p',b1,b2,.inl (by unfold Lt2 at *; lia),λ x y o h1 h2=>?_,by rw [hdm] at b5; exact b5⟩
       by_cases e:x=n/\y=c
       ·obtain ⟨rfl,rfl⟩:=e
        exact ⟨i,by rw [<-hj]; exact q,hh⟩
       ·exact b4 x y o (by unfold Lt2 at *; lia) h2
      ·have hc9:=j4 t.mask (lp t.mask h n).1
       have hck:=a.2.2.2
       obtain ⟨n',c',p',b1,b2,b3,b4,b5⟩:=nX hd hashAt he f (n+1) 0 (t.advance p) (a.leap hm) (by lia) (by lia)
       refine ⟨n',c',p',b1,b2,.inl (by unfold Lt2 at *; lia),λ x y o h1 h2=>?_,by rw [hdm] at b5; exact b5⟩
       by_cases e:x=n/\y=c
       ·obtain ⟨rfl,rfl⟩:=e
        exact ⟨i,by rw [<-hj]; exact q,hh⟩
       ·refine b4 x y o ?_ h2
        unfold Ok2 at o
        unfold Lt2 at*
        by_cases e2:x=n
        ·subst e2
         lia
        ·lia
end L2
namespace L2
open PySem
theorem iP {t:SetTable}(hr:Ris t.place) {j i:Nat}:t.slot j=.live i<->i<t.place.size/\t.place.getD i 0=j:=by
 obtain ⟨b1,b2,b3⟩:=dC t.place j hr
 unfold SetTable.slot
 dsimp only
 constructor
 ·intro h
  split at h
  ·rename_i e
   cases h
   have hlt:SetTable.below t.place j<t.place.size:=by
    rcases Nat.lt_or_ge (SetTable.below t.place j) t.place.size with q | q
    ·exact q
    ·rw [BJ q] at e; simp at e
   rw [BH hlt] at e
   refine ⟨hlt,?_⟩
   rw [bp hlt]
   simpa using e
  ·split at h<;>cases h
 ·rintro ⟨hi,e⟩
  have hb:SetTable.below t.place j=i:=by
   rcases A8 (SetTable.below t.place j) i with q | q | q
   ·have a1:=b3 (SetTable.below t.place j) (AU _) (by lia)
    have a2:=hr _ _ q hi
    lia
   ·exact q
   ·have:=b2 i q
    lia
  rw [hb,BH hi,if_pos]
  rw [bp hi] at e
  simp [e]
theorem eH {t:SetTable}(hr:Ris t.place) (hd:t.dummies= #[]) {j:Nat}:t.slot j=.empty<->Free t.place j:=by
 constructor
 ·intro h
  exact tY hr (.inl h)
 ·intro h
  cases e:t.slot j with
  | empty=>rfl
  | live i=>
    obtain ⟨h1,h2⟩:=(iP hr).mp e
    exact absurd h2 (h i h1)
  | dummy=>
    exfalso
    unfold SetTable.slot at e
    rw [hd] at e
    dsimp only at e
    split at e
    ·cases e
    ·rw [if_neg (by simp [SetTable.has])] at e
     cases e
theorem nv:∀(n:Nat) (l:List Nat),l.length<n->∃s,s<n/\¬s∈l
 | 0,l,h=>by lia
 | n+1,l,h=>by
   by_cases m:n∈l
   ·have hl:=Az m
    have hp:=Aj m
    obtain ⟨s,h1,h2⟩:=nv n (l.erase n) (by lia)
    exact ⟨s,by lia,λ z=>h2 ((AA (by lia)).mpr z)⟩
   ·exact ⟨n,by lia,m⟩
theorem uR {t:SetTable}(hr:Ris t.place) (hd:t.dummies= #[]) (hf:t.place.size<=t.mask):∃e,e<=t.mask/\t.slot e=.empty:=by
 obtain ⟨e,h1,h2⟩:=nv (t.mask+1) t.place.toList (by simp; lia)
 refine ⟨e,by lia,(eH hr hd).mpr λ k hk z=>h2 ?_⟩
 rw [<-z,bp hk]
 simp
def yZ (t:SetTable) (h:Int) (j:Nat):Prop:= ∃n c,Ok2 t.mask h n c/\sl t.mask h n c=j/\∀a b,Ok2 t.mask h a b->Lt2 a b n c->¬t.slot (sl t.mask h a b)=.empty
structure TGb (es:Array (Int×Value)) (t:SetTable):Prop where
 ps:t.place.size=es.size
 ris:Ris t.place
 nd:t.dummies= #[]
 full:jk (t.mask+1)
 odd:t.mask % 2=1
 fit:t.place.size<=t.mask
 pl:∀i,i<es.size->yZ t (es.getD i (0,.none)).1 (t.place.getD i 0)
theorem sl_le {mask:Nat}{h:Int}{n c:Nat}(o:Ok2 mask h n c):sl mask h n c<=mask:=by
 have:=lp_lt mask h n
 unfold Ok2 SetTable.runEnd at o
 unfold sl
 split at o<;>lia
theorem TGb.fits {es:Array (Int×Value)}{t:SetTable}(g:TGb es t):t.fits es.size=true:=by
 unfold SetTable.fits SetTable.fill
 rw [g.nd,g.ps]
 have:=g.fit
 rw [g.ps] at this
 simp [this]
theorem TGb.fresh {led:Bool}:TGb #[] (SetTable.fresh 0 0 led):=⟨rfl,λ i j _ hj=>absurd hj (by simp [SetTable.fresh]),rfl,full8,(by show (7:Nat) % 2=1; decide),AV _,λ i h=>absurd h (by simp)⟩
theorem TGb.put {es:Array (Int×Value)}{t:SetTable}(g:TGb es t) {h:Int}{x:Value}{n c:Nat}(o:Ok2 t.mask h n c) (he:t.slot (sl t.mask h n c)=.empty) (hb:∀a b,Ok2 t.mask h a b->Lt2 a b n c->¬t.slot (sl t.mask h a b)=.empty) (hroom:es.size+1<=t.mask):
  TGb (SetTable.insertAt es (t.put (sl t.mask h n c)).2 (h,x)) (t.put (sl t.mask h n c)).1:=by
 have hf:=(eH g.ris g.nd).mp he
 have hr':Ris (t.put (sl t.mask h n c)).1.place:=qM g.ris hf
 have hd':(t.put (sl t.mask h n c)).1.dummies= #[]:=by
  show (if SetTable.has t.dummies _ then _ else t.dummies)= #[]
  rw [g.nd]
  rfl
 have hsz:(t.put (sl t.mask h n c)).1.place.size=es.size+1:=by
  show (SetTable.insertAt t.place _ _).size=_
  rw [fj,g.ps]
 have hes:(SetTable.insertAt es (t.put (sl t.mask h n c)).2 (h,x)).size=es.size+1:=fj ..
 have keep:∀j,¬t.slot j=.empty->¬(t.put (sl t.mask h n c)).1.slot j=.empty:=λ j hj z=>hj ((eH g.ris g.nd).mpr λ k hk e=>by
  have q:=(eH hr' hd').mp z
  have hm:j∈(t.put (sl t.mask h n c)).1.place.toList:=by
   show j∈(SetTable.insertAt t.place _ _).toList
   rw [(SetTable.insertAt_perm t.place _ _).mem_iff,BN]
   refine zK _ ?_
   rw [<-e,bp hk]
   simp
  obtain ⟨k',hk',e'⟩:=zP hm
  have hk2:k'<(t.put (sl t.mask h n c)).1.place.size:=by simpa using hk'
  exact q k' hk2 (by rw [bp hk2]; simpa using e'))
 refine ⟨by rw [hsz,hes],hr',hd',g.full,g.odd,by rw [hsz]; exact hroom,λ i hi=>?_⟩
 rw [hes] at hi
 have hp:∀i,i<es.size+1->((SetTable.insertAt es (t.put (sl t.mask h n c)).2 (h,x)).getD i (0,.none)=(h,x)/\(t.put (sl t.mask h n c)).1.place.getD i 0=sl t.mask h n c)\/∃j,j<es.size/\(SetTable.insertAt es (t.put (sl t.mask h n c)).2 (h,x)).getD i (0,.none)=es.getD j (0,.none)/\(t.put (sl t.mask h n c)).1.place.getD i 0=t.place.getD j 0:=λ i hi=>by
  have hpb:(t.put (sl t.mask h n c)).2<=es.size:=by
   show SetTable.below t.place _<=_
   rw [<-g.ps]
   exact (dC t.place _ g.ris).1
  have at1:∀{α:Type} (xs:Array α) (p:Nat) (y d:α) (i:Nat),p<=xs.size->i<xs.size+1->(SetTable.insertAt xs p y).getD i d=if i<p then xs.getD i d else if i=p then y else xs.getD (i - 1) d:=λ {α} xs p y d i hp hi=>by
   have hs:=fj xs p y
   have e1:(SetTable.insertAt xs p y).getD i d=(SetTable.insertAt xs p y).toList[i]'(by simpa [hs] using hi):=by
    rw [bp (by lia)]; simp
   rw [e1]
   simp only [SetTable.toList_insertAt]
   by_cases l1:i<p
   ·rw [if_pos l1,AB (by simp; lia),bp (by lia)]
    simp
   ·rw [if_neg l1,AC (by simp; lia)]
    by_cases l2:i=p
    ·subst l2
     rw [if_pos rfl]
     have hz:i - (xs.toList.take i).length=0:=by simp; lia
     have key:∀(l:List α) (k:Nat) (hk:k<(y::l).length),k=0->(y::l)[k]=y:=λ l k hk e=>by subst e; rfl
     exact key _ _ _ hz
    ·rw [if_neg l2]
     have hl:(xs.toList.take p).length=p:=by simp; lia
     have e2:i - (xs.toList.take p).length=(i - 1 - p)+1:=by lia
     rw [bp (by lia)]
     simp only [e2,List.getElem_cons_succ,List.getElem_drop,BO]
     congr 1
     lia
  have q1:=at1 es (t.put (sl t.mask h n c)).2 (h,x) (0,.none) i hpb hi
  have q2:=at1 t.place (t.put (sl t.mask h n c)).2 (sl t.mask h n c) 0 i (by rw [g.ps]; exact hpb) (by rw [g.ps]; exact hi)
  have q2':(t.put (sl t.mask h n c)).1.place.getD i 0=_:=q2
  rw [q1,q2']
  by_cases l1:i<(t.put (sl t.mask h n c)).2
  ·rw [if_pos l1,if_pos l1]
   exact .inr ⟨i,by lia,rfl,rfl⟩
  ·rw [if_neg l1,if_neg l1]
   by_cases l2:i=(t.put (sl t.mask h n c)).2
   ·rw [if_pos l2,if_pos l2]
    exact .inl ⟨rfl,rfl⟩
   ·rw [if_neg l2,if_neg l2]
    exact .inr ⟨i - 1,by lia,rfl,rfl⟩
 rcases hp i hi with ⟨e1,e2⟩ | ⟨j,hj,e1,e2⟩
 ·rw [e1,e2]
  exact ⟨n,c,o,rfl,λ a b oab lab=>keep _ (hb a b oab lab)⟩
 ·rw [e1,e2]
  obtain ⟨n',c',o',e',hb'⟩:=g.pl j hj
  exact ⟨n',c',o',e',λ a b oab lab=>keep _ (hb' a b oab lab)⟩
end L2
namespace L2
open PySem
abbrev nn (owner:Array (Option Nat)) (j:Nat):Bool:=(owner.getD j (some 0)).isNone
theorem yd {mask:Nat}{owner:Array (Option Nat)}{h:Int}{N:Nat}(hN:nn owner (sl mask h N 0)=true):∀(f n:Nat),n<=N->N - n<f->∃n' c',Ok2 mask h n' c'/\SetTable.layClean.free mask owner f (lp mask h n).1 (lp mask h n).2=some (sl mask h n' c')/\nn owner (sl mask h n' c')=true/\∀a b,Ok2 mask h a b->n<=a->Lt2 a b n' c'->nn owner (sl mask h a b)=false
 | 0,n,h1,h2=>by lia
 | f+1,n,h1,h2=>by
   unfold SetTable.layClean.free
   cases e:(List.range (SetTable.runEnd mask (lp mask h n).1+1 - (lp mask h n).1)).find? (λ k=>(owner.getD ((lp mask h n).1+k) (some 0)).isNone) with
   | some k=>
     obtain ⟨hp,i,hi,ei,hb⟩:=List.find?_eq_some_iff_getElem.mp e
     have hik:i=k:=by simpa using ei
     subst hik
     have hir:i<SetTable.runEnd mask (lp mask h n).1+1 - (lp mask h n).1:=by simpa using hi
     refine ⟨n,i,by unfold Ok2; lia,rfl,hp,λ a b o ha lt=>?_⟩
     have:a=n/\b<i:=by unfold Lt2 at lt; lia
     obtain ⟨rfl,hbi⟩:=this
     have:=hb b hbi
     simpa [nn,sl] using this
   | none=>
     have hall:=List.find?_eq_none.mp e
     have hlt:n<N:=by
      rcases Nat.lt_or_ge n N with q | q
      ·exact q
      ·have:n=N:=by lia
       subst this
       have hr0:(0:Nat)<SetTable.runEnd mask (lp mask h n).1+1 - (lp mask h n).1:=by
        unfold SetTable.runEnd
        split<;>lia
       have:=hall 0 (zc.mpr hr0)
       exact absurd hN this
     obtain ⟨n',c',o,e2,e3,e4⟩:=yd hN f (n+1) hlt (by lia)
     refine ⟨n',c',o,e2,e3,λ a b oab ha lt=>?_⟩
     by_cases q:a=n
     ·subst q
      have hbr:b<SetTable.runEnd mask (lp mask h a).1+1 - (lp mask h a).1:=by
       unfold Ok2 at oab
       have:(lp mask h a).1<=SetTable.runEnd mask (lp mask h a).1:=by unfold SetTable.runEnd; split<;>lia
       lia
      have:=hall b (zc.mpr hbr)
      exact Bool.eq_false_iff.mpr this
     ·exact e4 a b oab (by lia) lt
structure OI (mask:Nat) (owner:Array (Option Nat)) (hs:List Int) (js:List Nat):Prop where
 sz:owner.size=mask+1
 len:js.length=hs.length
 nd:js.Nodup
 le:∀j∈js,j<=mask
 at1:∀i (hi:i<js.length),owner.getD js[i] (some 0)=some i
 at2:∀j,j<=mask->¬j∈js->owner.getD j (some 0)=none
 pl:∀i (hi:i<js.length),∃n c,Ok2 mask (hs.getD i 0) n c/\sl mask (hs.getD i 0) n c=js[i]/\∀a b,Ok2 mask (hs.getD i 0) a b->Lt2 a b n c->nn owner (sl mask (hs.getD i 0) a b)=false
theorem qF {owner:Array (Option Nat)}{j:Nat}{o:Option Nat}(h:j<owner.size) (k:Nat):(owner.setIfInBounds j o).getD k (some 0)=if k=j then o else owner.getD k (some 0):=by
 by_cases e:k=j
 ·subst e
  rw [if_pos rfl,bp (by simpa using h)]
  exact Array.getElem_setIfInBounds_self ..
 ·rw [if_neg e]
  by_cases hk:k<owner.size
  ·rw [bp (by simpa using hk),bp hk]
   exact Array.getElem_setIfInBounds_ne hk (Ne.symm e)
  ·have h1:¬k<(owner.setIfInBounds j o).size:=by simpa using hk
   simp [Array.getD,hk,h1]
theorem OI.step {mask:Nat}{owner:Array (Option Nat)}{hs:List Int}{js:List Nat}(f:jk (mask+1)) (I:OI mask owner hs js) (h:Int) (hr:hs.length<=mask):∃j,SetTable.layClean.free mask owner (SetTable.turns mask) (SetTable.bits h % (mask+1)) (SetTable.bits h)=some j/\OI mask (owner.setIfInBounds j (some hs.length)) (hs++[h]) (js++[j]):=by
 obtain ⟨e,e1,e2⟩:=nv (mask+1) js (by rw [I.len]; lia)
 obtain ⟨N,hN,eN⟩:=sQ f h (Nat.le_of_lt_succ e1)
 have hNn:nn owner (sl mask h N 0)=true:=by
  show (owner.getD ((lp mask h N).1+0) (some 0)).isNone=true
  rw [Nat.add_zero,eN,I.at2 e (by lia) e2]
  rfl
 obtain ⟨n,c,o,g1,g2,g3⟩:=yd hNn (SetTable.turns mask) 0 (AV _) (by unfold SetTable.turns; lia)
 have hj:=sl_le o
 refine ⟨sl mask h n c,g1,?_⟩
 have hlt:sl mask h n c<owner.size:=by rw [I.sz]; lia
 have hnj:¬sl mask h n c∈js:=λ z=>by
  obtain ⟨i,hi,e⟩:=zP z
  have:=I.at1 i hi
  rw [e] at this
  unfold nn at g2
  rw [this] at g2
  cases g2
 have up:∀k,nn owner k=false->nn (owner.setIfInBounds (sl mask h n c) (some hs.length)) k=false:=λ k hk=>by
  unfold nn
  rw [qF hlt]
  by_cases e:k=sl mask h n c
  ·rw [if_pos e]; rfl
  ·rw [if_neg e]; exact hk
 refine ⟨by simpa using I.sz,by simp [I.len],?_,λ j hm=>?_,λ i hi=>?_,λ j hjm hn=>?_,λ i hi=>?_⟩
 ·rw [zZ]
  refine ⟨I.nd,by simp,λ a ha b hb e=>hnj ?_⟩
  have:b=sl mask h n c:=by simpa using hb
  rw [<-this,<-e]; exact ha
 ·rcases zj.mp hm with z | z
  ·exact I.le j z
  ·rw [zh.mp z]; exact hj
 ·rw [qF hlt]
  by_cases l:i<js.length
  ·rw [AB l,if_neg (λ z:js[i]=sl mask h n c=>hnj (z▸zp l))]
   exact I.at1 i l
  ·have:i=js.length:=by simp at hi; lia
   subst this
   rw [AC (AU _)]
   simp [I.len]
 ·rw [qF hlt,if_neg (λ z=>hn (by rw [z]; simp))]
  exact I.at2 j hjm (λ z=>hn (zK _ z))
 ·by_cases l:i<js.length
  ·have e:(hs++[h]).getD i 0=hs.getD i 0:=by
    rw [zb,Ac (by rw [<-I.len]; exact l),<-zb]
   rw [AB l,e]
   obtain ⟨n',c',o',e',hb⟩:=I.pl i l
   exact ⟨n',c',o',e',λ a b oab lab=>up _ (hb a b oab lab)⟩
  ·have:i=js.length:=by simp at hi; lia
   subst this
   have e:(hs++[h]).getD js.length 0=h:=by rw [I.len]; simp
   rw [e]
   refine ⟨n,c,o,?_,λ a b oab lab=>up _ (g3 a b oab (AV _) lab)⟩
   rw [AC (AU _)]
   simp
theorem pN {mask:Nat}(f:jk (mask+1)):∀(hs2 hs1:List Int) (owner:Array (Option Nat)) (js:List Nat),OI mask owner hs1 js->hs1.length+hs2.length<=mask+1->
  ∃owner' js',hs2.foldl (λ acc h=>do
   let (owner,k)<-acc
   let j<-SetTable.layClean.free mask owner (SetTable.turns mask) (SetTable.bits h % (mask+1)) (SetTable.bits h)
   pure (owner.setIfInBounds j (some k),k+1)) (some (owner,hs1.length))=some (owner',(hs1++hs2).length)/\OI mask owner' (hs1++hs2) js'
 | [],hs1,owner,js,I,_=>⟨owner,js,by simp,by simpa using I⟩
 | h::hs2,hs1,owner,js,I,hl=>by
   simp only [zw] at hl
   obtain ⟨j,e,I2⟩:=I.step f h (by lia)
   obtain ⟨owner',js',e3,I3⟩:=pN f hs2 (hs1++[h]) _ _ I2 (by simp; lia)
   refine ⟨owner',js',?_,by simpa using I3⟩
   rw [List.foldl_cons]
   have e4:(do
     let (owner,k)<-(some (owner,hs1.length):Option (Array (Option Nat)×Nat))
     let j<-SetTable.layClean.free mask owner (SetTable.turns mask) (SetTable.bits h % (mask+1)) (SetTable.bits h)
     pure (owner.setIfInBounds j (some k),k+1))=some (owner.setIfInBounds j (some hs1.length),(hs1++[h]).length):=by
    simp [e]
   rw [e4,e3]
   simp
theorem uF {mask:Nat}(f:jk (mask+1)) {hs:Array Int}(hl:hs.size<=mask+1):∃owner js,SetTable.layClean mask hs=some owner/\OI mask owner hs.toList js:=by
 have I0:OI mask (Array.replicate (mask+1) none) [] []:=⟨by simp,rfl,by simp,by simp,λ i hi=>by simp at hi,λ j hj _=>by rw [bp (by simp; lia)]; simp,λ i hi=>by simp at hi⟩
 obtain ⟨owner,js,e,I⟩:=pN f hs.toList [] _ _ I0 (by simpa using hl)
 refine ⟨owner,js,?_,by simpa using I⟩
 unfold SetTable.layClean
 rw [<-Array.foldl_toList]
 have e:hs.toList.foldl (λ acc h=>do
   let (owner,k)<-acc
   let j<-SetTable.layClean.free mask owner (SetTable.turns mask) (SetTable.bits h % (mask+1)) (SetTable.bits h)
   pure (owner.setIfInBounds j (some k),k+1)) (some (Array.replicate (mask+1) none,0))=some (owner,([]++hs.toList).length):=e
 rw [e]
 rfl
end L2
namespace L2
open PySem
def liveP (owner:Array (Option Nat)) (mask:Nat):List (Nat×Nat):=(List.range (mask+1)).filterMap λ j=>(owner.getD j none).map (j,·)
theorem fC {mask:Nat}{owner:Array (Option Nat)}{j i:Nat}:(j,i)∈liveP owner mask<->j<=mask/\owner.getD j none=some i:=by
 unfold liveP
 rw [zY]
 constructor
 ·rintro ⟨k,hk,e⟩
  obtain ⟨x,hx,e2⟩:=BQ.mp e
  cases e2
  exact ⟨by have:=zc.mp hk; lia,hx⟩
 ·rintro ⟨h1,h2⟩
  exact ⟨j,zc.mpr (by lia),by rw [h2]; rfl⟩
theorem j8 {mask:Nat}{owner:Array (Option Nat)}{hs:List Int}{js:List Nat}(I:OI mask owner hs js) {j i:Nat}(hj:j<=mask):owner.getD j none=some i<->∃h:i<js.length,js[i]=j:=by
 have e0:owner.getD j none=owner.getD j (some 0):=by
  have:j<owner.size:=by rw [I.sz]; lia
  rw [bp this,bp this]
 rw [e0]
 constructor
 ·intro h
  by_cases m:j∈js
  ·obtain ⟨k,hk,e⟩:=zP m
   have:=I.at1 k hk
   rw [e,h] at this
   cases this
   exact ⟨hk,e⟩
  ·rw [I.at2 j hj m] at h
   cases h
 ·rintro ⟨h,e⟩
  rw [<-e]
  exact I.at1 i h
theorem pK (owner:Array (Option Nat)) (mask:Nat):((liveP owner mask).map (·.1)).Pairwise (· < ·):=
 (g6 (λ j=>(owner.getD j none).map (j,·)) (λ j p hp=>by
  obtain ⟨a,_,rfl⟩:=BQ.mp hp
  rfl) (List.range (mask+1)) List.pairwise_lt_range).1
theorem pA {κ:Type} [DecidableEq κ]:∀{l ns:List κ},l.Nodup->ns.Nodup->(∀k,k∈l<->k∈ns)->ns.Perm l
 | [],ns,_,_,h=>by
   cases ns with
   | nil=>exact List.Perm.refl _
   | cons a l=>exact absurd ((h a).mpr (by simp)) (by simp)
 | a::l,ns,nd,nn,h=>by
   obtain ⟨n1,n2⟩:=zO.mp nd
   have ha:=(h a).mp (by simp)
   refine (AN ha).trans (List.Perm.cons _ (pA n2 (nn.erase a) λ k=>?_))
   rw [nn.mem_erase_iff,<-h k,y6]
   constructor
   ·intro hk
    exact ⟨λ e=>n1 (e▸hk),.inr hk⟩
   ·rintro ⟨e,z | z⟩
    ·exact absurd z e
    ·exact z
theorem qR {mask:Nat}{owner:Array (Option Nat)}{hs:List Int}{js:List Nat}(I:OI mask owner hs js):((liveP owner mask).map (·.2)).Perm (List.range hs.length):=by
 refine pA Ak ?_ (λ i=>?_)
 ·
  have hp:=pK owner mask
  rw [zv] at hp
  rw [zC,zv]
  refine List.Pairwise.imp_of_mem ?_ hp
  intro a b ha hb lt e
  obtain ⟨a1,a2⟩:=fC.mp (show (a.1,a.2)∈_ from ha)
  obtain ⟨b1,b2⟩:=fC.mp (show (b.1,b.2)∈_ from hb)
  obtain ⟨x1,e1⟩:=(j8 I a1).mp a2
  obtain ⟨x2,e2⟩:=(j8 I b1).mp b2
  have:a.1=b.1:=by
   rw [<-e1,<-e2]
   congr 1
  lia
 ·rw [zc,y4]
  constructor
  ·intro hi
   have hi':i<js.length:=by rw [I.len]; exact hi
   have hle:=I.le _ (zp hi')
   exact ⟨(js[i],i),fC.mpr ⟨hle,(j8 I hle).mpr ⟨hi',rfl⟩⟩,rfl⟩
  ·rintro ⟨p,hp,rfl⟩
   obtain ⟨a1,a2⟩:=fC.mp (show (p.1,p.2)∈_ from hp)
   obtain ⟨x1,e1⟩:=(j8 I a1).mp a2
   rw [I.len] at x1
   exact x1
theorem yl {α:Type}{es:Array α}(d:α):∀{l:List Nat},(∀i∈l,i<es.size)->l.filterMap (es[·]?)=l.map λ i=>es.getD i d
 | [],_=>rfl
 | i::l,h=>by
   have hi:=h i (by simp)
   rw [zQ,BH hi,zB,yl d (λ j hj=>h j (zg _ hj)),bp hi]
theorem uf {es:Array (Int×Value)}{t:SetTable}{wanted:Nat}(f:jk (SetTable.sizeAbove wanted - 1+1)) (ho:(SetTable.sizeAbove wanted - 1) % 2=1) (hl:es.size<=SetTable.sizeAbove wanted - 1):
  ∃t' order,t.relaid (es.map (·.1)) wanted=some (t',order)/\(order.filterMap (es[·]?)).size=es.size/\(order.filterMap (es[·]?)).toList.Perm es.toList/\TGb (order.filterMap (es[·]?)) t'/\t'.led=t.led/\t'.mask=SetTable.sizeAbove wanted - 1:=by
 generalize hm:SetTable.sizeAbove wanted - 1=mask at f ho hl
 obtain ⟨owner,js,e,I⟩:=uF f (hs:=es.map (·.1)) (by simp; lia)
 have hlen:(es.map (·.1)).toList.length=es.size:=by simp
 have hop:=qR I
 rw [hlen] at hop
 have hin:∀i∈(liveP owner mask).map (·.2),i<es.size:=λ i hi=>zc.mp (hop.mem_iff.mp hi)
 have hll:(liveP owner mask).length=es.size:=by
  have:=hop.length_eq
  simpa using this
 refine ⟨{mask,place:=((liveP owner mask).map (·.1)).toArray,dummies:= #[],finger:=t.finger,led:=t.led,moves:=t.movedTo mask,plain:=t.plain},((liveP owner mask).map (·.2)).toArray,?_,?_⟩
 ·unfold SetTable.relaid SetTable.laid
  rw [hm,e]
  rfl
 have hes:((((liveP owner mask).map (·.2)).toArray).filterMap (es[·]?)).toList=((liveP owner mask).map (·.2)).map λ i=>es.getD i (0,.none):=by
  rw [Array.toList_filterMap]
  exact yl (0,.none) hin
 have hsz:((((liveP owner mask).map (·.2)).toArray).filterMap (es[·]?)).size=es.size:=by
  rw [<-BK,hes,y3,y3,hll]
 refine ⟨hsz,?_,?_,rfl,rfl⟩
 ·rw [hes]
  refine (hop.map _).trans (List.Perm.of_eq ?_)
  apply zR
  intro i
  have e0:es.toList[i]? =es[i]? :=BI
  rw [y8,e0]
  by_cases hi:i<es.size
  ·rw [zJ hi,BH hi]
   show some (es.getD i (0,.none))=some es[i]
   rw [bp hi]
  ·rw [zE (by simpa using hi),BJ (by lia)]
   rfl
 ·have hris:Ris ((liveP owner mask).map (·.1)).toArray:=mR.mpr (by simpa using pK owner mask)
  refine ⟨?_,hris,rfl,f,ho,?_,λ i hi=>?_⟩
  ·rw [hsz]; simp [hll]
  ·show ((liveP owner mask).map (·.1)).toArray.size<=mask
   simp [hll,hl]
  ·rw [hsz] at hi
   have hil:i<(liveP owner mask).length:=by rw [hll]; exact hi
   have e1:((((liveP owner mask).map (·.2)).toArray).filterMap (es[·]?)).getD i (0,.none)=es.getD (liveP owner mask)[i].2 (0,.none):=by
    rw [bp (by rw [hsz]; exact hi)]
    have:((((liveP owner mask).map (·.2)).toArray).filterMap (es[·]?)).toList[i]? =some (es.getD (liveP owner mask)[i].2 (0,.none)):=by
     rw [hes,y8,y8,y7 hil]
     rfl
    rw [BI,BH (by rw [hsz]; exact hi)] at this
    exact Option.some.inj this
   have e2:((liveP owner mask).map (·.1)).toArray.getD i 0=(liveP owner mask)[i].1:=by
    rw [bp (by simpa using hil)]
    simp
   obtain ⟨a1,a2⟩:=fC.mp (show ((liveP owner mask)[i].1,(liveP owner mask)[i].2)∈_ from zp hil)
   obtain ⟨x1,ex⟩:=(j8 I a1).mp a2
   have hxs:(liveP owner mask)[i].2<es.size:=by rw [<-hlen,<-I.len]; exact x1
   obtain ⟨n,c,o,es',hb⟩:=I.pl _ x1
   have eh:(es.map (·.1)).toList.getD (liveP owner mask)[i].2 0=(es.getD (liveP owner mask)[i].2 (0,.none)).1:=by
    rw [bp hxs,zb,BI,Array.getElem?_map,BH hxs]
    rfl
   rw [eh] at o es' hb
   show yZ _ _ (((liveP owner mask).map (·.1)).toArray.getD i 0)
   rw [e1,e2]
   refine ⟨n,c,o,by rw [es',ex],λ a b oab lab z=>?_⟩
   have q:=hb a b oab lab
   have hle:sl mask (es.getD (liveP owner mask)[i].2 (0,.none)).1 a b<=mask:=sl_le oab
   have hfr:=(eH (t:={mask,place:=((liveP owner mask).map (·.1)).toArray,dummies:= #[],finger:=t.finger,led:=t.led,moves:=t.movedTo mask,plain:=t.plain}) hris rfl).mp z
   cases eo:owner.getD (sl mask (es.getD (liveP owner mask)[i].2 (0,.none)).1 a b) none with
   | none=>
     have hlt:sl mask (es.getD (liveP owner mask)[i].2 (0,.none)).1 a b<owner.size:=by rw [I.sz]; lia
     unfold nn at q
     rw [bp hlt] at q eo
     rw [eo] at q
     cases q
   | some k=>
     have hm2:=fC.mpr ⟨hle,eo⟩
     obtain ⟨r,hr,er⟩:=zP hm2
     have hr2:r<((liveP owner mask).map (·.1)).toArray.size:=by simpa using hr
     refine hfr r hr2 ?_
     show ((liveP owner mask).map (·.1)).toArray.getD r 0=_
     rw [bp hr2]
     simp [er]
end L2
namespace L2
open PySem PySem.Spec PyProof.Rows
section
variable {X:Cx}
end
end L2
namespace L2
open PySem PySem.Spec PyProof.Rows
section
variable {X:Cx}{a e:Expr}{ta te tb:TE}{p p2 pos:Pos}
end
section
variable {K:Frag}{σ:St}{H:Hp}{ta tb te to:TE}{Q:VK}{i j:Int}
end
section
variable {K:Frag}{σ:St}{H:Hp}{ta tb te to:TE}{Q:VK}{c:TT}{t e:TS}{D:de}
theorem torh_k {tt u:TT}{R:Bool->Hp->Prop}{b:Bool}(h:Tv tt σ H b) (q1:b=true->R true H) (q2:b=false->u σ H R):tOr tt u σ H R:=h _ (by
 cases b with
 | true=>exact gC (q1 rfl)
 | false=>exact fE (q2 rfl))
end
section
variable {K:Frag}{ta:TA}{te tl:TE}{src:List (Option Nat)}{σ rest:St}{H:Hp}{Q:VK}
end
end L2
namespace L2
open PySem
theorem bN:Slot "set_iterator" "__next__" "set_iterator.__next__":=
 .of (owner:="set_iterator") (n:="__next__") (by rw [typeLookup_type,builtinLookup_eq_fast]; kernel_rfl) (by decide+kernel) (by decide+kernel) (by decide+kernel) (by first | exact .inl (by decide+kernel) | exact .inr (by decide+kernel)) (by rw [isSubtype_type]; kernel_rfl)
theorem fS:entryFor table "set_iterator.__next__"=some Builtin.«set_iterator.__next__» :=entryFor_of_tree (by kernel_rfl)
theorem fU (a:Value):argsOk "set_iterator.__next__" ⟨[a],[]⟩:=by unfold argsOk; kernel_rfl
theorem jY:Slot "set_iterator" "__iter__" "set_iterator.__iter__":=
 .of (owner:="set_iterator") (n:="__iter__") (by rw [typeLookup_type,builtinLookup_eq_fast]; kernel_rfl) (by decide+kernel) (by decide+kernel) (by decide+kernel) (by first | exact .inl (by decide+kernel) | exact .inr (by decide+kernel)) (by rw [isSubtype_type]; kernel_rfl)
theorem rG:entryFor table "set_iterator.__iter__"=some Builtin.«dict_keyiterator.__iter__» :=
 entryFor_alias (id':="dict_keyiterator.__iter__") (by kernel_rfl) rfl (by decide+kernel) (by kernel_rfl)
theorem rT (a:Value):argsOk "set_iterator.__iter__" ⟨[a],[]⟩:=by unfold argsOk; kernel_rfl
theorem pY:entryFor table "set.__iter__"=some Builtin.«frozenset.__iter__» :=
 entryFor_alias (id':="frozenset.__iter__") (by kernel_rfl) rfl (by decide+kernel) (by kernel_rfl)
def du (h:Heap) (D:Addr) (es:Array (Int×Value)) (ep:Nat) (t:SetTable):Prop:= ∃o,h.get? D=some o/\o.ExactSet/\o.data=.set es ep t
def SIt (h:Heap) (I D:Addr) (first:Value) (i n ep:Nat):Prop:= ∃o,h.get? I=some o/\o.cls=.type "set_iterator"/\o.data=.fields #[first,.int i 0,.ref D,.int n 0,.int ep 0]
section
variable {M:Model}{prog:Program}{w:World}{A:Around}{E:Value->Shared->Prop}{s:Shared}
theorem SIt.ty {I D:Addr}{f:Value}{i n ep:Nat}(h:SIt s.heap I D f i n ep):s.TypeIs (.ref I) "set_iterator":=let ⟨o,h1,h2,_⟩:=h; ⟨o,h1,h2⟩
theorem SIt.keep {h h':Heap}{I D:Addr}{f:Value}{i n ep:Nat}(x:SIt h I D f i n ep) (k:∀o,h.get? I=some o->h'.get? I=some o):SIt h' I D f i n ep:=let ⟨o,h1,r⟩:=x; ⟨o,k o h1,r⟩
theorem du.keep {h h':Heap}{D:Addr}{es:Array (Int×Value)}{ep:Nat}{t:SetTable}(x:du h D es ep t) (k:∀o,h.get? D=some o->h'.get? D=some o):du h' D es ep t:=let ⟨o,h1,r⟩:=x; ⟨o,k o h1,r⟩
theorem unit_k {m:Sem Unit}{α:Type}{k:Unit->Sem α}{Q:α->Shared->Prop}(hm:∀Q':Unit->Shared->Prop,Q' () s->wpAny M A m Q' E s) (h:wpAny M A (k ()) Q E s):wpAny M A (m >>= k) Q E s:=wpAny_bind (hm _ h)
theorem gk {D:Addr}{es:Array (Int×Value)}{ep:Nat}{t:SetTable}{Q:(Array (Int×Value)×Nat×SetTable)->Shared->Prop}(hS:du s.heap D es ep t) (hf:t.fits es.size=true) (h:Q (es,ep,t) s):wpAny (model prog w) A (setState D) Q E s:=by
 obtain ⟨o,ho,_,hd⟩:=hS
 exact wpAny_setState_of ho hd hf h
theorem iJ {Q:Bool->Shared->Prop}(h:Q (w.params.followText "set-order") s):wpAny (model prog w) A setsByText Q E s:=by
 unfold setsByText
 exact wpAny_bind (wpAny_askSetting (wpAny_pure h))
theorem lQ {D:Addr}{es:Array (Int×Value)}{ep slot given:Nat}{t:SetTable}{Q:Option (Value×Nat)->Shared->Prop}(hS:du s.heap D es ep t) (g:SG (!w.params.followText "set-order") es.size t) (hb:w.params.followText "set-order"=false) (hp:t.plain=true\/es.size<=1) {i:Nat}(hi:SetTable.below t.place slot=i)
  (h:Q (match es[i]?,t.place[i]? with | some (_,x),some j=>some (x,j+1) | _,_=>none) s):wpAny (model prog w) A (setNext D slot given ep) Q E s:=by
 unfold setNext
 refine wpAny_bind (gk hS g.fits ?_)
 dsimp only
 refine wpAny_bind (iJ ?_)
 rw [hb,if_neg Bt]
 split
 ·rename_i q
  have q:(!t.plain&&decide (es.size > 1))=true:=q
  rcases hp with hp | hp
  ·rw [hp] at q; cases q
  ·rw [decide_eq_false (by lia:¬es.size > 1),BB] at q; cases q
 ·refine unit_k (λ Q' q=>?_) ?_
  ·show wpAny _ _ (if (!t.led&& !es.isEmpty)=true then _ else _) _ _ _
   rw [g.led,hb]
   exact wpAny_pure q
  ·rw [hi]
   exact wpAny_pure h
theorem lP {D:Addr}{es:Array (Int×Value)}{ep slot given:Nat}{t:SetTable}{Q:Option (Value×Nat)->Shared->Prop}(hS:du s.heap D es ep t) (hf:t.fits es.size=true) (hb:w.params.followText "set-order"=true)
  (h:Q (((pickOrder (w.params.setOrder D ep) es)[given]?).map λ e=>(e.2,slot)) s):wpAny (model prog w) A (setNext D slot given ep) Q E s:=by
 unfold setNext
 refine wpAny_bind (gk hS hf ?_)
 dsimp only
 refine wpAny_bind (iJ ?_)
 rw [hb]
 show wpAny _ _ (if (ep != ep)=true then _ else _) _ _ _
 rw [if_neg (by simp)]
 refine wpAny_bind ?_
 unfold setWalk
 refine wpAny_bind (gk hS hf ?_)
 dsimp only
 refine wpAny_bind (iJ ?_)
 rw [hb]
 show wpAny _ _ (do let x<-ask; pure _) _ _ _
 exact wpAny_bind (wpAny_askSetting (wpAny_pure (wpAny_pure h)))
theorem ra {D:Addr}{es:Array (Int×Value)}{ep place:Nat}{t:SetTable}{e:Int×Value}{Q:Value->Shared->Prop}(hS:du s.heap D es ep t) (hf:t.fits es.size=true) (he:es[place]? =some e) (h:Q e.2 s):wpAny (model prog w) A (setNextDrawn D place ep) Q E s:=by
 unfold setNextDrawn
 refine wpAny_bind (gk hS hf ?_)
 dsimp only
 rw [if_neg (by simp),he]
 exact wpAny_pure h
end
def slotAt (t:SetTable) (i:Nat):Nat:=if i=0 then 0 else t.place.getD (i - 1) 0+1
theorem ij {t:SetTable}(hr:Ris t.place) {i:Nat}(hi:i<=t.place.size):SetTable.below t.place (slotAt t i)=i:=by
 unfold slotAt
 by_cases h:i=0
 ·rw [if_pos h,h]; exact qi hr
 ·rw [if_neg h,rS hr (by lia)]; lia
section
variable {prog:Program}{w:World}{A:Around}{E:Value->Shared->Prop}{s:Shared}
theorem nU {I D:Addr}{o:Obj}{vs:Array Value}{h:Heap}{i:Nat}{x:Value}(ho:h.get? I=some o) (hc:o.cls=.type "set_iterator") (hd:o.data=.fields vs):∃o',(h.update I (Obj.mapFields (·.setIfInBounds i x))).get? I=some o'/\o'.cls=.type "set_iterator"/\o'.data=.fields (vs.setIfInBounds i x):=
 ⟨_,Heap.get?_update_self _ ho (Obj.isFreed_of_fields (Obj.data_mapFields hd _)),(Obj.cls_mapFields ..).trans hc,Obj.data_mapFields hd _⟩
end
end L2
namespace L2
open PySem
section
variable {prog:Program}{w:World}{A:Around}{E:Value->Shared->Prop}{s:Shared}
theorem pT {I D:Addr}{es:Array (Int×Value)}{ep slot i next:Nat}{t:SetTable}{x:Value}{Q:Option Value->Shared->Prop}(hi:SIt s.heap I D (.int slot 0) i es.size ep) (hS:du s.heap D es ep t) (hf:t.fits es.size=true)
  (hn:∀(Q':Option (Value×Nat)->Shared->Prop) (E':Value->Shared->Prop),Q' (some (x,next)) s->wpAny (model prog w) A.in1 (setNext D slot i ep) Q' E' s)
  (hQ:∀h',SIt h' I D (.int next 0) (i+1) es.size ep->Heap.SameBut I s.heap h'->Q (some x) {s with heap:=h'}):wpAny (model prog w) A (pyNext (.ref I)) Q E s:=by
 have ty:=hi.ty
 obtain ⟨o,ho,hc,hd⟩:=hi
 unfold pyNext
 refine wpAny_bind (wpAny_attempt (wpAny_callSpecial?_slot (name:=Str.ofString "__next__") ty bN (wpAny_call_entry bN ty fS ?_ (fU _))))
 show wpAny _ _ (fieldsOf (.ref I) >>= _) _ _ s
 refine wpAny_bind (wpAny_fieldsOf ho hd ?_)
 show wpAny _ _ (setEntries D >>= _) _ _ s
 unfold setEntries
 refine wpAny_bind (wpAny_bind (gk hS hf (wpAny_pure ?_)))
 dsimp only
 rw [if_neg (by simp)]
 show wpAny _ _ (setNext D (Int.toNat slot) (Int.toNat i) (Int.toNat ep) >>= _) _ _ s
 rw [Bi,Bi,Bi]
 refine wpAny_bind (hn _ _ ?_)
 dsimp only
 refine wpAny_bind (wpAny_setField ho hd (by simp) ?_)
 obtain ⟨o2,ho2,hc2,hd2⟩:=nU (D:=D) (i:=0) (x:=rawInt next) ho hc hd
 refine wpAny_bind (wpAny_setField ho2 hd2 (by simp) (wpAny_pure ⟨x,rfl,wpAny_pure (hQ _ ?_ ((Heap.SameBut.update ..).trans (Heap.SameBut.update ..)))⟩))
 obtain ⟨o3,ho3,hc3,hd3⟩:=nU (D:=D) (i:=1) (x:=rawInt ((i:Int)+1)) ho2 hc2 hd2
 exact ⟨o3,ho3,hc3,by rw [hd3]; rfl⟩
theorem tG {I D:Addr}{es:Array (Int×Value)}{ep slot i:Nat}{t:SetTable}{Q:Option Value->Shared->Prop}(hh:A.handled=none) (hi:SIt s.heap I D (.int slot 0) i es.size ep) (hS:du s.heap D es ep t) (hf:t.fits es.size=true)
  (hn:∀(Q':Option (Value×Nat)->Shared->Prop) (E':Value->Shared->Prop),Q' none s->wpAny (model prog w) A.in1 (setNext D slot i ep) Q' E' s)
  (hQ:∀h',Heap.ExtBut I s.heap h'->Q none {s with heap:=h'}):wpAny (model prog w) A (pyNext (.ref I)) Q E s:=by
 have ty:=hi.ty
 obtain ⟨o,ho,hc,hd⟩:=hi
 unfold pyNext
 refine wpAny_bind (wpAny_attempt (wpAny_callSpecial?_slot (name:=Str.ofString "__next__") ty bN (wpAny_call_entry bN ty fS ?_ (fU _))))
 show wpAny _ _ (fieldsOf (.ref I) >>= _) _ _ s
 refine wpAny_bind (wpAny_fieldsOf ho hd ?_)
 show wpAny _ _ (setEntries D >>= _) _ _ s
 unfold setEntries
 refine wpAny_bind (wpAny_bind (gk hS hf (wpAny_pure ?_)))
 dsimp only
 rw [if_neg (by simp)]
 show wpAny _ _ (setNext D (Int.toNat slot) (Int.toNat i) (Int.toNat ep) >>= _) _ _ s
 rw [Bi,Bi,Bi]
 refine wpAny_bind (hn _ _ ?_)
 dsimp only
 refine wpAny_bind (wpAny_setField ho hd (by simp) ?_)
 refine wpAny_bind ?_
 simp only [newExc,newTuple]
 refine wpAny_bind (wpAny_newObj_type ?_ (by size_fits))
 refine wpAny_bind (m:=firstArgMember _ _) (wpAny_of_eq (a:=Value.none) (by first | rfl | (simp only [firstArgMember]; rfl)) ?_)
 refine wpAny_newObj_type ?_ (by size_fits)
 simp only [raiseNew]
 refine wpAny_bind (wpAny_handled ?_)
 rw [show A.in1.handled=none from hh]
 refine wpAny_bind (wpAny_pure (wpAny_throw ?_))
 refine wpAny_bind (wpAny_isInstance (T:="StopIteration") (b:=true) ⟨_,Heap.get?_push_size _ rfl,rfl⟩ isSubtype_stop ?_)
 exact wpAny_pure (hQ _ (((Heap.SameBut.update ..).extBut.push _).push _))
theorem item_dr {I D T:Addr}{es:Array (Int×Value)}{ps:Array Value}{ep i c k:Nat}{t:SetTable}{e:Int×Value}{ot:Obj}{Q:Option Value->Shared->Prop}(hi:SIt s.heap I D (.ref T) i es.size ep) (hS:du s.heap D es ep t) (hf:t.fits es.size=true)
  (hT:s.heap.get? T=some ot) (hTd:ot.data=.seq ps c) (hp:ps[i]? =some (.int k 0)) (he:es[k]? =some e)
  (hQ:∀h',SIt h' I D (.ref T) (i+1) es.size ep->Heap.SameBut I s.heap h'->Q (some e.2) {s with heap:=h'}):wpAny (model prog w) A (pyNext (.ref I)) Q E s:=by
 have ty:=hi.ty
 obtain ⟨o,ho,hc,hd⟩:=hi
 unfold pyNext
 refine wpAny_bind (wpAny_attempt (wpAny_callSpecial?_slot (name:=Str.ofString "__next__") ty bN (wpAny_call_entry bN ty fS ?_ (fU _))))
 show wpAny _ _ (fieldsOf (.ref I) >>= _) _ _ s
 refine wpAny_bind (wpAny_fieldsOf ho hd ?_)
 show wpAny _ _ (setEntries D >>= _) _ _ s
 unfold setEntries
 refine wpAny_bind (wpAny_bind (gk hS hf (wpAny_pure ?_)))
 dsimp only
 rw [if_neg (by simp)]
 show wpAny _ _ (seqItems? (.ref T) >>= _) _ _ s
 refine wpAny_bind (wpAny_seqItems hT hTd ?_)
 dsimp only
 rw [Bi,hp]
 dsimp only
 rw [Bi,Bi]
 refine wpAny_bind (ra hS hf he ?_)
 obtain ⟨o3,ho3,hc3,hd3⟩:=nU (D:=D) (i:=1) (x:=rawInt ((i:Int)+1)) ho hc hd
 exact wpAny_bind (wpAny_setField ho hd (by simp) (wpAny_pure ⟨_,rfl,wpAny_pure (hQ _ ⟨o3,ho3,hc3,by rw [hd3]; rfl⟩ (Heap.SameBut.update ..))⟩))
theorem end_dr {I D T:Addr}{es:Array (Int×Value)}{ps:Array Value}{ep i c:Nat}{t:SetTable}{ot:Obj}{Q:Option Value->Shared->Prop}(hh:A.handled=none) (hi:SIt s.heap I D (.ref T) i es.size ep) (hS:du s.heap D es ep t) (hf:t.fits es.size=true)
  (hT:s.heap.get? T=some ot) (hTd:ot.data=.seq ps c) (hp:ps[i]? =none)
  (hQ:∀h',Heap.ExtBut I s.heap h'->Q none {s with heap:=h'}):wpAny (model prog w) A (pyNext (.ref I)) Q E s:=by
 have ty:=hi.ty
 obtain ⟨o,ho,hc,hd⟩:=hi
 unfold pyNext
 refine wpAny_bind (wpAny_attempt (wpAny_callSpecial?_slot (name:=Str.ofString "__next__") ty bN (wpAny_call_entry bN ty fS ?_ (fU _))))
 show wpAny _ _ (fieldsOf (.ref I) >>= _) _ _ s
 refine wpAny_bind (wpAny_fieldsOf ho hd ?_)
 show wpAny _ _ (setEntries D >>= _) _ _ s
 unfold setEntries
 refine wpAny_bind (wpAny_bind (gk hS hf (wpAny_pure ?_)))
 dsimp only
 rw [if_neg (by simp)]
 show wpAny _ _ (seqItems? (.ref T) >>= _) _ _ s
 refine wpAny_bind (wpAny_seqItems hT hTd ?_)
 dsimp only
 rw [Bi,hp]
 dsimp only
 refine wpAny_bind (wpAny_setField ho hd (by simp) ?_)
 obtain ⟨o2,ho2,hc2,hd2⟩:=nU (D:=D) (i:=0) (x:=rawInt 0) ho hc hd
 refine wpAny_bind (wpAny_setField ho2 hd2 (by simp) ?_)
 refine wpAny_bind ?_
 simp only [newExc,newTuple]
 refine wpAny_bind (wpAny_newObj_type ?_ (by size_fits))
 refine wpAny_bind (m:=firstArgMember _ _) (wpAny_of_eq (a:=Value.none) (by first | rfl | (simp only [firstArgMember]; rfl)) ?_)
 refine wpAny_newObj_type ?_ (by size_fits)
 simp only [raiseNew]
 refine wpAny_bind (wpAny_handled ?_)
 rw [show A.in1.handled=none from hh]
 refine wpAny_bind (wpAny_pure (wpAny_throw ?_))
 refine wpAny_bind (wpAny_isInstance (T:="StopIteration") (b:=true) ⟨_,Heap.get?_push_size _ rfl,rfl⟩ isSubtype_stop ?_)
 exact wpAny_pure (hQ _ ((((Heap.SameBut.update ..).trans (Heap.SameBut.update ..)).extBut.push _).push _))
theorem mH {I D:Addr}{f:Value}{i n ep:Nat}{Q:Value->Shared->Prop}(hi:SIt s.heap I D f i n ep) (h:Q (.ref I) s):wpAny (model prog w) A (pyIter (.ref I)) Q E s:=by
 refine wpAny_pyIter_slot hi.ty jY (wpAny_call_entry jY hi.ty rG ?_ (rT _))
 show wpAny _ _ (ret (.ref I)) _ _ s
 exact wpAny_pure ⟨_,rfl,"set_iterator",_,hi.ty,bN.lookup,h⟩
end
end L2
namespace L2
open PySem
def cM (es:Array (Int×Value)):List Value:=es.toList.map (·.2)
structure WS3 (prog:Program) (w:World) (s:Shared) (D:Addr) (vs:List Value) (h':Heap) (I:Addr):Prop where
 ex:∃(fp:List Addr) (St:Nat->Heap->Prop),(∀A':Around,A'.handled=none->Walks prog w A' I fp [I] vs.length (λ i v=>vs[i]? =some v) St)/\St 0 h'/\(∀b∈fp,b=D\/s.heap.objs.size<=b)/\I∈fp/\(∀b∈fp,b<h'.objs.size)/\s.heap.objs.size<=I
section
variable {prog:Program}{w:World}
theorem tU {I D:Addr}(hne:D≠I) {es:Array (Int×Value)}{ep:Nat}{t:SetTable}(g:SG (!w.params.followText "set-order") es.size t) (hb:w.params.followText "set-order"=false) (hp:t.plain=true\/es.size<=1) {A:Around}(hh:A.handled=none):
  Walks prog w A I [I,D] [I] (cM es).length (λ i v=>(cM es)[i]? =some v) (λ i h=>i<=es.size/\SIt h I D (.int (slotAt t i:Nat) 0) i es.size ep/\du h D es ep t) where
 sub:=λ b hb=>by
  have:b=I:=by simpa using hb
  simp [this]
 frame:=λ i h h' st k=>⟨st.1,st.2.1.keep λ o e=>k I (by simp) o e,st.2.2.keep λ o e=>k D (by simp) o e⟩
 item:=λ i s Q E hi st hQ=>by
  have hl:(cM es).length=es.size:=by simp [cM]
  have hi':i<es.size:=by lia
  have hps:t.place.size=es.size:=by
   have:=g.fits
   unfold SetTable.fits at this
   rw [Bu] at this
   exact beq_iff_eq.mp this.1
  have hv:(cM es)[i]? =some es[i].2:=by
   unfold cM
   rw [y8,BI,BH hi']
   rfl
  refine pT (x:=es[i].2) (next:=slotAt t (i+1)) st.2.1 st.2.2 g.fits (λ Q' E' q=>lQ st.2.2 g hb hp (ij g.ris (by lia)) ?_) λ h' a b=>?_
  ·rw [BH hi',BH (by lia)]
   have e:slotAt t (i+1)=t.place[i]+1:=by
    unfold slotAt
    rw [if_neg (Nat.succ_ne_zero i),Nat.add_sub_cancel,bp (by lia)]
   rw [e] at q
   exact q
  ·exact hQ _ h' s.toks hv ⟨hi',a,st.2.2.keep λ o e=>b.extBut D o hne e⟩ λ c o hc e=>b.extBut c o (λ z=>hc (by simp [z])) e
 done:=λ s Q E st hQ=>by
   have hl:(cM es).length=es.size:=by simp [cM]
   have hps:t.place.size=es.size:=by
    have:=g.fits
    unfold SetTable.fits at this
    rw [Bu] at this
    exact beq_iff_eq.mp this.1
   rw [hl] at st
   refine tG hh st.2.1 st.2.2 g.fits (λ Q' E' q=>lQ st.2.2 g hb hp (ij g.ris (by lia)) ?_) λ h' a=>hQ h' s.toks λ c o hc e=>a c o (λ z=>hc (by simp [z])) e
   rw [BJ (AU _)]
   exact q
 self:=λ _ _ _ _ st hQ=>mH st.2.1 hQ
theorem tT {I D:Addr}(hne:D≠I) {es:Array (Int×Value)}{ep:Nat}{t:SetTable}(hf:t.fits es.size=true) (hb:w.params.followText "set-order"=true) {A:Around}(hh:A.handled=none):
  Walks prog w A I [I,D] [I] (cM (pickOrder (w.params.setOrder D ep) es)).length (λ i v=>(cM (pickOrder (w.params.setOrder D ep) es))[i]? =some v) (λ i h=>SIt h I D (.int (0:Nat) 0) i es.size ep/\du h D es ep t) where
 sub:=λ b hb=>by
  have:b=I:=by simpa using hb
  simp [this]
 frame:=λ i h h' st k=>⟨st.1.keep λ o e=>k I (by simp) o e,st.2.keep λ o e=>k D (by simp) o e⟩
 item:=λ i s Q E hi st hQ=>by
  have hi':i<(pickOrder (w.params.setOrder D ep) es).size:=by simpa [cM] using hi
  have hv:(cM (pickOrder (w.params.setOrder D ep) es))[i]? =some (pickOrder (w.params.setOrder D ep) es)[i].2:=by
   unfold cM
   rw [y8,BI,BH hi']
   rfl
  refine pT (x:=(pickOrder (w.params.setOrder D ep) es)[i].2) (next:=0) st.1 st.2 hf (λ Q' E' q=>lP st.2 hf hb ?_) λ h' a b=>?_
  ·rw [BH hi']
   exact q
  ·exact hQ _ h' s.toks hv ⟨a,st.2.keep λ o e=>b.extBut D o hne e⟩ λ c o hc e=>b.extBut c o (λ z=>hc (by simp [z])) e
 done:=λ s Q E st hQ=>by
   refine tG hh st.1 st.2 hf (λ Q' E' q=>lP st.2 hf hb ?_) λ h' a=>hQ h' s.toks λ c o hc e=>a c o (λ z=>hc (by simp [z])) e
   rw [BJ (by simp [cM])]
   exact q
 self:=λ _ _ _ _ st hQ=>mH st.1 hQ
theorem walk_dr {I D T:Addr}(hne:D≠I) (hT:T≠I) {es:Array (Int×Value)}{ep:Nat}{t:SetTable}(hf:t.fits es.size=true) (ks:List Nat) (hk:∀k∈ks,k<es.size) {A:Around}(hh:A.handled=none):
  Walks prog w A I [I,D,T] [I] (ks.map λ k=>(es.getD k (0,.none)).2).length (λ i v=>(ks.map λ k=>(es.getD k (0,.none)).2)[i]? =some v) (λ i h=>SIt h I D (.ref T) i es.size ep/\du h D es ep t/\∃ot c,h.get? T=some ot/\ot.data=.seq (ks.map λ (k:Nat)=>Value.int k 0).toArray c) where
 sub:=λ b hb=>by
  have:b=I:=by simpa using hb
  simp [this]
 frame:=λ i h h' st k=>⟨st.1.keep λ o e=>k I (by simp) o e,st.2.1.keep λ o e=>k D (by simp) o e,let ⟨ot,c,h1,h2⟩:=st.2.2; ⟨ot,c,k T (by simp) ot h1,h2⟩⟩
 item:=λ i s Q E hi st hQ=>by
  have hi':i<ks.length:=by simpa using hi
  obtain ⟨s1,s2,ot,c,h1,h2⟩:=st
  have hki:ks[i]<es.size:=hk _ (zp hi')
  refine item_dr (k:=ks[i]) (e:=es[ks[i]]) s1 s2 hf h1 h2 (by simp [hi']) (BH hki) λ h' a b=>?_
  refine hQ _ h' s.toks ?_ ⟨a,s2.keep λ o e=>b.extBut D o hne e,ot,c,b.extBut T ot hT h1,h2⟩ λ c o hc e=>b.extBut c o (λ z=>hc (by simp [z])) e
  rw [y8,y7 hi']
  show some (es.getD ks[i] (0,.none)).2=_
  rw [bp hki]
 done:=λ s Q E st hQ=>by
   obtain ⟨s1,s2,ot,c,h1,h2⟩:=st
   exact end_dr hh s1 s2 hf h1 h2 (by simp) λ h' a=>hQ h' s.toks λ c o hc e=>a c o (λ z=>hc (by simp [z])) e
 self:=λ _ _ _ _ st hQ=>mH st.1 hQ
end
section
variable {prog:Program}{w:World}{A:Around}{E:Value->Shared->Prop}
theorem yz {α:Type}:∀(n:Nat) (xs:List α) (s:Shared) (Q:List α->Shared->Prop),xs.length=n->(∀l d,l.Perm xs->Q l {s with drawn:=d})->wpAny (model prog w) A (drawOrder n xs) Q E s
 | 0,xs,s,Q,hn,h=>by
   have:xs=[]:=Aw.mp hn
   subst this
   exact wpAny_pure (h [] s.drawn (List.Perm.refl _))
 | n+1,[],s,Q,hn,h=>by cases hn
 | n+1,x::xs,s,Q,hn,h=>by
   show wpAny _ _ (do let i<-choose .order (x::xs).length; _) _ _ s
   refine wpAny_bind ?_
   intro Γ p hΓ
   unfold choose
   rw [Sem.wp_choose]
   refine ⟨Nat.succ_ne_zero _,?_⟩
   have hi:(model prog w).w.draws Source.order (s.drawn.get Source.order) % (x::xs).length<(x::xs).length:=Ba _ (Bb _)
   refine (wpAny_pure (M:=model prog w) (A:=A) (E:=E) ?_) Γ p hΓ
   rw [y7 hi]
   dsimp only
   refine wpAny_bind (yz n _ _ _ ?_ λ l d hp=>?_)
   ·rw [AM hi]
    lia
   ·exact wpAny_pure (h _ d ((List.Perm.cons _ hp).trans (kF (y7 hi))))
end
section
variable {prog:Program}{w:World}{A:Around}{E:Value->Shared->Prop}{s:Shared}
theorem qN {es:Array (Int×Value)}{l:List Nat}(h:l.Perm (List.range es.size)):(l.map λ k=>(es.getD k (0,.none)).2).Perm (cM es):=by
 refine (h.map _).trans (List.Perm.of_eq ?_)
 unfold cM
 apply zR
 intro i
 have e0:es.toList[i]? =es[i]? :=BI
 rw [y8,y8,e0]
 by_cases hi:i<es.size
 ·rw [zJ hi,BH hi]
  show some (es.getD i (0,.none)).2=some es[i].2
  rw [bp hi]
 ·rw [zE (by simpa using hi),BJ (by lia)]
  rfl
theorem xU {D:Addr}{es:Array (Int×Value)}{ep:Nat}{t:SetTable}{Q:Value->Shared->Prop}(hS:du s.heap D es ep t) (g:SG (!w.params.followText "set-order") es.size t) (hz:es.size<=sizeLine)
  (hQ:∀(vs:List Value) (h':Heap) (I:Addr) d,vs.Perm (cM es)->WS3 prog w s D vs h' I->(∀b o,s.heap.get? b=some o->h'.get? b=some o)->Q (.ref I) {s with heap:=h',drawn:=d}):wpAny (model prog w) A (pyIter (.ref D)) Q E s:=by
 have ty:s.TypeIs (.ref D) "set":=let ⟨o,h1,h2,_⟩:=hS; ⟨o,h1,h2.1⟩
 have hlt:D<s.heap.objs.size:=let ⟨o,h1,_⟩:=hS; Heap.lt_size h1
 refine wpAny_pyIter_slot ty F.slot_set_iter (wpAny_call_entry F.slot_set_iter ty pY ?_ (F.args_set_iter_1 _))
 show wpAny _ _ (Builtin.Frozenset.sizeOf D >>= _) _ _ s
 unfold Builtin.Frozenset.sizeOf setEntries
 refine wpAny_bind (wpAny_bind (wpAny_bind (gk hS g.fits (wpAny_pure (wpAny_pure ?_)))))
 dsimp only
 refine wpAny_bind ?_
 unfold setDrawn
 refine wpAny_bind (gk hS g.fits ?_)
 dsimp only
 refine wpAny_bind (iJ (wpAny_pure ?_))
 have fin:∀(first:Value) (h1:Heap) (d:Drawn),(∀b o,s.heap.get? b=some o->h1.get? b=some o)->s.heap.objs.size<=h1.objs.size->(∀I h',SIt h' I D first 0 es.size ep->du h' D es ep t->D<I->s.heap.objs.size<=I->h1.objs.size<=I->I<h'.objs.size->(∀b o,h1.get? b=some o->h'.get? b=some o)->∃vs:List Value,vs.Perm (cM es)/\WS3 prog w s D vs h' I)->
   wpAny (model prog w) A.in1 (do let n<-setEpoch D; let x<-newFields "set_iterator" [first,rawInt 0,.ref D,rawInt es.size,rawInt n]; ret x) (λ r s'=> ∃v,r=.done (.ret v)/\∃T' r',s'.TypeIs v T'/\typeLookup (.type T') "__next__"=pure (some r')/\Q v s') E {s with heap:=h1,drawn:=d}:=λ first h1 d k hs f=>by
  have hS1:du h1 D es ep t:=hS.keep λ o e=>k D o e
  unfold setEpoch
  refine wpAny_bind (wpAny_bind (gk hS1 g.fits (wpAny_pure ?_)))
  refine wpAny_bind (wpAny_newObj_type (wpAny_pure ?_) (by size_fits))
  have k2:∀b o,h1.get? b=some o->(h1.push {cls:=.type "set_iterator",data:=.fields #[first,.int 0 0,.ref D,.int es.size 0,.int ep 0]}).get? b=some o:=λ b o e=>Heap.get?_push_of_some _ e
  have hI:SIt (h1.push {cls:=.type "set_iterator",data:=.fields #[first,.int 0 0,.ref D,.int es.size 0,.int ep 0]}) h1.objs.size D first 0 es.size ep:=⟨_,Heap.get?_push_size _ rfl,rfl,rfl⟩
  obtain ⟨vs,p,W⟩:=f _ _ hI (hS1.keep λ o e=>k2 D o e) (AY hlt hs) hs (AU _) (by rw [Heap.size_push]; exact A6 _) k2
  exact ⟨_,rfl,"set_iterator",_,⟨_,Heap.get?_push_size _ rfl,rfl⟩,bN.lookup,hQ vs _ _ d p W λ b o e=>k2 b o (k b o e)⟩
 cases hb:w.params.followText "set-order" with
 | true=>
   rw [if_neg (by simp)]
   refine wpAny_bind (wpAny_pure (fin _ s.heap s.drawn (λ _ _ e=>e) (AU _) λ I h' a b c1 c2 c3 c4 k=>⟨_,(uq (w.params.setOrder D ep) es).map _,⟨[I,D],_,λ A' hA=>tT (AW c1) g.fits hb hA,⟨a,b⟩,?_,by simp,?_,c2⟩⟩))
   ·intro x hx
    simp only [y6,zq,or_false] at hx
    rcases hx with rfl | rfl
    ·exact .inr c2
    ·exact .inl rfl
   ·intro x hx
    simp only [y6,zq,or_false] at hx
    rcases hx with rfl | rfl
    ·exact c4
    ·exact A9 c1 c4
 | false=>
   split
   ·rename_i hd
    have hd:(!t.plain&&decide (es.size > 1))=true:=hd
    refine wpAny_bind (yz es.size (List.range es.size) s _ (by simp) λ l d hp=>?_)
    refine wpAny_bind (wpAny_newObj_type ?_ ?_)
    ·refine fin _ _ d (λ b o e=>Heap.get?_push_of_some _ e) (by rw [Heap.size_push]; exact AZ _) λ I h' a b c1 c2 c3 c4 k=>⟨_,qN hp,⟨[I,D,s.heap.objs.size],_,λ A' hA=>walk_dr (T:=s.heap.objs.size) (AW c1) (AW (AY (by rw [Heap.size_push]; exact A6 _) c3)) g.fits l (λ x hx=>by simpa using hp.mem_iff.mp hx) hA,⟨a,b,_,_,k _ _ (Heap.get?_push_size _ rfl),rfl⟩,?_,by simp,?_,c2⟩⟩
     ·intro x hx
      simp only [y6,zq,or_false] at hx
      rcases hx with rfl | rfl | rfl
      ·exact .inr c2
      ·exact .inl rfl
      ·exact .inr (AU _)
     ·intro x hx
      simp only [y6,zq,or_false] at hx
      rcases hx with rfl | rfl | rfl
      ·exact c4
      ·exact A9 c1 c4
      ·exact Nat.lt_of_le_of_lt c2 c4
    ·have:=hp.length_eq
     simp only [zI] at this
     simp [sizeOk,this,hz]
   ·rename_i hd
    have hd:¬(!t.plain&&decide (es.size > 1))=true:=hd
    have hp:t.plain=true\/es.size<=1:=by
     cases e:t.plain with
     | true=>exact .inl rfl
     | false=>
       right
       rw [e] at hd
       simp at hd
       lia
    refine wpAny_bind (wpAny_pure (fin _ s.heap s.drawn (λ _ _ e=>e) (AU _) λ I h' a b c1 c2 c3 c4 k=>⟨_,List.Perm.refl _,⟨[I,D],_,λ A' hA=>tU (AW c1) g hb hp hA,⟨AV _,a,b⟩,?_,by simp,?_,c2⟩⟩))
    ·intro x hx
     simp only [y6,zq,or_false] at hx
     rcases hx with rfl | rfl
     ·exact .inr c2
     ·exact .inl rfl
    ·intro x hx
     simp only [y6,zq,or_false] at hx
     rcases hx with rfl | rfl
     ·exact c4
     ·exact A9 c1 c4
end
end L2
namespace L2
open PySem
theorem rk:typeLookup (.type "set") "__len__"=pure (some (.builtin "set.__len__")):=by rw [typeLookup_type,builtinLookup_eq_fast]; kernel_rfl
section
variable {prog:Program}{w:World}{A:Around}{E:Value->Shared->Prop}{s:Shared}
theorem xW {D:Addr}{Q:Bool->Shared->Prop}(ty:s.TypeIs (.ref D) "set") (q:Q false s):wpAny (model prog w) A (Builtin.List.listLengthHint (.ref D)) Q E s:=by
 unfold Builtin.List.listLengthHint
 refine wpAny_bind (wpAny_specialOf ty rk ?_)
 generalize hx:("set.__len__":String)=x0
 wp_delta
 rw [show splitId x0=some ("set","__len__") from by subst hx; decide+kernel]
 subst hx
 refine wpAny_bind (wpAny_isInstance (T:="set") (b:=true) ty (by rw [isSubtype_type]; kernel_rfl) ?_)
 refine wpAny_ite_split (λ z=>absurd z (by decide)) (λ _=>wpAny_ite_split (λ _=>?_) (λ z=>absurd (by decide+kernel) z))
 exact wpAny_bind (wpAny_typeOf ty (wpAny_pure q))
abbrev jq:Obj:={cls:=.type "list",data:=.seq ([]:List Value).toArray}
theorem qb {D:Addr}{es:Array (Int×Value)}{ep:Nat}{t:SetTable}{Q:List Value->Shared->Prop}(hh:A.handled=none) (hS:du s.heap D es ep t) (g:SG (!w.params.followText "set-order") es.size t) (hz:es.size<=sizeLine)
  (q:∀(vs:List Value) (h':Heap) d tk,vs.Perm (cM es)->(∀b o,s.heap.get? b=some o->h'.get? b=some o)->s.heap.objs.size<h'.objs.size->s.toks<=tk->Q vs {s with heap:=h',drawn:=d,toks:=tk}):wpAny (model prog w) A (collect (.ref D)) Q E s:=by
 have hlt:D<s.heap.objs.size:=let ⟨o,h1,_⟩:=hS; Heap.lt_size h1
 unfold collect
 refine wpAny_bind (wpAny_runValue (codeAny_builtin F.entry_proto_collect ?_))
 rw [Around.under_plainId F.plain_proto_collect _]
 show wpAny _ A.in1 (newList [] >>= λ l=>again (.builtin "list.__iadd__" ⟨[l,.ref D],[]⟩)) _ _ s
 refine wpAny_bind (wpAny_newObj_type (wpAny_pure ⟨plainId_quiet F.plain_list_iadd _,codeAny_builtin F.entry_list_iadd ?_⟩))
 rw [Around.under_plainId F.plain_list_iadd _]
 have kp:∀b o,s.heap.get? b=some o->(s.heap.push jq).get? b=some o:=λ b o e=>Heap.get?_push_of_some _ e
 have hS1:du (s.heap.push jq) D es ep t:=hS.keep λ o e=>kp D o e
 have ty1:Shared.TypeIs {s with heap:=s.heap.push jq} (.ref D) "set":=let ⟨o,h1,h2,_⟩:=hS1; ⟨o,h1,h2.1⟩
 have gL:(s.heap.push jq).get? s.heap.objs.size=some jq:=Heap.get?_push_size _ rfl
 show wpAny _ A.in1 (Builtin.List.listExtendWith (.ref s.heap.objs.size) (.ref D) (.ref s.heap.objs.size)) _ _ _
 unfold Builtin.List.listExtendWith
 refine wpAny_bind (wpAny_typeOf ty1 ?_)
 have n1:Builtin.List.listSameRef (.ref s.heap.objs.size) (.ref D)=false:=by simp [Builtin.List.listSameRef,A1 hlt]
 rw [if_neg (by rw [n1]; decide)]
 refine wpAny_bind (xU (s:={s with heap:=s.heap.push jq}) hS1 g hz λ vs h' I d hp W k=>?_)
 obtain ⟨fp,St,W,st,f1,f2,f3,f4⟩:=W.ex
 have hvl:vs.length<=sizeLine:=by
  have:=hp.length_eq
  have e:(cM es).length=es.size:=by simp [cM]
  lia
 have nS:s.heap.objs.size∉fp:=λ z=>by
  rcases f1 _ z with e | e
  ·exact A1 hlt e
  ·have e:(s.heap.push jq).objs.size<=s.heap.objs.size:=e
   rw [Heap.size_push] at e
   exact A0 _ e
 have ty2:Shared.TypeIs {s with heap:=h',drawn:=d} (.ref D) "set":=let ⟨o,h1,h2,_⟩:=hS1; ⟨o,k _ _ h1,h2.1⟩
 refine wpAny_bind (wpAny_holding (xW ty2 ?_))
 have gL2:=k _ _ gL
 refine wpAny_ite_split (λ _=>?_) (λ z=>absurd (by decide+kernel) z)
 refine wpAny_bind (wpAny_rule (wpAny_bind ?_))
 show wpAny _ _ (updateSeq s.heap.objs.size (·.push .none) >>= λ _=>updateSeq s.heap.objs.size (·.pop)) _ _ _
 refine wpAny_bind (wpAny_updateSeq gL2 rfl ?_)
 have gL3:=Heap.get?_update_self (Obj.mapSeq (·.push Value.none)) gL2 rfl
 refine wpAny_updateSeq (hz:=by seq_fits) gL3 rfl ?_
 have gL4:=Heap.get?_update_self (Obj.mapSeq (·.pop)) gL3 rfl
 have oth:∀b o,b≠s.heap.objs.size->h'.get? b=some o->((h'.update s.heap.objs.size (Obj.mapSeq (·.push Value.none))).update s.heap.objs.size (Obj.mapSeq (·.pop))).get? b=some o:=
  λ b o hb e=>(Heap.get?_update_other _ _ (Ne.symm hb)).trans ((Heap.get?_update_other _ _ (Ne.symm hb)).trans e)
 refine wpAny_pure ⟨plainId_quiet F.plain_extend_loop _,codeAny_extend_loopS (A:=A) (W A.in1 hh).toS hvl _ nS _ vs.length 0 _ _ _ rfl (AV _) ((W A.in1 hh).frame 0 _ _ st λ b hb o e=>oth b o (λ z=>nS (z▸hb)) e) gL4 (ItemsOf.nil _) λ s2 acc c hm gA hacc=>?_⟩
 show wpAny _ A (load s.heap.objs.size >>= _) _ _ s2
 refine wpAny_bind (wpAny_load gA ?_)
 have ea:acc.toList=vs:=by
  apply zR
  intro i
  rw [BI]
  by_cases hi:i<acc.size
  ·have:=hacc.2 i acc[i] (BH hi)
   rw [BH hi,this]
  ·rw [BJ (by lia),zE (by have:=hacc.1; lia)]
 refine wpAny_pure ?_
 rw [ea]
 obtain ⟨h2,g2,d2,t2,o2⟩:=s2
 obtain rfl:g2=s.gens:=hm.gens
 obtain rfl:d2=d:=hm.drawn
 obtain rfl:o2=s.os:=hm.os
 refine q vs _ _ _ hp (λ b o e=>?_) (Heap.lt_size gA) ?_
 ·have hb:b≠s.heap.objs.size:=AW (Heap.lt_size e)
  refine hm.heap b o (λ z=>?_) (oth b o hb (k b o (kp b o e)))
  rcases y6.mp z with z | z
  ·exact hb z
  ·have z:b=I:=zh.mp z
   have e2:(s.heap.push jq).objs.size<=I:=f4
   rw [Heap.size_push] at e2
   exact absurd (Heap.lt_size e) (by rw [z]; exact Nat.not_lt.mpr (Nat.le_of_succ_le e2))
 ·exact hm.toks
end
section
variable {prog:Program}{w:World}{κ:Type} [DecidableEq κ] {knd:KeyKind prog w κ}{A:Around}{E:Value->Shared->Prop}{s:Shared}
theorem du.put {h:Heap}{D:Addr}{es:Array (Int×Value)}{ep:Nat}{t:SetTable}(x:du h D es ep t) (es':Array (Int×Value)) (t':SetTable):du (h.update D (Obj.putSet es' t')) D es' (ep+1) t':=by
 obtain ⟨o,ho,hx,hd⟩:=x
 have e:=Heap.get?_update_self (Obj.putSet es' t') ho (by rw [putSet_of es' t' hd]; rfl)
 rw [putSet_of es' t' hd] at e
 exact ⟨_,e,hx,rfl⟩
theorem xr {D:Addr}{es es':Array (Int×Value)}{ep:Nat}{t t':SetTable}{Q:Unit->Shared->Prop}(x:du s.heap D es ep t) (hz:es'.size<scanBound) (q:Q () {s with heap:=s.heap.update D (Obj.putSet es' t')}):wpAny (model prog w) A (storeSet D es' t') Q E s:=by
 obtain ⟨o,ho,_,hd⟩:=x
 exact wpAny_storeSet_of ho hd q (fits_of_scanBound hz)
end
end L2
namespace L2
open PySem
section
variable {prog:Program}{w:World}{A:Around}{E:Value->Shared->Prop}{s:Shared}
theorem lO {k:List Int}{a:Addr}{Q:Bool->Shared->Prop}(hk:IsTupleKey (intKind prog w) s.heap k a) (h:Q false s):wpAny (model prog w) A (ofAClassStatement 8 (.ref a)) Q E s:=by
 have hT:=hk.typeIs
 obtain ⟨o,items,n,ho,_,hd,hi⟩:=hk
 unfold ofAClassStatement
 refine wpAny_bind (wpAny_typeOf hT ?_)
 dsimp only
 rw [if_pos (by decide)]
 refine wpAny_bind (wpAny_pure ?_)
 simp only [Bx,Bv,if_false]
 refine wpAny_bind (wpAny_seqItems ho hd ?_)
 dsimp only
 refine wpAny_bind ?_
 rw [<-BP]
 refine wpAny_forIn_list _ (λ rest r s'=>r.1=none/\s'=s/\∀v∈rest,carriedByValue v=true) _ ?_ ?_ _ _ ⟨rfl,rfl,hi.byValue⟩
 ·rintro v rest r s' ⟨hr,rfl,hall⟩
  have hv:=hall v zi
  have e:ofAClassStatement 7 v=pure false:=by
   cases v<;>first | rfl | (simp [carriedByValue] at hv)
  rw [e]
  refine wpAny_bind (wpAny_pure ?_)
  simp only [Bv,if_false]
  exact wpAny_pure ⟨rfl,rfl,λ u hu'=>hall u (zg _ hu')⟩
 ·rintro ⟨r1,r2⟩ s' ⟨hr,rfl,_⟩
  simp only at hr
  subst hr
  exact wpAny_pure h
def El (prog:Program) (w:World) (m:Addr->Prop) (h:Heap) (k:List Int) (e:Int×Value):Prop:= ∃a,m a/\e=(tupleKeyHash (intKind prog w) k,.ref a)/\IsTupleKey (intKind prog w) h k a
theorem seen_T {k:List Int}{x:Addr}{ys:List Value}{Q:Bool->Shared->Prop}(hx:IsTupleKey (intKind prog w) s.heap k x) (hy:∀y∈ys,∃ki a,y=.ref a/\IsTupleKey (intKind prog w) s.heap ki a) (h:Q false s):
  wpAny (model prog w) A (searchCouldBeSeen (.ref x) ys) Q E s:=by
 unfold searchCouldBeSeen
 refine wpAny_bind ?_
 refine wpAny_forIn_list _ (λ rest r s'=>r.1=none/\s'=s/\∀v∈rest,∃ki a,v=.ref a/\IsTupleKey (intKind prog w) s.heap ki a) _ ?_ ?_ _ _ ⟨rfl,rfl,hy⟩
 ·rintro v rest r s' ⟨hr,rfl,hall⟩
  obtain ⟨ki,a,rfl,ha⟩:=hall v zi
  dsimp only
  split
  ·exact wpAny_pure ⟨rfl,rfl,λ u hu'=>hall u (zg _ hu')⟩
  ·refine wpAny_bind (wpAny_eqIsQuiet_tuple hx ?_)
   simp only [Bx,Bv,if_false]
   refine wpAny_bind (wpAny_eqIsQuiet_tuple ha ?_)
   simp only [Bx,Bv,if_false]
   refine wpAny_bind (lO hx ?_)
   simp only [Bv,if_false]
   refine wpAny_bind (lO ha ?_)
   simp only [Bv,if_false]
   exact wpAny_pure ⟨rfl,rfl,λ u hu'=>hall u (zg _ hu')⟩
 ·rintro ⟨r1,r2⟩ s' ⟨hr,rfl,_⟩
  simp only at hr
  subst hr
  exact wpAny_pure h
theorem El.inj {m:Addr->Prop}{h:Heap}{k k':List Int}{e:Int×Value}(x:El prog w m h k e) (y:El prog w m h k' e):k=k':=by
 obtain ⟨a,_,rfl,h1⟩:=x
 obtain ⟨b,_,e2,h2⟩:=y
 injection e2 with _ e3
 injection e3 with e4
 subst e4
 exact h1.inj h2
theorem gn {m:Addr->Prop}{D:Addr}{es:Array (Int×Value)}{ep:Nat}{t:SetTable}{x:Addr}{k:List Int}{N:Nat}{h:Int}{Q:SetFound->Shared->Prop}(eh:h=tupleKeyHash (intKind prog w) k) (hS:du s.heap D es ep t) (g:TGb es t)
  (hes:∀i,i<es.size->∃ki,El prog w m s.heap ki (es.getD i (0,.none))) (hx:IsTupleKey (intKind prog w) s.heap k x) (hu:A.units<cLine) (he:t.slot (sl t.mask h N 0)=.empty) (hN:N<=t.mask+13)
  (q1:∀i,i<es.size->El prog w m s.heap k (es.getD i (0,.none))->Q (.there none) s)
  (q2:(∀i,i<es.size->¬El prog w m s.heap k (es.getD i (0,.none)))->∀n c,Ok2 t.mask h n c->t.slot (sl t.mask h n c)=.empty->(∀a b,Ok2 t.mask h a b->Lt2 a b n c->¬t.slot (sl t.mask h a b)=.empty)->Q (.free (sl t.mask h n c) false) s):
  ∀(f n c:Nat) (stand:Option SetTable.Probe),PAt t.mask h n c (stand.getD (t.probeStart h))->(stand.getD (t.probeStart h)).dummy=none->(n<N\/(n=N/\c=0))->
   (∀a b,Ok2 t.mask h a b->Lt2 a b n c->∃i,t.slot (sl t.mask h a b)=.live i/\¬El prog w m s.heap k (es.getD i (0,.none)))->10*(N - n)+1<=f+c->wpAny (model prog w) A (setSearchFrom D (.ref x) h true f stand) Q E s
 | 0,n,c,stand,a,hd,hn,hv,hf=>by
   have:=j4 t.mask (lp t.mask h n).1
   have:=a.ok
   unfold Ok2 at this
   lia
 | f+1,n,c,stand,a,hd,hn,hv,hf=>by
   have hgw:t.gaveWay=false:=by
    unfold SetTable.gaveWay
    have:=g.odd
    simp; lia
   have c9:c<=9:=by
    have h1:=j4 t.mask (lp t.mask h n).1
    have h2:=a.ok
    unfold Ok2 at h2
    lia
   have live_ix:∀{j i},t.slot j=.live i->i<es.size:=λ {j i} e=>by rw [<-g.ps]; exact ((iP g.ris).mp e).1
   unfold setSearchFrom
   refine wpAny_bind (gk hS g.fits ?_)
   dsimp only
   rw [hgw,if_neg Bt]
   have fin:∀(hashAt:Nat->Int),(∀i,hashAt i=(es[i]?.map (·.1)).getD 0)->∃n' c' p',PAt t.mask h n' c' p'/\(n'<N\/(n'=N/\c'=0))/\(Lt2 n c n' c'\/(n=n'/\c=c'))/\(∀a b,Ok2 t.mask h a b->(Lt2 n c a b\/(n=a/\c=b))->Lt2 a b n' c'->∃i,t.slot (sl t.mask h a b)=.live i/\¬hashAt i=h)/\
    ((t.slot (sl t.mask h n' c')=.empty/\t.probe hashAt h (stand.getD (t.probeStart h))=some (.empty (sl t.mask h n' c') none))\/
     (∃i,t.slot (sl t.mask h n' c')=.live i/\hashAt i=h/\t.probe hashAt h (stand.getD (t.probeStart h))=some (.candidate (sl t.mask h n' c') i (t.advance p'))/\n'<N/\p'.dummy=none)):=λ hashAt _=>by
    obtain ⟨n',c',p',b1,b2,b3,b4,b5⟩:=nX g.nd hashAt he (10*SetTable.turns t.mask) n c _ a hn (by unfold SetTable.turns; lia)
    rw [hd] at b5
    exact ⟨n',c',p',b1,b2,b3,b4,b5⟩
   split
   ·rename_i met hm
    obtain ⟨hashAt,hha,hm⟩:∃fh:Nat->Int,(∀i,fh i=(es[i]?.map (·.1)).getD 0)/\t.probe fh h (stand.getD (t.probeStart h))=some met:=⟨_,λ i=>rfl,hm⟩
    obtain ⟨n',c',p',b1,b2,b3,b4,b5⟩:=fin hashAt hha
    have hv':∀a b,Ok2 t.mask h a b->Lt2 a b n' c'->∃i,t.slot (sl t.mask h a b)=.live i/\¬El prog w m s.heap k (es.getD i (0,.none)):=λ a b o l=>by
     by_cases l2:Lt2 a b n c
     ·exact hv a b o l2
     ·obtain ⟨i,h1,h2⟩:=b4 a b o (by unfold Lt2 at *; lia) l
      refine ⟨i,h1,λ ⟨y,_,e,_⟩=>h2 ?_⟩
      have hi:=live_ix h1
      rw [hha i,BH hi]
      rw [bp hi] at e
      rw [e,eh]
      rfl
    rcases b5 with ⟨e1,e2⟩ | ⟨i,e1,e2,e3,e4,e5⟩
    ·rw [e2] at hm
     injection hm with hm
     subst hm
     dsimp only
     refine wpAny_pure (q2 (λ i hi hE=>?_) n' c' b1.ok e1 λ a b o l z=>?_)
     ·obtain ⟨n0,c0,o0,e0,hb⟩:=g.pl i hi
      have hh:(es.getD i (0,.none)).1=h:=by obtain ⟨y,_,e,_⟩:=hE; rw [e,eh]
      rw [hh] at o0 e0 hb
      have hsl:t.slot (t.place.getD i 0)=.live i:=(iP g.ris).mpr ⟨by rw [g.ps]; exact hi,rfl⟩
      by_cases l1:Lt2 n0 c0 n' c'
      ·obtain ⟨j,z1,z2⟩:=hv' n0 c0 o0 l1
       rw [e0,hsl] at z1
       injection z1 with z1
       subst z1
       exact z2 hE
      ·by_cases l2:Lt2 n' c' n0 c0
       ·exact hb n' c' b1.ok l2 e1
       ·have:n0=n'/\c0=c':=by unfold Lt2 at *; lia
        obtain ⟨rfl,rfl⟩:=this
        rw [e0,hsl] at e1
        cases e1
     ·obtain ⟨i,z1,_⟩:=hv' a b o l
      rw [z1] at z
      cases z
    ·rw [e3] at hm
     injection hm with hm
     subst hm
     have hi:=live_ix e1
     obtain ⟨ki,y,my,ey,hy⟩:=hes i hi
     have eg:es[i]? =some (tupleKeyHash (intKind prog w) ki,Value.ref y):=by
      rw [BH hi,<-bp hi,ey]
     have hsm:t.sameMemory t.moves t.mask=some true:=by unfold SetTable.sameMemory; rw [if_pos (by simp)]
     have hmo:∀n2 c2,Ok2 t.mask h n2 c2->Lt2 n' c' n2 c2\/(n'=n2/\c'=c2)\/Lt2 n2 c2 n' c':=λ n2 c2 _=>by unfold Lt2; lia
     have again:¬ki=k->wpAny (model prog w) A (setSearchFrom D (.ref x) h true f (some (t.advance p'))) Q E s:=λ ne=>by
      have hd':(t.advance p').dummy=none:=by unfold SetTable.advance; split<;>exact e5
      have hvn:∀n2 c2,(∀a b,Ok2 t.mask h a b->Lt2 a b n2 c2->Lt2 a b n' c'\/(a=n'/\b=c'))->∀a b,Ok2 t.mask h a b->Lt2 a b n2 c2->∃i,t.slot (sl t.mask h a b)=.live i/\¬El prog w m s.heap k (es.getD i (0,.none)):=λ n2 c2 z a b o l=>by
       rcases z a b o l with q | ⟨rfl,rfl⟩
       ·exact hv' a b o q
       ·exact ⟨i,e1,λ q=>ne (El.inj ⟨y,my,ey,hy⟩ q)⟩
      by_cases hm:0<p'.more
      ·refine gn eh hS g hes hx hu he hN q1 q2 f n' (c'+1) (some (t.advance p')) (b1.more hm) hd' (.inl e4) (hvn _ _ λ a b o l=>by unfold Lt2 at *; lia) ?_
       unfold Lt2 at b3
       lia
      ·have hck:=b1.2.2.2
       have hc9:=j4 t.mask (lp t.mask h n').1
       refine gn eh hS g hes hx hu he hN q1 q2 f (n'+1) 0 (some (t.advance p')) (b1.leap hm) hd' (by lia) (hvn _ _ λ a b o l=>?_) ?_
       ·unfold Ok2 at o
        unfold Lt2 at*
        by_cases e2:a=n'
        ·subst e2
         lia
        ·lia
       ·have:=b1.ok
        unfold Ok2 at this
        unfold Lt2 at b3
        lia
     dsimp only
     rw [eg]
     dsimp only
     split
     ·refine wpAny_bind (seen_T hx (λ v hv2=>?_) ?_)
      ·rw [y4] at hv2
       obtain ⟨e,he2,rfl⟩:=hv2
       rw [Array.toList_filter,zy] at he2
       obtain ⟨r,hr,rfl⟩:=zP he2.1
       have hr2:r<es.size:=by simpa using hr
       obtain ⟨kr,z,_,ez,hz⟩:=hes r hr2
       rw [bp hr2] at ez
       exact ⟨kr,z,by rw [BO,ez],hz⟩
      ·rw [if_neg Bt]
       refine wpAny_bind (wpAny_holding (wpAny_eqBool_tuple hu hy hx (wpAny_bind (gk hS g.fits ?_))))
       dsimp only
       by_cases ek:ki=k
       ·rw [decide_eq_true ek,if_pos (by decide)]
        subst ek
        exact wpAny_pure (q1 i hi ⟨y,my,ey,hy⟩)
       ·rw [decide_eq_false ek,if_neg (by simp),hsm]
        dsimp only
        rw [if_pos rfl,e1]
        dsimp only
        rw [eg]
        dsimp only
        refine wpAny_bind ?_
        unfold isSame
        dsimp only
        rw [if_pos (by simp)]
        refine wpAny_pure ?_
        rw [if_pos rfl]
        refine wpAny_bind (wpAny_pure ?_)
        dsimp only
        rw [if_neg Bt]
        exact again ek
     ·refine wpAny_bind (wpAny_holding (wpAny_eqBool_tuple hu hy hx (wpAny_bind (gk hS g.fits ?_))))
      dsimp only
      by_cases ek:ki=k
      ·rw [decide_eq_true ek,if_pos (by decide)]
       subst ek
       exact wpAny_pure (q1 i hi ⟨y,my,ey,hy⟩)
      ·rw [decide_eq_false ek,if_neg (by simp),hsm]
       dsimp only
       rw [if_pos rfl,e1]
       dsimp only
       rw [eg]
       dsimp only
       refine wpAny_bind ?_
       unfold isSame
       dsimp only
       rw [if_pos (by simp)]
       refine wpAny_pure ?_
       rw [if_pos rfl]
       refine wpAny_bind (wpAny_pure ?_)
       dsimp only
       rw [if_neg Bt]
       exact again ek
   ·rename_i hm
    exfalso
    obtain ⟨hashAt,hha,hm⟩:∃fh:Nat->Int,(∀i,fh i=(es[i]?.map (·.1)).getD 0)/\∀met,t.probe fh h (stand.getD (t.probeStart h))=some met->False:=⟨_,λ i=>rfl,hm⟩
    obtain ⟨n',c',p',b1,b2,b3,b4,b5⟩:=fin hashAt hha
    rcases b5 with ⟨e1,e2⟩ | ⟨i,e1,e2,e3,_⟩
    ·exact hm _ e2
    ·exact hm _ e3
end
end L2
namespace L2
open PySem
section
variable {prog:Program}{w:World}{A:Around}{E:Value->Shared->Prop}{s:Shared}
theorem xY {k:List Int}{a:Addr}{Q:Bool->Shared->Prop}(hk:IsTupleKey (intKind prog w) s.heap k a) (h:∀b,Q b s):wpAny (model prog w) A (hashByValue 8 (.ref a)) Q E s:=by
 have hT:=hk.typeIs
 obtain ⟨o,items,n,ho,_,hd,hi⟩:=hk
 unfold hashByValue
 refine wpAny_bind (wpAny_specialOf hT F.slot_tuple_hash.lookup ?_)
 dsimp only
 refine wpAny_bind (wpAny_seqItems ho hd ?_)
 refine wpAny_bind ?_
 show wpAny _ _ (forIn items _ _) _ _ s
 rw [<-BP]
 refine wpAny_forIn_list _ (λ rest r s'=>s'=s/\∀v∈rest,carriedByValue v=true) _ ?_ ?_ _ _ ⟨rfl,hi.byValue⟩
 ·rintro v rest r s' ⟨rfl,hall⟩
  have hv:=hall v zi
  have e:∃b,hashByValue 7 v=pure b:=by
   cases v<;>first | exact ⟨_,rfl⟩ | (simp [carriedByValue] at hv)
  obtain ⟨b,e⟩:=e
  rw [e]
  refine wpAny_bind (wpAny_pure ?_)
  split
  ·exact wpAny_pure (wpAny_pure (h _))
  ·exact wpAny_pure ⟨rfl,λ u hu'=>hall u (zg _ hu')⟩
 ·rintro ⟨r1,r2⟩ s' ⟨rfl,_⟩
  cases r1 with
  | none=>exact wpAny_pure (h _)
  | some b=>exact wpAny_pure (h _)
theorem TK.same {h h':Heap}{k:List Int}{a D:Addr}{es:Array (Int×Value)}{ep:Nat}{t:SetTable}(x:IsTupleKey (intKind prog w) h k a) (hS:du h D es ep t) (b:Heap.SameBut D h h'):IsTupleKey (intKind prog w) h' k a:=by
 obtain ⟨o,items,n,ho,hc,hd,hi⟩:=x
 obtain ⟨o',ho',hx',hd'⟩:=hS
 have hne:a≠D:=by
  rintro rfl
  obtain rfl:o=o':=Option.some.inj (ho.symm.trans ho')
  rw [hd] at hd'
  exact nomatch hd'
 exact ⟨o,items,n,(b.2 a hne).trans ho,hc,hd,hi⟩
theorem El.same {m:Addr->Prop}{h h':Heap}{k:List Int}{e:Int×Value}{D:Addr}{es:Array (Int×Value)}{ep:Nat}{t:SetTable}(x:El prog w m h k e) (hS:du h D es ep t) (b:Heap.SameBut D h h'):El prog w m h' k e:=let ⟨a,h0,h1,h2⟩:=x; ⟨a,h0,h1,TK.same h2 hS b⟩
def Rm (mask n:Nat):Prop:=(mask=7\/mask=31\/mask=127\/mask=511)/\n*5<mask*3
structure ST (prog:Program) (w:World) (m:Addr->Prop) (h:Heap) (es:Array (Int×Value)) (t:SetTable):Prop where
 el:∀e∈es.toList,∃k,El prog w m h k e
 nd:es.toList.Pairwise λ e e'=> ∀k,El prog w m h k e->¬El prog w m h k e'
 tg:TGb es t
 led:t.led= !w.params.followText "set-order"
 rm:Rm t.mask es.size
def gH (prog:Program) (w:World) (m:Addr->Prop) (h:Heap) (D:Addr) (S:List Int->Bool) (n:Nat):Prop:= ∃es ep t,du h D es ep t/\ST prog w m h es t/\(∀k,S k=true<->∃e∈es.toList,El prog w m h k e)/\es.size=n
theorem rm_full {mask:Nat}{n:Nat}(r:Rm mask n):jk (mask+1):=by
 obtain ⟨rfl | rfl | rfl | rfl,_⟩:=r
 ·exact full8
 ·exact full32
 ·exact full128
 ·exact full512
theorem TGb.off {es:Array (Int×Value)}{t:SetTable}(g:TGb es t) (b:Bool):TGb es {t with plain:=b}:=⟨g.ps,g.ris,g.nd,g.full,g.odd,g.fit,g.pl⟩
theorem add_T {m:Addr->Prop}{D:Addr}{S:List Int->Bool}{n:Nat}{k:List Int}{x:Addr}{Q:Bool->Shared->Prop}(hx:IsTupleKey (intKind prog w) s.heap k x) (hxm:m x) (hu:A.units<cLine) (hS:gH prog w m s.heap D S n) (hr:n+1<307)
  (q:∀h',Heap.SameBut D s.heap h'->gH prog w m h' D (λ k'=>S k'||decide (k'=k)) (if S k then n else n+1)->Q (!S k) {s with heap:=h'}):wpAny (model prog w) A (setAddHashed D (.ref x) (tupleKeyHash (intKind prog w) k)) Q E s:=by
 obtain ⟨es,ep,t,o1,st,hm,rfl⟩:=hS
 have g:=st.tg
 unfold setAddHashed setAddHashedIn
 refine wpAny_holding (wpAny_bind (gk o1 g.fits ?_))
 dsimp only
 have hbs:byScan (.ref x) es=false:=rfl
 rw [hbs,if_neg Bt]
 refine wpAny_bind ?_
 unfold setSearch
 obtain ⟨e0,he0,hee⟩:=uR g.ris g.nd g.fit
 obtain ⟨N,hN,eN⟩:=sQ g.full (tupleKeyHash (intKind prog w) k) he0
 have hb:t.mask<=511:=by obtain ⟨h1,_⟩:=st.rm; lia
 refine gn (m:=m) (N:=N) rfl o1 g (λ i hi=>?_) hx hu ?_ hN (λ i hi hE=>?_) (λ hno n' c' ok em before=>?_) 100000 0 0 none PAt.start rfl ?_ (λ a b _ l=>?_) ?_
 ·refine st.el _ ?_
  rw [bp hi]
  simp
 ·show t.slot ((lp t.mask _ N).1+0)=_
  rw [Nat.add_zero,eN]
  exact hee
 ·dsimp only
  have hs:S k=true:=(hm k).mpr ⟨_,by rw [bp hi]; simp,hE⟩
  refine wpAny_pure ?_
  have z:=q s.heap (Heap.SameBut.refl D s.heap) ⟨es,ep,t,o1,st,λ k'=>?_,by rw [hs]; rfl⟩
  ·rw [hs] at z
   exact z
  ·rw [BA,decide_eq_true_eq,<-hm k']
   exact ⟨λ y=>y.elim id (λ e=>e▸hs),.inl⟩
 ·dsimp only
  have hs:S k=false:=by
   cases y:S k with
   | false=>rfl
   | true=>
     obtain ⟨e,a1,a2⟩:=(hm k).mp y
     obtain ⟨i,hi,rfl⟩:=zP a1
     have hi2:i<es.size:=by simpa using hi
     exact absurd (by rw [bp hi2]; simpa using a2) (hno i hi2)
  have hroom:es.size+1<=t.mask:=by obtain ⟨h1,h2⟩:=st.rm; lia
  have g1:=g.put (x:=.ref x) ok em before hroom
  refine wpAny_bind (gk o1 g.fits ?_)
  dsimp only
  have hled:(t.put (sl t.mask (tupleKeyHash (intKind prog w) k) n' c')).1.led=t.led:=rfl
  have hmask:(t.put (sl t.mask (tupleKeyHash (intKind prog w) k) n' c')).1.mask=t.mask:=rfl
  have p1:=SetTable.insertAt_perm es (t.put (sl t.mask (tupleKeyHash (intKind prog w) k) n' c')).2 (tupleKeyHash (intKind prog w) k,Value.ref x)
  generalize t.put (sl t.mask (tupleKeyHash (intKind prog w) k) n' c')=P at g1 hled hmask p1 ⊢
  obtain ⟨t1,p⟩:=P
  dsimp only at g1 hled hmask p1 ⊢
  generalize SetTable.insertAt es p (tupleKeyHash (intKind prog w) k,Value.ref x)=es1 at g1 p1 ⊢
  rw [BN] at p1
  have hz1:es1.size=es.size+1:=by
   have:=p1.length_eq
   simpa using this
  have hex:El prog w m s.heap k (tupleKeyHash (intKind prog w) k,Value.ref x):=⟨x,hxm,rfl,hx⟩
  have el1:∀e∈es1.toList,∃k,El prog w m s.heap k e:=λ e he=>by
   rcases zj.mp (p1.mem_iff.mp he) with y | y
   ·exact st.el e y
   ·rw [zh] at y
    subst y
    exact ⟨k,hex⟩
  have nd1:es1.toList.Pairwise λ e e'=> ∀k,El prog w m s.heap k e->¬El prog w m s.heap k e':=by
   refine (p1.pairwise_iff (λ {e e'} z k h1 h2=>z k h2 h1)).mpr (AK.mpr ⟨st.nd,AO ..,λ e he e' he' k' h1 h2=>?_⟩)
   rw [zh] at he'
   subst he'
   obtain rfl:=h2.inj hex
   have:=(hm k').mpr ⟨e,he,h1⟩
   rw [hs] at this
   cases this
  have hm1:∀k',(S k'||decide (k'=k))=true<->∃e∈es1.toList,El prog w m s.heap k' e:=λ k'=>by
   rw [BA,decide_eq_true_eq,hm k']
   constructor
   ·rintro (⟨e,a1,a2⟩ | rfl)
    ·exact ⟨e,p1.mem_iff.mpr (zK _ a1),a2⟩
    ·exact ⟨_,p1.mem_iff.mpr (zr _ (zh.mpr rfl)),hex⟩
   ·rintro ⟨e,a1,a2⟩
    rcases zj.mp (p1.mem_iff.mp a1) with y | y
    ·exact .inl ⟨e,y,a2⟩
    ·rw [zh] at y
     subst y
     exact .inr (a2.inj hex)
  have back:∀{h':Heap},Heap.SameBut D s.heap h'->∀{k' e},e∈es1.toList->El prog w m h' k' e->El prog w m s.heap k' e:=λ {h'} b {k' e} he z=>by
   obtain ⟨k2,y⟩:=el1 e he
   obtain rfl:=z.inj (y.same o1 b)
   exact y
  have out:∀{h':Heap} {es':Array (Int×Value)} {ep':Nat} {t':SetTable},Heap.SameBut D s.heap h'->du h' D es' ep' t'->es'.toList.Perm es1.toList->TGb es' t'->t'.led=t.led->Rm t'.mask es'.size->Q true {s with heap:=h'}:=λ {h' es' ep' t'} b o' pp g' l' r'=>by
   have z:=q h' b ⟨es',ep',t',o',⟨λ e he=>?_,?_,g',l'.trans st.led,r'⟩,λ k'=>?_,?_⟩
   ·rw [hs] at z
    exact z
   ·obtain ⟨k2,y⟩:=el1 e (pp.mem_iff.mp he)
    exact ⟨k2,y.same o1 b⟩
   ·refine (pp.pairwise_iff (λ {e e'} z k h1 h2=>z k h2 h1)).mpr ?_
    refine nd1.imp_of_mem ?_
    intro e e' he he' z k' h1 h2
    exact z k' (back b he h1) (back b he' h2)
   ·rw [hm1 k']
    constructor
    ·rintro ⟨e,a1,a2⟩
     exact ⟨e,pp.mem_iff.mpr a1,a2.same o1 b⟩
    ·rintro ⟨e,a1,a2⟩
     have a3:=pp.mem_iff.mp a1
     exact ⟨e,a3,back b a3 a2⟩
   ·rw [hs]
    have:=pp.length_eq
    simp only [BK] at this
    rw [this,hz1]
    rfl
  have hsb:es1.size<scanBound:=by unfold scanBound; lia
  have fin:∀t2,TGb es1 t2->t2.led=t.led->t2.mask=t.mask->wpAny (model prog w) A (do
    storeSet D es1 t2
    if (!false&&t2.tooFull)=true then do
     setRelay D (SetTable.grown (es.size+1))
     pure true
    else pure true) Q E s:=λ t2 g2 l2 m2=>by
   refine wpAny_bind (xr o1 hsb ?_)
   have o2:=o1.put es1 t2
   have b2:=Heap.SameBut.update s.heap D (Obj.putSet es1 t2)
   have hfill:t2.fill=es.size+1:=by
    unfold SetTable.fill
    rw [g2.nd,g2.ps,hz1]
    rfl
   split
   ·rename_i hfull
    have hfull:t2.tooFull=true:=by simpa using hfull
    unfold SetTable.tooFull at hfull
    rw [hfill,m2] at hfull
    have hfull:t.mask*3<=(es.size+1)*5:=by simpa using hfull
    have hsz:(t.mask=7/\es.size+1=5)\/(t.mask=31/\es.size+1=19)\/(t.mask=127/\es.size+1=77):=by obtain ⟨h1,h2⟩:=st.rm; lia
    have hw:∃M,SetTable.sizeAbove (SetTable.grown (es.size+1))=M+1/\Rm M (es.size+1):=by
     rcases hsz with ⟨_,e⟩ | ⟨_,e⟩ | ⟨_,e⟩
     ·rw [e]; exact ⟨31,by decide,by unfold Rm; lia⟩
     ·rw [e]; exact ⟨127,by decide,by unfold Rm; lia⟩
     ·rw [e]; exact ⟨511,by decide,by unfold Rm; lia⟩
    obtain ⟨M,hM,hRm⟩:=hw
    have hM1:SetTable.sizeAbove (SetTable.grown (es.size+1)) - 1=M:=by lia
    obtain ⟨t3,order,r1,r2,r3,r4,r5,r6⟩:=uf (es:=es1) (t:=t2) (wanted:=SetTable.grown (es.size+1)) (by rw [hM1]; exact rm_full hRm) (by rw [hM1]; obtain ⟨h1,_⟩:=hRm; lia) (by rw [hM1,hz1]; obtain ⟨h1,h2⟩:=hRm; lia)
    refine wpAny_bind ?_
    unfold setRelay
    refine wpAny_bind (gk o2 g2.fits ?_)
    dsimp only
    rw [if_neg (by rw [hM]; obtain ⟨h1,_⟩:=hRm; unfold sizeLine; lia),r1]
    refine wpAny_bind ?_
    show wpAny _ _ (if ((order.filterMap (es1[·]?)).size != es1.size)=true then _ else pure (order.filterMap (es1[·]?),t3)) _ _ _
    rw [if_neg (by rw [r2]; simp)]
    refine wpAny_pure (xr o2 (by rw [r2]; exact hsb) (wpAny_pure ?_))
    exact out (b2.trans (Heap.SameBut.update _ D (Obj.putSet _ t3))) (o2.put _ t3) r3 r4 (r5.trans l2) (by rw [r6,hM1,r2,hz1]; exact hRm)
   ·rename_i hfull
    have hfull:t2.tooFull=false:=by simpa using hfull
    unfold SetTable.tooFull at hfull
    rw [hfill,m2] at hfull
    have hfull:(es.size+1)*5<t.mask*3:=by simpa using hfull
    refine wpAny_pure (out b2 o2 (List.Perm.refl _) g2 l2 ?_)
    rw [m2,hz1]
    exact ⟨st.rm.1,hfull⟩
  split
  ·refine wpAny_bind (xY hx λ bv=>?_)
   cases bv with
   | true=>exact fin t1 g1 hled hmask
   | false=>exact fin _ (g1.off false) hled hmask
  ·exact wpAny_bind (wpAny_pure (fin t1 g1 hled hmask))
 ·lia
 ·unfold Lt2 at l; lia
 ·lia
theorem El.low {m:Addr->Prop}{h h':Heap}{k:List Int}{e:Int×Value}(x:El prog w m h k e) (kp:∀b o,m b->h.get? b=some o->h'.get? b=some o):El prog w m h' k e:=let ⟨a,h0,h1,o,items,n,ho,r⟩:=x; ⟨a,h0,h1,o,items,n,kp a o h0 ho,r⟩
theorem gH.low {m:Addr->Prop}{h h':Heap}{D:Addr}{S:List Int->Bool}{n:Nat}(x:gH prog w m h D S n) (kd:∀o,h.get? D=some o->h'.get? D=some o) (kp:∀b o,m b->h.get? b=some o->h'.get? b=some o):gH prog w m h' D S n:=by
 obtain ⟨es,ep,t,o1,st,hm,e⟩:=x
 have back:∀{k' e},e∈es.toList->El prog w m h' k' e->El prog w m h k' e:=λ {k' e} he z=>by
  obtain ⟨k2,y⟩:=st.el e he
  obtain rfl:=z.inj (y.low kp)
  exact y
 refine ⟨es,ep,t,o1.keep kd,⟨λ e he=>let ⟨k,y⟩:=st.el e he; ⟨k,y.low kp⟩,?_,st.tg,st.led,st.rm⟩,λ k=>?_,e⟩
 ·refine st.nd.imp_of_mem ?_
  intro e e' he he' z k' h1 h2
  exact z k' (back he h1) (back he' h2)
 ·rw [hm k]
  exact ⟨λ ⟨e,a1,a2⟩=>⟨e,a1,a2.low kp⟩,λ ⟨e,a1,a2⟩=>⟨e,a1,back a1 a2⟩⟩
theorem gH.congr {m:Addr->Prop}{h:Heap}{D:Addr}{S S':List Int->Bool}{n n':Nat}(x:gH prog w m h D S n) (e1:∀k,S k=S' k) (e2:n=n'):gH prog w m h D S' n':=by
 obtain rfl:S=S':=funext e1
 subst e2
 exact x
end
end L2
namespace L2
open PySem PySem.Spec PyProof.Rows
section
variable {prog:Program}{w:World}{A:Around}{R:Result->Shared->Prop}{I:Addr}{fp wr:List Addr}{G:Array GenState->Array GenState->Prop}{n:Nat}{Pt:Nat->Value->Prop}{St:Nat->Shared->Prop}{κ:Type} [DecidableEq κ] {knd:KeyKind prog w κ}
end
section
variable {prog:Program}{w:World}{A:Around}{E:Value->Shared->Prop}{s:Shared}{κ:Type} [DecidableEq κ] {knd:KeyKind prog w κ}
theorem t6 (a:Value) {Q1:Value->Shared->Prop}(q:Q1 (.ref s.heap.objs.size) {s with heap:=s.heap.push (ca (!w.params.followText "set-order"))}):codeAny (model prog w) A (.call (.builtin "set.__new__") ⟨[.type "set",a],[]⟩) (wants Q1 E) s:=by
 refine codeAny_of_tree ?_
 show wpAny _ A.in1 (do checkBuiltinCall "set.__new__" ⟨[.type "set",a],[]⟩; again _) _ _ s
 refine wpAny_bind (wpAny_of_eq (F.newCall_set_1 a) (wpAny_pure ⟨plainId_quiet F.plain_set_new _,codeAny_builtin F.entry_set_new ?_⟩))
 rw [Around.under_plainId F.plain_set_new _]
 unfold Builtin.«set.__new__» Builtin.Frozenset.newClass
 have hsub:=sub_set_self
 obtain ⟨hp,g,d,tk,os⟩:=s
 dsimp only
 wp_walk
 refine wpAny_askSetting (wpAny_pure ?_)
 dsimp only
 simp only [newObj]
 refine wpAny_bind (wpAny_alloc (wpAny_pure (wpAny_pure q)))
end
end L2
namespace L2
open PySem PySem.Spec PyProof.Rows
section
variable {prog:Program}{w:World}{A:Around}{R:Result->Shared->Prop}{I:Addr}{fp wr:List Addr}{G:Array GenState->Array GenState->Prop}{n:Nat}{Pt:Nat->Value->Prop}{St:Nat->Shared->Prop}
theorem ua {m:Addr->Prop}(W:WalksS prog w A.in1 I fp wr G n Pt St) (D:Addr) (hD:D∉fp) (hDm:¬m D) (hwr:∀b∈wr,¬m b) (hu:A.units+1<cLine) {h0:Heap}(val:Nat->List Int) (hv:∀i v,Pt i v->∃a,v=.ref a/\m a/\IsTupleKey (intKind prog w) h0 (val i) a) (hb:n+1<307):
  ∀(k i:Nat) (s:Shared),n - i=k->i<=n->St i s->(∀b o,m b->h0.get? b=some o->s.heap.get? b=some o)->gH prog w m s.heap D (λ x=>decide (x∈bE val i)) (bE val i).length->
   (∀s2,Moved (D::wr) G s s2->gH prog w m s2.heap D (λ x=>decide (x∈bE val n)) (bE val n).length->R (.ok (.ret .none)) s2)->codeAny (model prog w) A (.builtin "set.update.loop" ⟨[.ref D,.ref I],[]⟩) R s:=by
 have nW:D∉wr:=λ z=>hD (W.sub _ z)
 have up:∀b∈wr,b∈D::wr:=λ b z=>zg _ z
 have mv:∀{s s2:Shared} {S:List Int->Bool} {r:Nat},Moved wr G s s2->gH prog w m s.heap D S r->gH prog w m s2.heap D S r:=λ hm x=>x.low (λ o e=>hm.heap D _ nW e) λ b o hb e=>hm.heap b _ (λ z=>hwr b z hb) e
 intro k
 induction k with
 | zero=>
   intro i s e1 e2 st kp hS hR
   have e3:i=n:=by lia
   subst e3
   refine codeAny_builtin F.entry_set_update_loop ?_
   rw [Around.under_plainId F.plain_set_update_loop _]
   show wpAny _ A.in1 (pyNext (.ref I) >>= _) _ _ s
   refine wpAny_bind (W.done s _ _ st λ s2 hm=>?_)
   show wpAny _ A.in1 (ret Value.none) _ _ s2
   exact wpAny_pure (hR s2 (hm.mono up) (mv hm hS))
 | succ k ih=>
   intro i s e1 e2 st kp hS hR
   have e3:i<n:=by lia
   refine codeAny_builtin F.entry_set_update_loop ?_
   rw [Around.under_plainId F.plain_set_update_loop _]
   show wpAny _ A.in1 (pyNext (.ref I) >>= _) _ _ s
   refine wpAny_bind (W.item i s _ _ e3 st λ v s2 hp st2 hm=>?_)
   obtain ⟨a,rfl,ha,ka⟩:=hv i v hp
   have kp2:∀b o,m b->h0.get? b=some o->s2.heap.get? b=some o:=λ b o hb e=>hm.heap b _ (λ z=>hwr b z hb) (kp b o hb e)
   have ka2:IsTupleKey (intKind prog w) s2.heap (val i) a:=let ⟨o,items,r,ho,rr⟩:=ka; ⟨o,items,r,kp2 a o ha ho,rr⟩
   have hS2:=mv hm hS
   show wpAny _ A.in1 (holding [.ref a] (setAdd D (.ref a)) >>= _) _ _ s2
   refine wpAny_bind (wpAny_holding ?_)
   unfold setAdd
   refine wpAny_holding (wpAny_bind (wpAny_pyHash_tuple hu ka2 ?_))
   have room:(bE val i).length+1<307:=by have:=ix val i; lia
   refine add_T (m:=m) (s:={s2 with toks:=s2.toks+((val i).length+1)}) ka2 ha hu hS2 room λ h2 sb hS3=>?_
   have hS4:gH prog w m h2 D (λ x=>decide (x∈bE val (i+1))) (bE val (i+1)).length:=by
    refine hS3.congr (λ x=>?_) ?_
    ·show (decide (x∈bE val i)||decide (x=val i))=decide (x∈ddp (bE val i) (val i))
     unfold ddp
     by_cases m:val i∈bE val i
     ·rw [if_pos m]
      by_cases e:x=val i
      ·subst e; rw [decide_eq_true m]; simp
      ·rw [decide_eq_false e,Bz]
     ·rw [if_neg m,Bw]
      simp
    ·show (if decide (val i∈bE val i)=true then _ else _)=(ddp (bE val i) (val i)).length
     unfold ddp
     by_cases m:val i∈bE val i
     ·rw [if_pos (decide_eq_true m),if_pos m]
     ·rw [if_neg (by rw [decide_eq_false m]; decide),if_neg m,zm]; rfl
   refine wpAny_pure ⟨plainId_quiet F.plain_set_update_loop _,ih (i+1) _ (by lia) e3 (W.frame _ s2 _ _ st2 (Bc _ _) λ b hb o e=>?_) (λ b o hb e=>?_) hS4 λ s3 hm3 hS5=>?_⟩
   ·exact (sb.2 b (λ z:b=D=>hD (z▸hb))).trans e
   ·exact (sb.2 b (λ z:b=D=>hDm (z▸hb))).trans (kp2 b o hb e)
   ·refine hR s3 (Moved.trans W.gtrans ((hm.mono up).then_heap (Bc _ _) λ b o hb e=>?_) hm3) hS5
    exact (sb.2 b (λ z:b=D=>hb (by rw [z]; exact zi))).trans e
end
section
variable {prog:Program}{w:World}{A:Around}{E:Value->Shared->Prop}{s:Shared}
theorem t7 (M:Addr->Prop) {l:Addr}{its:Array Value}{Q:Value->Shared->Prop}(val:Nat->List Int) (hh:A.handled=none) (hl:s.heap.IsList l its) (hu:A.units+4<cLine) (hv:∀i v,its[i]? =some v->∃a,v=.ref a/\M a/\IsTupleKey (intKind prog w) s.heap (val i) a) (hM:∀a,M a->a<s.heap.objs.size) (hb:its.size+1<307)
  (k:∀(h2:Heap) (tk:Nat),gH prog w M h2 s.heap.objs.size (λ x=>decide (x∈bE val its.size)) (bE val its.size).length->(∀b o,b<s.heap.objs.size->s.heap.get? b=some o->h2.get? b=some o)->Q (.ref s.heap.objs.size) {s with heap:=h2,toks:=tk}):
  wpAny (model prog w) A (call (.type "set") [.ref l]) Q E s:=by
 obtain ⟨c0,tl0,hmro⟩:=F.called_set.mro
 have hmade:=F.called_set.made
 have hsub:=F.called_set.sub
 have n1:=F.called_set.notType
 have n2:=F.called_set.canCreate
 have n3:=F.typeCall_set_1 (.ref l)
 refine wpAny_call (codeAny_of_tree ?_)
 show wpAny _ _ (callAny (.type "set") _) _ _ _
 refine wpAny_pure ⟨Code.quiet_builtin _ (by decide+kernel),codeAny_builtin F.entry_type_call ?_⟩
 rw [Around.under_plain (weight_type_call_type "set" [.ref l] []) rfl]
 repeat (any_goals (first | assumption | wp_step))
 refine codeAny_mono (t6 (.ref l) (E:=E) (Q1:=λ o s1=>o=.ref s.heap.objs.size/\s1={s with heap:=s.heap.push (ca (!w.params.followText "set-order"))}) ⟨rfl,rfl⟩) λ r s1 hr=>?_
 cases r with
 | error e=>exact hr
 | ok fl=>
   cases fl with
   | ret ob=>
     obtain ⟨rfl,rfl⟩:=hr
     generalize hld:(!w.params.followText "set-order")=led
     have g0:(s.heap.push (ca led)).get? s.heap.objs.size=some (ca led):=Heap.get?_push_size _ rfl
     have ty:Shared.TypeIs {s with heap:=s.heap.push (ca led)} (.ref s.heap.objs.size) "set":=⟨_,g0,rfl⟩
     have m1:=F.called_set.init.lookup
     have m2:=F.called_set.init.bind (.ref s.heap.objs.size)
     repeat (any_goals (first | assumption | wp_step))
     refine codeAny_mono (codeAny_call_builtin (R:=wants (λ r s2=>r=.none/\∃h2 tk,s2={s with heap:=h2,toks:=tk}/\gH prog w M h2 s.heap.objs.size (λ x=>decide (x∈bE val its.size)) (bE val its.size).length/\
       (∀b o,b<s.heap.objs.size->s.heap.get? b=some o->h2.get? b=some o)) E) F.called_set.init.plain F.entry_set_init (check_set_init_1 ty ?_)) λ r2 s2 hr2=>?_
     ·obtain ⟨⟨oc,od,oda,osl⟩,ho,hc,nl,hd⟩:=hl
      simp only at hc hd
      subst hc; subst hd
      have hol:(s.heap.push (ca led)).get? l=some {cls:=.type "list",dict:=od,data:=.seq its nl,slots:=osl}:=Heap.get?_push_of_some _ ho
      have b1:=F.sub_list_set
      have b2:=F.sub_list_frozenset
      have b3:(Value.type "list" == Value.type "dict")=false:=by decide
      have hl1:(s.heap.push (ca led)).IsList l its:=⟨_,hol,rfl,nl,rfl⟩
      unfold Builtin.«set.__init__» noKeywords Builtin.Frozenset.updateFrom
      generalize hPI:pyIter=PI
      wp_walk
      subst hPI
      refine wpAny_pyIter_list hl1 (wpAny_bind (wpAny_runValue ?_))
      have hlt:l<s.heap.objs.size:=Heap.lt_size ho
      have h3:A.in1.in1.in1.handled=none:=by simp [hh]
      have sz:(s.heap.push (ca led)).objs.size=s.heap.objs.size+1:=Heap.size_push ..
      have ne1:l≠(s.heap.push (ca led)).objs.size:=by rw [sz]; exact AW (A3 hlt)
      have ne2:s.heap.objs.size∉[(s.heap.push (ca led)).objs.size,l]:=by
       rw [sz]
       intro z
       rcases y6.mp z with z | z
       ·exact A7 _ z.symm
       ·exact A1 hlt (zh.mp z)
      refine ua (m:=M) (h0:=s.heap) ((Walks.list h3 _ l ne1 its).toS) s.heap.objs.size ne2 (λ z=>A0 _ (hM _ z)) (λ b hb z=>by rw [zh.mp hb,sz] at z; exact absurd (hM _ z) (Nat.not_lt.mpr (AZ _))) (by show A.units+1+1+1<cLine; lia) val (λ i v hp=>?_) hb (its.size - 0) 0 _ (by lia) (AV _) ⟨⟨_,Heap.get?_push_size _ rfl,rfl,rfl⟩,(hl1.push _)⟩ (λ b o _ e=>Heap.get?_push_of_some _ (Heap.get?_push_of_some _ e)) ?_ (λ s3 hm hS3=>?_)
      ·exact hv i v hp
      ·refine ⟨#[],0,.fresh 0 0 led,⟨_,Heap.get?_push_of_some _ g0,⟨rfl,rfl,rfl⟩,rfl⟩,⟨λ e he=>by simp at he,List.Pairwise.nil,TGb.fresh,by rw [hld]; rfl,⟨.inl rfl,by show 0*5<7*3; decide⟩⟩,λ x=>?_,rfl⟩
       show decide (x∈([]:List (List Int)))=true<->_
       simp
      ·obtain ⟨hh3,gg3,dd3,tk3,os3⟩:=s3
       obtain rfl:gg3=s.gens:=hm.gens
       obtain rfl:dd3=s.drawn:=hm.drawn
       obtain rfl:os3=s.os:=hm.os
       show wpAny _ _ _ _ _ _
       refine wpAny_pure ?_
       show wpAny _ _ (ret Value.none) _ _ _
       refine wpAny_pure ⟨rfl,hh3,tk3,rfl,hS3,λ b o hb2 e=>?_⟩
       refine hm.heap b o ?_ (Heap.get?_push_of_some _ (Heap.get?_push_of_some _ e))
       rw [sz]
       intro z
       rcases y6.mp z with z | z
       ·exact AW hb2 z
       ·exact AW (A3 hb2) (zh.mp z)
     ·cases r2 with
      | error e=>exact hr2
      | ok fl2=>
        cases fl2 with
        | ret r3=>
          obtain ⟨rfl,h2,tk,rfl,hS2,kp⟩:=hr2
          repeat (any_goals (first | assumption | wp_step))
          exact k _ _ hS2 kp
        | _=>exact hr2.elim
   | _=>exact hr.elim
end
end L2
namespace L2
open PySem PySem.W PyProof.Rows
structure SOrd (n:Nat) (lt:Nat->Nat->Bool):Prop where
 tr:∀a b c,a<n->b<n->c<n->lt a b=true->lt b c=true->lt a c=true
 as:∀a b,a<n->b<n->lt a b=true->lt b a=false
 tt:∀a b,a<n->b<n->a≠b->lt a b=false->lt b a=true
abbrev gp (p:Array Nat) (i:Nat):Nat:=p.getD i 0
structure PR (n:Nat) (p:Array Nat):Prop where
 sz:p.size=n
 lo:∀i,i<n->gp p i<n
 nd:∀i j,i<n->j<n->gp p i=gp p j->i=j
theorem lT (p:Array Nat) (i:Nat):gp p i=(p[i]?).getD 0:=by
 unfold gp
 simp [Array.getD_eq_getD_getElem?]
theorem PR.of {n:Nat}{p:Array Nat}(h:p.toList.Perm (List.range n)):PR n p:=by
 have hs:p.size=n:=by have:=h.length_eq; simpa using this
 have hn:p.toList.Nodup:=h.nodup_iff.mpr Ak
 have at_:∀i (hi:i<n),gp p i=p.toList[i]'(by simpa [hs] using hi):=λ i hi=>by
  have:i<p.size:=by lia
  simp [gp,this]
 refine ⟨hs,λ i hi=>?_,λ i j hi hj e=>?_⟩
 ·rw [at_ i hi]
  exact zc.mp (h.mem_iff.mp (zp _))
 ·rw [at_ i hi,at_ j hj] at e
  have hw:=Al.mp hn
  rcases A8 i j with z | z | z
  ·exact absurd e (hw i j _ _ z)
  ·exact z
  ·exact absurd e.symm (hw j i _ _ z)
def Up (lt:Nat->Nat->Bool) (p:Array Nat) (k:Nat):Prop:= ∀i j,i<j->j<k->lt (gp p i) (gp p j)=true
def Dn (lt:Nat->Nat->Bool) (p:Array Nat) (k:Nat):Prop:= ∀i j,i<j->j<k->lt (gp p j) (gp p i)=true
section
variable {n:Nat}{lt:Nat->Nat->Bool}{s:Shared}{cmp:Nat->Nat->(Bool->Shared->Prop)->Shared->Prop}(O:SOrd n lt) (hc:∀i j (C:Bool->Shared->Prop),i<n->j<n->C (lt i j) s->cmp i j C s)
include O hc
theorem yU {p:Array Nat}(P:PR n p):∀(f a:Nat) {Q:Nat->Shared->Prop},1<=a->a+f<=n->Up lt p a->(∀m,a<=m->m<=a+f->Up lt p m->(m=a+f\/lt (gp p m) (gp p (m - 1))=true)->Q m s)->(kas_asc p f a).kasWp cmp Q s
 | 0,a,Q,_,_,u,q=>q a (AU _) (AU _) u (.inl rfl)
 | f+1,a,Q,h1,h2,u,q=>by
   refine hc _ _ _ (P.lo a (by lia)) (P.lo (a - 1) (by lia)) ?_
   cases e:lt (p.getD a 0) (p.getD (a - 1) 0) with
   | true=>exact q a (AU _) (by lia) u (.inr e)
   | false=>
     refine yU P f (a+1) (by lia) (by lia) ?_ λ m m1 m2 m3 m4=>q m (by lia) (by lia) m3 (m4.imp (λ z=>by lia) id)
     have e2:lt (gp p (a - 1)) (gp p a)=true:=O.tt _ _ (P.lo a (by lia)) (P.lo (a - 1) (by lia)) (λ z=>by have:=P.nd a (a - 1) (by lia) (by lia) z; lia) e
     intro i j hij hj
     by_cases ej:j=a
     ·subst ej
      by_cases ei:i=j - 1
      ·subst ei; exact e2
      ·exact O.tr _ _ _ (P.lo i (by lia)) (P.lo (j - 1) (by lia)) (P.lo j (by lia)) (u i (j - 1) (by lia) (by lia)) e2
     ·exact u i j hij (by lia)
theorem yB {p:Array Nat}(P:PR n p):∀(f a:Nat) {Q:Array Nat×Nat×Nat->Shared->Prop},1<=a->a+f<=n->Dn lt p a->(∀m,a<=m->m<=a+f->Dn lt p m->Q (p,m,0) s)->(kas_desc f p a 0).kasWp cmp Q s
 | 0,a,Q,_,_,u,q=>q a (AU _) (AU _) u
 | f+1,a,Q,h1,h2,u,q=>by
   refine hc _ _ _ (P.lo a (by lia)) (P.lo (a - 1) (by lia)) ?_
   cases e:lt (p.getD a 0) (p.getD (a - 1) 0) with
   | true=>
     show (kas_desc f p (a+1) 0).kasWp cmp Q s
     refine yB P f (a+1) (by lia) (by lia) ?_ λ m m1 m2 m3=>q m (by lia) (by lia) m3
     intro i j hij hj
     by_cases ej:j=a
     ·subst ej
      by_cases ei:i=j - 1
      ·subst ei; exact e
      ·exact O.tr _ _ _ (P.lo j (by lia)) (P.lo (j - 1) (by lia)) (P.lo i (by lia)) e (u i (j - 1) (by lia) (by lia))
     ·exact u i j hij (by lia)
   | false=>
     have e2:lt (p.getD (a - 1) 0) (p.getD a 0)=true:=O.tt _ _ (P.lo a (by lia)) (P.lo (a - 1) (by lia)) (λ z=>by have:=P.nd a (a - 1) (by lia) (by lia) z; lia) e
     show KasT.kasWp cmp (KasT.ask _ _ _) Q s
     refine hc _ _ _ (P.lo (a - 1) (by lia)) (P.lo a (by lia)) ?_
     rw [e2]
     exact q a (AU _) (by lia) u
theorem np {p:Array Nat}(P:PR n p) {k:Nat}(hk:k<n) (u:Up lt p k):∀(f l r:Nat) {Q:Nat->Shared->Prop},l<=r->r<=k->r - l<=f->(∀i,i<l->lt (gp p i) (gp p k)=true)->(∀i,r<=i->i<k->lt (gp p k) (gp p i)=true)->
  (∀m,m<=k->(∀i,i<m->lt (gp p i) (gp p k)=true)->(∀i,m<=i->i<k->lt (gp p k) (gp p i)=true)->Q m s)->(kas_place p k f l r).kasWp cmp Q s
 | 0,l,r,Q,h1,h2,h3,a,b,q=>by
   have:l=r:=by lia
   subst this
   exact q l h2 a b
 | f+1,l,r,Q,h1,h2,h3,a,b,q=>by
   unfold kas_place
   by_cases hlr:l≥r
   ·rw [if_pos hlr]
    have:l=r:=by lia
    subst this
    exact q l h2 a b
   ·rw [if_neg hlr]
    refine hc _ _ _ (P.lo k hk) (P.lo ((l+r) / 2) (by lia)) ?_
    cases e:lt (p.getD k 0) (p.getD ((l+r) / 2) 0) with
    | true=>
      show (kas_place p k f l ((l+r) / 2)).kasWp cmp Q s
      refine np P hk u f l ((l+r) / 2) (by lia) (by lia) (by lia) a (λ i i1 i2=>?_) q
      by_cases ei:i=(l+r) / 2
      ·subst ei; exact e
      ·exact O.tr _ _ _ (P.lo k hk) (P.lo ((l+r) / 2) (by lia)) (P.lo i (by lia)) e (u _ _ (by lia) i2)
    | false=>
      show (kas_place p k f ((l+r) / 2+1) r).kasWp cmp Q s
      have e2:lt (gp p ((l+r) / 2)) (gp p k)=true:=O.tt _ _ (P.lo k hk) (P.lo ((l+r) / 2) (by lia)) (λ z=>by have:=P.nd k ((l+r) / 2) hk (by lia) z; lia) e
      refine np P hk u f ((l+r) / 2+1) r (by lia) h2 (by lia) (λ i i1=>?_) b q
      by_cases ei:i=(l+r) / 2
      ·subst ei; exact e2
      ·exact O.tr _ _ _ (P.lo i (by lia)) (P.lo ((l+r) / 2) (by lia)) (P.lo k hk) (u _ _ (by lia) (by lia)) e2
omit O hc in
theorem xx {p q:Array Nat}{n:Nat}(h:p.toList.Perm (List.range n)) (e:q.Perm p):q.toList.Perm (List.range n):=(Array.perm_iff_toList_perm.mp e).trans h
theorem bin_k:∀(f k:Nat) (p:Array Nat) {Q:Array Nat->Shared->Prop},p.toList.Perm (List.range n)->1<=k->k+f=n->Up lt p k->(∀p',p'.toList.Perm (List.range n)->Up lt p' n->Q p' s)->(kas_bin f p k).kasWp cmp Q s
 | 0,k,p,Q,hp,h1,h2,u,q=>q p hp (by rw [<-h2]; exact u)
 | f+1,k,p,Q,hp,h1,h2,u,q=>by
   have P:=PR.of hp
   unfold kas_bin
   rw [KasT.kasWp_bind]
   refine np O hc P (by lia) u k 0 k (AV _) (AU _) (by lia) (λ i z=>absurd z (Nat.not_lt_zero _)) (λ i z1 z2=>by lia) λ m hm a b=>?_
   refine bin_k f (k+1) _ (xx hp (bubble_perm _ _ _)) (by lia) (by lia) ?_ q
   have ge:∀i,gp (bubble p k (k - m)) i=if i=m then gp p k else if m<i/\i<=k then gp p (i - 1) else gp p i:=λ i=>by
    rw [lT,getElem?_bubble (by rw [P.sz]; lia) (k - m) (by lia) i,show k - (k - m)=m by lia]
    split
    ·rw [lT]
    ·split<;>rw [lT]
   intro i j hij hj
   rw [ge,ge]
   by_cases e1:i=m
   ·rw [if_pos e1]
    by_cases e2:j=m
    ·lia
    ·rw [if_neg e2,if_pos (by lia)]
     exact b (j - 1) (by lia) (by lia)
   ·rw [if_neg e1]
    by_cases e2:j=m
    ·rw [if_pos e2,if_neg (by lia)]
     exact a i (by lia)
    ·rw [if_neg e2]
     by_cases e3:m<i/\i<=k
     ·rw [if_pos e3,if_pos (by lia)]
      exact u (i - 1) (j - 1) (by lia) (by lia)
     ·rw [if_neg e3]
      by_cases e4:m<j/\j<=k
      ·rw [if_pos e4]
       exact u i (j - 1) (by lia) (by lia)
      ·rw [if_neg e4]
       exact u i j hij (by lia)
theorem down_k {p:Array Nat}(hp:p.toList.Perm (List.range n)) {Q:Nat×Array Nat->Shared->Prop}(h2:2<=n) (hd:lt (gp p 1) (gp p 0)=true) (q:∀m p',p'.toList.Perm (List.range n)->1<=m->m<=n->Up lt p' m->Q (m,p') s):(kas_descPart 1 n p).kasWp cmp Q s:=by
 have P:=PR.of hp
 unfold kas_descPart
 rw [KasT.kasWp_bind]
 refine yB O hc P (n - (1+1)) (1+1) (by lia) (by lia) (λ i j hij hj=>?_) λ m m1 m2 m3=>?_
 ·have e1:i=0:=by lia
  have e2:j=1:=by lia
  subst e1; subst e2
  exact hd
 ·show (kas_tail3 m n p).kasWp cmp Q s
  unfold kas_tail3
  rw [KasT.kasWp_bind]
  have hp2:(kas_rev p 0 m).toList.Perm (List.range n):=xx hp (mirror_perm _ _ _ _)
  have ge:∀i,gp (kas_rev p 0 m) i=if i<m then gp p (m - 1 - i) else gp p i:=λ i=>by
   unfold kas_rev
   rw [lT,getElem?_mirror_all (by rw [P.sz]; lia)]
   by_cases e:i<m
   ·rw [if_pos ⟨AV _,e⟩,if_pos e,lT,A4]
   ·rw [if_neg (λ z=>e z.2),if_neg e,lT]
  refine yU O hc (PR.of hp2) (n - m) m (by lia) (by lia) (λ i j hij hj=>?_) λ r r1 r2 r3 _=>q r _ hp2 (by lia) (by lia) r3
  rw [ge,ge,if_pos (by lia),if_pos hj]
  exact m3 _ _ (by lia) (by lia)
theorem sort_k {Q:Array Nat->Shared->Prop}(h2:2<=n) (q:∀p,p.toList.Perm (List.range n)->Up lt p n->Q p s):(kas_sort n).kasWp cmp Q s:=by
 have hp:(List.toArray (List.range n)).toList.Perm (List.range n):=List.Perm.refl _
 have P:=PR.of hp
 unfold kas_sort kas_count
 rw [KasT.kasWp_bind,KasT.kasWp_bind]
 have fin:∀m p',p'.toList.Perm (List.range n)->1<=m->m<=n->Up lt p' m->KasT.kasWp cmp (if m<n then kas_bin (n - max m 1) p' (max m 1) else KasT.ret p') Q s:=λ m p' hp' m1 m2 u=>by
  by_cases e:m<n
  ·rw [if_pos e,show max m 1=m by lia]
   exact bin_k O hc (n - m) m p' hp' m1 (by lia) u q
  ·rw [if_neg e]
   have:m=n:=by lia
   subst this
   exact q p' hp' u
 refine yU O hc P (n - 1) 1 (AU _) (by lia) (λ i j hij hj=>by lia) λ m m1 m2 m3 m4=>?_
 by_cases e:m=n
 ·rw [if_pos (by simp [e])]
  exact fin m _ hp m1 (by lia) m3
 ·rw [if_neg (by simp [e])]
  by_cases e1:m > 1
  ·rw [if_pos e1]
   refine hc _ _ _ (P.lo 0 (by lia)) (P.lo (m - 1) (by lia)) ?_
   have:lt ((List.toArray (List.range n)).getD 0 0) ((List.toArray (List.range n)).getD (m - 1) 0)=true:=m3 0 (m - 1) (by lia) (by lia)
   rw [this]
   exact fin m _ hp m1 (by lia) m3
  ·rw [if_neg e1]
   have:m=1:=by lia
   subst this
   refine down_k O hc hp h2 (by rcases m4 with z | z; exact absurd z (by lia); exact z) λ m p' a b c d=>fin m p' a b c d
end
end L2
namespace L2
open PySem PySem.W PySem.Calls PyProof.Rows
def cR:List Int->List Int->Bool
 | [],[]=>false
 | [],_::_=>true
 | _::_,[]=>false
 | a::x,b::y=>if a=b then cR x y else decide (a<b)
theorem iz:∀x,cR x x=false
 | []=>rfl
 | a::x=>by unfold cR; rw [if_pos rfl]; exact iz x
theorem sS:∀x y,x≠y->cR x y=false->cR y x=true
 | [],[],h,_=>absurd rfl h
 | [],_::_,_,e=>by cases e
 | _::_,[],_,_=>rfl
 | a::x,b::y,h,e=>by
   unfold cR at e ⊢
   by_cases ab:a=b
   ·subst ab
    rw [if_pos rfl] at e ⊢
    exact sS x y (λ z=>h (by rw [z])) e
   ·rw [if_neg ab] at e
    rw [if_neg (Ne.symm ab)]
    have:=of_decide_eq_false e
    exact decide_eq_true (by lia)
theorem nR:∀x y,cR x y=true->cR y x=false
 | [],[],e=>by cases e
 | [],_::_,_=>rfl
 | _::_,[],e=>by cases e
 | a::x,b::y,e=>by
   unfold cR at e ⊢
   by_cases ab:a=b
   ·subst ab
    rw [if_pos rfl] at e ⊢
    exact nR x y e
   ·rw [if_neg ab] at e
    rw [if_neg (Ne.symm ab)]
    have:=of_decide_eq_true e
    exact decide_eq_false (by lia)
theorem sT:∀x y z,cR x y=true->cR y z=true->cR x z=true
 | [],[],_,e,_=>by cases e
 | [],_::_,[],_,e=>by cases e
 | [],_::_,_::_,_,_=>rfl
 | _::_,[],_,e,_=>by cases e
 | _::_,_::_,[],_,e=>by cases e
 | a::x,b::y,c::z,e,f=>by
   unfold cR at e f ⊢
   by_cases ab:a=b
   ·subst ab
    rw [if_pos rfl] at e
    by_cases ac:a=c
    ·subst ac
     rw [if_pos rfl] at f ⊢
     exact sT x y z e f
    ·rw [if_neg ac] at f ⊢
     exact f
   ·rw [if_neg ab] at e
    have e:=of_decide_eq_true e
    by_cases bc:b=c
    ·subst bc
     rw [if_neg ab]
     exact decide_eq_true e
    ·rw [if_neg bc] at f
     have f:=of_decide_eq_true f
     rw [if_neg (by lia)]
     exact decide_eq_true (by lia)
section
variable {prog:Program}{w:World}{A:Around}{E:Value->Shared->Prop}{s:Shared}
theorem lex_k {fin:Bool}{Q:Bool->Shared->Prop}:∀(x y:List Int) (us vs:List Value) (i:Nat),ItemsAre (intKind prog w) x us->ItemsAre (intKind prog w) y vs->(x.length<y.length<->fin=true)->Q (cR x y) s->KatLex prog w A true fin Q (us.zip vs) i s
 | [],[],_,_,i,.nil,.nil,hf,q=>by
   refine kat_nil ?_
   have:fin=false:=by cases fin with | false=>rfl | true=>exact absurd (hf.mpr rfl) (by simp)
   rw [this]
   exact q
 | [],_::_,_,_,i,.nil,.cons _ _,hf,q=>by
   refine kat_nil ?_
   rw [hf.mp (by simp)]
   exact q
 | _::_,[],_,_,i,.cons _ _,.nil,hf,q=>by
   show KatLex prog w A true fin Q [] i s
   refine kat_nil ?_
   have:fin=false:=by cases fin with | false=>rfl | true=>exact absurd (hf.mpr rfl) (by simp)
   rw [this]
   exact q
 | a::x,b::y,u::us,v::vs,i,.cons h1 t1,.cons h2 t2,hf,q=>by
   obtain ⟨t,rfl⟩:∃t,u=.int a t:=by
    cases u<;>simp [intKind,Value.isInt] at h1
    exact ⟨_,by rw [h1]⟩
   obtain ⟨t',rfl⟩:∃t',v=.int b t':=by
    cases v<;>simp [intKind,Value.isInt] at h2
    exact ⟨_,by rw [h2]⟩
   show KatLex prog w A true fin Q ((Value.int a t,Value.int b t')::us.zip vs) i s
   refine kat_cons (wpAny_eqBool_int ?_)
   unfold cR at q
   by_cases ab:a=b
   ·subst ab
    rw [if_pos rfl] at q
    rw [show (a == a)=true by simp]
    exact kat_yes (lex_k x y us vs (i+1) t1 t2 (by simpa using hf) q)
   ·rw [if_neg ab] at q
    rw [show (a == b)=false by simp [ab]]
    refine kat_no ?_
    by_cases hi:i=0
    ·subst hi
     exact oneLt_int q
    ·have:(true&&i == 0)=false:=by simp [hi]
     rw [this]
     exact kat_one _ _ (PyProof.Rows.lt_int q)
theorem ltT_k {x y:Addr}{kx ky:List Int}{Q:Bool->Shared->Prop}(hx:IsTupleKey (intKind prog w) s.heap kx x) (hy:IsTupleKey (intKind prog w) s.heap ky y) (q:Q (cR kx ky) s):wpAny (model prog w) A (keyLt' (tuples' true) (.ref x) (.ref y)) Q E s:=by
 obtain ⟨ox,xs,n,h1,_,h2,h3⟩:=hx
 obtain ⟨oy,ys,k,h4,_,h5,h6⟩:=hy
 refine kat_lt h1 h2 h4 h5 (lex_k kx ky _ _ 0 h3 h6 ?_ q)
 rw [h3.length,h6.length]
 simp
theorem rj {B:Heap}{L a:Addr}{m:Str->Option Value}{vs:List Value}{ks:List (List Int)}{n:Nat}{P:PySem.Fin->Shared->Prop}(F:Fr B L s.heap m) (ho:s.heap.get? a=some (seqObj "list" vs.toArray n)) (haL:a≠L) (ha0:B.get? a=none)
  (hl:ks.length=vs.length) (hv:∀i,i<vs.length->∃x,vs.getD i .none=.ref x/\x≠L/\x≠a/\IsTupleKey (intKind prog w) s.heap (ks.getD i []) x/\ks.getD i []≠[]) (nd:ks.Nodup) (h2:2<=vs.length) (h64:vs.length<64)
  (h:∀(p:Array Nat) (h':Heap) (c:Nat),p.toList.Perm (List.range vs.length)->(∀i j,i<j->j<vs.length->cR (ks.getD (gp p i) []) (ks.getD (gp p j) [])=true)->Fr B L h' m->(∀b o,b≠L->b≠a->s.heap.get? b=some o->h'.get? b=some o)->
   h'.get? a=some (seqObj "list" (p.toList.map λ i=>vs.getD i .none).toArray c)->P (.done (.ret .none)) {s with heap:=h'}):
  wpAny (model prog w) A (Builtin.«list.sort» ⟨[.ref a],[]⟩) P E s:=by
 have N:News B L s.heap (rest B s.heap L a):=λ p hp=>news_at haL ha0 ho p (zg _ hp)
 refine kat_list_sort F N ho haL ha0 rest_ne h2 h64 λ e1 h' F' N'=>?_
 have kp:∀b o,b≠L->b≠a->s.heap.get? b=some o->h'.get? b=some o:=iA F.keep F' λ p hp=>N' p (zg _ hp)
 have key:∀i,i<vs.length->∃x,vs.getD i .none=.ref x/\IsTupleKey (intKind prog w) h' (ks.getD i []) x/\ks.getD i []≠[]:=λ i hi=>by
  obtain ⟨x,e1,e2,e3,⟨o,items,r,e4,e5⟩,e6⟩:=hv i hi
  exact ⟨x,e1,⟨o,items,r,kp x o e2 e3 e4,e5⟩,e6⟩
 have hkk:∀i j,i<vs.length->j<vs.length->ks.getD i []=ks.getD j []->i=j:=λ i j hi hj e=>by
  rw [zb,zb,y7 (by lia),y7 (by lia)] at e
  exact (Ao nd).mp (by simpa using e)
 have O:SOrd vs.length λ i j=>cR (ks.getD i []) (ks.getD j []):=⟨λ x y z _ _ _ h1 h2=>sT _ _ _ h1 h2,λ x y _ _ h1=>nR _ _ h1,λ x y hx hy ne h1=>sS _ _ (λ e=>ne (hkk x y hx hy e)) h1⟩
 obtain ⟨fs,tp,fl,fi⟩:∃fs,KatTups h' vs fs/\fs.length=vs.length/\∀f∈fs,∃n t,f=Value.int n t:=by
  have go:∀(us:List Value) (f:Nat->List Int),(∀i,i<us.length->∃x,us.getD i .none=.ref x/\IsTupleKey (intKind prog w) h' (f i) x/\f i≠[])->∃fs,KatTups h' us fs/\fs.length=us.length/\∀f∈fs,∃n t,f=Value.int n t:=by
   intro us
   induction us with
   | nil=>exact λ f _=>⟨[],.nil,rfl,λ f z=>nomatch z⟩
   | cons u us ih=>
     intro f hf
     obtain ⟨fs,t1,t2,t3⟩:=ih (λ i=>f (i+1)) λ i hi=>hf (i+1) (by simpa using hi)
     obtain ⟨x,e1,⟨o,items,r,e4,e5,e6,e7⟩,e8⟩:=hf 0 (by simp)
     have e1:u=.ref x:=e1
     subst e1
     generalize f 0=kk at e7 e8
     generalize hit:items.toList=its at e7
     cases e7 with
     | nil=>exact absurd rfl e8
     | @cons k v ks' vs' h1 h2=>
       obtain ⟨t,rfl⟩:∃t,v=.int k t:=by
        cases v<;>simp [intKind,Value.isInt] at h1
        exact ⟨_,by rw [h1]⟩
       refine ⟨.int k t::fs,KatTups.cons e4 e5 e6 ?_ t1,by simp [t2],λ f z=>?_⟩
       ·rw [<-BI,hit]; rfl
       ·rcases y6.mp z with rfl | z
        ·exact ⟨k,t,rfl⟩
        ·exact t3 f z
  exact go vs (λ i=>ks.getD i []) key
 refine kat_kind (T:=.type "int") tp (by lia) (λ f hf=>?_) (by decide) ?_
 ·obtain ⟨k,t,rfl⟩:=fi f hf
  exact Looks.of_pure rfl
 ·show (kas_sort vs.length).kasWp (kas_ask prog w A (tuples' true) vs) _ _
  refine sort_k O (λ i j C hi hj hC=>?_) h2 λ p hp up=>?_
  ·obtain ⟨x,e1,kx,_⟩:=key i hi
   obtain ⟨y,e2,ky,_⟩:=key j hj
   unfold kas_ask
   rw [e1,e2]
   exact ltT_k (s:={s with heap:=h'}) kx ky hC
  ·refine KasFin.intro F' N' (UpdF.head rest_ne) λ h'' c F'' N''=>?_
   exact h p h'' c hp up F'' (iA F.keep F'' λ q hq=>N'' q (zg _ hq)) (N'' _ (.head _)).1
end
end L2
namespace L2
open PySem PySem.Spec PyProof.Rows
section
variable {prog:Program}{w:World}{A:Around}{E:Value->Shared->Prop}{s:Shared}
end
end L2
namespace L2
open PySem PySem.Spec PyProof.Rows
section
variable {X:Cx}
end
section
variable {P:Program}{w:World}{K:Frag}{σ:St}{H:Hp}{Q:VK}{te:TE}
end
end L2
namespace L2
open PySem PySem.Spec PyProof.Rows
section
variable {X:Cx}{a b:Expr}{ta tb:TE}{pos:Pos}
end
section
variable {K:Frag}{σ:St}{H:Hp}{ta tb:TE}{x y:V}{k:Bool}{Q:VK}
end
section
variable {K:Frag}{σ:St}{H:Hp}{Q:VK}
end
end L2
namespace L2
open PySem PySem.W PySem.Calls PySem.Spec PyProof.Rows
theorem sL {α β:Type} [DecidableEq α] (f:α->β):∀{vs:List β}{l:List α},vs.Perm (l.map f)->∃l':List α,l'.Perm l/\vs=l'.map f
 | [],l,h=>by
   have:l=[]:=by have:=h.length_eq; simpa using this.symm
   subst this
   exact ⟨[],List.Perm.refl _,rfl⟩
 | v::vs,l,h=>by
   obtain ⟨x,hx,rfl⟩:=y4.mp (h.mem_iff.mp zi)
   have hp:=AN hx
   have h2:vs.Perm ((l.erase x).map f):=(h.trans (hp.map f)).cons_inv
   obtain ⟨l',p1,rfl⟩:=sL f h2
   exact ⟨x::l',(List.Perm.cons x p1).trans hp.symm,rfl⟩
theorem perm_at {α:Type}(d:α) {l:List α}{p:List Nat}(h:p.Perm (List.range l.length)):(p.map λ i=>l.getD i d).Perm l:=by
 refine (h.map _).trans (List.Perm.of_eq ?_)
 apply zR
 intro i
 rw [y8]
 by_cases hi:i<l.length
 ·rw [zJ hi,y7 hi]
  simp [zb,hi]
 ·rw [zE (by simpa using hi),zE (by lia)]
  rfl
section
variable {prog:Program}{w:World}{A:Around}{E:Value->Shared->Prop}{s:Shared}
theorem lm {a:Addr}{vs:List Value}{n:Nat}{P:PySem.Fin->Shared->Prop}(ho:s.heap.get? a=some (seqObj "list" vs.toArray n)) (h1:vs.length<2)
  (h:P (.done (.ret .none)) {s with heap:=sortedHeap s.heap a vs vs.toArray}):wpAny (model prog w) A (Builtin.«list.sort» ⟨[.ref a],[]⟩) P E s:=by
 obtain ⟨e1,g1⟩:∃e1,(s.heap.update a (Obj.mapSeq λ _=> #[])).get? a=some (seqObj "list" #[] e1):=⟨_,get?_update_seq ho (λ _=> #[])⟩
 have lt:a<s.heap.objs.size:=Heap.lt_size ho
 have g2:(((s.heap.update a (Obj.mapSeq λ _=> #[])).push (seqObj "tuple" vs.toArray 0)).push (seqObj "list" #[] 0)).get? a=some (seqObj "list" #[] e1):=Heap.get?_push_of_some _ (Heap.get?_push_of_some _ g1)
 have few:vs.toArray.size<2:=by rw [y9]; exact h1
 have zz:(vs.toArray.zip vs.toArray).map (·.2)=vs.toArray:=by
  apply BM.mp
  simp
  exact List.map_snd_zip (AU _)
 have sm:vs.toArray.size<=sizeLine:=by rw [sizeLine_eq]; lia
 rw [list_sort_plain]
 refine wpAny_bind (listItems_at ho rfl (wpAny_bind (listUpdate_at ho rfl (wpAny_bind (seqEpoch_at g1 rfl (wpAny_bind (wpAny_newTuple (wpAny_bind (wpAny_newList (wpAny_holding ?_))))))))))
 dsimp only
 rw [if_pos few,if_pos few]
 refine wpAny_bind (wpAny_pure ?_)
 rw [StateT.run_pure]
 refine wpAny_bind (wpAny_pure ?_)
 dsimp only
 refine wpAny_bind (seqEpoch_at g2 rfl (wpAny_bind (listUpdate_at g2 rfl ?_ (hsz2:=?_))))
 ·simp only [bne_self_eq_false,Bv,if_false]
  refine wpAny_pure ?_
  rw [show Array.map (λ x=>x.snd) (arrOf (SortSt.mk' general' (vs.toArray.zip vs.toArray) #[] 7 none))=vs.toArray from zz]
  exact h
 ·rw [show Array.map (λ x=>x.snd) (arrOf (SortSt.mk' general' (vs.toArray.zip vs.toArray) #[] 7 none))=vs.toArray from zz]
  lia
structure TPs (prog:Program) (w:World) (h:Heap) (L:Addr) (ps:List (List Int×Addr)):Prop where
 at_:∀p∈ps,p.2≠L/\p.1≠[]/\IsTupleKey (intKind prog w) h p.1 p.2
 nd:(ps.map (·.1)).Nodup
theorem TPs.perm {h:Heap}{L:Addr}{ps ps':List (List Int×Addr)}(x:TPs prog w h L ps) (p:ps'.Perm ps):TPs prog w h L ps':=⟨λ q hq=>x.at_ q (p.mem_iff.mp hq),(p.map _).nodup_iff.mpr x.nd⟩
theorem TPs.keep {h h':Heap}{L:Addr}{ps:List (List Int×Addr)}(x:TPs prog w h L ps) (k:∀b o,b≠L->h.get? b=some o->h'.get? b=some o):TPs prog w h' L ps:=⟨λ q hq=>let ⟨a,b,o,its,r,e,rr⟩:=x.at_ q hq; ⟨a,b,o,its,r,k _ o a e,rr⟩,x.nd⟩
theorem lR {B:Heap}{L:Addr}{m:Str->Option Value}{ps:List (List Int×Addr)}{Q:Value->Shared->Prop}(F:Fr B L s.heap m) (T:TPs prog w s.heap L ps) (h64:ps.length<64)
  (q:∀(ps':List (List Int×Addr)) (h':Heap) (c:Nat),ps'.Perm ps->ps'.Pairwise (λ x y=>cR x.1 y.1=true)->Fr B L h' m->(∀b o,b≠L->s.heap.get? b=some o->h'.get? b=some o)->
   h'.get? s.heap.objs.size=some (seqObj "list" (ps'.map λ z=>Value.ref z.2).toArray c)->Q .none {s with heap:=h'}):
  wpAny (model prog w) A (Builtin.«list.sort» ⟨[.ref s.heap.objs.size],[]⟩) (λ r s'=>r=.done (.ret .none)/\Q .none s') E {s with heap:=s.heap.push (seqObj "list" (ps.map λ z=>Value.ref z.2).toArray 0)}:=by
 have hL:L<s.heap.objs.size:=F.ns.lt
 have gL:(s.heap.push (seqObj "list" (ps.map λ z=>Value.ref z.2).toArray 0)).get? s.heap.objs.size=some (seqObj "list" (ps.map λ z=>Value.ref z.2).toArray 0):=Heap.get?_push_size _ rfl
 have kp:∀b o,s.heap.get? b=some o->(s.heap.push (seqObj "list" (ps.map λ z=>Value.ref z.2).toArray 0)).get? b=some o:=λ b o e=>Heap.get?_push_of_some _ e
 have F1:Fr B L (s.heap.push (seqObj "list" (ps.map λ z=>Value.ref z.2).toArray 0)) m:=F.kept kp
 have hlen:(ps.map λ z=>Value.ref z.2).length=ps.length:=y3 ..
 by_cases h2:2<=ps.length
 ·have hat:∀i (hi:i<ps.length),(ps.map λ z=>Value.ref z.2).getD i .none=.ref (ps.getD i ([],0)).2/\(ps.map (·.1)).getD i []=(ps.getD i ([],0)).1/\ps.getD i ([],0)∈ps:=λ i hi=>by
   simp [zb,y7 hi]
  refine rj (ks:=ps.map (·.1)) F1 gL (A1 hL) (Heap.get?_none_of_le (AX F.above (A5 hL))) (by simp) (λ i hi=>?_) T.nd (by rw [hlen]; exact h2) (by rw [hlen]; exact h64) λ p h' c hp up F' k' ga=>?_
  ·rw [hlen] at hi
   obtain ⟨e1,e2,e3⟩:=hat i hi
   obtain ⟨a1,a2,o,its,r,e,rr⟩:=T.at_ _ e3
   exact ⟨_,e1,a1,AW (Heap.lt_size e),by rw [e2]; exact ⟨o,its,r,kp _ _ e,rr⟩,by rw [e2]; exact a2⟩
  ·rw [hlen] at hp up
   have P:=PR.of hp
   refine ⟨rfl,q (p.toList.map λ i=>ps.getD i ([],0)) h' c (perm_at _ hp) ?_ F' (λ b o n e=>k' b o n (AW (Heap.lt_size e)) (kp b o e)) ?_⟩
   ·rw [zv,Al]
    intro i j hi hj hij
    have hi2:i<ps.length:=by rw [<-P.sz]; simpa using hi
    have hj2:j<ps.length:=by rw [<-P.sz]; simpa using hj
    have z:=up i j hij hj2
    have gi:gp p i=p.toList[i]:=by
     have:i<p.size:=by rw [P.sz]; exact hi2
     simp [gp,this]
    have gj:gp p j=p.toList[j]:=by
     have:j<p.size:=by rw [P.sz]; exact hj2
     simp [gp,this]
    rw [gi,gj] at z
    rw [<-(hat _ (by rw [<-gi]; exact P.lo i hi2)).2.1,<-(hat _ (by rw [<-gj]; exact P.lo j hj2)).2.1]
    exact z
   ·rw [ga,zk]
    congr 3
    refine zH λ i hi=>?_
    exact (hat i (zc.mp (hp.mem_iff.mp hi))).1
 ·refine lm gL (by rw [hlen]; lia) ?_
  obtain ⟨e,he⟩:=sortedHeap_at (out:=(ps.map λ z=>Value.ref z.2).toArray) gL
  have k2:∀b o,s.heap.get? b=some o->(sortedHeap (s.heap.push (seqObj "list" (ps.map λ z=>Value.ref z.2).toArray 0)) s.heap.objs.size (ps.map λ z=>Value.ref z.2) (ps.map λ z=>Value.ref z.2).toArray).get? b=some o:=λ b o e=>by
   rw [sortedHeap_old (AW (Heap.lt_size e)) (by rw [Heap.size_push]; exact A3 (Heap.lt_size e))]
   exact kp b o e
  refine ⟨rfl,q ps _ e (List.Perm.refl _) ?_ (F.kept k2) (λ b o _ e=>k2 b o e) he⟩
  match ps,h2 with
  | [],_=>exact List.Pairwise.nil
  | [_],_=>exact AO ..
  | _::_::_,h=>exact absurd (by simp) h
end
end L2
namespace L2
open PySem PySem.W PySem.Calls PySem.Spec PyProof.Rows
section
variable {prog:Program}{w:World}{A:Around}{E:Value->Shared->Prop}{s:Shared}
def ql (prog:Program) (w:World) (h:Heap) (D:Addr) (ps:List (List Int×Addr)):Prop:= ∃es ep t,du h D es ep t/\es.toList.Perm (ps.map λ p=>(tupleKeyHash (intKind prog w) p.1,Value.ref p.2))/\SG (!w.params.followText "set-order") es.size t
theorem ql.keep {h h':Heap}{D:Addr}{ps:List (List Int×Addr)}(x:ql prog w h D ps) (k:∀o,h.get? D=some o->h'.get? D=some o):ql prog w h' D ps:=let ⟨es,ep,t,h1,r⟩:=x; ⟨es,ep,t,h1.keep k,r⟩
theorem yy {M:Addr->Prop}{h:Heap}:∀{l:List (Int×Value)},(∀e∈l,∃k,El prog w M h k e)->∃ps:List (List Int×Addr),l=ps.map (λ p=>(tupleKeyHash (intKind prog w) p.1,Value.ref p.2))/\∀p∈ps,M p.2/\IsTupleKey (intKind prog w) h p.1 p.2
 | [],_=>⟨[],rfl,λ _ z=>nomatch z⟩
 | e::l,hl=>by
   obtain ⟨ps,rfl,h1⟩:=yy λ e' he=>hl e' (zg _ he)
   obtain ⟨k,a,h2,rfl,h3⟩:=hl e zi
   exact ⟨(k,a)::ps,rfl,λ p hp=>(y6.mp hp).elim (λ z=>z▸⟨h2,h3⟩) (h1 p)⟩
theorem gH.toP {M:Addr->Prop}{h:Heap}{D:Addr}{S:List Int->Bool}{n:Nat}(x:gH prog w M h D S n):∃ps:List (List Int×Addr),ql prog w h D ps/\(∀p∈ps,M p.2/\IsTupleKey (intKind prog w) h p.1 p.2)/\(ps.map (·.1)).Nodup/\(∀k,S k=true<->k∈ps.map (·.1))/\ps.length=n:=by
 obtain ⟨es,ep,t,o1,st,hm,hz⟩:=x
 obtain ⟨ps,e,h1⟩:=yy st.el
 refine ⟨ps,⟨es,ep,t,o1,List.Perm.of_eq e,st.tg.fits,st.led,st.tg.ris⟩,h1,?_,λ k=>?_,?_⟩
 ·have z:=st.nd
  rw [e,zv] at z
  rw [zC,zv]
  refine z.imp_of_mem ?_
  intro p p' hp hp' q e2
  exact q p.1 ⟨p.2,(h1 p hp).1,rfl,(h1 p hp).2⟩ ⟨p'.2,(h1 p' hp').1,by rw [e2],by rw [e2]; exact (h1 p' hp').2⟩
 ·rw [hm k,e,y4]
  constructor
  ·rintro ⟨e',he,z⟩
   obtain ⟨p,hp,rfl⟩:=y4.mp he
   exact ⟨p,hp,(El.inj (m:=M) ⟨p.2,(h1 p hp).1,rfl,(h1 p hp).2⟩ z)⟩
  ·rintro ⟨p,hp,rfl⟩
   exact ⟨_,y4.mpr ⟨p,hp,rfl⟩,p.2,(h1 p hp).1,rfl,(h1 p hp).2⟩
 ·have:=congrArg List.length e
  rw [y3,BK] at this
  lia
theorem oO {B:Heap}{L:Addr}{m:Str->Option Value}{D:Addr}{ps:List (List Int×Addr)}{Q:Value->Shared->Prop}(F:Fr B L s.heap m) (hh:A.handled=none) (hS:ql prog w s.heap D ps) (T:TPs prog w s.heap L ps) (h64:ps.length<64)
  (q:∀(ps':List (List Int×Addr)) (h':Heap) (p:Addr) (e:Nat) d tk,ps'.Perm ps->ps'.Pairwise (λ x y=>cR x.1 y.1=true)->Fr B L h' m->(∀b o,b≠L->s.heap.get? b=some o->h'.get? b=some o)->s.heap.objs.size<=p->h'.get? p=some (seqObj "list" (ps'.map λ z=>Value.ref z.2).toArray e)->s.toks<=tk->Q (.ref p) {s with heap:=h',drawn:=d,toks:=tk}):
  wpAny (model prog w) A (call (.builtin "sorted") [.ref D]) Q E s:=by
 obtain ⟨es,ep,t,o1,hp,g⟩:=hS
 have hz:es.size=ps.length:=by
  have:=hp.length_eq
  simpa using this
 refine Calls.call_function_entry kind_sorted plain_sorted entry_sorted (args_sorted1 _) ?_
 unfold Builtin.«sorted»
 refine wpAny_bind (m:=checkCount "sorted" 1 1 _) (wpAny_pure ?_)
 refine wpAny_bind (qb (by exact hh) o1 g (by rw [sizeLine_eq]; lia) λ vs h1 d1 tk1 hv k1 hsz ht1=>?_)
 obtain ⟨ps1,p1,rfl⟩:=sL (λ p:List Int×Addr=>Value.ref p.2) (hv.trans (by
  have z:=hp.map (·.2)
  rw [zk] at z
  exact z))
 refine wpAny_bind (wpAny_newList ?_ (by rw [y3,p1.length_eq,sizeLine_eq]; lia))
 have gL:(h1.push (seqObj "list" (ps1.map λ z=>Value.ref z.2).toArray 0)).get? h1.objs.size=some (seqObj "list" (ps1.map λ z=>Value.ref z.2).toArray 0):=Heap.get?_push_size _ rfl
 refine wpAny_bind (wpAny_holding (wpAny_call_entry slot_list_sort ⟨_,gL,rfl⟩ entry_list_sort (wpAny_mono (lR (s:={s with heap:=h1,drawn:=d1,toks:=tk1}) (Q:=λ _ s'=>wpAny (model prog w) A.in1 (ret (.ref h1.objs.size)) (λ r s''=> ∃v,r=.done (.ret v)/\Q v s'') E s') (F.kept k1) ((T.perm p1).keep λ b o _ e=>k1 b o e) (by rw [p1.length_eq]; exact h64) λ ps' h' c hp' pw F' k' ga=>?_) (λ r s' z=>⟨_,z.1,z.2⟩) λ _ _ z=>z) (args_list_sort _)))
 exact wpAny_pure ⟨_,rfl,q ps' h' _ c _ _ (hp'.trans p1) pw F' (λ b o n e=>k' b o n (k1 b o e)) (A5 hsz) ga ht1⟩
end
end L2
namespace L2
open PySem PySem.W PySem.Calls PySem.Spec PyProof.Rows
theorem bH.hereS {P:Program}{w:World}{H:Hp}{h:Heap}{a:Addr}{o:HO}(x:bH P w H h a o):∃u,h.get? a=some u:=by
 cases o with
 | lst xs=>obtain ⟨_,_,_,_,e⟩:=x; exact ⟨_,e⟩
 | tup xs=>obtain ⟨_,_,_,o,e,_⟩:=x; exact ⟨_,e⟩
 | dK kvs=>obtain ⟨_,_,_,_,o,_,_,e,_⟩:=x; exact ⟨_,e⟩
 | dT kvs=>obtain ⟨_,_,_,_,o,_,_,e,_⟩:=x; exact ⟨_,e⟩
 | set S n=>obtain ⟨o,_,_,_,e,_⟩:=x; exact ⟨_,e⟩
 | ins C dx fs=>obtain ⟨_,_,_,e,_⟩:=x; exact ⟨_,e⟩
 | own y=>obtain ⟨_,e⟩:=x; exact ⟨_,e⟩
 | xd fs=>obtain ⟨_,⟨_,_,_,e,_⟩,_⟩:=x; exact ⟨_,e⟩
 | rng lo hi=>obtain ⟨_,_,_,e⟩:=x; exact ⟨_,e⟩
 | frz ob u=>obtain ⟨e,_⟩:=x; exact ⟨_,e⟩
 | tbl ps=>exact ⟨_,(show h.get? a=some _ from x)⟩
 | met f y=>exact ⟨_,(show h.get? a=some _ from x)⟩
 | ext φ=>obtain ⟨_,⟨_,e⟩,_⟩:=x; exact ⟨_,e⟩
section
variable {X:Cx}
theorem lx:∀(ps:List (List Int×Addr)),aP (ps.map λ z=>V.ref z.2) (ps.map λ z=>Value.ref z.2)
 | []=>.nil
 | p::ps=>.cons rfl (lx ps)
theorem pR {P:Program}{w:World}:∀{k:List Int}{us:List Value},aP (k.map V.int) us->ItemsAre (intKind P w) k us
 | [],_,.nil=>.nil
 | n::k,_,.cons r t=>by
   obtain ⟨tk,rfl⟩:=r
   exact .cons (intKind_is _ _ _ _) (pR t)
theorem rY {P:Program}{w:World}{H:Hp}{h:Heap}{a:Addr}{k:List Int}(x:bH P w H h a (.tup (k.map V.int))):IsTupleKey (intKind P w) h k a:=by
 obtain ⟨_,its,r,o,ho,hc,n,hd⟩:=x
 exact ⟨o,_,n,ho,hc,hd,pR r⟩
theorem mi {pins:List (Addr×Obj)}{σ:St}{H:Hp}{s:Shared}{Q:VK}(I:Inv X pins σ H s) {m:Str->Option Value}(F:Fr X.base X.env.locals s.heap m) {h':Heap}{p:Addr}{e tk:Nat}{d:Drawn}{ps':List (List Int×Addr)}(F':Fr X.base X.env.locals h' m)
  (kp:∀b o,b≠X.env.locals->s.heap.get? b=some o->h'.get? b=some o) (hle:s.heap.objs.size<=p) (ga:h'.get? p=some (seqObj "list" (ps'.map λ z=>Value.ref z.2).toArray e)) (hz:ps'.length<64)
  (q:H p=none->Q (.ref p) (upd H p (.lst (ps'.map λ z=>V.ref z.2)))):EP X pins σ Q (.ref p) {s with heap:=h',drawn:=d,toks:=tk}:=by
 have hD:s.heap.get? p=none:=Heap.get?_none_of_le hle
 have hHD:H p=none:=by
  cases z:H p with
  | none=>rfl
  | some u=>
    obtain ⟨o,e⟩:=(I.hok p u z).hereS
    rw [hD] at e; cases e
 refine ⟨.ref p,upd H p (.lst (ps'.map λ z=>V.ref z.2)),?_,rfl,q hHD⟩
 have hlenZ:(ps'.map λ z=>V.ref z.2).length<=sizeLine:=by rw [y3,sizeLine_eq]; lia
 have neD:∀b u,H b=some u->b≠p:=λ b u e=>ar e hHD
 have neLH:∀b u,H b=some u->b≠X.env.locals:=λ b u e=>ar e I.free
 refine I.step (g':=s.gens) (d':=d) (ch:=[]) (λ _ z=>nomatch z) (λ b o n _ _ e _=>kp b o n e) (λ b o n _ _ e _=>⟨o.slots,kp b o n e⟩) (λ b o _ e n=>?_) (λ b o _ e=>?_)
  (λ b xs e=>by rw [aq (neD b _ e)]; exact e) (λ b o u e=>by rw [aq (neD b _ e)]; exact e) (λ b ps e=>⟨#[],by rw [aq (neD b _ e),e]; simp⟩) (λ m' hm=>?_) (λ b u e=>?_) I.bare
 ·rw [aq (λ z=>by rw [z,hD] at e; cases e)]; exact n
 ·by_cases hb:b=X.env.locals
  ·obtain ⟨o',_,_,e',_⟩:=F'.ns
   rw [hb]; exact ⟨o',e'⟩
  ·exact ⟨o,kp b o hb e⟩
 ·rw [hm.eq_nsMap,<-F.ns.eq_nsMap]; exact F'.ns
 ·by_cases hb:b=p
  ·subst hb
   rw [af] at e; cases e
   exact ⟨hlenZ,_,_,lx ps',by simpa [seqObj] using ga⟩
  ·rw [aq hb] at e
   refine (I.hok b u e).stay (λ b' v hb' z=>kp b' v ?_ z) (λ b' z=>by rw [aq (neD b' _ z)]; exact z) λ b' xs z=>by rw [aq (neD b' _ z)]; exact z
   rcases hb' with rfl | hb'
   ·exact neLH _ _ e
   ·exact neLH _ _ hb'
def oP (P:Program) (w:World) (K:Frag) (xs:List V) (H:Hp) (Q:VK):Prop:= ∃(d:Addr) (ps:List (List Int×Addr)),xs=[.ref d]/\SqL K H d (ps.map λ z=>V.ref z.2)/\(∀p∈ps,H p.2=some (.tup (p.1.map V.int)))/\ps.length+1<307/\
 ∀(q:Addr) (ps':List (List Int×Addr)),H q=none->(∀p∈ps',p∈ps)->(ps'.map (·.1)).Nodup->(∀k,k∈ps'.map (·.1)<->k∈ps.map (·.1))->Q (.ref q) (upd H q (.ext λ h=>ql P w h q ps'))
def jX (P:Program) (w:World) (xs:List V) (H:Hp) (Q:VK):Prop:= ∃(d:Addr) (ps:List (List Int×Addr)),xs=[.ref d]/\H d=some (.ext λ h=>ql P w h d ps)/\(∀p∈ps,p.1≠[]/\H p.2=some (.tup (p.1.map V.int)))/\(ps.map (·.1)).Nodup/\ps.length<64/\
 ∀(ps':List (List Int×Addr)) (q:Addr),ps'.Perm ps->ps'.Pairwise (λ x y=>cR x.1 y.1=true)->H q=none->Q (.ref q) (upd H q (.lst (ps'.map λ z=>V.ref z.2)))
theorem wG {pins:List (Addr×Obj)}{σ:St}{H:Hp}{s:Shared}(I:Inv X pins σ H s) {ps:List (List Int×Addr)}(hp:∀p∈ps,p.1≠[]/\H p.2=some (.tup (p.1.map V.int))) (nd:(ps.map (·.1)).Nodup):TPs X.prog X.w s.heap X.env.locals ps:=
 ⟨λ p h=>⟨ar (hp p h).2 I.free,(hp p h).1,rY (I.hok _ _ (hp p h).2)⟩,nd⟩
theorem qf (hh:X.A.handled=none):bb X (.builtin "sorted") (jX X.prog X.w):=by
 intro pins s σ H xs us Q I r h
 obtain ⟨d,ps,rfl,hd,hp,nd,h64,q⟩:=h
 obtain ⟨u,rfl,rx⟩:=dv r
 cases rx
 obtain ⟨pS,_,_⟩:=(show bH X.prog X.w H s.heap d (.ext _) from I.hok d _ hd)
 obtain ⟨m,F⟩:=I.fr
 refine oO F hh pS (wG I hp nd) h64 λ ps' h' p e dr tk a1 a2 F' kp hle ga _=>?_
 exact mi I F F' kp hle ga (by rw [a1.length_eq]; exact h64) (q ps' p a1 a2)
theorem rO (hh:X.A.handled=none) (hu:X.A.units+4<cLine):bb X (.type "set") (oP X.prog X.w X.K):=by
 intro pins s σ H xs us Q I r h
 obtain ⟨d,ps,rfl,hq,hp,hb,q⟩:=h
 obtain ⟨u,rfl,rx⟩:=dv r
 cases rx
 obtain ⟨its,r',pl,hz⟩:=I.list hq
 have hlen:=r'.length
 rw [y3] at hlen
 have hs:its.toArray.size=ps.length:=by rw [y9,<-hlen]
 have hM:∀p∈ps,IsTupleKey (intKind X.prog X.w) s.heap p.1 p.2:=λ p h=>rY (I.hok _ _ (hp p h))
 refine t7 (λ a=> ∃p∈ps,p.2=a) (λ i=>(ps.getD i ([],0)).1) hh pl.isList hu (λ i v hv=>?_) (λ a ⟨p,hp1,e⟩=>?_) (by rw [hs]; exact hb) λ h2 tk hS kp=>?_
 ·rw [Ax] at hv
  have hi:i<its.length:=(zo.mp hv).1
  have hi2:i<ps.length:=by lia
  have hx:(ps.map λ z=>V.ref z.2)[i]? =some (.ref ps[i].2):=by rw [y8,y7 hi2]; rfl
  obtain ⟨u,hu,ru⟩:=r'.get hx
  rw [hv] at hu
  cases hu
  have eg:ps.getD i ([],0)=ps[i]:=by simp [zb,hi2]
  rw [eg]
  exact ⟨_,ru,⟨_,zp hi2,rfl⟩,hM _ (zp hi2)⟩
 ·obtain ⟨o,_,_,ho,_⟩:=hM p hp1
  rw [<-e]
  exact Heap.lt_size ho
 ·rw [hs] at hS
  have k2:∀b u,s.heap.get? b=some u->h2.get? b=some u:=λ b u e=>kp b u (Heap.lt_size e) e
  obtain ⟨ps',s1,s2,s3,s4,_⟩:=hS.toP
  have ho:∃o,h2.get? s.heap.objs.size=some o:=let ⟨_,_,_,⟨o,h1,_⟩,_⟩:=s1; ⟨o,h1⟩
  refine ⟨.ref s.heap.objs.size,_,I.laid (t':=tk) k2 (AU _) (show bH X.prog X.w _ h2 _ (.ext λ h=>ql X.prog X.w h s.heap.objs.size ps') from ⟨s1,ho,λ h1 h2 e k=>e.keep k⟩),rfl,q _ ps' (I.hok.fresh (AU _)) (λ p h=>?_) s3 λ k=>?_⟩
  ·obtain ⟨⟨p2,h2p,e2⟩,kk⟩:=s2 p h
   obtain ⟨o,items,n,g1,rr⟩:=hM p2 h2p
   have:p2.1=p.1:=IsTupleKey.inj (knd:=intKind X.prog X.w) (h:=h2) (a:=p.2) (e2▸⟨o,items,n,k2 _ _ g1,rr⟩) kk
   have:p2=p:=Prod.ext this e2
   exact this▸h2p
  ·rw [<-s4 k,decide_eq_true_eq,ko,y4,y4]
   constructor
   ·rintro ⟨i,hi,rfl⟩
    have hi2:=zc.mp hi
    exact ⟨ps[i],zp hi2,by simp [zb,hi2]⟩
   ·rintro ⟨p,h,rfl⟩
    obtain ⟨i,hi,rfl⟩:=zP h
    exact ⟨i,zc.mpr hi,by simp [zb,hi]⟩
end
end L2
namespace L2
open PySem PySem.Spec PyProof.Rows
section
variable {X:Cx}{a b c e o:Expr}{ta tb tc te to:TE}{p p2 pos:Pos}{es:List Expr}{t:TA}
def cExt (to te:TE):TE:=λ σ H Q=>to σ H λ x H1=>match x with
 | .ref l=>(∃xs,H1 l=some (.lst xs))/\te σ H1 λ y H2=> ∃b xs zs,y=.ref b/\H2 l=some (.lst xs)/\H2 b=some (.lst zs)/\xs.length+zs.length<=sizeLine/\Q .non (upd H2 l (.lst (xs++zs)))
 | _=>False
theorem yN {apos cpos:Pos}(ho:PE X o to) (he:PE X e te) (hbase:attributeBase o "extend" X.env (eval o X.env)=eval o X.env:=by rfl)
  (hfew:((backTo cpos (starEach [e] X.env)).all (λ x=> !x.1)&&(backToKw cpos (keywordEach [] X.env)).all (λ x=>x.1.isSome)
   &&decide ([e].length+([]:List Keyword).length+(if ([]:List Keyword).isEmpty then 0 else 1)<30))=true:=by rfl)
  (hline:(apos.endLine == cpos.line)=true:=by rfl) (hs:starEach [e] X.env=(false,eval e X.env)::starEach [] X.env:=by rfl) (hplain:(backTo cpos (starEach [] X.env)).any (·.1)=false:=by rfl):
  PE X (.Call (.Attribute o "extend" apos) [e] [] cpos) (cExt to te):=by
 intro pins s σ H Q I h
 refine wpAny_Call_method_late hbase hfew hline rfl (thn (ho pins s σ H _ I h) λ v s1 ⟨x,H1,I1,r1,q1⟩=>?_)
 cases x with
 | ref l=>
   obtain ⟨⟨xs0,e0⟩,q1⟩:=q1
   have ty:tyV X.K "list" (.ref l) H1:=.inl ⟨rfl,xs0,SqL.of e0⟩
   obtain ⟨h1,h2⟩:=mj I1 r1 ty
   refine ⟨"list","list.extend",PySem.F.plainAttrs_list,PySem.F.slot_list_extend,PySem.F.type_list_extend,h1,h2,?_⟩
   have hA:=(pa_cons he pa_nil hs:PA X [e] (bh te cO)) cpos pins s1 σ H1 (λ vs H2=>jJ (.ref l) vs H2 Q) I1 (by
    show te σ H1 λ y H2=>jJ (.ref l) [y] H2 Q
    have:(λ (y:V) (H2:Hp)=> ∃b xs zs,y=.ref b/\H2 l=some (.lst xs)/\H2 b=some (.lst zs)/\xs.length+zs.length<=sizeLine/\Q .non (upd H2 l (.lst (xs++zs))))=λ y H2=>jJ (.ref l) [y] H2 Q:=by
     funext y H2
     apply propext
     constructor
     ·rintro ⟨b,xs,zs,rfl,z⟩; exact ⟨l,b,xs,zs,rfl,rfl,z⟩
     ·rintro ⟨l',b,xs,zs,e1,e2,z⟩
      cases e1
      have:y=.ref b:=by injection e2
      exact ⟨b,xs,zs,this,z⟩
    rw [<-this]
    exact q1)
   rw [hs] at hA ⊢
   refine Calls.callWith_builtin (by show (false||(backTo cpos (starEach [] X.env)).any (·.1))=false; rw [hplain]<;>rfl) (Calls.evalArgs_plain ?_)
   exact thn hA λ us s2 ⟨vs,H2,I2,r2,q3⟩=>uB pins s2 σ H2 _ vs v us Q I2 r1 r2 q3
 | _=>exact q1.elim
theorem ksetP (P:Program) (w:World) (K:Frag) {j:Nat}(hr:cT j X.A) (hP:X.prog=P:=by rfl) (hw:X.w=w:=by rfl) (hK:X.K=K:=by rfl):bb X (.type "set") (oP P w K):=by
 subst hP hw hK; exact rO hr.hd (by have:=hr.units; lia)
theorem ksortP (P:Program) (w:World) {j:Nat}(hr:cT j X.A) (hP:X.prog=P:=by rfl) (hw:X.w=w:=by rfl):bb X (.builtin "sorted") (jX P w):=by
 subst hP hw; exact qf hr.hd
end
section
variable {P:Program}{w:World}{K:Frag}{σ:St}{H:Hp}{Q:VK}{te to:TE}{D:de}{u:TS}
theorem qA (h:te σ H λ v H1=>oP P w K [v] H1 λ u H2=>jX P w [u] H2 Q):cB (jX P w) (bh (cB (oP P w K) (bh te cO)) cO) σ H Q:=h
def pk (x:Int×Int):List Int:=[x.1,x.2]
theorem nu {x y:Int×Int}(h:pk x=pk y):x=y:=by
 unfold pk at h
 injection h with h1 h2
 injection h2 with h2 _
 exact Prod.ext h1 h2
theorem qD {d:Addr}{ps:List (List Int×Addr)}(hd:SqL K H d (ps.map λ z=>V.ref z.2)) (hp:∀p∈ps,p.1≠[]/\H p.2=some (.tup (p.1.map V.int))) (hl:ps.length+1<307) (h64:∀l:List (List Int),l.Nodup->(∀k,k∈l<->k∈ps.map (·.1))->l.length<64)
  (q:∀(ps':List (List Int×Addr)) (q:Addr) (H':Hp),(∀p∈ps',p∈ps)->(∀k,k∈ps'.map (·.1)<->k∈ps.map (·.1))->ps'.Pairwise (λ x y=>cR x.1 y.1=true)->H q=none->ah H H'->H' q=some (.lst (ps'.map λ z=>V.ref z.2))->Q (.ref q) H'):oP P w K [.ref d] H λ u H2=>jX P w [u] H2 Q:=by
 refine ⟨d,ps,rfl,hd,λ p h=>(hp p h).2,hl,λ q1 ps1 hq1 sub nd mem=>?_⟩
 have z1:ps1.length<64:=by have:=h64 _ nd mem; rwa [y3] at this
 refine ⟨q1,ps1,rfl,af,λ p h=>⟨(hp p (sub p h)).1,?_⟩,nd,z1,λ ps2 q2 pm pw hq2=>?_⟩
 ·rw [aq (ar (hp p (sub p h)).2 hq1)]
  exact (hp p (sub p h)).2
 ·have n12:q2≠q1:=λ z=>by rw [z,af] at hq2; cases hq2
  have hq2':H q2=none:=by rw [aq n12] at hq2; exact hq2
  refine q ps2 q2 _ (λ p h=>sub p (pm.mem_iff.mp h)) (λ k=>?_) pw hq2' (((ah.refl H).upd hq1).upd hq2) af
  rw [<-mem k]
  exact (pm.map _).mem_iff
end
def sdV (row:Str) (s:Int):V:=bF (row.cps.toList.getD s.toNat 0)
def cL (row:Str) (sd:Int) (aim:Str):List Int->List (Int×Int)
 | []=>[]
 | g::r=>if sdV row g=.non then (if aim="hit" then cL row sd aim r else (g, -1)::cL row sd aim r) else if¬sdV row g=.int sd/\¬aim="go" then [(g,g)] else []
def jumpL (row:Str) (sd:Int):List Int->List (Int×Int)
 | g::b::_=>if sdV row g=.int (1 - sd)/\sdV row b=.non then [(b,g)] else []
 | _=>[]
theorem iQ (row:Str) (sd:Int) (aim:Str):∀l,(cL row sd aim l).length<=l.length
 | []=>AU _
 | g::r=>by
   have:=iQ row sd aim r
   unfold cL
   split
   ·split<;>simp<;>lia
   ·split<;>simp
theorem ja (row:Str) (sd:Int):∀l,(jumpL row sd l).length<=1
 | []=>AV _
 | [_]=>AV _
 | g::b::r=>by
   show (if sdV row g=.int (1 - sd)/\sdV row b=.non then [(b,g)] else []).length<=1
   split
   ·exact AU _
   ·exact AV _
def aZ (H H':Hp) (q:Addr) (l:List (Int×Int)):Prop:= ∃ps:List (List Int×Addr),ps.map (·.1)=l.map pk/\H' q=some (.lst (ps.map λ z=>V.ref z.2))/\∀p∈ps,H p.2=none/\H' p.2=some (.tup (p.1.map V.int))
end L2
namespace L2
open PySem PySem.Spec PyProof.Rows
theorem fK {row:Str}{sd:Int}{aim:Str}{g:Int}{r:List Int}:cL row sd aim (g::r)=if sdV row g=.non then (if aim="hit" then cL row sd aim r else (g, -1)::cL row sd aim r) else if¬sdV row g=.int sd/\¬aim="go" then [(g,g)] else []:=rfl
structure RowS (row:Str):Prop where
 len:row.length<=64
 asc:∀c∈row.cps.toList,c<128
def wQ (K:Frag):Sp:=λ vs H Q _=> ∃(row aim:Str) (sd:Int) (p:Addr) (path:List Int),vs=[.str row,.int sd,.str aim,.ref p]/\SqL K H p (path.map V.int)/\RowS row/\(∀g∈path,0<=g/\g<row.length)/\path.length<=8/\
 ∀(q:Addr) (H':Hp),H q=none->aZ H H' q (cL row sd aim path)->ah H H'->Q (.ref q) H'
def wT (K:Frag):Sp:=λ vs H Q _=> ∃(row:Str) (sd:Int) (p:Addr) (path:List Int),vs=[.str row,.int sd,.ref p]/\SqL K H p (path.map V.int)/\RowS row/\(∀g∈path,0<=g/\g<row.length)/\(sd=0\/sd=1)/\
 ∀(q:Addr) (H':Hp),H q=none->aZ H H' q (jumpL row sd path)->ah H H'->Q (.ref q) H'
structure CRs (P:Program) (w:World) (K:Frag) (mg:Str->Option Value) (base:Heap):Prop where
 side_of:Cal P w K mg base "side_of" ["sign"] 1 jU
theorem RowS.at {row:Str}(R:RowS row) {s:Int}(h0:0<=s) (h1:s<row.length):atI row.cps.toList s=some (row.cps.toList.getD s.toNat 0)/\row.cps.toList.getD s.toNat 0<128:=by
 have hl:s.toNat<row.cps.toList.length:=by
  have:row.length=row.cps.toList.length:=rfl
  lia
 have e:row.cps.toList[s.toNat]? =some (row.cps.toList.getD s.toNat 0):=by rw [zb,y7 hl]; rfl
 have z:=bz e
 rw [Bp h0] at z
 exact ⟨z,R.asc _ (zu e)⟩
theorem aZ.nil {H:Hp}{q:Addr}:aZ H (upd H q (.lst [])) q []:=⟨[],rfl,af,λ _ z=>nomatch z⟩
theorem aZ.add {H H1:Hp}{q t:Addr}{l:List (Int×Int)}{x y:Int}{ps:List (List Int×Addr)}(h1:ps.map (·.1)=l.map pk) (h2:H1 q=some (.lst (ps.map λ z=>V.ref z.2))) (h3:∀p∈ps,H p.2=none/\H1 p.2=some (.tup (p.1.map V.int))) (s:ah H H1) (ht:H1 t=none):
  aZ H (upd (upd H1 t (.tup [.int x,.int y])) q (.lst ((ps.map λ z=>V.ref z.2)++[.ref t]))) q (l++[(x,y)]):=by
 have hqt:q≠t:=λ z=>by rw [<-z,h2] at ht; cases ht
 refine ⟨ps++[([x,y],t)],by rw [zn,zn,h1]; rfl,by rw [af,zn]; rfl,λ p hp=>?_⟩
 rcases zj.mp hp with z | z
 ·obtain ⟨a1,a2⟩:=h3 p z
  refine ⟨a1,?_⟩
  rw [aq (λ w=>by rw [w] at a2; rw [h2] at a2; cases a2),aq (λ w=>by rw [w,ht] at a2; cases a2)]
  exact a2
 ·rw [zh.mp z]
  refine ⟨?_,by rw [aq (Ne.symm hqt),af]; rfl⟩
  cases w:H t with
  | none=>rfl
  | some u=>have:=s t u w; rw [ht] at this; cases this
theorem wH {t u:TT}{σ:St}{H:Hp}{R:Bool->Hp->Prop}(h:t σ H λ c H1=>if c=true then R true H1 else u σ H1 R):tOr t u σ H R:=h
section
variable {K:Frag}{c:Nat}{H:Hp}{Q:VK}
theorem side_ne {sd:Int}:aL K .NotEq (bF c) (.int sd) H Q=Q (.bl (!decide (bF c=.int sd))) H:=by
 unfold bF
 by_cases h:c=46\/c=35
 ·rw [if_pos h]
  show Q (.bl true) H=Q (.bl (!decide (V.non=V.int sd))) H
  rw [decide_eq_false (by intro z; cases z)]
  rfl
 ·rw [if_neg h]
  show Q (.bl (!decide (_=sd))) H=Q (.bl (!decide (V.int _=V.int sd))) H
  have:∀i:Int,decide (i=sd)=decide (V.int i=V.int sd):=λ i=>by
   by_cases e:i=sd
   ·rw [decide_eq_true e,decide_eq_true (congrArg V.int e)]
   ·rw [decide_eq_false e,decide_eq_false (λ z=>e (by injection z))]
  rw [this]
theorem qC:aL K .IsNot (bF c) .non H Q=Q (.bl (!decide (bF c=.non))) H:=by
 unfold bF
 by_cases h:c=46\/c=35
 ·rw [if_pos h]
  show Q (.bl false) H=Q (.bl (!decide (V.non=V.non))) H
  rw [decide_eq_true rfl]
  rfl
 ·rw [if_neg h]
  show Q (.bl true) H=Q (.bl (!decide (V.int _=V.non))) H
  rw [decide_eq_false (by intro z; cases z)]
  rfl
end
theorem lB {t:TT}{ta tb:TE}{σ:St}{H:Hp}{Q:VK}{b:Bool}(hc:Tv t σ H b) (h1:b=true->ta σ H Q) (h2:b=false->tb σ H Q):tIf t ta tb σ H Q:=hc _ (by
 cases b with
 | true=>exact gC (h1 rfl)
 | false=>exact fE (h2 rfl))
def byL (row:Str) (sd:Int) (so ai:Str) (path:List Int):List (Int×Int):=if so="jump" then jumpL row sd path else cL row sd ai (if so="leap" then path.take 1 else path)
theorem byL_len (row:Str) (sd:Int) (so ai:Str) {path:List Int}(h:path.length<=8):(byL row sd so ai path).length<=8:=by
 unfold byL
 split
 ·have:=ja row sd path; lia
 ·have:=iQ row sd ai (if so="leap" then path.take 1 else path)
  have:(if so="leap" then path.take 1 else path).length<=8:=by
   split
   ·rw [zx]; lia
   ·exact h
  lia
structure aF where
 kd:Str
 so:Str
 ai:Str
 ax:Int
 up:Int
abbrev aF.vs (r:aF):List V:=[.str r.kd,.str r.so,.str r.ai,.int r.ax,.int r.up]
abbrev aF.dy (r:aF) (sd:Int):Int:=if sd=0 then r.up else -r.up
def oN (K:Frag) (cB:Addr):Sp:=λ vs H Q _=> ∃(b r:Addr) (row:Str) (sq sd wi hi:Int) (hs:List Int) (u:aF),vs=[.ref b,.str row,.int sq,.ref r]/\cj K cB H b wi hi hs/\SqT K H r u.vs/\RowS row/\(row.length:Int)=wi*hi/\0<=sq/\sq<wi*hi/\
 sdV row sq=.int sd/\(sd=0\/sd=1)/\¬(u.ax=0/\u.up=0)/\∀(n:Nat) (q:Addr) (H':Hp),fG wi hi hs sq u.ax (u.dy sd) n->n<=8->H q=none->aZ H H' q (byL row sd u.so u.ai (rayL wi sq u.ax (u.dy sd) n))->ah H H'->Q (.ref q) H'
structure CRb (P:Program) (w:World) (K:Frag) (mg:Str->Option Value) (base:Heap) (cB:Addr):Prop extends CRs P w K mg base where
 ray:Cal P w K mg base "ray" ["board","square","across","up"] 3 (spRay K cB)
 jumped:Cal P w K mg base "jumped" ["row","side","path"] 2 (wT K)
 slid:Cal P w K mg base "slid" ["row","side","aim","path"] 2 (wQ K)
theorem xa {wi hi:Int}{hs:List Int}{s ax up:Int}{n:Nat}(w1:1<=wi) (R:fG wi hi hs s ax up n):∀g∈rayL wi s ax up n,0<=g/\g<wi*hi/\¬g∈hs:=λ g hg=>by
 unfold rayL at hg
 obtain ⟨j,hj,rfl⟩:=y4.mp hg
 obtain ⟨a,b,c,d,e⟩:=R.1 j (zc.mp hj)
 refine ⟨?_,?_,e⟩
 ·unfold sqK
  have:=Bq c (by lia:0<=wi)
  lia
 ·unfold sqK
  have z:(s / wi+((j+1:Nat):Int)*up)*wi<=(hi - 1)*wi:=Br (by lia) (by lia)
  rw [Int.sub_mul,Bn,Bl hi wi] at z
  lia
theorem aZ.from {H H1 H':Hp}{q:Addr}{l:List (Int×Int)}(h:aZ H1 H' q l) (s:ah H H1):aZ H H' q l:=by
 obtain ⟨ps,a,b,c⟩:=h
 refine ⟨ps,a,b,λ p hp=>⟨?_,(c p hp).2⟩⟩
 cases w:H p.2 with
 | none=>rfl
 | some u=>have:=s _ u w; rw [(c p hp).1] at this; cases this
theorem ret_y {sp:Sp}{t:TA}{D:de}{σ:St}{H:Hp}(h:t σ H λ vs H1=>sp vs H1 D.rt E0):cJ (dq sp t) D σ H:=h
theorem cut1R (xs:List Int):cutV (xs.map V.int) none (some 1)=(xs.take 1).map V.int:=by
 unfold cutV
 rw [HT.sIx_none]
 have:HT.sIx (xs.map V.int).length (xs.map V.int).length (some 1)=min 1 (xs.map V.int).length:=HT.sIx_nat _ _ 1
 rw [this,Ag,Bd,Am]
 cases xs with
 | nil=>rfl
 | cons a l=>simp
theorem ah.tupY {K:Frag}{H H':Hp}{a:Addr}{xs:List V}(e:ah H H') (h:SqT K H a xs):SqT K H' a xs:=by
 rcases h with (h | ⟨o,h⟩) | h
 ·exact .inl (.inl (e _ _ h))
 ·exact .inl (.inr ⟨o,e _ _ h⟩)
 ·exact .inr h
end L2
namespace L2
open PySem PySem.Spec PyProof.Rows
def cI (H:Hp) (us:List (aF×Addr)):Prop:= ∀z∈us,H z.2=some (.tup z.1.vs)
theorem cI.same {H H':Hp}{us:List (aF×Addr)}(h:cI H us) (s:ah H H'):cI H' us:=λ z hz=>s _ _ (h z hz)
abbrev rRefs (us:List (aF×Addr)):List V:=us.map λ z=>V.ref z.2
def ofKind (us:List (aF×Addr)) (kd:Str):List (aF×Addr):=us.filter λ z=>decide (z.1.kd=kd)
def kdP (us:List (aF×Addr)) (kd:Str) (v:V):Bool:=us.any λ z=>decide (V.ref z.2=v/\z.1.kd=kd)
theorem xT {H:Hp}{us:List (aF×Addr)}(h:cI H us) {kd:Str}{z:aF×Addr}(hz:z∈us):kdP us kd (.ref z.2)=decide (z.1.kd=kd):=by
 unfold kdP
 by_cases e:z.1.kd=kd
 ·rw [decide_eq_true e,zF]
  exact ⟨z,hz,decide_eq_true ⟨rfl,e⟩⟩
 ·rw [decide_eq_false e,zL]
  intro y hy w
  obtain ⟨e1,e2⟩:=of_decide_eq_true w
  have e1:y.2=z.2:=by injection e1
  have a:=h y hy
  rw [e1,h z hz] at a
  injection a with a
  injection a with a
  injection a with a _
  injection a with a
  exact e (a.trans e2)
theorem rz {H:Hp}{us:List (aF×Addr)}(h:cI H us) {kd:Str}:(rRefs us).filter (kdP us kd)=rRefs (ofKind us kd):=by
 unfold rRefs ofKind
 rw [zV]
 congr 1
 refine AD λ z hz=>?_
 exact xT h hz
def lF (cG:Addr):Sp:=λ vs H Q _=> ∃(g b:Addr) (kd:Str) (ks ts es:List V) (st:Str) (us:List (aF×Addr)),vs=[.ref g,.str kd]/\fV cG H g b ks (rRefs us) ts es st/\cI H us/\us.length<=24/\
 ∀(q:Addr) (H':Hp),H q=none->H' q=some (.lst (rRefs (ofKind us kd)))->ah H H'->Q (.ref q) H'
def dQ (wi hi:Int) (hs:List Int) (row:Str) (sq sd:Int) (u:aF) (l:List (Int×Int)):Prop:= ∃n:Nat,fG wi hi hs sq u.ax (u.dy sd) n/\n<=8/\l=byL row sd u.so u.ai (rayL wi sq u.ax (u.dy sd) n)
theorem dQ.uniq {wi hi:Int}{hs:List Int}{row:Str}{sq sd:Int}{u:aF}{l l':List (Int×Int)}(h:dQ wi hi hs row sq sd u l) (h':dQ wi hi hs row sq sd u l'):l=l':=by
 obtain ⟨n,a,_,rfl⟩:=h
 obtain ⟨m,b,_,rfl⟩:=h'
 rw [a.uniq b λ _=>Iff.rfl]
theorem dQ.len {wi hi:Int}{hs:List Int}{row:Str}{sq sd:Int}{u:aF}{l:List (Int×Int)}(h:dQ wi hi hs row sq sd u l):l.length<=8:=by
 obtain ⟨n,a,b,rfl⟩:=h
 exact byL_len _ _ _ _ (by rw [fA]; exact b)
inductive aI (wi hi:Int) (hs:List Int) (row:Str) (sq sd:Int):List (aF×Addr)->List (Int×Int)->Prop
 | nil:aI wi hi hs row sq sd [] []
 | cons {z us l r}:dQ wi hi hs row sq sd z.1 l->aI wi hi hs row sq sd us r->aI wi hi hs row sq sd (z::us) (l++r)
theorem aI.uniq {wi hi:Int}{hs:List Int}{row:Str}{sq sd:Int}:∀{us:List (aF×Addr)}{l l':List (Int×Int)},aI wi hi hs row sq sd us l->aI wi hi hs row sq sd us l'->l=l'
 | _,_,_,.nil,.nil=>rfl
 | _,_,_,.cons a b,.cons c d=>by rw [a.uniq c,aI.uniq b d]
theorem aI.len {wi hi:Int}{hs:List Int}{row:Str}{sq sd:Int}:∀{us:List (aF×Addr)}{l:List (Int×Int)},aI wi hi hs row sq sd us l->l.length<=8*us.length
 | _,_,.nil=>AV _
 | _,_,.cons a b=>by
   have:=a.len
   have:=aI.len b
   rw [zm,zw]
   lia
theorem aI.add {wi hi:Int}{hs:List Int}{row:Str}{sq sd:Int}{z:aF×Addr}{l:List (Int×Int)}(h:dQ wi hi hs row sq sd z.1 l):∀{us:List (aF×Addr)}{r:List (Int×Int)},aI wi hi hs row sq sd us r->aI wi hi hs row sq sd (us++[z]) (r++l)
 | _,_,.nil=>by
   have:=aI.cons h aI.nil
   rwa [zt] at this
 | _,_,.cons a b=>by
   rw [zW]
   exact .cons a (aI.add h b)
def kP (l l':List (Int×Int)):Prop:=(∀x,x∈l'<->x∈l)/\l'.Pairwise λ x y=>cR (pk x) (pk y)=true
theorem kP.uniq {l:List (Int×Int)}:∀{a b:List (Int×Int)},kP l a->kP l b->a=b:=by
 have key:∀(a b:List (Int×Int)),(∀x,x∈a<->x∈b)->a.Pairwise (λ x y=>cR (pk x) (pk y)=true)->b.Pairwise (λ x y=>cR (pk x) (pk y)=true)->a=b:=by
  intro a
  induction a with
  | nil=>
    intro b h _ _
    cases b with
    | nil=>rfl
    | cons y b=>exact absurd ((h y).mpr zi) (by simp)
  | cons x a ih=>
    intro b h pa pb
    cases b with
    | nil=>exact absurd ((h x).mp zi) (by simp)
    | cons y b=>
      obtain ⟨a1,a2⟩:=Aa.mp pa
      obtain ⟨b1,b2⟩:=Aa.mp pb
      have e:x=y:=by
       rcases y6.mp ((h x).mp zi) with z | z
       ·exact z
       ·rcases y6.mp ((h y).mpr zi) with w | w
        ·exact w.symm
        ·have t1:=b1 x z
         have t2:=a1 y w
         rw [nR _ _ t1] at t2
         cases t2
      subst e
      rw [ih b (λ z=>?_) a2 b2]
      constructor
      ·intro hz
       rcases y6.mp ((h z).mp (zg _ hz)) with w | w
       ·rw [w] at hz
        have:=a1 x hz
        rw [iz] at this
        cases this
       ·exact w
      ·intro hz
       rcases y6.mp ((h z).mpr (zg _ hz)) with w | w
       ·rw [w] at hz
        have:=b1 x hz
        rw [iz] at this
        cases this
       ·exact w
 intro a b ha hb
 exact key a b (λ x=>(ha.1 x).trans (hb.1 x).symm) ha.2 hb.2
def mz (K:Frag) (cB cG:Addr):Sp:=λ vs H Q _=> ∃(g b:Addr) (row kd:Str) (sq sd wi hi:Int) (hs:List Int) (ks ts es:List V) (st:Str) (us:List (aF×Addr)),vs=[.ref g,.str row,.int sq]/\fV cG H g b ks (rRefs us) ts es st/\cj K cB H b wi hi hs/\cI H us/\us.length<=12/\(∀z∈us,¬(z.1.ax=0/\z.1.up=0))/\
 RowS row/\(row.length:Int)=wi*hi/\0<=sq/\sq<wi*hi/\sdV row sq=.int sd/\(sd=0\/sd=1)/\jr (row.cps.toList.getD sq.toNat 0)=.str kd/\(∀l,aI wi hi hs row sq sd (ofKind us kd) l->∀m:List (Int×Int),m.Nodup->(∀x∈m,x∈l)->m.length<64)/\
 ∀(l l':List (Int×Int)) (q:Addr) (H':Hp),aI wi hi hs row sq sd (ofKind us kd) l->kP l l'->H q=none->aZ H H' q l'->ah H H'->Q (.ref q) H'
structure CRg (P:Program) (w:World) (K:Frag) (mg:Str->Option Value) (base:Heap) (cB cG:Addr):Prop where
 kind_of:Cal P w K mg base "kind_of" ["sign"] 1 wS
 by_rule:Cal P w K mg base "by_rule" ["board","row","square","rule"] 4 (oN K cB)
 Game_rules_of:y0 P w K mg base cG "rules_of" ["self","kind"] 1 (lF cG)
theorem unpk {l:List (Int×Int)}:∀{L:List (List Int)},(∀k∈L,k∈l.map pk)->∃m:List (Int×Int),L=m.map pk/\∀x∈m,x∈l
 | [],_=>⟨[],rfl,λ _ z=>nomatch z⟩
 | k::L,h=>by
   obtain ⟨m,rfl,hm⟩:=unpk λ k' hk'=>h k' (zg _ hk')
   obtain ⟨x,hx,rfl⟩:=y4.mp (h k zi)
   exact ⟨x::m,rfl,λ y hy=>(y6.mp hy).elim (λ z=>z▸hx) (hm y)⟩
theorem aZ.cat {H H1 H2:Hp}{q:Addr}{l l2:List (Int×Int)}{ps ps2:List (List Int×Addr)}(h1:ps.map (·.1)=l.map pk) (h2:H2 q=some (.lst (ps.map λ z=>V.ref z.2))) (h3:∀p∈ps,H p.2=none/\H2 p.2=some (.tup (p.1.map V.int))) (s:ah H H1)
  (g1:ps2.map (·.1)=l2.map pk) (g3:∀p∈ps2,H1 p.2=none/\H2 p.2=some (.tup (p.1.map V.int))):aZ H (upd H2 q (.lst ((ps.map λ z=>V.ref z.2)++ps2.map λ z=>V.ref z.2))) q (l++l2):=by
 refine ⟨ps++ps2,by rw [zn,zn,h1,g1],by rw [af,zn],λ p hp=>?_⟩
 have ne:∀{p:Addr} {xs:List V},H2 p=some (.tup xs)->p≠q:=λ a e=>by rw [e,h2] at a; cases a
 rcases zj.mp hp with z | z
 ·obtain ⟨a1,a2⟩:=h3 p z
  exact ⟨a1,by rw [aq (ne a2)]; exact a2⟩
 ·obtain ⟨a1,a2⟩:=g3 p z
  exact ⟨s.free a1,by rw [aq (ne a2)]; exact a2⟩
theorem ext_k {to te:TE}{σ:St}{H:Hp}{D:de}{l:Addr}{xs:List V}(ho:Ev to σ H (.ref l)) (hl:H l=some (.lst xs)) (q:te σ H λ y H2=> ∃b xs zs,y=.ref b/\H2 l=some (.lst xs)/\H2 b=some (.lst zs)/\xs.length+zs.length<=sizeLine/\D.nx σ (upd H2 l (.lst (xs++zs)))):gX (cExt to te) D σ H:=ho _ ⟨⟨xs,hl⟩,q⟩
theorem arg_y {sp:Sp}{t' t:TA}{σ:St}{H:Hp}{R:List V->Hp->Prop}(h:t' σ H λ vs H1=>sp vs H1 (λ x H2=>t σ H2 λ xs H3=>R (x::xs) H3) E0):bh (dq sp t') t σ H R:=h
end L2
namespace L2
open PySem PySem.Spec PyProof.Rows
structure gK (H:Hp) (d:Addr) (ks:List Nat):Prop where
 at_:H d=some (.lst (ks.map strV))
 ltr:∀k∈ks,Ltr k
 l1:1<=ks.length
 l6:ks.length<=6
 nd:ks.Nodup
theorem gK.same {H H':Hp}{d:Addr}{ks:List Nat}(h:gK H d ks) (s:ah H H'):gK H' d ks:=⟨s _ _ h.at_,h.ltr,h.l1,h.l6,h.nd⟩
theorem sK {ss:List Str}{i:Int}(h0:0<=i) (h1:i<ss.length):∃s,atI (ss.map V.str) i=some (.str s)/\s∈ss:=by
 obtain ⟨v,e1,e2⟩:=pickV (xs:=ss.map V.str) h0 (by rw [y3]; exact h1)
 obtain ⟨s,hs,rfl⟩:=y4.mp e2
 exact ⟨s,e1,hs⟩
theorem gK.pick {H:Hp}{d:Addr}{ks:List Nat}(h:gK H d ks) (i:Int):∃k∈ks,atI (ks.map strV) (i % ((ks.map strV).length:Int))=some (strV k):=by
 have hl:(0:Int)<((ks.map strV).length:Int):=by rw [y3]; have:=h.l1; lia
 obtain ⟨v,e1,e2⟩:=pickV (xs:=ks.map strV) (Bg i (by lia)) (Bh i hl)
 obtain ⟨k,hk,rfl⟩:=y4.mp e2
 exact ⟨k,hk,e1⟩
theorem dI {te:TE}{ta:TA}{σ:St}{H:Hp}{v:V}{Q:List V->Hp->Prop}(h:Ev te σ H v) (q:ta σ H (λ xs H2=>Q (v::xs) H2)):bh te ta σ H Q:=h _ q
theorem tupY {t:TA}{σ:St}{H:Hp}{Q:VK}(q:t σ H (λ vs H2=>vs.length<=sizeLine/\∀p,H2 p=none->Q (.ref p) (upd H2 p (.tup vs)))):wI t σ H Q:=q
theorem xE {σ:St}{H:Hp}{Q:List V->Hp->Prop}(q:Q [] H):cO σ H Q:=q
structure eY (ks:List Nat) (u:aF):Prop where
 kd:∃c∈ks,u.kd=one c
 so:u.so∈sortsL
 ai:u.ai∈aimsL
 jh:u.so="jump"->u.ai="hit"
 ax: -(if u.so="leap" then 3 else 1)<=u.ax/\u.ax<=(if u.so="leap" then 3 else 1)
 up: -(if u.so="leap" then 3 else 1)<=u.up/\u.up<=(if u.so="leap" then 3 else 1)
 n0:¬(u.ax=0/\u.up=0)
def mw:Sp:=λ vs H Q _=> ∃(c:Int) (d:Addr) (ks:List Nat),vs=[.int c,.ref d]/\gK H d ks/\∀(t:Addr) (u:aF) (H':Hp),eY ks u->H t=none->H' t=some (.tup u.vs)->ah H H'->Q (.ref t) H'
theorem lZ {ta:TA}{te:TE}{src:List (Option Nat)}{σ rest:St}{H:Hp}{Q:VK}{n:Int}(hl:∀Q':List V->Hp->Prop,(∀H',ah H H'->Q' [.int n] H')->ta σ H Q') (h0:0<=n) (h1:n<=1000) (hs:dG src σ=none::rest) (R:Nat->Hp->V->Prop) (hR:∀i H H' v,R i H v->ah H H'->R i H' v)
  (he:∀(i:Nat) H',i<n.toNat->ah H H'->∀Q:VK,(∀v H2,R i H2 v->ah H' H2->Q v H2)->te (some (.int (0+(i:Int)))::rest) H' Q)
  (q:∀d H' ys,ah H H'->H' d=none->ys.length=n.toNat->(∀i y,ys[i]? =some y->R i H' y)->Q (.ref d) (upd H' d (.lst ys))):tComp (kD ta) (gName 0) jQ te src σ H Q:=by
 refine hl _ λ H0 s0=>⟨n,rfl,by lia,by lia,?_⟩
 refine kI n.toNat (λ i ys σ' H'=>ah H H'/\(∃v,σ'=v::rest)/\ys.length=i/\∀j y,ys[j]? =some y->R j H' y) (by rw [sizeLine_eq]; lia)
  (λ i ys σ H h=>A2 h.2.2.1) (λ i ys σ H _ hi=>hi) (λ ys σ H _=>AU _) ⟨s0,⟨none,hs⟩,rfl,λ j y hy=>by simp at hy⟩ ?_ ?_
 ·rintro i ys _ H1 x H2 hi ⟨s1,⟨v0,rfl⟩,hl,hy⟩ ⟨rfl,rfl⟩ Kt Kf ht hf
  simp only [gName,jQ,An,if_true]
  exact (he i _ hi s1 _ λ v H2 rv s2=>ht _ _ _ ⟨s1.trans s2,⟨_,rfl⟩,by rw [zm,hl]; rfl,λ j y hm=>by
   by_cases hj:j<ys.length
   ·rw [Ac hj] at hm
    exact hR _ _ _ _ (hy j y hm) s2
   ·rw [AG (by lia)] at hm
    have e0:j - ys.length=0:=by
     have:=(zo.mp hm).1
     simp at this
     exact this
    rw [e0] at hm
    have:v=y:=by simpa using hm
    subst this
    have:j=i:=by lia
    subst this
    exact rv⟩)
 ·rintro ys _ H1 dd ⟨s1,_,hl,hy⟩ hd
  exact q dd H1 ys s1 hd hl hy
def ft (H:Hp) (zs:List ((Str×Str)×Addr)):Prop:= ∀z∈zs,H z.2=some (.tup [.str z.1.1,.str z.1.2])
theorem ft.same {H H':Hp}{zs:List ((Str×Str)×Addr)}(h:ft H zs) (s:ah H H'):ft H' zs:=λ z hz=>s _ _ (h z hz)
abbrev bw (zs:List ((Str×Str)×Addr)):List V:=zs.map λ z=>V.ref z.2
structure qq (ks:List Nat) (zs:List ((Str×Str)×Addr)):Prop where
 len:zs.length<=6
 kd:∀z∈zs,(∃a∈ks,z.1.1=one a)/\∃b∈ks,z.1.2=one b
 nd:(zs.map λ z=>z.1.1).Nodup
 ap:∀z∈zs,∀y∈zs,¬z.1.2=y.1.1
def oG:Sp:=λ vs H Q _=> ∃(c:Int) (d:Addr) (ks:List Nat),vs=[.int c,.ref d]/\gK H d ks/\∀(q:Addr) (zs:List ((Str×Str)×Addr)) (H':Hp),qq ks zs->ft H' zs->H q=none->H' q=some (.lst (bw zs))->ah H H'->Q (.ref q) H'
theorem ir {a b:Nat}(h:one a=one b):a=b:=by
 unfold one at h
 simp only [Str.mk.injEq] at h
 have:=congrArg Array.toList h
 simpa using this
theorem sG {H:Hp}(F:Nat->Str×Str):∀(ys:List V) (o:Nat),(∀i y,ys[i]? =some y->∃a,y=.ref a/\H a=some (.tup [.str (F (o+i)).1,.str (F (o+i)).2]))->∃zs:List ((Str×Str)×Addr),ys=bw zs/\ft H zs/\zs.length=ys.length/\∀i z,zs[i]? =some z->z.1=F (o+i)
 | [],o,_=>⟨[],rfl,λ _ z=>(nomatch z),rfl,λ i z h=>by simp at h⟩
 | y::ys,o,h=>by
   obtain ⟨a,rfl,ha⟩:=h 0 y rfl
   obtain ⟨zs,rfl,h1,h2,h3⟩:=sG F ys (o+1) λ i y hy=>by
    obtain ⟨a,e1,e2⟩:=h (i+1) y (by simpa using hy)
    exact ⟨a,e1,by rw [show o+1+i=o+(i+1) by lia]; exact e2⟩
   refine ⟨(F o,a)::zs,rfl,λ z hz=>?_,by simp,λ i z hz=>?_⟩
   ·rcases y6.mp hz with rfl | hz
    ·exact ha
    ·exact h1 z hz
   ·cases i with
    | zero=>
      have:(F o,a)=z:=by simpa using hz
      rw [<-this]
      rfl
    | succ i=>
      rw [h3 i z (by simpa using hz),show o+1+i=o+(i+1) by lia]
end L2
namespace L2
open PySem PySem.Spec PyProof.Rows
theorem iZ {H H1 H':Hp}{x dx:Addr}{o1 o2:HO}(s:ah H H1) (nx:H1 x=none) (nd:H1 dx=none) (sb:SameBut x (upd (upd H1 dx o1) x o2) H'):ah H H':=λ b o e=>by
 have e1:=s b o e
 have nbx:=ar e1 nx
 have nbd:=ar e1 nd
 exact sb b o (by rw [aq nbx,aq nbd]; exact e1) nbx
theorem lS {H:Hp}{q:Addr}{ks:List Nat}(h:H q=some (.lst (ks.map strV))) (hl:∀k∈ks,Ltr k) (nd:ks.Nodup) (k1:1<=ks.length) (k6:ks.length<=6):kz H (.ref q)=true:=by
 have e:lstOf H (.ref q)=some (ks.map strV):=by simp only [lstOf,h]
 unfold kz
 rw [e]
 dsimp only
 rw [y3,decide_eq_true ⟨k1,k6⟩,By,Bu]
 refine ⟨zA.mpr λ x hx=>?_,decide_eq_true ?_⟩
 ·obtain ⟨k,hk,rfl⟩:=y4.mp hx
  exact decide_eq_true (p:=97<=k/\k<=122) (hl k hk)
 ·rw [zk]
  exact zv.mpr (nd.imp λ hab e=>hab (one_eq.mp e))
theorem Cal.imp {P:Program}{w:World}{K:Frag}{mg:Str->Option Value}{base:Heap}{name:Str}{ps:List Str}{k:Nat}{sp sp':Sp}(C:Cal P w K mg base name ps k sp) (h:∀vs H Q E,sp' vs H Q E->sp vs H Q E):Cal P w K mg base name ps k sp':=by
 obtain ⟨f,fd,F,a,b,c⟩:=C.ex
 exact ⟨f,fd,F.imp h,a,b,c⟩
theorem amI_of {P:Program}{w:World}{K:Frag}{mg:Str->Option Value}{base:Heap}(C:Cal P w K mg base "is_among" ["thing","least","most"] 2 jW):Cal P w K mg base "is_among" ["thing","least","most"] 2 spAmI:=Cal.imp C λ vs H Q E h=>by
 obtain ⟨t,a,b,rfl,q⟩:=h
 exact ⟨.int t,a,b,rfl,trivial,q⟩
theorem goodR_X {ks:List Nat}{u:aF}(g:eY ks u):gZ u.vs (ks.map one)=true:=by
 obtain ⟨c,hc,e⟩:=g.kd
 show (wordB (.str u.kd) (ks.map one)&&decide (u.so∈sortsL)&&decide (u.ai∈aimsL)&& !(decide (u.so="jump")&& !decide (u.ai="hit"))&&jm u.so (.int u.ax) (.int u.up))=true
 have h1:wordB (.str u.kd) (ks.map one)=true:=decide_eq_true (y4.mpr ⟨c,hc,e.symm⟩)
 have h2:(!(decide (u.so="jump")&& !decide (u.ai="hit")))=true:=by
  by_cases z:u.so="jump"
  ·rw [g.jh z]; simp
  ·simp [z]
 have h3:jm u.so (.int u.ax) (.int u.up)=true:=by
  have a:=g.ax
  have b:=g.up
  have n:=g.n0
  unfold jm amongB limS
  have e1:decide (-(if u.so="leap" then (3:Int) else 1)<=u.ax/\u.ax<=if u.so="leap" then 3 else 1)=true:=decide_eq_true a
  have e2:decide (-(if u.so="leap" then (3:Int) else 1)<=u.up/\u.up<=if u.so="leap" then 3 else 1)=true:=decide_eq_true b
  dsimp only
  rw [e1,e2]
  by_cases z:u.ax=0
  ·have z2:¬u.up=0:=λ w=>n ⟨z,w⟩
   simp [z,z2]
  ·simp [z]
 rw [h1,decide_eq_true g.so,decide_eq_true g.ai,h2,h3]
 rfl
theorem rh {H:Hp}{a:Addr}{xs:List V}(h:H a=some (.lst xs)):lstOf H (.ref a)=some xs:=by simp only [lstOf,h]
theorem mn {H:Hp}{a:Addr}{xs:List V}(h:H a=some (.tup xs)):tupOf H (.ref a)=some xs:=by simp only [tupOf,h]
theorem lL {H:Hp}{d:Addr}{us:List (aF×Addr)}{ks:List Nat}(h:H d=some (.lst (rRefs us))) (R:cI H us) (g:∀z∈us,eY ks z.1) (h24:us.length<=24):dM H (.ref d) (ks.map one)=true:=by
 unfold dM
 rw [rh h]
 show (decide ((rRefs us).length<=24)&&(rRefs us).all λ x=>dh H x (ks.map one))=true
 rw [y3,decide_eq_true h24,By,zA]
 intro x hx
 obtain ⟨z,hz,rfl⟩:=y4.mp hx
 unfold dh
 rw [mn (R z hz)]
 exact goodR_X (g z hz)
theorem iW {H:Hp}{d:Addr}{zs:List ((Str×Str)×Addr)}{A B:List Str}(h:H d=some (.lst (bw zs))) (R:ft H zs) (g:∀z∈zs,z.1.1∈A/\z.1.2∈B) (h6:zs.length<=6):pairsB H (.ref d) A B=true:=by
 unfold pairsB
 rw [rh h]
 show (decide ((bw zs).length<=6)&&(bw zs).all λ x=>di H x A B)=true
 rw [y3,decide_eq_true h6,By,zA]
 intro x hx
 obtain ⟨z,hz,rfl⟩:=y4.mp hx
 unfold di
 rw [mn (R z hz)]
 show (decide (z.1.1∈A)&&decide (z.1.2∈B))=true
 rw [decide_eq_true (g z hz).1,decide_eq_true (g z hz).2]
 rfl
theorem ly {H:Hp}{d:Addr}{zs:List ((Str×Str)×Addr)}{ks:List Nat}(h:H d=some (.lst (bw zs))) (R:ft H zs) (g:qq ks zs):eE H (.ref d) (ks.map one)=true:=by
 unfold eE
 rw [iW h R (λ z hz=>?_) g.len,rh h,By]
 ·have e1:(bw zs).map (ci H)=zs.map λ z=>z.1.1:=by
   rw [zk]
   refine zH λ z hz=>?_
   show ci H (.ref z.2)=_
   unfold ci
   rw [mn (R z hz)]
  show (!((bw zs).any λ x=>decide (fu H x∈(bw zs).map (ci H)))&&decide (((bw zs).map (ci H)).Nodup))=true
  rw [e1,decide_eq_true g.nd,BD,BF,zL]
  intro x hx w
  obtain ⟨z,hz,rfl⟩:=y4.mp hx
  have w:=of_decide_eq_true w
  have e2:fu H (.ref z.2)=z.1.2:=by
   unfold fu
   rw [mn (R z hz)]
  rw [e2] at w
  obtain ⟨y,hy,e⟩:=y4.mp w
  exact g.ap z hz y hy e.symm
 ·obtain ⟨⟨a,ha,e1⟩,b,hb,e2⟩:=g.kd z hz
  exact ⟨y4.mpr ⟨a,ha,e1.symm⟩,y4.mpr ⟨b,hb,e2.symm⟩⟩
theorem gv (a:Nat):(one a).length<=1000:=by show 1<=1000; decide
theorem so_len {s:Str}(h:s∈sortsL):s.length<=1000:=(by decide:∀s∈sortsL,s.length<=1000) s h
theorem ai_len {s:Str}(h:s∈aimsL):s.length<=1000:=(by decide:∀s∈aimsL,s.length<=1000) s h
theorem en_len {s:Str}(h:s∈gb):s.length<=1000:=(by decide:∀s∈gb,s.length<=1000) s h
theorem w5 {H:Hp}{d:Addr}{us:List (aF×Addr)}{ks:List Nat}(h:H d=some (.lst (rRefs us))) (R:cI H us) (g:∀z∈us,eY ks z.1):dY H 2 (.ref d):=by
 refine ThL.n (ThL.lst h λ x hx=>?_)
 obtain ⟨z,hz,rfl⟩:=y4.mp hx
 refine ThL.tup (R z hz) λ y hy=>?_
 obtain ⟨c,_,e⟩:=(g z hz).kd
 simp only [aF.vs,y6,zq,or_false] at hy
 rcases hy with rfl | rfl | rfl | rfl | rfl
 ·exact ThL.flat (show z.1.kd.length<=1000 by rw [e]; exact gv c) rfl
 ·exact ThL.flat (so_len (g z hz).so) rfl
 ·exact ThL.flat (ai_len (g z hz).ai) rfl
 ·exact ThL.flat trivial rfl
 ·exact ThL.flat trivial rfl
theorem nj {H:Hp}{d:Addr}{zs:List ((Str×Str)×Addr)}(h:H d=some (.lst (bw zs))) (R:ft H zs) (g:∀z∈zs,z.1.1.length<=1000/\z.1.2.length<=1000):dY H 2 (.ref d):=by
 refine ThL.n (ThL.lst h λ x hx=>?_)
 obtain ⟨z,hz,rfl⟩:=y4.mp hx
 refine ThL.tup (R z hz) λ y hy=>?_
 simp only [y6,zq,or_false] at hy
 rcases hy with rfl | rfl
 ·exact ThL.flat (g z hz).1 rfl
 ·exact ThL.flat (g z hz).2 rfl
theorem xS {H:Hp}{d:Addr}{ks:List Nat}(h:gK H d ks):dY H 1 (.ref d):=by
 refine ThL.n (ThL.lst h.at_ λ x hx=>?_)
 obtain ⟨c,_,rfl⟩:=y4.mp hx
 exact ThL.flat (gv c) rfl
structure GameS (K:Frag) (cB cG:Addr) (H:Hp) (g b kq:Addr) (wi hi:Int) (hs:List Int) (ks:List Nat) (us:List (aF×Addr)) (ts es:List ((Str×Str)×Addr)) (st:Str):Prop where
 gm:fV cG H g b (ks.map strV) (rRefs us) (bw ts) (bw es) st
 bd:cj K cB H b wi hi hs
 ltr:∀k∈ks,Ltr k
 k1:1<=ks.length
 k6:ks.length<=6
 knd:ks.Nodup
 rl:cI H us
 r12:us.length<=12
 rg:∀z∈us,eY ks z.1
 tt:ft H ts
 tg:qq ks ts
 et:ft H es
 e6:es.length<=6
 eg:∀z∈es,z.1.1∈gb/\∃b∈ks,z.1.2=one b
 sg:st∈gf
theorem GameS.same {K:Frag}{cB cG:Addr}{H H':Hp}{g b kq:Addr}{wi hi:Int}{hs:List Int}{ks:List Nat}{us:List (aF×Addr)}{ts es:List ((Str×Str)×Addr)}{st:Str}(x:GameS K cB cG H g b kq wi hi hs ks us ts es st) (s:ah H H'):GameS K cB cG H' g b kq wi hi hs ks us ts es st:=
 ⟨x.gm.same s,x.bd.same s,x.ltr,x.k1,x.k6,x.knd,x.rl.same s,x.r12,x.rg,x.tt.same s,x.tg,x.et.same s,x.e6,x.eg,x.sg⟩
theorem xM {C:Addr}{sp:Sp}{t:TA}{σ:St}{H:Hp}{Q:VK}(h:t σ H λ vs H1=> ∀x dx,H1 x=none->H1 dx=none->dx≠x->sp (.ref x::vs) (upd (upd H1 dx (.own x)) x (.ins C dx [])) (λ v H2=>v=.non/\Q (.ref x) H2) E0):tO C sp t σ H Q:=h
def sy (K:Frag) (cB cG:Addr):Sp:=λ vs H Q _=> ∃(a:Addr) (ns:List Int),vs=[.ref a]/\SqL K H a (ns.map V.int)/\∀(g b kq:Addr) (wi hi:Int) (hs:List Int) (ks:List Nat) (us:List (aF×Addr)) (ts es:List ((Str×Str)×Addr)) (st:Str) (H':Hp),
 GameS K cB cG H' g b kq wi hi hs ks us ts es st->hs.length<=2->(hs.length:Int)<wi*hi->ah H H'->Q (.ref g) H'
structure LGg (P:Program) (w:World) (K:Frag) (mg:Str->Option Value) (base:Heap) (cB cG:Addr):Prop extends LG1 P w K mg base where
 _law_board:Cal P w K mg base "_law_board" ["_law_script"] 2 (oJ K)
 _law_kinds:Cal P w K mg base "_law_kinds" ["_law_cell"] 1 oH
 _law_rule:Cal P w K mg base "_law_rule" ["_law_cell","_law_kinds_here"] 1 mw
 _law_turns:Cal P w K mg base "_law_turns" ["_law_cell","_law_kinds_here"] 1 oG
 Board:kR P w K mg base "Board" cB ["self","wide","high","holes"] 4 (mC K cB)
 Game:kR P w K mg base "Game" cG ["self","board","kinds","rules","turns","ends","stuck"] 6 (mB K cG)
theorem cI.add {H H':Hp}{us:List (aF×Addr)}{u:aF}{t:Addr}(h:cI H us) (s:ah H H') (ht:H' t=some (.tup u.vs)):cI H' (us++[(u,t)]):=λ z hz=>by
 rcases zj.mp hz with w | w
 ·exact s _ _ (h z w)
 ·rw [zh.mp w]; exact ht
theorem ft.add {H H':Hp}{zs:List ((Str×Str)×Addr)}{x y:Str}{t:Addr}(h:ft H zs) (s:ah H H') (ht:H' t=some (.tup [.str x,.str y])):ft H' (zs++[((x,y),t)]):=λ z hz=>by
 rcases zj.mp hz with w | w
 ·exact s _ _ (h z w)
 ·rw [zh.mp w]; exact ht
theorem cI.put {H:Hp}{us:List (aF×Addr)}{q:Addr}{xs ys:List V}(h:cI H us) (hq:H q=some (.lst xs)):cI (upd H q (.lst ys)) us:=λ z hz=>by
 rw [aq (λ w=>by have:=h z hz; rw [w,hq] at this; cases this)]
 exact h z hz
theorem ft.put {H:Hp}{zs:List ((Str×Str)×Addr)}{q:Addr}{xs ys:List V}(h:ft H zs) (hq:H q=some (.lst xs)):ft (upd H q (.lst ys)) zs:=λ z hz=>by
 rw [aq (λ w=>by have:=h z hz; rw [w,hq] at this; cases this)]
 exact h z hz
theorem retMk {C:Addr}{sp:Sp}{t:TA}{σ:St}{H:Hp}{D:de}(h:tO C sp t σ H D.rt):cJ (tO C sp t) D σ H:=h
end L2
namespace L2
open PySem PySem.Spec PyProof.Rows
def ig:Sp:=λ vs H Q _=> ∃c:Nat,vs=[.str (one c)]/\Sg c/\Q (bF c) H
def jH (K:Frag) (cB cG:Addr):Sp:=λ vs H Q _=> ∃(g b:Addr) (wi hi s ax up:Int) (hs:List Int) (ks rs ts es:List V) (st:Str),vs=[.ref g,.int s,.int ax,.int up]/\fV cG H g b ks rs ts es st/\cj K cB H b wi hi hs/\Q (oI (mvd wi hi hs s ax up)) H
theorem tQ {c:Nat}:c∈("abcdefghijklmnopqrstuvwxyz":Str).cps.toList<->Ltr c:=by
 have e:("abcdefghijklmnopqrstuvwxyz":Str).cps.toList=(List.range 26).map (97+ ·):=by decide+kernel
 rw [e,y4]
 unfold Ltr
 constructor
 ·rintro ⟨i,hi,rfl⟩
  have:=zc.mp hi
  lia
 ·intro h
  exact ⟨c - 97,zc.mpr (by lia),by lia⟩
end L2
namespace L2
open PySem PySem.Spec PyProof.Rows
structure qm (row:Str) (hs:List Int):Prop extends RowS row where
 sg:∀c∈row.cps.toList,Sg c
 nh:∀s:Int,0<=s->s<row.length->¬s∈hs->¬row.cps.toList.getD s.toNat 0=35
theorem ray_ex {wi hi:Int}{hs:List Int}{s ax up:Int}(w8:wi<=8) (h8:hi<=8) (w1:1<=wi) (s0:0<=s) (s1:s<wi*hi) (n0:¬(ax=0/\up=0)):∃n,fG wi hi hs s ax up n/\n<=8:=by
 have key:∀m:Nat,(∀j<m,okK wi hi hs s ax up (j+1))\/∃n,n<m/\fG wi hi hs s ax up n:=by
  intro m
  induction m with
  | zero=>exact .inl λ j hj=>absurd hj (Nat.not_lt_zero _)
  | succ m ih=>
    rcases ih with ih | ⟨n,h1,h2⟩
    ·by_cases h:okK wi hi hs s ax up (m+1)
     ·refine .inl λ j hj=>?_
      by_cases e:j=m
      ·rw [e]; exact h
      ·exact ih j (by lia)
     ·exact .inr ⟨m,by lia,ih,h⟩
    ·exact .inr ⟨n,by lia,h2⟩
 rcases key 9 with h | ⟨n,h1,h2⟩
 ·have:=q9 w8 h8 w1 s0 s1 n0 (h 8 (by lia))
  lia
 ·exact ⟨n,h2,by lia⟩
theorem j5 {wi hi:Int}{hs:List Int}{s ax up:Int}{n j:Nat}(R:fG wi hi hs s ax up n) (hj:j<=n):(if okK wi hi hs s ax up (j+1) then some (sqK wi s ax up (j+1)) else none)=(rayL wi s ax up n)[j]? :=by
 unfold rayL
 rw [y8]
 by_cases e:j<n
 ·rw [if_pos (R.1 j e),zJ e]
  rfl
 ·have:j=n:=by lia
  subst this
  rw [if_neg R.2,zE (by simp)]
  rfl
def lI (K:Frag) (cB cG:Addr):Sp:=λ vs H Q _=> ∃(g b r:Addr) (row:Str) (sq sd wi hi:Int) (hs:List Int) (u:aF) (ks rs ts es:List V) (st:Str),vs=[.ref g,.str row,.int sq,.ref r]/\fV cG H g b ks rs ts es st/\cj K cB H b wi hi hs/\SqT K H r u.vs/\qm row hs/\(row.length:Int)=wi*hi/\0<=sq/\sq<wi*hi/\
 sdV row sq=.int sd/\(sd=0\/sd=1)/\¬(u.ax=0/\u.up=0)/\∀(l:List (Int×Int)) (q:Addr) (H':Hp),dQ wi hi hs row sq sd u l->H q=none->aZ H H' q l->ah H H'->Q (.ref q) H'
structure CLb (P:Program) (w:World) (K:Frag) (mg:Str->Option Value) (base:Heap) (cB cG:Addr):Prop where
 _law_side:Cal P w K mg base "_law_side" ["_law_sign"] 1 ig
 _law_step:Cal P w K mg base "_law_step" ["_law_game_here","_law_square","_law_across","_law_up"] 1 (jH K cB cG)
theorem qm.look {row:Str}{hs:List Int}(R:qm row hs) {s:Int}(h0:0<=s) (h1:s<row.length) (hn:¬s∈hs):∃c,atI row.cps.toList s=some c/\Sg c/\sdV row s=bF c/\(one c="."<->sdV row s=.non):=by
 obtain ⟨a,b⟩:=R.toRowS.at h0 h1
 refine ⟨_,a,?_,rfl,?_⟩
 ·obtain ⟨j,_,e,_⟩:=gT a
  exact R.sg _ (zu (by assumption))
 ·have nh:=R.nh s h0 h1 hn
  unfold sdV
  generalize row.cps.toList.getD s.toNat 0=c at nh
  unfold bF
  constructor
  ·intro z
   rw [if_pos (.inl (ir (b:=46) (z.trans (by decide+kernel))))]
  ·intro z
   by_cases w:c=46\/c=35
   ·rcases w with w | w
    ·rw [w]; decide+kernel
    ·exact absurd w nh
   ·rw [if_neg w] at z
    cases z
theorem pW {K:Frag}{σ:St}{H:Hp}{t:TA}{tb:TE}{c:Nat}{v:Int}(h:Av t σ H [.str (one c)]) (hc:Sg c) (hb:Ev tb σ H (.int v)):Ev (dn K .Eq (dq ig t) tb) σ H (.bl (decide (bF c=.int v))):=λ Q q=>h _ ⟨c,rfl,hc,hb _ (by rw [mG]; exact q)⟩
def lv (row:Str) (ai:Str) (x:Int):List (Int×Int):=if sdV row x=.non/\¬ai="hit" then [(x, -1)] else []
def on (row:Str) (sd:Int) (ai:Str) (x:Int):List (Int×Int):=if sdV row x=.int (1 - sd)/\¬ai="go" then [(x,x)] else []
theorem wV {row:Str}{sd:Int}{ai:Str}{x:Int}{r:List Int}(hsd:sd=0\/sd=1):cL row sd ai (x::r)=(lv row ai x++on row sd ai x)++(if sdV row x=.non then cL row sd ai r else []):=by
 by_cases h:sdV row x=.non
 ·have a2:on row sd ai x=[]:=by
   unfold on
   rw [if_neg (λ z=>by have:=z.1; rw [h] at this; cases this)]
  rw [fK,if_pos h,if_pos h,a2,zt]
  unfold lv
  by_cases a:ai="hit"
  ·rw [if_pos a,if_neg (λ z=>z.2 a)]; rfl
  ·rw [if_neg a,if_pos ⟨h,a⟩]; rfl
 ·have a1:lv row ai x=[]:=by
   unfold lv
   rw [if_neg (λ z=>h z.1)]
  rw [fK,if_neg h,if_neg h,a1,List.nil_append,zt]
  unfold on
  have e:(¬sdV row x=.int sd/\¬ai="go")<->(sdV row x=.int (1 - sd)/\¬ai="go"):=by
   refine and_congr_left' ?_
   have:∃v:Int,sdV row x=.int v/\(v=0\/v=1):=by
    unfold sdV bF at h ⊢
    split
    ·rename_i z; rw [if_pos z] at h; exact absurd rfl h
    ·refine ⟨_,rfl,?_⟩
     split
     ·exact .inl rfl
     ·exact .inr rfl
   obtain ⟨v,e,hv⟩:=this
   rw [e]
   constructor
   ·intro z
    have:¬v=sd:=λ w=>z (by rw [w])
    have:v=1 - sd:=by lia
    rw [this]
   ·intro z w
    have z:v=1 - sd:=by injection z
    have w:v=sd:=by injection w
    lia
  by_cases z:¬sdV row x=.int sd/\¬ai="go"
  ·rw [if_pos z,if_pos (e.mp z)]
  ·rw [if_neg z,if_neg (λ w=>z (e.mpr w))]
theorem add_len (row:Str) (sd:Int) (ai:Str) (x:Int):(lv row ai x).length<=1/\(on row sd ai x).length<=1:=by
 unfold lv on
 constructor<;>(split<;>simp)
end L2
namespace L2
open PySem PySem.W PySem.Calls PySem.Spec PyProof.Rows
section
variable {prog:Program}{w:World}{A:Around}{E:Value->Shared->Prop}{s:Shared}
theorem mD {B:Heap}{L:Addr}{m:Str->Option Value}{D:Addr}{ps:List (List Int×Addr)}{Q:Value->Shared->Prop}(F:Fr B L s.heap m) (hl:s.heap.IsList D (ps.map λ z=>Value.ref z.2).toArray) (T:TPs prog w s.heap L ps) (h64:ps.length<64)
  (q:∀(ps':List (List Int×Addr)) (h':Heap) (p:Addr) (e:Nat),ps'.Perm ps->ps'.Pairwise (λ x y=>cR x.1 y.1=true)->Fr B L h' m->(∀b o,b≠L->s.heap.get? b=some o->h'.get? b=some o)->s.heap.objs.size<=p->h'.get? p=some (seqObj "list" (ps'.map λ z=>Value.ref z.2).toArray e)->Q (.ref p) {s with heap:=h'}):
  wpAny (model prog w) A (call (.builtin "sorted") [.ref D]) Q E s:=by
 refine Calls.call_function_entry kind_sorted plain_sorted entry_sorted (args_sorted1 _) ?_
 unfold Builtin.«sorted»
 refine wpAny_bind (m:=checkCount "sorted" 1 1 _) (wpAny_pure ?_)
 refine wpAny_bind (collect_list hl ?_ (by rw [y3,sizeLine_eq]; lia))
 have k1:∀b o,s.heap.get? b=some o->((s.heap.push (seqObj "list" #[] 0)).update s.heap.objs.size (Obj.mapSeq (· ++(ps.map λ z=>Value.ref z.2).toArray))).get? b=some o:=λ b o e=>by
  rw [Heap.get?_update_ne _ _ _ _ (AW (Heap.lt_size e))]
  exact Heap.get?_push_of_some _ e
 have hsz:s.heap.objs.size<=((s.heap.push (seqObj "list" #[] 0)).update s.heap.objs.size (Obj.mapSeq (· ++(ps.map λ z=>Value.ref z.2).toArray))).objs.size:=by
  rw [Heap.size_update,size_push']
  exact AZ _
 generalize (s.heap.push (seqObj "list" #[] 0)).update s.heap.objs.size (Obj.mapSeq (· ++(ps.map λ z=>Value.ref z.2).toArray))=h1 at k1 hsz
 refine wpAny_bind (wpAny_newList ?_ (by rw [y3,sizeLine_eq]; lia))
 have gL:(h1.push (seqObj "list" (ps.map λ z=>Value.ref z.2).toArray 0)).get? h1.objs.size=some (seqObj "list" (ps.map λ z=>Value.ref z.2).toArray 0):=Heap.get?_push_size _ rfl
 refine wpAny_bind (wpAny_holding (wpAny_call_entry slot_list_sort ⟨_,gL,rfl⟩ entry_list_sort (wpAny_mono (lR (s:={s with heap:=h1}) (Q:=λ _ s'=>wpAny (model prog w) A.in1 (ret (.ref h1.objs.size)) (λ r s''=> ∃v,r=.done (.ret v)/\Q v s'') E s') (F.kept k1) (T.keep λ b o _ e=>k1 b o e) h64 λ ps' h' c hp' pw F' k' ga=>?_) (λ r s' z=>⟨_,z.1,z.2⟩) λ _ _ z=>z) (args_list_sort _)))
 exact wpAny_pure ⟨_,rfl,q ps' h' _ c hp' pw F' (λ b o n e=>k' b o n (k1 b o e)) hsz ga⟩
end
section
variable {X:Cx}
theorem iU:∀{ps:List (List Int×Addr)}{us:List Value},aP (ps.map λ z=>V.ref z.2) us->us=ps.map λ z=>Value.ref z.2
 | [],_,.nil=>rfl
 | p::ps,_,.cons r t=>by
   cases r
   rw [iU t]
   rfl
def qB (K:Frag) (xs:List V) (H:Hp) (Q:VK):Prop:= ∃(d:Addr) (ps:List (List Int×Addr)),xs=[.ref d]/\SqL K H d (ps.map λ z=>V.ref z.2)/\(∀p∈ps,p.1≠[]/\H p.2=some (.tup (p.1.map V.int)))/\(ps.map (·.1)).Nodup/\ps.length<64/\
 ∀(ps':List (List Int×Addr)) (q:Addr),ps'.Perm ps->ps'.Pairwise (λ x y=>cR x.1 y.1=true)->H q=none->Q (.ref q) (upd H q (.lst (ps'.map λ z=>V.ref z.2)))
theorem qg:bb X (.builtin "sorted") (qB X.K):=by
 intro pins s σ H xs us Q I r h
 obtain ⟨d,ps,rfl,hd,hp,nd,h64,q⟩:=h
 obtain ⟨u,rfl,rx⟩:=dv r
 cases rx
 obtain ⟨its,r',pl,hz⟩:=I.list hd
 have e:=iU r'
 subst e
 obtain ⟨m,F⟩:=I.fr
 refine mD F pl.isList (wG I hp nd) h64 λ ps' h' p e a1 a2 F' kp hle ga=>?_
 exact mi I F F' kp hle ga (by rw [a1.length_eq]; exact h64) (q ps' p a1 a2)
theorem ksortL (K:Frag) (hK:X.K=K:=by rfl):bb X (.builtin "sorted") (qB K):=by
 subst hK; exact qg
end
theorem iD:∀{k k':List Int},k.map V.int=k'.map V.int->k=k'
 | [],[],_=>rfl
 | [],_::_,h=>by cases h
 | _::_,[],h=>by cases h
 | x::k,y::k',h=>by
   injection h with h1 h2
   injection h1 with h1
   rw [h1,iD h2]
theorem all_eq {k k':List Int}:((List.range (min (k.map V.int).length (k'.map V.int).length)).all (λ i=>eqV (.int (k.getD i 0)) (.int (k'.getD i 0)))&&(k.map V.int).length == (k'.map V.int).length)=decide (k=k'):=by
 rw [y3,y3]
 by_cases e:k=k'
 ·subst e
  rw [decide_eq_true rfl,beq_self_eq_true,BD,zA]
  intro i _
  exact yu rfl
 ·rw [decide_eq_false e]
  by_cases hl:k.length=k'.length
  ·rw [hl,beq_self_eq_true,BD]
   cases hh:(List.range (min k'.length k'.length)).all λ i=>eqV (.int (k.getD i 0)) (.int (k'.getD i 0)) with
   | false=>rfl
   | true=>
     refine absurd (List.ext_getElem hl λ i h1 h2=>?_) e
     have:=zA.mp hh i (zc.mpr (by lia))
     have:=of_decide_eq_true (show decide (k.getD i 0=k'.getD i 0)=true from this)
     simpa [zb,h1,h2] using this
  ·rw [show (k.length == k'.length)=false by simpa using hl,BB]
theorem nY {K:Frag}{H:Hp}{n:Nat}{a b:Addr}{k k':List Int}(ha:H a=some (.tup (k.map V.int))) (hb:H b=some (.tup (k'.map V.int))):EqD K H (n+1) (.ref a) (.ref b) (decide (k=k')):=by
 by_cases e:a=b
 ·subst e
  rw [ha] at hb
  have hb:k.map V.int=k'.map V.int:=by injection hb with z; injection z
  have:k=k':=iD hb
  rw [decide_eq_true this]
  exact .same
 ·rw [<-all_eq]
  refine .tup (SqT.of ha) (SqT.of hb) e λ i x y hx hy=>?_
  have h1:i<k.length:=by have:=(zo.mp hx).1; rwa [y3] at this
  have h2:i<k'.length:=by have:=(zo.mp hy).1; rwa [y3] at this
  rw [y8,y7 h1] at hx
  rw [y8,y7 h2] at hy
  cases hx
  cases hy
  have z:=EqD.flat (K:=K) (H:=H) (n:=n) (x:=.int k[i]) (y:=.int k'[i]) rfl rfl
  rw [zb,zb,y7 h1,y7 h2]
  exact z
section
variable {X:Cx}{a b:Expr}{ta tb:TE}{pos:Pos}
def inP (K:Frag) (op:CmpOp) (x y:V) (H:Hp) (Q:VK):Prop:=match op,x,y with
 | .NotIn,.ref c,.ref d=> ∃(k:List Int) (ps:List (List Int×Addr)),H c=some (.tup (k.map V.int))/\SqL K H d (ps.map λ z=>V.ref z.2)/\(∀p∈ps,H p.2=some (.tup (p.1.map V.int)))/\Q (.bl (!decide (k∈ps.map (·.1)))) H
 | _,_,_=>False
theorem op_inP (op:CmpOp) (hu:X.A.units+20<cLine):OpR X (compareOp op) (inP X.K op):=by
 intro pins s σ H x y v u Q I rx ry h
 unfold inP at h
 split at h
 ·rename_i c d
  obtain ⟨k,ps,hc,hd,hp,q⟩:=h
  cases rx; cases ry
  obtain ⟨its,r',pl,hz⟩:=I.list hd
  have e:=iU r'
  subst e
  refine SeqAt.notIn_listAt (λ v=>ps.any λ p=>(match v with | .ref a=>a == p.2 | _=>false)&&decide (p.1=k)) pl.isList (λ y hy=>?_) (fin_bl I q ?_)
  ·have hy:y∈ps.map λ z=>Value.ref z.2:=by simpa using hy
   obtain ⟨p,hpp,rfl⟩:=y4.mp hy
   have z:=kH I (nY (K:=X.K) (n:=0) (hp p hpp) hc) X.A.in1 (by show X.A.units+1+(0+1)<cLine; lia) (u:=.ref p.2) (v:=.ref c) rfl rfl
   have e:(ps.any λ p'=>(p.2 == p'.2)&&decide (p'.1=k))=decide (p.1=k):=by
    by_cases h:p.1=k
    ·rw [decide_eq_true h,zF]
     exact ⟨p,hpp,by rw [beq_self_eq_true,decide_eq_true h]; rfl⟩
    ·rw [decide_eq_false h,zL]
     intro p' hp' w
     rw [Bu] at w
     have e1:p.2=p'.2:=by simpa using w.1
     have e2:=of_decide_eq_true w.2
     have a1:=hp p hpp
     rw [e1] at a1
     have z1:=nY (K:=X.K) (n:=0) a1 (hp p' hp')
     have:p.1.map V.int=p'.1.map V.int:=by
      have a2:=hp p' hp'
      rw [a1] at a2
      injection a2 with a2
      injection a2
     exact h ((iD this).trans e2)
   show SeqAt.EqAt X.A.in1 s (.ref p.2) (.ref c) (ps.any λ p'=>(p.2 == p'.2)&&decide (p'.1=k))
   rw [e]
   exact z
  ·congr 1
   have:((ps.map λ z=>Value.ref z.2).toArray.any λ v=>ps.any λ p=>(match v with | .ref a=>a == p.2 | _=>false)&&decide (p.1=k))=decide (k∈ps.map (·.1)):=by
    rw [List.any_toArray,Ah]
    by_cases h:k∈ps.map (·.1)
    ·rw [decide_eq_true h,zF]
     obtain ⟨p,hpp,e⟩:=y4.mp h
     refine ⟨p,hpp,?_⟩
     show (ps.any λ p'=>(p.2 == p'.2)&&decide (p'.1=k))=true
     rw [zF]
     exact ⟨p,hpp,by rw [beq_self_eq_true,decide_eq_true e]; rfl⟩
    ·rw [decide_eq_false h,zL]
     intro p hpp w
     have w:(ps.any λ p'=>(p.2 == p'.2)&&decide (p'.1=k))=true:=w
     obtain ⟨p',hp',w⟩:=zF.mp w
     rw [Bu] at w
     exact h (y4.mpr ⟨p',hp',of_decide_eq_true w.2⟩)
   rw [this]
 ·exact h.elim
def cInP (K:Frag) (op:CmpOp) (ta tb:TE):TE:=λ σ H Q=>ta σ H λ x H1=>tb σ H1 λ y H2=>inP K op x y H2 Q
theorem ktinP (K:Frag) {op:CmpOp}(hu:X.A.units+20<cLine) (ha:PE X a ta) (hb:PE X b tb) (hm:behindInMarks op b=false:=by first | exact km _ | with_unfolding_all rfl) (hK:X.K=K:=by rfl):PT X (.Compare a [op] [b] pos) (eQ (cInP K op ta tb)):=by
 subst hK; exact test_of (op_inP op hu) ha hb hm
end
end L2
namespace L2
open PySem PySem.Spec PyProof.Rows
theorem iu {α:Type} [DecidableEq α]:∀{m C:List α},m.Nodup->(∀x∈m,x∈C)->m.length<=C.length
 | [],_,_,_=>AV _
 | x::m,C,nd,h=>by
   obtain ⟨n1,n2⟩:=zO.mp nd
   have hx:=h x zi
   have z:=iu (C:=C.erase x) n2 (λ y hy=>(AA (a:=y) (b:=x) (λ e=>n1 (by rw [<-e]; exact hy))).mpr (h y (zg _ hy)))
   rw [Az hx] at z
   have:0<C.length:=Aj hx
   rw [zw]
   lia
def prG (row:Str) (g:Int):Int×Int:=(g,if sdV row g=.non then -1 else g)
theorem mE (row:Str) (sd:Int) (ai:Str):∀path:List Int,(cL row sd ai path).Sublist (path.map (prG row))
 | []=>List.Sublist.refl _
 | g::r=>by
   rw [fK,zB]
   have ih:=mE row sd ai r
   by_cases h:sdV row g=.non
   ·rw [if_pos h]
    by_cases a:ai="hit"
    ·rw [if_pos a]
     exact ih.cons _
    ·rw [if_neg a]
     have:prG row g=(g, -1):=by unfold prG; rw [if_pos h]
     rw [this]
     exact ih.cons₂ _
   ·rw [if_neg h]
    have:prG row g=(g,g):=by unfold prG; rw [if_neg h]
    rw [this]
    split
    ·exact (List.nil_sublist _).cons₂ _
    ·exact List.nil_sublist _
theorem ray_nd {wi hi:Int}{hs:List Int}{s ax up:Int}{n:Nat}(w1:1<=wi) (n0:¬(ax=0/\up=0)) (R:fG wi hi hs s ax up n):(rayL wi s ax up n).Nodup:=by
 unfold rayL
 rw [zC,zv]
 refine (zC.mp Ak).imp_of_mem ?_
 intro i j hi hj hij e
 obtain ⟨a1,a2,_⟩:=R.1 i (zc.mp hi)
 obtain ⟨b1,b2,_⟩:=R.1 j (zc.mp hj)
 obtain ⟨x1,x2⟩:=mr (up:=up) w1 a1 a2
 obtain ⟨y1,y2⟩:=mr (up:=up) w1 b1 b2
 rw [e] at x1 x2
 have e1:((i+1:Nat):Int)*ax=((j+1:Nat):Int)*ax:=by omega
 have e2:((i+1:Nat):Int)*up=((j+1:Nat):Int)*up:=by omega
 have key:∀d:Int,d≠0->((i+1:Nat):Int)*d=((j+1:Nat):Int)*d->False:=λ d hd z=>by
  have:=Int.eq_of_mul_eq_mul_right hd z
  lia
 by_cases z:ax=0
 ·exact key up (λ w=>n0 ⟨z,w⟩) e2
 ·exact key ax z e1
theorem rH {u:aF}{sd:Int}(n0:¬(u.ax=0/\u.up=0)):¬(u.ax=0/\u.dy sd=0):=λ z=>n0 ⟨z.1,by have:=z.2; unfold aF.dy at this; split at this<;>lia⟩
theorem map_nd (row:Str) {path:List Int}(h:path.Nodup):(path.map (prG row)).Nodup:=by
 rw [zC,zv]
 refine (zC.mp h).imp λ z e=>z ?_
 exact congrArg Prod.fst e
theorem dQ.nd {wi hi:Int}{hs:List Int}{row:Str}{sq sd:Int}{u:aF}{l:List (Int×Int)}(w1:1<=wi) (n0:¬(u.ax=0/\u.up=0)) (h:dQ wi hi hs row sq sd u l):l.Nodup:=by
 obtain ⟨n,ry,_,rfl⟩:=h
 have rn:=ray_nd w1 (rH n0) ry
 unfold byL
 split
 ·have:=ja row sd (rayL wi sq u.ax (u.dy sd) n)
  generalize jumpL row sd (rayL wi sq u.ax (u.dy sd) n)=l at this
  match l,this with
  | [],_=>exact zX
  | [_],_=>simp
  | _::_::_,h=>simp at h
 ·refine (mE row sd u.ai _).nodup (map_nd row ?_)
  split
  ·exact (As _ _).nodup rn
  ·exact rn
def dirs8:List (Int×Int):=[(-1, -1),(-1,0),(-1,1),(0, -1),(0,1),(1, -1),(1,0),(1,1)]
theorem dirs_in {x y:Int}(x1: -1<=x) (x2:x<=1) (y1: -1<=y) (y2:y<=1) (n0:¬(x=0/\y=0)):(x,y)∈dirs8:=by
 have hx:x= -1\/x=0\/x=1:=by lia
 have hy:y= -1\/y=0\/y=1:=by lia
 rcases hx with rfl | rfl | rfl<;>rcases hy with rfl | rfl | rfl<;>first | decide | exact absurd ⟨rfl,rfl⟩ n0
theorem cover {wi hi:Int}{hs:List Int}{row:Str}{sq sd:Int}{ks:List Nat}(w8:wi<=8) (h8:hi<=8) (w1:1<=wi) (s0:0<=sq) (s1:sq<wi*hi):
  ∀{us:List (aF×Addr)} {l:List (Int×Int)},aI wi hi hs row sq sd us l->(∀z∈us,eY ks z.1)->∃(D C:List (Int×Int)) (a:Nat),D.Nodup/\(∀e∈D,e∈dirs8)/\D.length+a<=us.length/\C.length<=7*D.length+a/\(∀e∈D,∃n,fG wi hi hs sq e.1 e.2 n/\∀g∈rayL wi sq e.1 e.2 n,prG row g∈C)/\∀x∈l,x∈C
 | _,_,.nil,_=>⟨[],[],0,zX,λ _ z=>(nomatch z),AU _,AU _,λ _ z=>(nomatch z),λ _ z=>(nomatch z)⟩
 | _,_,@aI.cons _ _ _ _ _ _ z us l r hl hr,hg=>by
   obtain ⟨D,C,a,c1,c2,c3,c4,c5,c6⟩:=cover w8 h8 w1 s0 s1 hr λ y hy=>hg y (zg _ hy)
   have g:=hg z zi
   obtain ⟨n,ry,n8,rfl⟩:=hl
   by_cases hs':z.1.so="slide"
   ·have e:byL row sd z.1.so z.1.ai (rayL wi sq z.1.ax (z.1.dy sd) n)=cL row sd z.1.ai (rayL wi sq z.1.ax (z.1.dy sd) n):=by
     unfold byL
     rw [hs',if_neg (by decide),if_neg (by decide)]
    rw [e]
    have sub:=λ x hx=>(mE row sd z.1.ai (rayL wi sq z.1.ax (z.1.dy sd) n)).subset (a:=x) hx
    by_cases hD:(z.1.ax,z.1.dy sd)∈D
    ·refine ⟨D,C,a,c1,c2,by rw [zw]; lia,c4,c5,λ x hx=>?_⟩
     rcases zj.mp hx with hx | hx
     ·obtain ⟨m,rm,hm⟩:=c5 _ hD
      have:=rm.uniq ry λ _=>Iff.rfl
      subst this
      obtain ⟨gg,g1,rfl⟩:=y4.mp (sub x hx)
      exact hm gg g1
     ·exact c6 x hx
    ·have n7:n<=7:=by
      rcases Be n with h | h
      ·lia
      ·have:=q9 w8 h8 w1 s0 s1 (rH g.n0) (ry.1 (n - 1) (by lia))
       lia
     have ax:=g.ax
     have up:=g.up
     rw [hs',if_neg (by decide)] at ax up
     have dyb: -1<=z.1.dy sd/\z.1.dy sd<=1:=by
      unfold aF.dy
      split<;>lia
     refine ⟨(z.1.ax,z.1.dy sd)::D,(rayL wi sq z.1.ax (z.1.dy sd) n).map (prG row)++C,a,zO.mpr ⟨hD,c1⟩,λ e he=>?_,by rw [zw,zw]; lia,by rw [zm,y3,fA,zw]; lia,λ e he=>?_,λ x hx=>?_⟩
     ·rcases y6.mp he with rfl | he
      ·exact dirs_in ax.1 ax.2 dyb.1 dyb.2 (rH g.n0)
      ·exact c2 e he
     ·rcases y6.mp he with rfl | he
      ·exact ⟨n,ry,λ gg hgg=>zK _ (y4.mpr ⟨gg,hgg,rfl⟩)⟩
      ·obtain ⟨m,rm,hm⟩:=c5 e he
       exact ⟨m,rm,λ gg hgg=>zr _ (hm gg hgg)⟩
     ·rcases zj.mp hx with hx | hx
      ·exact zK _ (sub x hx)
      ·exact zr _ (c6 x hx)
   ·have l1:(byL row sd z.1.so z.1.ai (rayL wi sq z.1.ax (z.1.dy sd) n)).length<=1:=by
     have so:=g.so
     simp only [sortsL,y6,zq,or_false] at so
     unfold byL
     rcases so with e | e | e
     ·rw [e,if_neg (by decide),if_pos rfl]
      refine AX (iQ ..) ?_
      rw [zx]
      lia
     ·exact absurd e hs'
     ·rw [e,if_pos rfl]
      exact ja ..
    refine ⟨D,byL row sd z.1.so z.1.ai (rayL wi sq z.1.ax (z.1.dy sd) n)++C,a+1,c1,c2,by rw [zw]; lia,by rw [zm]; lia,λ e he=>?_,λ x hx=>?_⟩
    ·obtain ⟨m,rm,hm⟩:=c5 e he
     exact ⟨m,rm,λ gg hgg=>zr _ (hm gg hgg)⟩
    ·rcases zj.mp hx with hx | hx
     ·exact zK _ hx
     ·exact zr _ (c6 x hx)
theorem few64 {wi hi:Int}{hs:List Int}{row:Str}{sq sd:Int}{ks:List Nat}(w8:wi<=8) (h8:hi<=8) (w1:1<=wi) (s0:0<=sq) (s1:sq<wi*hi) {us:List (aF×Addr)}(h12:us.length<=12) (hg:∀z∈us,eY ks z.1) {l:List (Int×Int)}(h:aI wi hi hs row sq sd us l) (m:List (Int×Int)) (nd:m.Nodup) (hm:∀x∈m,x∈l):m.length<64:=by
 obtain ⟨D,C,a,c1,c2,c3,c4,_,c6⟩:=cover w8 h8 w1 s0 s1 h hg
 have d8:D.length<=8:=iu c1 c2
 have:=iu nd λ x hx=>c6 x (hm x hx)
 lia
def jV (K:Frag) (cB cG:Addr):Sp:=λ vs H Q _=> ∃(g b:Addr) (row kd:Str) (sq sd wi hi:Int) (hs:List Int) (ks ts es:List V) (st:Str) (us:List (aF×Addr)),vs=[.ref g,.str row,.int sq]/\fV cG H g b ks (rRefs us) ts es st/\cj K cB H b wi hi hs/\cI H us/\us.length<=12/\(∀z∈us,¬(z.1.ax=0/\z.1.up=0))/\
 qm row hs/\(row.length:Int)=wi*hi/\0<=sq/\sq<wi*hi/\sdV row sq=.int sd/\(sd=0\/sd=1)/\jr (row.cps.toList.getD sq.toNat 0)=.str kd/\(∀l,aI wi hi hs row sq sd (ofKind us kd) l->∀m:List (Int×Int),m.Nodup->(∀x∈m,x∈l)->m.length<64)/\
 ∀(l l':List (Int×Int)) (q:Addr) (H':Hp),aI wi hi hs row sq sd (ofKind us kd) l->kP l l'->H q=none->aZ H H' q l'->ah H H'->Q (.ref q) H'
structure CLs (P:Program) (w:World) (K:Frag) (mg:Str->Option Value) (base:Heap) (cB cG:Addr):Prop where
 _law_by_rule:Cal P w K mg base "_law_by_rule" ["_law_game_here","_law_row_here","_law_square","_law_rule_here"] 2 (lI K cB cG)
end L2
namespace L2
open PySem PySem.Spec PyProof.Rows
def ninP (ps2:List (List Int×Addr)) (ks:List (List Int)) (v:V):Bool:= !(ps2.any λ z=>decide (V.ref z.2=v/\z.1∈ks))
theorem sM {H:Hp}{ps2:List (List Int×Addr)}{ks:List (List Int)}(h:∀p∈ps2,H p.2=some (.tup (p.1.map V.int))) {z:List Int×Addr}(hz:z∈ps2):ninP ps2 ks (.ref z.2)= !decide (z.1∈ks):=by
 unfold ninP
 congr 1
 by_cases e:z.1∈ks
 ·rw [decide_eq_true e,zF]
  exact ⟨z,hz,decide_eq_true ⟨rfl,e⟩⟩
 ·rw [decide_eq_false e,zL]
  intro y hy w
  obtain ⟨e1,e2⟩:=of_decide_eq_true w
  have e1:y.2=z.2:=by injection e1
  have a:=h y hy
  rw [e1,h z hz] at a
  injection a with a
  injection a with a
  rw [<-iD a] at e2
  exact e e2
theorem pI {H:Hp}{ps2:List (List Int×Addr)}{ks:List (List Int)}(h:∀p∈ps2,H p.2=some (.tup (p.1.map V.int))):(ps2.map λ z=>V.ref z.2).filter (ninP ps2 ks)=(ps2.filter λ z=> !decide (z.1∈ks)).map λ z=>V.ref z.2:=by
 rw [zV]
 congr 1
 refine AD λ z hz=>?_
 exact sM h hz
theorem pP {ps ps2:List (List Int×Addr)}{m l2:List (Int×Int)}(h1:ps.map (·.1)=m.map pk) (h2:ps2.map (·.1)=l2.map pk):(ps2.filter λ z=> !decide (z.1∈ps.map (·.1))).map (·.1)=(l2.filter λ x=> !decide (x∈m)).map pk:=by
 have e1:(ps2.filter λ z=> !decide (z.1∈ps.map (·.1))).map (·.1)=(ps2.map (·.1)).filter λ k=> !decide (k∈ps.map (·.1)):=by
  rw [zV]
  rfl
 rw [e1,h2,h1,zV]
 congr 1
 refine AD λ x _=>?_
 show (!decide (pk x∈m.map pk))= !decide (x∈m)
 congr 1
 by_cases h:x∈m
 ·rw [decide_eq_true h,decide_eq_true (y4.mpr ⟨x,h,rfl⟩)]
 ·rw [decide_eq_false h,decide_eq_false λ w=>?_]
  obtain ⟨y,hy,e⟩:=y4.mp w
  exact h (nu e▸hy)
theorem inPT_k {K:Frag}{ta tb:TE}{σ:St}{H:Hp}{c d:Addr}{k:List Int}{ps:List (List Int×Addr)}(ha:Ev ta σ H (.ref c)) (hb:Ev tb σ H (.ref d)) (hc:H c=some (.tup (k.map V.int))) (hd:SqL K H d (ps.map λ z=>V.ref z.2)) (hp:∀p∈ps,H p.2=some (.tup (p.1.map V.int))):Tv (eQ (cInP K .NotIn ta tb)) σ H (!decide (k∈ps.map (·.1))):=λ R q=>ha _ (hb _ ⟨k,ps,hc,hd,hp,q⟩)
theorem xK {m l l2:List (Int×Int)}(h:∀x,x∈m<->x∈l) (x:Int×Int):x∈m++(l2.filter λ x=> !decide (x∈m))<->x∈l++l2:=by
 rw [zj,zj,zy,<-h x]
 constructor
 ·rintro (z | ⟨z,_⟩)
  ·exact .inl z
  ·exact .inr z
 ·rintro (z | z)
  ·exact .inl z
  ·by_cases w:x∈m
   ·exact .inl w
   ·exact .inr ⟨z,by rw [decide_eq_false w]; rfl⟩
theorem nd_more {m l2:List (Int×Int)}(h:m.Nodup) (h2:l2.Nodup):(m++(l2.filter λ x=> !decide (x∈m))).Nodup:=by
 rw [zZ]
 refine ⟨h,List.filter_sublist.nodup h2,λ a ha b hb e=>?_⟩
 have:=(zy.mp hb).2
 rw [<-e,decide_eq_true ha] at this
 cases this
theorem kP.of {l m l':List (Int×Int)}(h:∀x,x∈m<->x∈l) {ps ps':List (List Int×Addr)}(e:ps.map (·.1)=m.map pk) (pm:ps'.Perm ps) (pw:ps'.Pairwise λ x y=>cR x.1 y.1=true) (e':ps'.map (·.1)=l'.map pk):kP l l':=by
 have mem:∀k,k∈ps'.map (·.1)<->k∈ps.map (·.1):=λ k=>(pm.map _).mem_iff
 refine ⟨λ x=>?_,?_⟩
 ·rw [<-h x]
  have z:=mem (pk x)
  rw [e,e'] at z
  have inj:∀l:List (Int×Int),pk x∈l.map pk<->x∈l:=λ l=>⟨λ w=>by
   obtain ⟨y,hy,ey⟩:=y4.mp w
   exact nu ey▸hy,λ w=>y4.mpr ⟨x,w,rfl⟩⟩
  rw [inj,inj] at z
  exact z
 ·have z:(ps'.map (·.1)).Pairwise λ x y=>cR x y=true:=zv.mpr pw
  rw [e'] at z
  exact zv.mp z
theorem kd_lo {c:Nat}{kd:Str}(h:jr c=.str kd):kd=one (lo1 c):=by
 unfold jr at h
 split at h
 ·cases h
 ·injection h with h
  exact h.symm
theorem kj {us:List (aF×Addr)}{kd:Str}{z:aF×Addr}:ofKind (us++[z]) kd=ofKind us kd++if z.1.kd=kd then [z] else []:=by
 unfold ofKind
 rw [Ay]
 congr 1
 by_cases h:z.1.kd=kd
 ·rw [if_pos h,zT,if_pos (decide_eq_true h)]
  rfl
 ·rw [if_neg h,zT,if_neg (by rw [decide_eq_false h]; decide)]
  rfl
theorem Fl.keepS {K:Frag}{H H':Hp}{p:Addr}{f:Str}{x:V}(h:Fl K H p f x) (s:ah H H'):Fl K H' p f x:=by
 obtain ⟨C,dx,fs,a,r⟩:=h
 exact ⟨C,dx,fs,s _ _ a,r⟩
theorem n4 {K:Frag}{sp:Sp}{t:TA}{vs:List V}{g:TG}{tt:TT}{te:TE}{src:List (Option Nat)}{σ:St}{H:Hp}{Q:VK}(h:Av t σ H vs) (q:sp vs H (λ x H2=> ∃a,x=.ref a/\(∃xs,SqL K H2 a xs)/\dJ g tt te src σ Q (Itl K a) H2) E0):tComp (pV K (dq sp t)) g tt te src σ H Q:=h _ q
theorem sortL_k {K:Frag}{te:TE}{σ:St}{H:Hp}{Q:VK}{d:Addr}{ps:List (List Int×Addr)}(h:Ev te σ H (.ref d)) (hd:SqL K H d (ps.map λ z=>V.ref z.2)) (hp:∀p∈ps,p.1≠[]/\H p.2=some (.tup (p.1.map V.int))) (nd:(ps.map (·.1)).Nodup) (h64:ps.length<64)
  (q:∀(ps':List (List Int×Addr)) (q:Addr),ps'.Perm ps->ps'.Pairwise (λ x y=>cR x.1 y.1=true)->H q=none->Q (.ref q) (upd H q (.lst (ps'.map λ z=>V.ref z.2)))):cB (qB K) (bh te cO) σ H Q:=h _ ⟨d,ps,rfl,hd,hp,nd,h64,q⟩
end L2
namespace L2
open PySem PySem.Spec PyProof.Rows
abbrev dj (ps:List (List Int×Addr)):List V:=ps.map λ z=>V.ref z.2
def gJ (H:Hp) (ps:List (List Int×Addr)):Prop:= ∀p∈ps,H p.2=some (.tup (p.1.map V.int))
theorem gJ.same {H H':Hp}{ps:List (List Int×Addr)}(h:gJ H ps) (s:ah H H'):gJ H' ps:=λ p hp=>s _ _ (h p hp)
theorem kG {K:Frag}{H:Hp}{n:Nat}{q d:Addr}{ps ps':List (List Int×Addr)}(hq:SqL K H q (dj ps)) (hd:SqL K H d (dj ps')) (e:ps.map (·.1)=ps'.map (·.1)) (h1:gJ H ps) (h2:gJ H ps'):EqT K H (n+2) (.ref q) (.ref d) true:=by
 have hl:ps.length=ps'.length:=by have:=congrArg List.length e; rwa [y3,y3] at this
 have z:=EqT.lst (n:=n+1) (es:=λ _=>true) hq hd (by rw [y3,y3]; exact hl) (λ i x y hx hy=>by
  have i1:i<ps.length:=by have:=(zo.mp hx).1; rwa [y3] at this
  have i2:i<ps'.length:=by lia
  rw [y8,y7 i1] at hx
  rw [y8,y7 i2] at hy
  cases hx
  cases hy
  have w:=nY (K:=K) (n:=n) (h1 _ (zp i1)) (h2 _ (zp i2))
  have ek:ps[i].1=ps'[i].1:=by
   have a:(ps.map (·.1))[i]? =some ps[i].1:=by rw [y8,y7 i1]; rfl
   have b:(ps'.map (·.1))[i]? =some ps'[i].1:=by rw [y8,y7 i2]; rfl
   rw [e,b] at a
   exact (Option.some.inj a).symm
  rw [decide_eq_true ek] at w
  exact w)
 rw [show ((List.range (dj ps).length).all λ _=>true)=true from zA.mpr λ _ _=>rfl] at z
 exact z
def oA:Sp:=λ vs H Q _=> ∃n:Int,vs=[.int n]/\Q (.bl true) H
def lH:Sp:=λ vs H Q _=> ∃(q d:Addr) (ps ps':List (List Int×Addr)),vs=[.ref q,.ref d]/\H q=some (.lst (dj ps))/\H d=some (.lst (dj ps'))/\ps.map (·.1)=ps'.map (·.1)/\gJ H ps/\gJ H ps'/\(∀p∈ps,p.1.length<=1000)/\∀H',ah H H'->Q (.bl true) H'
structure CLt (P:Program) (w:World) (K:Frag) (mg:Str->Option Value) (base:Heap):Prop where
 _law_whole:Cal P w K mg base "_law_whole" ["_law_thing"] 1 oA
section
variable {K:Frag}{σ:St}{H:Hp}{ta tb te:TE}
theorem ev_isL {T:BT}{a:Addr}{xs:List V}(h:Ev te σ H (.ref a)) (ha:H a=some (.lst xs)):Ev (cIs T te) σ H (.bl (cA .list T)):=λ Q q=>h _ (sW ha q)
theorem ev_isT {T:BT}{a:Addr}{xs:List V}(h:Ev te σ H (.ref a)) (ha:H a=some (.tup xs)):Ev (cIs T te) σ H (.bl (cA .tuple T)):=λ Q q=>h _ (isA_tup ha q)
theorem ev_neT {a b:Addr}{k:Bool}(h1:Ev ta σ H (.ref a)) (h2:Ev tb σ H (.ref b)) (h:EqT K H 20 (.ref a) (.ref b) k):Ev (dn K .NotEq ta tb) σ H (.bl (!k)):=λ Q q=>h1 _ (h2 _ ⟨k,h,q⟩)
theorem cmpC_k {op:CmpOp}{R:Bool->Hp->Prop}(h:ta σ H λ x H1=>tb σ H1 λ y H2=>aL K op x y H2 (dc R)):eQ (dn K op ta tb) σ H R:=h
theorem yH {tt:TT}{tl:TE}{src:List (Option Nat)}{rest:St}{Q:VK}{d:Addr}{xs:List V}(hl:Ev tl σ H (.ref d)) (hx:SqT K H d xs) (hz:xs.length<=sizeLine) (hs:dG src σ=none::rest) (p:V->Bool) (f:V->V)
  (ht:∀x∈xs,Tv tt (some x::rest) H (p x)) (he:∀x∈xs,p x=true->Ev te (some x::rest) H (f x)) (q:∀d',H d'=none->Q (.ref d') (upd H d' (.lst ((xs.filter p).map f)))):tComp (iTup K tl) (gName 0) tt te src σ H Q:=
 hl _ ⟨d,rfl,⟨xs,hx⟩,gF hz hs p f (λ i hi=>⟨xs,xs[i],hx,y7 hi⟩) ⟨xs,hx,AU _⟩ (λ i v H' _ y=>⟨y.1,y.2 xs hx⟩) ht he q⟩
end
theorem eqT_nil {K:Frag}{H:Hp}{n:Nat}{a b:Addr}(ha:H a=some (.lst [])) (hb:H b=some (.lst [])):EqT K H (n+1) (.ref a) (.ref b) true:=by
 have z:=EqT.lst (n:=n) (es:=λ _=>true) (SqL.of (K:=K) ha) (SqL.of hb) rfl (λ i x y hx=>by simp at hx)
 exact z
end L2
namespace L2
open PySem PySem.Spec PyProof.Rows
theorem t0 {c:Nat}{v:Int}(h:bF c=.int v):jr c=.str (one (lo1 c))/\(v=0\/v=1):=by
 unfold bF at h
 unfold jr
 split at h
 ·cases h
 ·rename_i z
  rw [if_neg z]
  injection h with h
  refine ⟨rfl,?_⟩
  rw [<-h]
  split
  ·exact .inl rfl
  ·exact .inr rfl
theorem calN_y {sp:Sp}{t:TA}{σ:St}{H:Hp}{R:Bool->Hp->Prop}{vs:List V}(h:Av t σ H vs) (q:sp vs H (dc λ c H1=>R (!c) H1) E0):qx (eQ (dq sp t)) σ H R:=h _ q
end L2
namespace L2
open PySem PySem.Spec PyProof.Rows
structure vc (wi hi:Int) (hs:List Int) (ks:List Nat) (z:Str):Prop where
 len:z.length=(wi*hi).toNat
 at_:∀(s c:Nat),z.cps.toList[s]? =some c->jv ks c (if (s:Int)∈hs then 35 else 46)=true
theorem kL {ks:List Nat}{c:Nat}{hs:List Int}{s:Int}(h:jv ks c (if s∈hs then 35 else 46)=true):(s∈hs/\c=35)\/(¬s∈hs/\(c=46\/c∈ks\/c∈ks.map (· - 32))):=by
 unfold jv at h
 by_cases m:s∈hs
 ·rw [if_pos m,if_pos rfl] at h
  exact .inl ⟨m,of_decide_eq_true h⟩
 ·rw [if_neg m,if_neg (by decide)] at h
  exact .inr ⟨m,of_decide_eq_true h⟩
theorem tK {ks:List Nat}{c:Nat}(hl:∀k∈ks,Ltr k) (h:c=46\/c∈ks\/c∈ks.map (· - 32)):Sg c/\c≠35:=by
 unfold Sg
 rcases h with h | h | h
 ·lia
 ·have:=hl c h
  unfold Ltr at this
  lia
 ·obtain ⟨k,hk,rfl⟩:=y4.mp h
  have:=hl k hk
  unfold Ltr at this
  lia
theorem vc.g {wi hi:Int}{hs:List Int}{ks:List Nat}{z:Str}(R:vc wi hi hs ks z) (hl:∀k∈ks,Ltr k) (m:wi*hi<=64):qm z hs:=by
 have sg:∀c∈z.cps.toList,Sg c:=λ c hc=>by
  obtain ⟨s,hs'⟩:=Ab hc
  rcases kL (R.at_ s c hs') with ⟨_,h⟩ | ⟨_,h⟩
  ·exact .inr (.inl h)
  ·exact (tK hl h).1
 refine ⟨⟨by rw [R.len]; lia,λ c hc=>(sg c hc).lt⟩,sg,λ s s0 s1 hn=>?_⟩
 have hlt:s.toNat<z.cps.toList.length:=by
  have:z.length=z.cps.toList.length:=rfl
  lia
 have e:z.cps.toList[s.toNat]? =some (z.cps.toList.getD s.toNat 0):=by rw [zb,y7 hlt]; rfl
 have:=R.at_ _ _ e
 rw [show ((s.toNat:Nat):Int)=s by lia] at this
 rcases kL this with ⟨h,_⟩ | ⟨_,h⟩
 ·exact absurd h hn
 ·exact (tK hl h).2
theorem w9 {te:TE}{D:de}{σ:St}{H:Hp}(h:te σ H D.rt):cJ te D σ H:=h
end L2
namespace L2
open PySem PySem.Spec PyProof.Rows
theorem wD {K:Frag}{te:TE}{src:List (Option Nat)}{σ rest:St}{H:Hp}{Q:VK}{d:Addr}{xs:List V}(hx:H d=some (.lst xs)) (hz:xs.length<=sizeLine) (hs:dG src σ=none::rest) (R:Nat->Hp->V->Prop) (hR:∀i H H' v,R i H v->ah H H'->R i H' v)
  (he:∀(i:Nat) x H',xs[i]? =some x->ah H H'->∀Q:VK,(∀v H2,R i H2 v->ah H' H2->Q v H2)->te (some x::rest) H' Q)
  (q:∀d' H' ys,ah H H'->H' d'=none->ys.length=xs.length->(∀i y,ys[i]? =some y->R i H' y)->Q (.ref d') (upd H' d' (.lst ys))):dJ (gName 0) jQ te src σ Q (Itl K d) H:=by
 refine kI xs.length (λ i ys σ' H'=>ah H H'/\(∃v,σ'=v::rest)/\ys.length=i/\∀j y,ys[j]? =some y->R j H' y) hz (λ i ys σ H h=>A2 h.2.2.1)
  (λ i ys σ H' h hi=>⟨xs,xs[i],SqL.of (h.1 _ _ hx),y7 hi⟩) (λ ys σ H' h=>⟨xs,SqL.of (h.1 _ _ hx),AU _⟩) ⟨ah.refl H,⟨none,hs⟩,rfl,λ j y e=>by simp at e⟩ ?_ ?_
 ·rintro i ys _ H1 x H2 hi ⟨s1,⟨v0,rfl⟩,hl,hy⟩ ⟨rfl,hyy⟩ Kt Kf ht hf
  have ex:=hyy xs (SqL.of (s1 _ _ hx))
  simp only [gName,jQ,An,if_true]
  refine he i x _ ex s1 _ λ v H2 rv s2=>ht _ _ _ ⟨s1.trans s2,⟨_,rfl⟩,by simp [hl],λ j y e=>?_⟩
  by_cases q:j<ys.length
  ·rw [Ac q] at e
   exact hR _ _ _ _ (hy j y e) s2
  ·by_cases q2:j=ys.length
   ·subst q2
    simp at e
    subst e
    rw [hl]
    exact rv
   ·rw [zE (by simp; lia)] at e
    cases e
 ·rintro ys _ H1 dd ⟨s1,_,hl,hy⟩ hd
  exact q dd H1 ys s1 hd hl hy
theorem sU {α:Type}{H0 H:Hp}(f:α->List Int):∀(l:List α) (ys:List V),ys.length=l.length->(∀(i:Nat) (y:V),ys[i]? =some y->∃x t,l[i]? =some x/\y=.ref t/\H0 t=none/\H t=some (.tup ((f x).map V.int)))->∃ps:List (List Int×Addr),ys=dj ps/\ps.map (·.1)=l.map f/\∀p∈ps,H0 p.2=none/\H p.2=some (.tup (p.1.map V.int))
 | [],[],_,_=>⟨[],rfl,rfl,λ _ z=>nomatch z⟩
 | x::l,y::ys,hl,h=>by
   obtain ⟨x',t,e1,rfl,e3,e4⟩:=h 0 y rfl
   have e1:x=x':=by simpa using e1
   subst e1
   obtain ⟨ps,rfl,p2,p3⟩:=sU f l ys (by simpa using hl) λ i y hy=>h (i+1) y (by simpa using hy)
   refine ⟨(f x,t)::ps,rfl,by rw [zB,zB,p2],λ p hp=>?_⟩
   rcases y6.mp hp with rfl | hp
   ·exact ⟨e3,e4⟩
   ·exact p3 p hp
 | [],_::_,hl,_=>by simp at hl
 | _::_,[],hl,_=>by simp at hl
def GoR (wi hi:Int) (hs:List Int) (row:Str) (us:List (aF×Addr)) (sd sq:Int) (l':List (Int×Int)):Prop:= ∃l,aI wi hi hs row sq sd (ofKind us (one (lo1 (row.cps.toList.getD sq.toNat 0)))) l/\kP l l'
theorem GoR.uniq {wi hi:Int}{hs:List Int}{row:Str}{us:List (aF×Addr)}{sd sq:Int}{l l':List (Int×Int)}(h:GoR wi hi hs row us sd sq l) (h':GoR wi hi hs row us sd sq l'):l=l':=by
 obtain ⟨m,a,b⟩:=h
 obtain ⟨m',a',b'⟩:=h'
 have e:=a.uniq a'
 subst e
 exact b.uniq b'
def tk3 (s:Int) (x:Int×Int):List Int:=[s,x.1,x.2]
inductive MvR (wi hi:Int) (hs:List Int) (row:Str) (us:List (aF×Addr)) (sd:Int):List Int->List (List Int)->Prop
 | nil:MvR wi hi hs row us sd [] []
 | cons {s ss l m}:GoR wi hi hs row us sd s l->MvR wi hi hs row us sd ss m->MvR wi hi hs row us sd (s::ss) (l.map (tk3 s)++m)
theorem MvR.uniq {wi hi:Int}{hs:List Int}{row:Str}{us:List (aF×Addr)}{sd:Int}:∀{ss:List Int}{m m':List (List Int)},MvR wi hi hs row us sd ss m->MvR wi hi hs row us sd ss m'->m=m'
 | _,_,_,.nil,.nil=>rfl
 | _,_,_,.cons a b,.cons c d=>by rw [a.uniq c,MvR.uniq b d]
theorem MvR.add {wi hi:Int}{hs:List Int}{row:Str}{us:List (aF×Addr)}{sd s:Int}{l:List (Int×Int)}(h:GoR wi hi hs row us sd s l):∀{ss:List Int}{m:List (List Int)},MvR wi hi hs row us sd ss m->MvR wi hi hs row us sd (ss++[s]) (m++l.map (tk3 s))
 | _,_,.nil=>by
   have:=MvR.cons h MvR.nil
   rwa [zt] at this
 | _,_,.cons a b=>by
   rw [zW]
   exact .cons a (MvR.add h b)
theorem MvR.len3 {wi hi:Int}{hs:List Int}{row:Str}{us:List (aF×Addr)}{sd:Int}:∀{ss:List Int}{m:List (List Int)},MvR wi hi hs row us sd ss m->∀k∈m,k.length=3
 | _,_,.nil,_,z=>nomatch z
 | _,_,.cons a b,k,z=>by
   rcases zj.mp z with w | w
   ·obtain ⟨x,_,rfl⟩:=y4.mp w
    rfl
   ·exact MvR.len3 b k w
def iL (H H':Hp) (q:Addr) (m:List (List Int)):Prop:= ∃ps:List (List Int×Addr),ps.map (·.1)=m/\H' q=some (.lst (dj ps))/\∀p∈ps,H p.2=none/\H' p.2=some (.tup (p.1.map V.int))
theorem rZ {H H1 H2:Hp}{q:Addr}{m m2:List (List Int)}{ps ps2:List (List Int×Addr)}(h1:ps.map (·.1)=m) (hq:∀xs,¬H2 q=some (.tup xs)) (h3:∀p∈ps,H p.2=none/\H2 p.2=some (.tup (p.1.map V.int))) (s:ah H H1)
  (g1:ps2.map (·.1)=m2) (g3:∀p∈ps2,H1 p.2=none/\H2 p.2=some (.tup (p.1.map V.int))):iL H (upd H2 q (.lst (dj ps++dj ps2))) q (m++m2):=by
 refine ⟨ps++ps2,by rw [zn,h1,g1],by rw [af,show dj (ps++ps2)=dj ps++dj ps2 from zn ..],λ p hp=>?_⟩
 have ne:∀{p:Addr} {xs:List V},H2 p=some (.tup xs)->p≠q:=λ a e=>hq _ (e▸a)
 rcases zj.mp hp with z | z
 ·obtain ⟨a1,a2⟩:=h3 p z
  exact ⟨a1,by rw [aq (ne a2)]; exact a2⟩
 ·obtain ⟨a1,a2⟩:=g3 p z
  exact ⟨s.free a1,by rw [aq (ne a2)]; exact a2⟩
def sh (row:Str) (sd:Int) (n:Nat):List Int:=((List.range n).filter λ i=>decide (bF (row.cps.toList.getD i 0)=.int sd)).map λ (i:Nat)=>(i:Int)
theorem qz {row:Str}{sd:Int}{n:Nat}:sh row sd (n+1)=sh row sd n++if sdV row (n:Int)=.int sd then [(n:Int)] else []:=by
 unfold sh
 rw [zS,Ay,zn]
 congr 1
 by_cases h:sdV row (n:Int)=.int sd
 ·rw [if_pos h,zT,if_pos (decide_eq_true (p:=bF (row.cps.toList.getD n 0)=.int sd) h)]
  rfl
 ·rw [if_neg h,zT,if_neg (by rw [decide_eq_false (p:=bF (row.cps.toList.getD n 0)=.int sd) h]; decide)]
  rfl
theorem tW {row:Str}{sd s:Int}(h:s∈sqsOf row sd):0<=s/\s<row.length/\sdV row s=.int sd:=by
 obtain ⟨n,hn,rfl⟩:=y4.mp h
 obtain ⟨a,b⟩:=zy.mp hn
 have:=zc.mp a
 exact ⟨by lia,by lia,of_decide_eq_true b⟩
theorem lD {row:Str}{sd:Int}:(sqsOf row sd).length<=row.length:=by
 unfold sqsOf
 rw [y3]
 refine AX (zN _ _) ?_
 rw [zI]
 exact AU _
theorem srt_nd {l l':List (Int×Int)}(h:kP l l'):l'.Nodup:=by
 rw [zC]
 refine h.2.imp λ h e=>?_
 rw [e,iz] at h
 cases h
theorem tj {K:Frag}{cB cG:Addr}{H:Hp}{g b kq:Addr}{wi hi:Int}{hs:List Int}{ks:List Nat}{us:List (aF×Addr)}{ts es:List ((Str×Str)×Addr)}{st row:Str}{sq sd:Int}{Q:VK}(G:GameS K cB cG H g b kq wi hi hs ks us ts es st) (R:qm row hs) (rl:(row.length:Int)=wi*hi) (s0:0<=sq) (s1:sq<row.length) (hsd:sdV row sq=.int sd)
  (q:∀(l':List (Int×Int)) (q:Addr) (H':Hp),GoR wi hi hs row us sd sq l'->l'.length<64->H q=none->aZ H H' q l'->ah H H'->Q (.ref q) H'):mz K cB cG [.ref g,.str row,.int sq] H Q E0/\jV K cB cG [.ref g,.str row,.int sq] H Q E0:=by
 have B:=G.bd
 obtain ⟨ekd,sd2⟩:=t0 (c:=row.cps.toList.getD sq.toNat 0) hsd
 have few:∀l,aI wi hi hs row sq sd (ofKind us (one (lo1 (row.cps.toList.getD sq.toNat 0)))) l->∀m:List (Int×Int),m.Nodup->(∀x∈m,x∈l)->m.length<64:=λ l hl m nd hm=>
  few64 B.w8 B.h8 B.w1 s0 (by lia) (AX (zN _ _) G.r12) (λ z hz=>G.rg z (zy.mp hz).1) hl m nd hm
 have rg0:∀z∈us,¬(z.1.ax=0/\z.1.up=0):=λ z hz=>(G.rg z hz).n0
 have k:∀(l l':List (Int×Int)) (q:Addr) (H':Hp),aI wi hi hs row sq sd (ofKind us (one (lo1 (row.cps.toList.getD sq.toNat 0)))) l->kP l l'->H q=none->aZ H H' q l'->ah H H'->Q (.ref q) H':=λ l l' t H' h1 h2 h3 h4 h5=>
  q l' t H' ⟨l,h1,h2⟩ (few l h1 l' (srt_nd h2) λ x hx=>(h2.1 x).mp hx) h3 h4 h5
 exact ⟨⟨g,b,row,_,sq,sd,wi,hi,hs,ks.map strV,bw ts,bw es,st,us,rfl,G.gm,G.bd,G.rl,G.r12,rg0,R.toRowS,rl,s0,by lia,hsd,sd2,ekd,few,k⟩,
  ⟨g,b,row,_,sq,sd,wi,hi,hs,ks.map strV,bw ts,bw es,st,us,rfl,G.gm,G.bd,G.rl,G.r12,rg0,R,rl,s0,by lia,hsd,sd2,ekd,few,k⟩⟩
def ie (K:Frag) (cB cG:Addr):Sp:=λ vs H Q _=> ∃(g b kq p:Addr) (row:Str) (sd wi hi:Int) (hs:List Int) (ks:List Nat) (us:List (aF×Addr)) (ts es:List ((Str×Str)×Addr)) (st:Str),vs=[.ref g,.ref p]/\GameS K cB cG H g b kq wi hi hs ks us ts es st/\SqT K H p [.str row,.int sd]/\qm row hs/\(row.length:Int)=wi*hi/\
 ∀(m:List (List Int)) (q:Addr) (H':Hp),MvR wi hi hs row us sd (sqsOf row sd) m->m.length<=4096->H q=none->iL H H' q m->ah H H'->Q (.ref q) H'
structure CMv (P:Program) (w:World) (K:Frag) (mg:Str->Option Value) (base:Heap) (cB cG:Addr):Prop where
 squares_of:Cal P w K mg base "squares_of" ["row","side"] 2 lE
 goals:Cal P w K mg base "goals" ["game","row","square"] 5 (mz K cB cG)
structure CLm (P:Program) (w:World) (K:Frag) (mg:Str->Option Value) (base:Heap) (cB cG:Addr):Prop where
 _law_side:Cal P w K mg base "_law_side" ["_law_sign"] 1 ig
 _law_goals:Cal P w K mg base "_law_goals" ["_law_game_here","_law_row_here","_law_square"] 3 (jV K cB cG)
theorem rX {K:Frag}{src:List (Option Nat)}{σ:St}{H0 H:Hp}{Q:VK}{d:Addr}{l':List (Int×Int)}{ps:List (List Int×Addr)}{sq:Int}{te:TE}(s0:ah H0 H) (p1:ps.map (·.1)=l'.map pk) (hx:H d=some (.lst (dj ps))) (p3:∀p∈ps,H p.2=some (.tup (p.1.map V.int))) (l64:l'.length<64) (hs:dG src σ=[none,some (.int sq)])
  (ht:∀(a:Addr) (x y:Int) (H':Hp) (Q:VK),H' a=some (.tup [.int x,.int y])->(∀t,H' t=none->Q (.ref t) (upd H' t (.tup [.int sq,.int x,.int y])))->te [some (.ref a),some (.int sq)] H' Q)
  (q:∀d' H' ps2,ah H H'->H' d'=none->ps2.map (·.1)=l'.map (tk3 sq)->(∀p∈ps2,H0 p.2=none/\H' p.2=some (.tup (p.1.map V.int)))->Q (.ref d') (upd H' d' (.lst (dj ps2)))):dJ (gName 0) jQ te src σ Q (Itl K d) H:=by
 have z:=congrArg List.length p1
 rw [y3,y3] at z
 refine wD (rest:=[some (.int sq)]) hx (by rw [y3,sizeLine_eq]; lia) hs (λ j H' v=> ∃x t,l'[j]? =some x/\v=.ref t/\H0 t=none/\H' t=some (.tup ((tk3 sq x).map V.int))) (λ i H H' v h s=>?_) (λ i x H' hx' s' Q' q'=>?_) (λ d' H' ys s' hd hl hy=>?_)
 ·obtain ⟨x,t,a,b,c,e⟩:=h
  exact ⟨x,t,a,b,c,s _ _ e⟩
 ·have hi:i<ps.length:=by
   have:=(zo.mp hx').1
   rwa [y3] at this
  have hi2:i<l'.length:=by lia
  rw [y8,y7 hi] at hx'
  obtain rfl:V.ref ps[i].2=x:=Option.some.inj hx'
  have e:ps[i].1=pk l'[i]:=by
   have a:(ps.map (·.1))[i]? =some ps[i].1:=by rw [y8,y7 hi]; rfl
   rw [p1,y8,y7 hi2] at a
   exact (Option.some.inj a).symm
  have h4:=s' _ _ (p3 _ (zp hi))
  rw [e] at h4
  refine ht _ l'[i].1 l'[i].2 H' Q' h4 λ t ht=>q' _ _ ⟨l'[i],t,y7 hi2,rfl,(s0.trans s').free ht,af⟩ ((ah.refl H').upd ht)
 ·obtain ⟨ps2,rfl,e1,e2⟩:=sU (tk3 sq) l' ys (by rw [hl,y3]; exact z) hy
  exact q d' H' ps2 s' hd e1 e2
def mx (K:Frag) (cB cG:Addr):Sp:=λ vs H Q _=> ∃(g b kq p:Addr) (row:Str) (sd wi hi:Int) (hs:List Int) (ks:List Nat) (us:List (aF×Addr)) (ts es:List ((Str×Str)×Addr)) (st:Str),vs=[.ref g,.ref p]/\GameS K cB cG H g b kq wi hi hs ks us ts es st/\SqT K H p [.str row,.int sd]/\qm row hs/\(row.length:Int)=wi*hi/\∀(H':Hp),ah H H'->Q (.bl true) H'
structure CLd (P:Program) (w:World) (K:Frag) (mg:Str->Option Value) (base:Heap) (cB cG:Addr):Prop where
 _law_moves:Cal P w K mg base "_law_moves" ["_law_game_here","_law_place"] 4 (ie K cB cG)
 moves:Cal P w K mg base "moves" ["game","place"] 6 (ie K cB cG)
 _law_tuples:Cal P w K mg base "_law_tuples" ["_law_found","_law_due"] 2 lH
def oC (K:Frag) (cB cG:Addr):Sp:=λ vs H Q _=> ∃(a g b kq:Addr) (ns:List Int) (wi hi:Int) (hs:List Int) (ks:List Nat) (us:List (aF×Addr)) (ts es:List ((Str×Str)×Addr)) (st:Str),vs=[.ref a,.ref g]/\SqL K H a (ns.map V.int)/\GameS K cB cG H g b kq wi hi hs ks us ts es st/\
 ∀(g2:Addr) (us2:List (aF×Addr)) (H':Hp),GameS K cB cG H' g2 b kq wi hi hs ks us2 [] [] "even"->ah H H'->Q (.ref g2) H'
theorem uQ {K:Frag}{σ:St}{H:Hp}{t:TA}{tb:TE}{c:Nat}{sd:Int}(h:Av t σ H [.str (one c)]) (hc:Sg c) (hb:Ev tb σ H (.int sd)):Ev (dn K .Eq (dq ig t) tb) σ H (.bl (decide (bF c=.int sd))):=λ Q q=>h _ ⟨c,rfl,hc,hb _ (by rw [mG]; exact q)⟩
end L2
namespace L2
open PySem PySem.Spec PyProof.Rows
theorem yh {K:Frag}{tl:TE}{g:TG}{tb:TS}{D:de}{σ:St}{H:Hp}(P:V->Hp->Prop) (htl:∀Q:VK,(∀v H',P v H'->Q v H')->tl σ H Q)
  (h:∀v H',P v H'->∃d xs,v=.ref d/\SqT K H' d xs/\∃Pv:Nat->St->Hp->Prop,Pv 0 σ H'/\(∀i σ H,i<=xs.length->Pv i σ H->SqT K H d xs)/\
   (∀(i:Nat) x σ H,xs[i]? =some x->Pv i σ H->g x σ H λ σ2 H2=>tb {D with nx:=Pv (i+1),ct:=Pv (i+1),bk:=D.nx} σ2 H2)/\(∀σ H,Pv xs.length σ H->D.nx σ H)):tFor (iTup K tl) g tb D σ H:=
 htl _ λ v H' p=>by
  obtain ⟨d,xs,rfl,hq,Pv,a,b,c,e⟩:=h v H' p
  exact ⟨d,rfl,⟨xs,hq⟩,for_tup Pv a b c e⟩
theorem andX_k {ta tb:TE}{σ:St}{H:Hp}{Q:VK}(h:ta σ H (dc λ c H1=>if c=true then tb σ H1 Q else Q (.bl false) H1)):ma ta tb σ H Q:=h
theorem yJ {K:Frag}{op:CmpOp}{ta tb:TE}{σ:St}{H:Hp}{Q:VK}(h:ta σ H λ x H1=>tb σ H1 λ y H2=>aL K op x y H2 Q):dn K op ta tb σ H Q:=h
theorem calX_k {sp:Sp}{t:TA}{σ:St}{H:Hp}{Q:VK}(h:t σ H λ vs H1=>sp vs H1 Q E0):dq sp t σ H Q:=h
theorem tL {sp:Sp}{t:TA}{σ:St}{H:Hp}{R:Bool->Hp->Prop}(h:t σ H λ vs H1=>sp vs H1 (dc λ c H2=>R (!c) H2) E0):qx (eQ (dq sp t)) σ H R:=h
theorem yF (xs:List V):cutV xs none (some 1)=xs.take 1:=by
 unfold cutV
 rw [HT.sIx_none]
 have:HT.sIx xs.length xs.length (some 1)=min 1 xs.length:=HT.sIx_nat _ _ 1
 rw [this,Ag,Bd]
 cases xs with
 | nil=>rfl
 | cons a l=>simp
theorem w6 {H:Hp}{ks:List Nat}:∀(ys:List V),(∀y∈ys,∃t u,y=.ref t/\eY ks u/\H t=some (.tup u.vs))->∃us:List (aF×Addr),ys=rRefs us/\cI H us/\(∀z∈us,eY ks z.1)/\us.length=ys.length
 | [],_=>⟨[],rfl,λ _ z=>(nomatch z),λ _ z=>(nomatch z),rfl⟩
 | y::ys,h=>by
   obtain ⟨t,u,rfl,g,e⟩:=h y zi
   obtain ⟨us,rfl,a,b,c⟩:=w6 ys λ y hy=>h y (zg _ hy)
   refine ⟨(u,t)::us,rfl,λ z hz=>?_,λ z hz=>?_,by simp⟩
   ·rcases y6.mp hz with rfl | hz
    ·exact e
    ·exact a z hz
   ·rcases y6.mp hz with rfl | hz
    ·exact g
    ·exact b z hz
structure CLq (P:Program) (w:World) (K:Frag) (mg:Str->Option Value) (base:Heap) (cB cG:Addr):Prop extends LG1 P w K mg base where
 _law_rule:Cal P w K mg base "_law_rule" ["_law_cell","_law_kinds_here"] 1 mw
 Game:kR P w K mg base "Game" cG ["self","board","kinds","rules","turns","ends","stuck"] 6 (mB K cG)
theorem and_tt {tb:TE}{σ:St}{H:Hp}{Q:VK}(h:tb σ H Q):dc (λ c H1=>if c=true then tb σ H1 Q else Q (.bl false) H1) (.bl true) H:=by
 show (if true=true then tb σ H Q else Q (.bl false) H)
 rw [if_pos rfl]
 exact h
end L2
local macro_rules | `(tactic| walk_at "rd")=> `(tactic| simp only [L2.bj,L2.iN,L2.cJ,L2.tAsg,L2.gName,L2.jR,L2.gX,L2.iH,L2.tC,L2.og,L2.jg,L2.dn,L2.aL,L2.eqB,L2.eQ,L2.dc,L2.ma,L2.cOrV,L2.tN,L2.cNeg,L2.cIs,L2.isA,L2.cIx,L2.ixA,L2.cSl,L2.slA,L2.tM,L2.jF,L2.cB,L2.bh,L2.cO,L2.cSM,L2.u7,L2.dq,L2.qx,L2.tAnd,L2.tOr,L2.tIf,L2.je,L2.iI,L2.pM,L2.minA,L2.strA,L2.uK,L2.swA,L2.upA,L2.cJR,AQ,AR,An,AS])
seal L2.PE L2.PT L2.PA L2.PS L2.PSs L2.PG L2.PGs L2.PI L2.PO L2.qo L2.PW L2.bb L2.MtR L2.OpR L2.UnR L2.IxR L2.SlR
namespace L2
open PySem PySem.Spec PyProof.Rows
section
variable {P:Program}{w:World}{K:Frag}{mg:Str->Option Value}{base:Heap}
end
theorem yT {α:Type}{xs:List α}{i:Int}(h0:0<=i) (h1:i<xs.length):∃v,atI xs i=some v/\xs[i.toNat]? =some v:=by
 have hx:xs[i.toNat]? =some (xs[i.toNat]'(by lia)):=y7 (by lia)
 refine ⟨_,?_,hx⟩
 have e:i=((i.toNat:Nat):Int):=by lia
 have:=bz hx
 rw [<-e] at this
 exact this
end L2
namespace K13
open PySem L2
def top (i:Nat):Stmt:=PySem.Challenge.pw_playboard_k13_moves.main.body.getD i (.Pass ⟨0,0,0,0⟩)
abbrev sC:Stmt:=top 0
abbrev dw:Stmt:=top 6
theorem oQ:az ["thing"] ["thing"] (ak dw):=⟨rfl,rfl,rfl,by decide+kernel,rfl,by decide+kernel,by decide+kernel⟩
abbrev cV:Stmt:=top 7
theorem mK:az ["thing"] ["thing"] (ak cV):=⟨rfl,rfl,rfl,by decide+kernel,rfl,by decide+kernel,by decide+kernel⟩
abbrev dz:Stmt:=top 8
theorem oR:az ["thing","least","most"] ["thing","least","most"] (ak dz):=⟨rfl,rfl,rfl,by decide+kernel,rfl,by decide+kernel,by decide+kernel⟩
abbrev d6:Stmt:=top 17
theorem qI:az ["thing","words"] ["thing","words"] (ak d6):=⟨rfl,rfl,rfl,by decide+kernel,rfl,by decide+kernel,by decide+kernel⟩
abbrev ck:Stmt:=top 18
theorem jZ:az ["thing","many"] ["thing","many"] (ak ck):=⟨rfl,rfl,rfl,by decide+kernel,rfl,by decide+kernel,by decide+kernel⟩
abbrev cD:Stmt:=top 19
theorem kW:az ["thing","least","most"] ["thing","least","most"] (ak cD):=⟨rfl,rfl,rfl,by decide+kernel,rfl,by decide+kernel,by decide+kernel⟩
abbrev d7:Stmt:=top 20
theorem j2:az ["sort","across","up","longest"] ["sort","across","up"] (ak d7):=⟨rfl,rfl,rfl,by decide+kernel,rfl,by decide+kernel,by decide+kernel⟩
abbrev d9:Stmt:=top 21
theorem hV:az ["thing","kinds","sort","aim"] ["thing","kinds"] (ak d9):=⟨rfl,rfl,rfl,by decide+kernel,rfl,by decide+kernel,by decide+kernel⟩
abbrev eA:Stmt:=top 22
theorem qJ:az ["thing","firsts","seconds"] ["thing","firsts","seconds"] (ak eA):=⟨rfl,rfl,rfl,by decide+kernel,rfl,by decide+kernel,by decide+kernel⟩
abbrev cr:Stmt:=top 23
theorem mN:az ["thing","firsts","seconds"] ["thing","firsts","seconds"] (ak cr):=⟨rfl,rfl,rfl,by decide+kernel,rfl,by decide+kernel,by decide+kernel⟩
abbrev cn:Stmt:=top 24
theorem jn:az ["thing","kinds","firsts"] ["thing","kinds"] (ak cn):=⟨rfl,rfl,rfl,by decide+kernel,rfl,by decide+kernel,by decide+kernel⟩
abbrev eB:Stmt:=top 25
theorem qK:az ["thing","kinds"] ["thing","kinds"] (ak eB):=⟨rfl,rfl,rfl,by decide+kernel,rfl,by decide+kernel,by decide+kernel⟩
abbrev cu:Stmt:=top 26
theorem mO:az ["thing"] ["thing"] (ak cu):=⟨rfl,rfl,rfl,by decide+kernel,rfl,by decide+kernel,by decide+kernel⟩
abbrev cp:Stmt:=top 27
theorem mM:az ["thing","kinds"] ["thing","kinds"] (ak cp):=⟨rfl,rfl,rfl,by decide+kernel,rfl,by decide+kernel,by decide+kernel⟩
abbrev d4:Stmt:=top 31
theorem qH:az ["sign"] ["sign"] (ak d4):=⟨rfl,rfl,rfl,by decide+kernel,rfl,by decide+kernel,by decide+kernel⟩
abbrev dZ:Stmt:=top 32
theorem qG:az ["sign"] ["sign"] (ak dZ):=⟨rfl,rfl,rfl,by decide+kernel,rfl,by decide+kernel,by decide+kernel⟩
abbrev cb:Stmt:=top 33
theorem kU:az ["row","side"] ["row","side"] (ak cb):=⟨rfl,rfl,rfl,by decide+kernel,rfl,by decide+kernel,by decide+kernel⟩
abbrev lK:Stmt:=top 35
theorem mJ:az ["board","square","across","up","come_to","here"] ["board","square","across","up"] (ak lK):=⟨rfl,rfl,rfl,by decide+kernel,rfl,by decide+kernel,by decide+kernel⟩
abbrev iT:Stmt:=top 38
theorem jI:az ["row","side","aim","path","found","goal","owner"] ["row","side","aim","path"] (ak iT):=⟨rfl,rfl,rfl,by decide+kernel,rfl,by decide+kernel,by decide+kernel⟩
abbrev fz:Stmt:=top 39
theorem ud:az ["row","side","path"] ["row","side","path"] (ak fz):=⟨rfl,rfl,rfl,by decide+kernel,rfl,by decide+kernel,by decide+kernel⟩
abbrev eC:Stmt:=top 40
theorem hZ:az ["board","row","square","rule","side","path"] ["board","row","square","rule"] (ak eC):=⟨rfl,rfl,rfl,by decide+kernel,rfl,by decide+kernel,by decide+kernel⟩
abbrev gP:Stmt:=top 41
theorem j3:az ["game","row","square","found","rule"] ["game","row","square"] (ak gP):=⟨rfl,rfl,rfl,by decide+kernel,rfl,by decide+kernel,by decide+kernel⟩
abbrev cW:Stmt:=top 43
theorem mL:az ["wide","square"] ["wide","square"] (ak cW):=⟨rfl,rfl,rfl,by decide+kernel,rfl,by decide+kernel,by decide+kernel⟩
abbrev fv:Stmt:=top 44
theorem uc:az ["wide","square"] ["wide","square"] (ak fv):=⟨rfl,rfl,rfl,by decide+kernel,rfl,by decide+kernel,by decide+kernel⟩
abbrev cU:Stmt:=top 45
theorem mI:az ["wide","column","row"] ["wide","column","row"] (ak cU):=⟨rfl,rfl,rfl,by decide+kernel,rfl,by decide+kernel,by decide+kernel⟩
abbrev fM:Stmt:=top 47
theorem ik:az ["game","place","row","found","start"] ["game","place"] (ak fM):=⟨rfl,rfl,rfl,by decide+kernel,rfl,by decide+kernel,by decide+kernel⟩
abbrev cw:Stmt:=top 50
theorem mP:az ["thing","many"] ["thing","many"] (ak cw):=⟨rfl,rfl,rfl,by decide+kernel,rfl,by decide+kernel,by decide+kernel⟩
abbrev bu:Stmt:=eT (top 51) 0
theorem il:az ["self","wide","high","holes"] ["self","wide","high","holes"] (ak bu):=⟨rfl,rfl,rfl,by decide+kernel,rfl,by decide+kernel,by decide+kernel⟩
abbrev jo:Stmt:=eT (top 51) 1
abbrev fX:Stmt:=eT (top 51) 2
abbrev cm:Stmt:=eT (top 51) 3
theorem dg:az ["self","square","across","up","column","row","goal"] ["self","square","across","up"] (ak cm):=⟨rfl,rfl,rfl,by decide+kernel,rfl,by decide+kernel,by decide+kernel⟩
abbrev fY:Stmt:=eT (top 51) 4
abbrev bJ:Stmt:=eT (top 53) 0
theorem iS:az ["self","board","kinds","rules","turns","ends","stuck"] ["self","board","kinds","rules","turns","ends","stuck"] (ak bJ):=⟨rfl,rfl,rfl,by decide+kernel,rfl,by decide+kernel,by decide+kernel⟩
abbrev bA:Stmt:=eT (top 53) 1
theorem iR:az ["self","kind"] ["self","kind"] (ak bA):=⟨rfl,rfl,rfl,by decide+kernel,rfl,by decide+kernel,by decide+kernel⟩
abbrev gY:Stmt:=eT (top 53) 2
abbrev bR:Stmt:=top 55
theorem jx:az ["_law_script","_law_k"] ["_law_script","_law_k"] (ak bR):=⟨rfl,rfl,rfl,by decide+kernel,rfl,by decide+kernel,by decide+kernel⟩
abbrev cF:Stmt:=top 56
theorem kY:az ["_law_cell","_law_k"] ["_law_cell","_law_k"] (ak cF):=⟨rfl,rfl,rfl,by decide+kernel,rfl,by decide+kernel,by decide+kernel⟩
abbrev cE:Stmt:=top 57
theorem kX:az ["_law_thing"] ["_law_thing"] (ak cE):=⟨rfl,rfl,rfl,by decide+kernel,rfl,by decide+kernel,by decide+kernel⟩
abbrev cH:Stmt:=top 58
theorem bi:az ["_law_script","_law_cell","_law_wide","_law_high","_law_holes","_law_k","_law_hole"] ["_law_script"] (ak cH):=⟨rfl,rfl,rfl,by decide+kernel,rfl,by decide+kernel,by decide+kernel⟩
abbrev cf:Stmt:=top 59
theorem fc:az ["_law_cell","_law_letters","_law_step_here"] ["_law_cell"] (ak cf):=⟨rfl,rfl,rfl,by decide+kernel,rfl,by decide+kernel,by decide+kernel⟩
abbrev cZ:Stmt:=top 60
theorem bx:az ["_law_cell","_law_kinds_here","_law_more","_law_sort","_law_aim","_law_reach","_law_across","_law_up"] ["_law_cell","_law_kinds_here"] (ak cZ):=⟨rfl,rfl,rfl,by decide+kernel,rfl,by decide+kernel,by decide+kernel⟩
abbrev cc:Stmt:=top 61
theorem dD:az ["_law_cell","_law_kinds_here","_law_many","_law_other","_law_turns_here"] ["_law_cell","_law_kinds_here"] (ak cc):=⟨rfl,rfl,rfl,by decide+kernel,rfl,by decide+kernel,by decide+kernel⟩
abbrev db:Stmt:=top 62
theorem aO:az ["_law_script","_law_wide","_law_high","_law_holes","_law_kinds_here","_law_cell","_law_rules","_law_k","_law_turns_here","_law_ends","_law_more","_law_stuck"] ["_law_script"] (ak db):=⟨rfl,rfl,rfl,by decide+kernel,rfl,by decide+kernel,by decide+kernel⟩
abbrev bP:Stmt:=top 63
theorem bg:az ["_law_script","_law_game_here","_law_start","_law_size","_law_free","_law_signs","_law_cell","_law_cells","_law_spots","_law_k","_law_square","_law_more","_law_kind"] ["_law_script","_law_game_here","_law_start"] (ak bP):=⟨rfl,rfl,rfl,by decide+kernel,rfl,by decide+kernel,by decide+kernel⟩
abbrev cY:Stmt:=top 64
theorem mQ:az ["_law_sign"] ["_law_sign"] (ak cY):=⟨rfl,rfl,rfl,by decide+kernel,rfl,by decide+kernel,by decide+kernel⟩
abbrev cX:Stmt:=top 65
theorem dW:az ["_law_game_here","_law_square","_law_across","_law_up","_law_column","_law_row_here","_law_goal"] ["_law_game_here","_law_square","_law_across","_law_up"] (ak cX):=⟨rfl,rfl,rfl,by decide+kernel,rfl,by decide+kernel,by decide+kernel⟩
abbrev bS:Stmt:=top 66
theorem bo:az ["_law_game_here","_law_row_here","_law_square","_law_rule_here","_law_side_here","_law_across","_law_up","_law_goal","_law_found","_law_behind"] ["_law_game_here","_law_row_here","_law_square","_law_rule_here"] (ak bS):=⟨rfl,rfl,rfl,by decide+kernel,rfl,by decide+kernel,by decide+kernel⟩
abbrev cg:Stmt:=top 67
theorem dF:az ["_law_game_here","_law_row_here","_law_square","_law_found","_law_rule_here"] ["_law_game_here","_law_row_here","_law_square"] (ak cg):=⟨rfl,rfl,rfl,by decide+kernel,rfl,by decide+kernel,by decide+kernel⟩
abbrev ce:Stmt:=top 68
theorem dE:az ["_law_game_here","_law_place","_law_found","_law_start"] ["_law_game_here","_law_place"] (ak ce):=⟨rfl,rfl,rfl,by decide+kernel,rfl,by decide+kernel,by decide+kernel⟩
abbrev bO:Stmt:=top 69
theorem gq:az ["_law_found","_law_due","_law_one"] ["_law_found","_law_due"] (ak bO):=⟨rfl,rfl,rfl,by decide+kernel,rfl,by decide+kernel,by decide+kernel⟩
abbrev da:Stmt:=top 70
theorem fL:az ["_law_game_here","_law_place","_law_due","_law_found"] ["_law_game_here","_law_place"] (ak da):=⟨rfl,rfl,rfl,by decide+kernel,rfl,by decide+kernel,by decide+kernel⟩
abbrev bf:Stmt:=top 71
theorem cK:az ["_law_script","_law_game_here","_law_kinds_here","_law_rules"] ["_law_script","_law_game_here"] (ak bf):=⟨rfl,rfl,rfl,by decide+kernel,rfl,by decide+kernel,by decide+kernel⟩
abbrev im:Stmt:=top 72
theorem hU:az ["_law_script","_law_game_here","_law_other","_law_rows","_law_side_here","_law_row_here","_law_one"] ["_law_script"] (ak im):=⟨rfl,rfl,rfl,by decide+kernel,rfl,by decide+kernel,by decide+kernel⟩
structure Txt (mg:Str->Option Value) (aS aA aE aW:Addr):Prop where
 isinstance:mg "isinstance"=none
 int:mg "int"=none
 bool:mg "bool"=none
 str:mg "str"=none
 list:mg "list"=none
 tuple:mg "tuple"=none
 len:mg "len"=none
 range:mg "range"=none
 all:mg "all"=none
 any:mg "any"=none
 set:mg "set"=none
 sorted:mg "sorted"=none
 min:mg "min"=none
 enumerate:mg "enumerate"=none
 NOTHING:∃u,mg "NOTHING"=some u/\aN (.int (-1)) u
 EMPTY:∃u,mg "EMPTY"=some u/\aN (.str ".") u
 HOLE:∃u,mg "HOLE"=some u/\aN (.str "#") u
 MOST_PAIRS:∃u,mg "MOST_PAIRS"=some u/\aN (.int 6) u
 MOST_KINDS:∃u,mg "MOST_KINDS"=some u/\aN (.int 6) u
 MOST_RULES:∃u,mg "MOST_RULES"=some u/\aN (.int 24) u
 LONGEST:∃u,mg "LONGEST"=some u/\aN (.int 8) u
 SORTS:∃u,mg "SORTS"=some u/\aN (.ref aS) u
 AIMS:∃u,mg "AIMS"=some u/\aN (.ref aA) u
 END_WORDS:∃u,mg "END_WORDS"=some u/\aN (.ref aE) u
 STUCK_WORDS:∃u,mg "STUCK_WORDS"=some u/\aN (.ref aW) u
section
variable {P:Program}{w:World}{K:Frag}{mg:Str->Option Value}{base:Heap}{aS aA aE aW:Addr}
theorem pD {f:Addr}{fd:FuncData}(F:Fun K "is_whole" "is_whole" dw f fd) (T:Txt mg aS aA aE aW):ba P w K mg base CX0 1 f fd ["thing"] jT:=by
 refine F.ok oQ (λ vs H Q E h=>?_) (λ cdv A outer s H vs Q E hr h=>?_)
 ·obtain ⟨v,rfl,_⟩:=h
  rfl
 ·obtain ⟨v,rfl,t,q⟩:=h
  refine ⟨_,(aj (ay (dB (kis .int T.isinstance T.int oi (cv 0)) (dO (yM (kis .bool T.isinstance T.bool tP (cv 0))))))),?_⟩
  show cJ _ _ [some v] H
  refine aG (cC (lW (aa rfl) t) (λ _=>ym (lW (aa rfl) t))) ?_
  rw [wB t]
  exact q
theorem pF {f:Addr}{fd:FuncData}(F:Fun K "is_among" "is_among" dz f fd) (T:Txt mg aS aA aE aW) (C:RG0 P w K mg base):ba P w K mg base CX0 2 f fd ["thing","least","most"] jW:=by
 refine F.ok oR (λ vs H Q E h=>?_) (λ cdv A outer s H vs Q E hr h=>?_)
 ·obtain ⟨v,a,b,rfl,_⟩:=h
  rfl
 ·obtain ⟨v,a,b,rfl,t,q⟩:=h
  have hu:=bQ hr
  refine ⟨_,(aj (ay (dB (aB C.is_whole hr (pac (cv 0) pa_nil)) (dO (rA K hu (cv 1) (cv 0) (cv 2)))))),?_⟩
  show cJ _ _ [some v,some (.int a),some (.int b)] H
  have hc:=aD (sp:=jT) (σ:=[some v,some (.int a),some (.int b)]) (H:=H) (ad (aa (n:=0) rfl) au) (λ Q q=>⟨v,rfl,t,q⟩)
  cases v with
  | int i=>exact aG (cC hc (λ _=>tF (aa rfl) (aa rfl) (λ _=>aa rfl))) q
  | _=>exact aG (cC (b:=false) hc (λ h=>by cases h)) q
theorem qV {f:Addr}{fd:FuncData}(F:Fun K "is_word" "is_word" d6 f fd) (T:Txt mg aS aA aE aW):ba P w K mg base CX0 1 f fd ["thing","words"] (gO K):=by
 refine F.ok qI (λ vs H Q E h=>?_) (λ cdv A outer s H vs Q E hr h=>?_)
 ·obtain ⟨v,d,ws,rfl,_⟩:=h
  rfl
 ·obtain ⟨v,d,ws,rfl,t,hw,q⟩:=h
  have hu:=bQ hr
  refine ⟨_,(aj (ay (dB (kis .str T.isinstance T.str yR (cv 0)) (dO (iB K hu (cv 0) (cv 1)))))),?_⟩
  show cJ _ _ [some v,some (.ref d)] H
  have hs:=lW (T:=.str) (te:=iH 0) (σ:=[some v,some (.ref d)]) (aa rfl) t
  rw [wM t] at hs
  cases v with
  | str z=>exact aG (cC hs (λ _=>yo (aa rfl) (aa rfl) hw)) q
  | _=>exact aG (cC (b:=false) hs (λ h=>by cases h)) q
theorem j9 {f:Addr}{fd:FuncData}(F:Fun K "is_tuple_of" "is_tuple_of" ck f fd) (T:Txt mg aS aA aE aW):ba P w K mg base CX0 1 f fd ["thing","many"] iO:=by
 refine F.ok jZ (λ vs H Q E h=>?_) (λ cdv A outer s H vs Q E hr h=>?_)
 ·obtain ⟨v,n,rfl,_⟩:=h
  rfl
 ·obtain ⟨v,n,rfl,t,q⟩:=h
  have hu:=bQ hr
  refine ⟨_,(aj (ay (dB (kis .tuple T.isinstance T.tuple qh (cv 0)) (dO (iB K hu (kB (gB K) bW T.len (pac (cv 0) pa_nil)) (cv 1)))))),?_⟩
  show cJ _ _ [some v,some (.int n)] H
  have hs:=lW (T:=.tuple) (te:=iH 0) (σ:=[some v,some (.int n)]) (aa rfl) t
  rw [tup_is t] at hs
  unfold tupB at q
  cases e:tupOf H v with
  | none=>
    rw [e] at hs q
    exact aG (cC (b:=false) hs (λ h=>by cases h)) q
  | some xs=>
    rw [e] at hs q
    obtain ⟨a,rfl,ha⟩:=fI e
    exact aG (cC hs (λ _=>g8 (dk (aa rfl) (.inr (SqT.of ha))) (aa rfl))) q
theorem la {f:Addr}{fd:FuncData}(F:Fun K "is_list_of" "is_list_of" cD f fd) (T:Txt mg aS aA aE aW):ba P w K mg base CX0 1 f fd ["thing","least","most"] mt:=by
 refine F.ok kW (λ vs H Q E h=>?_) (λ cdv A outer s H vs Q E hr h=>?_)
 ·obtain ⟨v,a,b,rfl,_⟩:=h
  rfl
 ·obtain ⟨v,a,b,rfl,t,q⟩:=h
  have hu:=bQ hr
  refine ⟨_,(aj (ay (dB (kis .list T.isinstance T.list eX (cv 0)) (dO (rA K hu (cv 1) (kB (gB K) bW T.len (pac (cv 0) pa_nil)) (cv 2)))))),?_⟩
  show cJ _ _ [some v,some (.int a),some (.int b)] H
  have hs:=lW (T:=.list) (te:=iH 0) (σ:=[some v,some (.int a),some (.int b)]) (aa rfl) t
  rw [lst_is t] at hs
  unfold i6 at q
  cases e:lstOf H v with
  | none=>
    rw [e] at hs q
    exact aG (cC (b:=false) hs (λ h=>by cases h)) q
  | some xs=>
    rw [e] at hs q
    obtain ⟨d,rfl,hd⟩:=eM e
    exact aG (cC hs (λ _=>tF (aa rfl) (dk (aa rfl) (.inl (SqL.of hd))) (λ _=>aa rfl))) q
theorem qW {f:Addr}{fd:FuncData}(F:Fun K "is_step" "is_step" d7 f fd) (T:Txt mg aS aA aE aW) (C:RG1 P w K mg base):ba P w K mg base CX0 3 f fd ["sort","across","up"] si:=by
 refine F.ok j2 (λ vs H Q E h=>?_) (λ cdv A outer s H vs Q E hr h=>?_)
 ·obtain ⟨so,x,y,rfl,_⟩:=h
  rfl
 ·obtain ⟨so,x,y,rfl,tx,ty,q⟩:=h
  have hu:=bQ hr
  refine ⟨_,(ae (aw (i:=3) j2.nd rfl (Or.inl rfl) (dH (aJ K hu (cv 0) bn) ag ag))
   (ae (aR (PW.pt (dR (bm (bq (aB C.is_among hr (pac (cv 1) (pac (kM (cv 3)) (pac (cv 3) pa_nil)))))) (cP (bm (bq (aB C.is_among hr (pac (cv 2) (pac (kM (cv 3)) (pac (cv 3) pa_nil))))))))) (aj (ay eK)) aC)
   (aj (ay (ce_or (iB K hu (cv 1) ag) (dO (iB K hu (cv 2) ag))))))),?_⟩
  show bj _ _ _ [some (.str so),some x,some y,none] H
  refine aM (v:=.int (limS so)) (λ Q q=>?_) ?_
  ·refine evk (yq (aQ (dl (aa rfl) am)) (λ _=>am) (λ _=>am)) ?_
   unfold limS at q
   by_cases h:so="leap"
   ·rw [if_pos h] at q
    rw [decide_eq_true h]
    exact q
   ·rw [if_neg h] at q
    rw [decide_eq_false h]
    exact q
  unfold jm at q
  generalize limS so=l at q ⊢
  refine aV (fW (bM (aQ (aD (ad (aa rfl) (ad (kE (aa rfl)) (ad (aa rfl) au))) (λ Q q=>⟨x, -l,l,rfl,tx,q⟩)))) (λ _=>bM (aQ (aD (ad (aa rfl) (ad (kE (aa rfl)) (ad (aa rfl) au))) (λ Q q=>⟨y, -l,l,rfl,ty,q⟩))))) (λ h=>?_) (λ h=>?_)
  ·refine aG am ?_
   have e:(amongB x (-l) l&&amongB y (-l) l&& !(decide (x=.int 0)&&decide (y=.int 0)))=false:=by
    cases h1:amongB x (-l) l<;>cases h2:amongB y (-l) l<;>simp_all
   rw [e] at q
   exact q
  ·have h1:amongB x (-l) l=true:=by cases h1:amongB x (-l) l<;>simp_all
   have h2:amongB y (-l) l=true:=by cases h2:amongB y (-l) l<;>simp_all
   cases x with
   | int i=>
     cases y with
     | int j=>
       refine aG (ev_or (tm (aa rfl) am) (λ _=>tm (aa rfl) am)) ?_
       rw [h1,h2] at q
       have ei:∀k:Int,decide (V.int k=V.int 0)=decide (k=0):=λ k=>by
        by_cases e:k=0
        ·rw [decide_eq_true e,decide_eq_true (congrArg V.int e)]
        ·rw [decide_eq_false e,decide_eq_false (λ z=>e (by injection z))]
       rw [ei,ei] at q
       have e:(true&&true&& !(decide (i=0)&&decide (j=0)))=(!decide (i=0)|| !decide (j=0)):=by
        cases decide (i=0)<;>cases decide (j=0)<;>rfl
       rw [e] at q
       exact q
     | _=>cases h2
   | _=>cases h1
theorem qY {f:Addr}{fd:FuncData}(F:Fun K "is_pair" "is_pair" eA f fd) (T:Txt mg aS aA aE aW) (C:RG2 P w K mg base):ba P w K mg base CX0 2 f fd ["thing","firsts","seconds"] (sk K):=by
 refine F.ok qJ (λ vs H Q E h=>?_) (λ cdv A outer s H vs Q E hr h=>?_)
 ·obtain ⟨v,d,e,A,B,rfl,_⟩:=h
  rfl
 ·obtain ⟨v,d,e,A,B,rfl,t,hA,hB,q⟩:=h
  have hu:=bQ hr
  refine ⟨_,(aj (ay (dB (aB C.is_tuple_of hr (pac (cv 0) (pac ag pa_nil))) (dB (aB C.is_word hr (pac (kix K (cv 0) ag) (pac (cv 1) pa_nil))) (dO (aB C.is_word hr (pac (kix K (cv 0) ag) (pac (cv 2) pa_nil)))))))),?_⟩
  show cJ _ _ [some v,some (.ref d),some (.ref e)] H
  have hc:=aD (sp:=iO) (σ:=[some v,some (.ref d),some (.ref e)]) (H:=H) (x:=.bl (tupB H v 2)) (ad (aa (n:=0) rfl) (ad (am (x:=.int 2)) au)) (λ Q q=>⟨v,2,rfl,t.thg,q⟩)
  unfold di at q
  unfold tupB at hc
  cases e1:tupOf H v with
  | none=>
    rw [e1] at hc q
    exact aG (cC (b:=false) hc (λ h=>by cases h)) q
  | some xs=>
    rw [e1] at hc q
    obtain ⟨a,rfl,ha⟩:=fI e1
    have tx:=t.2 xs (.inl e1)
    by_cases hl:(xs.length:Int)=2
    ·match xs,hl,e1,ha,tx,q,hc with
     | [x,y],_,e1,ha,tx,q,hc=>
       exact aG (cC hc (λ _=>cC (aD (ad (aT (aa rfl) am (.inr (SqT.of ha)) (bz (j:=0) rfl)) (ad (aa rfl) au)) (λ Q q=>⟨x,d,A,rfl,tx x (by simp),hA,q⟩))
        (λ _=>aD (ad (aT (aa rfl) am (.inr (SqT.of ha)) (bz (j:=1) rfl)) (ad (aa rfl) au)) (λ Q q=>⟨y,e,B,rfl,tx y (by simp),hB,q⟩)))) q
    ·have e2:pC xs A B=false:=by
      unfold pC
      split
      ·exact absurd rfl hl
      ·rfl
     have hc2:Ev (dq iO (bh (iH 0) (bh (tC (.int 2)) cO))) [some (.ref a),some (.ref d),some (.ref e)] H (.bl (decide ((xs.length:Int)=2))):=hc
     rw [decide_eq_false hl] at hc2
     have q2:Q (.bl (pC xs A B)) H:=q
     rw [e2] at q2
     exact aG (cC (b:=false) hc2 (λ h=>by cases h)) q2
theorem qX {f:Addr}{fd:FuncData}(F:Fun K "is_rule" "is_rule" d9 f fd) (T:Txt mg aS aA aE aW) (hS:∀H,gc K H aS sortsL) (hA:∀H,gc K H aA aimsL) (C:RG3 P w K mg base):ba P w K mg base CX0 4 f fd ["thing","kinds"] (sj K):=by
 refine F.ok hV (λ vs H Q E h=>?_) (λ cdv A outer s H vs Q E hr h=>?_)
 ·obtain ⟨v,d,ws,rfl,_⟩:=h
  rfl
 ·obtain ⟨v,d,ws,rfl,t,hw,q⟩:=h
  have hu:=bQ hr
  refine ⟨_,(ae (aR (PW.pt (dR (bm (bq (aB C.is_tuple_of hr (pac (cv 0) (pac ag pa_nil))))) (cP (bm (bq (aB C.is_word hr (pac (kix K (cv 0) ag) (pac (cv 1) pa_nil)))))))) (aj (ay eK)) aC)
   (ae (aw (i:=2) hV.nd rfl (Or.inl rfl) (kix K (cv 0) ag))
   (ae (aw (i:=3) hV.nd rfl (Or.inl rfl) (kix K (cv 0) ag))
   (ae (aR (PW.pt (dR (bm (bq (aB C.is_word hr (pac (cv 2) (pac (kg T.SORTS) pa_nil))))) (cP (bm (bq (aB C.is_word hr (pac (cv 3) (pac (kg T.AIMS) pa_nil)))))))) (aj (ay eK)) aC)
   (ae (aR (PW.pt (fO (aJ K hu (cv 2) bn) (eS (aJ K hu (cv 3) bn)))) (aj (ay eK)) aC)
   (aj (ay (aB C.is_step hr (pac (cv 2) (pac (kix K (cv 0) ag) (pac (kix K (cv 0) ag) pa_nil))))))))))),?_⟩
  show bj _ _ _ [some v,some (.ref d),none,none] H
  have rb:tupB H v 5=false->dh H v ws=false:=λ h=>by
   unfold tupB at h
   unfold dh
   cases e1:tupOf H v with
   | none=>rfl
   | some xs=>
     rw [e1] at h
     have h:¬(xs.length:Int)=5:=of_decide_eq_false h
     show gZ xs ws=false
     unfold gZ
     split
     ·exact absurd rfl h
     ·rfl
  cases hb0:tupB H v 5 with
  | false=>
    rw [rb hb0] at q
    refine aV (fW (b:=false) (bM (aQ (aD (sp:=iO) (x:=.bl (tupB H v 5)) (ad (aa rfl) (ad am au)) (λ Q q=>⟨v,5,rfl,t.thg,q⟩)))) (λ h=>?_)) (λ _=>aG am q) (λ h=>?_)
    ·rw [hb0] at h; cases h
    ·rw [hb0] at h; cases h
  | true=>
    obtain ⟨xs,e1,hl⟩:∃xs,tupOf H v=some xs/\(xs.length:Int)=5:=by
     unfold tupB at hb0
     cases e1:tupOf H v with
     | none=>rw [e1] at hb0; cases hb0
     | some xs=>rw [e1] at hb0; exact ⟨xs,rfl,of_decide_eq_true hb0⟩
    unfold dh at q
    rw [e1] at q
    have q:Q (.bl (gZ xs ws)) H:=q
    obtain ⟨a,rfl,ha⟩:=fI e1
    have tx:=t.2 xs (.inl e1)
    match xs,hl,e1,ha,tx,q with
    | [k,so,ai,x,y],_,e1,ha,tx,q=>
      have hq:SqT K H a [k,so,ai,x,y]:=SqT.of ha
      have hb:tupB H (.ref a) 5=true:=by unfold tupB; rw [e1]; rfl
      refine aV (fW (bM (aQ (aD (sp:=iO) (x:=.bl (tupB H (.ref a) 5)) (ad (aa rfl) (ad am au)) (λ Q q=>⟨.ref a,5,rfl,t.thg,q⟩)))) (λ _=>bM (aQ (aD (sp:=gO K) (ad (aT (aa rfl) am (.inr hq) (bz (j:=0) rfl)) (ad (aa rfl) au)) (λ Q q=>⟨k,d,ws,rfl,tx k (by simp),hw,q⟩))))) (λ h=>?_) (λ h=>?_)
      ·rw [hb] at h
       have hk:wordB k ws=false:=by
        cases hk:wordB k ws
        ·rfl
        ·rw [hk] at h; cases h
       refine aG am ?_
       have e2:gZ [k,so,ai,x,y] ws=false:=by
        unfold gZ
        split
        ·rename_i z; cases z; rw [hk]; simp
        ·rfl
       rw [e2] at q
       exact q
      ·rw [hb] at h
       have hk:wordB k ws=true:=by
        cases hk:wordB k ws
        ·rw [hk] at h; cases h
        ·rfl
       refine aM (v:=so) (aT (aa rfl) am (.inr hq) (bz (j:=1) rfl)) ?_
       refine aM (v:=ai) (aT (aa rfl) am (.inr hq) (bz (j:=2) rfl)) ?_
       refine aV (fW (bM (aQ (aD (sp:=gO K) (ad (aa rfl) (ad am au)) (λ Q q=>⟨so,aS,sortsL,rfl,tx so (by simp),hS H,q⟩)))) (λ _=>bM (aQ (aD (sp:=gO K) (ad (aa rfl) (ad am au)) (λ Q q=>⟨ai,aA,aimsL,rfl,tx ai (by simp),hA H,q⟩))))) (λ h=>?_) (λ h=>?_)
       ·refine aG am ?_
        have e2:gZ [k,so,ai,x,y] ws=false:=by
         unfold gZ
         split
         ·rename_i k' so' ai' x' y' z
          cases z
          have h:(!decide (so'∈sortsL)|| !decide (ai'∈aimsL))=true:=h
          cases h1:decide (so'∈sortsL)<;>cases h2:decide (ai'∈aimsL)<;>simp_all
         ·rfl
        rw [e2] at q
        exact q
       ·have h1:wordB so sortsL=true:=by cases h1:wordB so sortsL<;>simp_all
        have h2:wordB ai aimsL=true:=by cases h2:wordB ai aimsL<;>simp_all
        cases so with
        | str so=>
          cases ai with
          | str ai=>
            have h1:decide (so∈sortsL)=true:=h1
            have h2:decide (ai∈aimsL)=true:=h2
            have eR:gZ [k,.str so,.str ai,x,y] ws=(!(decide (so="jump")&& !decide (ai="hit"))&&jm so x y):=by
             show (wordB k ws&&decide (so∈sortsL)&&decide (ai∈aimsL)&& !(decide (so="jump")&& !decide (ai="hit"))&&jm so x y)=_
             rw [hk,h1,h2]
             simp
            rw [eR] at q
            refine aV (fH (aQ (dl (aa rfl) am)) (λ _=>aQ (jc (aa rfl) am))) (λ h=>?_) (λ h=>?_)
            ·refine aG am ?_
             rw [h] at q
             exact q
            ·rw [h] at q
             exact eW (ad (aa rfl) (ad (aT (aa rfl) am (.inr hq) (bz (j:=3) rfl)) (ad (aT (aa rfl) am (.inr hq) (bz (j:=4) rfl)) au))) ⟨so,x,y,rfl,tx x (by simp),tx y (by simp),q⟩
          | _=>cases h2
        | _=>cases h1
theorem nH {f:Addr}{fd:FuncData}(F:Fun K "are_pairs" "are_pairs" cr f fd) (T:Txt mg aS aA aE aW) (C:RG4 P w K mg base):ba P w K mg base CX0 3 f fd ["thing","firsts","seconds"] (oF K):=by
 refine F.ok mN (λ vs H Q E h=>?_) (λ cdv A outer s H vs Q E hr h=>?_)
 ·obtain ⟨v,d,e,A,B,rfl,_⟩:=h
  rfl
 ·obtain ⟨v,d,e,A,B,rfl,t,hA,hB,q⟩:=h
  have hu:=bQ hr
  refine ⟨_,(aj (ay (dB (aB C.is_list_of hr (pac (cv 0) (pac ag (pac (kg T.MOST_PAIRS) pa_nil)))) (dO (kB (kall K) om T.all (pac (eO (bV (N:=["part","firsts","seconds"]) (src:=[none,some 1,some 2]) (ak cr) ["thing","firsts","seconds"]) (kpl K (cv 0)) (λ _ _ _=>(aX (i:=0) ["part","firsts","seconds"])) (λ _ _ _=>bG) (λ _ _ _=>(aB C.is_pair hr (pac (cv 0) (pac (cv 1) (pac (cv 2) pa_nil)))))) pa_nil)))))),?_⟩
  show cJ _ _ [some v,some (.ref d),some (.ref e)] H
  refine yW (a:=i6 H v 0 6) (aD (ad (aa rfl) (ad am (ad am au))) (λ Q q=>⟨v,0,6,rfl,t.thg,q⟩)) (λ h=>?_) (λ h=>?_)
  ·unfold i6 at h
   cases e1:lstOf H v with
   | none=>rw [e1] at h; cases h
   | some xs=>
     rw [e1] at h
     have h:0<=(xs.length:Int)/\(xs.length:Int)<=6:=of_decide_eq_true h
     obtain ⟨a,rfl,ha⟩:=eM e1
     have tx:=t.2 xs (.inr e1)
     refine eV (d:=a) (xs:=xs) (rest:=[some (.ref d),some (.ref e)]) (aa rfl) (SqL.of ha) (by rw [sizeLine_eq]; lia) rfl (λ _=>true) (λ x=>.bl (di H x A B)) (λ x hx=>df) (λ x hx _=>?_) (λ p hp=>?_)
     ·exact aD (ad (aa rfl) (ad (aa rfl) (ad (aa rfl) au))) (λ Q q=>⟨x,d,e,A,B,rfl,tx x hx,hA,hB,q⟩)
     ·refine ⟨xs.map (λ x=>di H x A B),?_,?_⟩
      ·have e2:(xs.filter λ _=>true).map (λ x=>V.bl (di H x A B))=(xs.map (λ x=>di H x A B)).map V.bl:=by
        rw [zG.mpr (λ _ _=>rfl),zk]
        rfl
       rw [<-e2]
       exact SqL.of af
      ·have k:=q _ ((ah.refl H).upd (o:=.lst ((xs.filter λ _=>true).map (λ x=>V.bl (di H x A B)))) hp)
       unfold pairsB at k
       rw [e1] at k
       have e3:(decide (xs.length<=6)&&xs.all (λ x=>di H x A B))=(xs.map (λ x=>di H x A B)).all id:=by
        rw [decide_eq_true (by lia:xs.length<=6),AE]
        rfl
       have k:Q (.bl (decide (xs.length<=6)&&xs.all (λ x=>di H x A B))) _:=k
       rw [e3] at k
       exact k
  ·have k:=q H (ah.refl H)
   have e2:pairsB H v A B=false:=by
    unfold pairsB
    unfold i6 at h
    cases e1:lstOf H v with
    | none=>rfl
    | some xs=>
      rw [e1] at h
      have h:¬(0<=(xs.length:Int)/\(xs.length:Int)<=6):=of_decide_eq_false h
      show (decide (xs.length<=6)&&_)=false
      rw [decide_eq_false (by lia:¬xs.length<=6)]
      rfl
   rw [e2] at k
   exact k
theorem qZ {f:Addr}{fd:FuncData}(F:Fun K "is_ends" "is_ends" eB f fd) (T:Txt mg aS aA aE aW) (hE:∀H,gc K H aE gb) (C:RG5 P w K mg base):ba P w K mg base CX0 4 f fd ["thing","kinds"] (sA K):=by
 refine F.ok qK (λ vs H Q E h=>?_) (λ cdv A outer s H vs Q E hr h=>?_)
 ·obtain ⟨v,d,ws,rfl,_⟩:=h
  rfl
 ·obtain ⟨v,d,ws,rfl,t,hw,q⟩:=h
  refine ⟨_,(aj (ay (aB C.are_pairs hr (pac (cv 0) (pac (kg T.END_WORDS) (pac (cv 1) pa_nil)))))),?_⟩
  show cJ _ _ [some v,some (.ref d)] H
  exact eW (ad (aa rfl) (ad am (ad (aa rfl) au))) ⟨v,aE,d,gb,ws,rfl,t,hE H,hw,q⟩
theorem pE {f:Addr}{fd:FuncData}(F:Fun K "is_turns" "is_turns" cn f fd) (T:Txt mg aS aA aE aW) (C:RG5 P w K mg base):ba P w K mg base CX0 4 f fd ["thing","kinds"] (oB K):=by
 refine F.ok jn (λ vs H Q E h=>?_) (λ cdv A outer s H vs Q E hr h=>?_)
 ·obtain ⟨v,d,ws,rfl,_⟩:=h
  rfl
 ·obtain ⟨v,d,ws,rfl,t,hw,q⟩:=h
  have hu:=bQ hr
  refine ⟨_,(ae (aR (bm (bq (aB C.are_pairs hr (pac (cv 0) (pac (cv 1) (pac (cv 1) pa_nil)))))) (aj (ay eK)) aC)
   (ae (aw (i:=2) jn.nd rfl (Or.inr rfl) (eO (bV (N:=["pair"]) (src:=[none]) (ak cn) ["thing","kinds","firsts"]) (kpl K (cv 0)) (λ _ _ _=>(aX (i:=0) ["pair"])) (λ _ _ _=>bG) (λ _ _ _=>(kix K (cv 0) ag))))
   (ae (aR (bq (kB (kany K) bo_any T.any (pac (eO (bV (N:=["pair","firsts"]) (src:=[none,some 2]) (ak cn) ["thing","kinds","firsts"]) (kpl K (cv 0)) (λ _ _ _=>(aX (i:=0) ["pair","firsts"])) (λ _ _ _=>bG) (λ _ _ _=>(iB K hu (kix K (cv 0) ag) (cv 1)))) pa_nil))) (aj (ay eK)) aC)
   (aj (ay (iB K hu (kB kN bW T.len (pac (kTy (ksetS K hr) oh T.set (pac (cv 2) pa_nil)) pa_nil)) (kB (gB K) bW T.len (pac (cv 2) pa_nil)))))))),?_⟩
  show bj _ _ _ [some v,some (.ref d),none] H
  refine dL (λ b H'=>b=(!pairsB H v ws ws)/\ah H H') (λ Q q=>jd (ad (aa rfl) (ad (aa rfl) (ad (aa rfl) au))) ⟨v,d,d,ws,ws,rfl,t,hw,hw,λ H' s=>q _ _ ⟨rfl,s⟩⟩) (λ H1 h=>?_) (λ H1 h=>?_)
  ·obtain ⟨hb,s1⟩:=h
   have k:=q H1 s1
   have e0:pairsB H v ws ws=false:=by
    cases z:pairsB H v ws ws
    ·rfl
    ·rw [z] at hb; cases hb
   unfold eE at k
   rw [e0] at k
   exact aG am k
  ·obtain ⟨hb,s1⟩:=h
   have e0:pairsB H v ws ws=true:=by
    cases z:pairsB H v ws ws
    ·rw [z] at hb; cases hb
    ·rfl
   unfold eE at q
   rw [e0] at q
   obtain ⟨xs,e1,l6,hp⟩:=uu e0
   rw [e1] at q
   have q:∀H',ah H H'->Q (.bl (!(xs.any λ x=>decide (fu H x∈xs.map (ci H)))&&decide ((xs.map (ci H)).Nodup))) H':=q
   obtain ⟨a,rfl,ha⟩:=eM e1
   have ha1:=s1 _ _ ha
   refine bI (λ u H'=> ∃fq,u=.ref fq/\H' fq=some (.lst ((xs.map (ci H)).map V.str))/\ah H1 H') (λ Q q=>?_) ?_
   ·refine eV (d:=a) (xs:=xs) (rest:=[]) (aa rfl) (SqL.of ha1) (by rw [sizeLine_eq]; lia) rfl (λ _=>true) (λ x=>.str (ci H x)) (λ x hx=>df) (λ x hx _=>?_) (λ p hp'=>?_)
    ·obtain ⟨c,f1,f2,rfl,hc⟩:=hp x hx
     have e:ci H (.ref c)=f1:=by simp only [ci,tupOf,hc]
     rw [e]
     exact aT (aa rfl) am (.inr (SqT.of (s1 _ _ hc))) (bz (j:=0) rfl)
    ·have e:(xs.filter λ _=>true).map (λ x=>V.str (ci H x))=(xs.map (ci H)).map V.str:=by
      rw [zG.mpr (λ _ _=>rfl),zk]
      rfl
     rw [e]
     exact q _ _ ⟨p,rfl,af,(ah.refl H1).upd hp'⟩
   rintro _ H2 ⟨fq,rfl,hf,s2⟩
   have ha2:=s2 _ _ ha1
   refine dL (λ b H'=>b=(xs.any λ x=>decide (fu H x∈xs.map (ci H)))/\ah H2 H') (λ Q q=>?_) (λ H3 h=>?_) (λ H3 h=>?_)
   ·refine eV (d:=a) (xs:=xs) (rest:=[some (.ref fq)]) (aa rfl) (SqL.of ha2) (by rw [sizeLine_eq]; lia) rfl (λ _=>true) (λ x=>.bl (decide (fu H x∈xs.map (ci H)))) (λ x hx=>df) (λ x hx _=>?_) (λ p hp'=>?_)
    ·obtain ⟨c,f1,f2,rfl,hc⟩:=hp x hx
     have e:fu H (.ref c)=f2:=by simp only [fu,tupOf,hc]
     rw [e]
     exact yo (aT (aa rfl) am (.inr (SqT.of (s2 _ _ (s1 _ _ hc)))) (bz (j:=1) rfl)) (aa rfl) (.inl (SqL.of hf))
    ·refine ⟨xs.map (λ x=>decide (fu H x∈xs.map (ci H))),?_,?_⟩
     ·have e2:(xs.filter λ _=>true).map (λ x=>V.bl (decide (fu H x∈xs.map (ci H))))=(xs.map (λ x=>decide (fu H x∈xs.map (ci H)))).map V.bl:=by
       rw [zG.mpr (λ _ _=>rfl),zk]
       rfl
      rw [<-e2]
      exact SqL.of af
     ·have e3:(xs.map (λ x=>decide (fu H x∈xs.map (ci H)))).any id=xs.any λ x=>decide (fu H x∈xs.map (ci H)):=by
       rw [Ah]
       rfl
      rw [e3]
      exact q _ _ ⟨rfl,(ah.refl H2).upd hp'⟩
   ·have k:=q H3 ((s1.trans s2).trans h.2)
    rw [<-h.1] at k
    exact aG am k
   ·have s03:=(s1.trans s2).trans h.2
    show cJ _ _ [some (.ref a),some (.ref d),some (.ref fq)] H3
    have hf3:=h.2 _ _ hf
    refine yL (pL (ss:=xs.map (ci H)) (aa rfl) (SqL.of hf3) (by rw [y3]; lia) (λ H4 s4=>?_))
    refine evk (dk (aa rfl) (.inl (SqL.of (s4 _ _ hf3)))) ?_
    have k:=q H4 (s03.trans s4)
    rw [<-h.1] at k
    have e4:decide ((((jl (xs.map (ci H))).length:Nat):Int)=((((xs.map (ci H)).map V.str).length:Nat):Int))=decide ((xs.map (ci H)).Nodup):=by
     rw [y3 (f:=V.str)]
     by_cases hn:(xs.map (ci H)).Nodup
     ·rw [decide_eq_true hn,decide_eq_true (by rw [(gM _).mpr hn])]
     ·rw [decide_eq_false hn,decide_eq_false (λ z=>hn ((gM _).mp (by lia)))]
    show Q (.bl (decide ((((jl (xs.map (ci H))).length:Nat):Int)=((((xs.map (ci H)).map V.str).length:Nat):Int)))) H4
    rw [e4]
    exact k
theorem nE {f:Addr}{fd:FuncData}(F:Fun K "is_letter" "is_letter" cV f fd) (T:Txt mg aS aA aE aW):ba P w K mg base CX0 1 f fd ["thing"] lG:=by
 refine F.ok mK (λ vs H Q E h=>?_) (λ cdv A outer s H vs Q E hr h=>?_)
 ·obtain ⟨v,rfl,_⟩:=h
  rfl
 ·obtain ⟨v,rfl,t,q⟩:=h
  have hu:=bQ hr
  refine ⟨_,(aj (ay (dB (kis .str T.isinstance T.str yR (cv 0)) (dB (iB K hu (kB (gB K) bW T.len (pac (cv 0) pa_nil)) ag) (dO (rA K hu bn (cv 0) bn)))))),?_⟩
  show cJ _ _ [some v] H
  have hs:=lW (T:=.str) (te:=iH 0) (σ:=[some v]) (aa rfl) t
  rw [wM t] at hs
  cases v with
  | str z=>
    refine aG (cC hs (λ _=>cC (g8 (tz (aa rfl) (AX (show z.length<=1000 from t) (by decide))) am) (λ _=>ev_cles am (aa rfl) am))) ?_
    rw [str_a,str_z]
    have e:(true&&(decide ((z.length:Int)=1)&&(!decide (z.cps.toList<[97])&& !decide ([122]<z.cps.toList))))=letB (.str z):=by
     rw [gN]
     match e:z.cps.toList with
     | [c]=>
       simp only [letB,e,lt_one]
       rw [Bw]
       simp
     | []=>simp only [letB,e]; rfl
     | _::_::r=>
       simp only [letB,e]
       rw [decide_eq_false (by simp only [zw]; lia)]
       rfl
    have q2:=q
    rw [<-e] at q2
    exact q2
  | _=>exact aG (cC (b:=false) hs (λ h=>by cases h)) q
theorem nI {f:Addr}{fd:FuncData}(F:Fun K "are_kinds" "are_kinds" cu f fd) (T:Txt mg aS aA aE aW) (C:GG1 P w K mg base):ba P w K mg base CX0 2 f fd ["thing"] oK:=by
 refine F.ok mO (λ vs H Q E h=>?_) (λ cdv A outer s H vs Q E hr h=>?_)
 ·obtain ⟨v,rfl,_⟩:=h
  rfl
 ·obtain ⟨v,rfl,t,q⟩:=h
  have hu:=bQ hr
  refine ⟨_,(ae (aR (PW.pt (dR (bm (bq (aB C.is_list_of hr (pac (cv 0) (pac ag (pac (kg T.MOST_KINDS) pa_nil)))))) (cP (bm (bq (kB (kall K) om T.all (pac (eO (bV (N:=["part"]) (src:=[none]) (ak cu) ["thing"]) (kpl K (cv 0)) (λ _ _ _=>(aX (i:=0) ["part"])) (λ _ _ _=>bG) (λ _ _ _=>(aB C.is_letter hr (pac (cv 0) pa_nil)))) pa_nil))))))) (aj (ay eK)) aC)
   (aj (ay (iB K hu (kB kN bW T.len (pac (kTy (ksetS K hr) oh T.set (pac (cv 0) pa_nil)) pa_nil)) (kB (gB K) bW T.len (pac (cv 0) pa_nil)))))),?_⟩
  show bj _ _ _ [some v] H
  have eL:Ev (dq mt (bh (iH 0) (bh (tC (.int 1)) (bh (tC (.int 6)) cO)))) [some v] H (.bl (i6 H v 1 6)):=aD (ad (aa rfl) (ad am (ad am au))) (λ Q q=>⟨v,1,6,rfl,t.thg,q⟩)
  unfold kz at q
  cases e1:lstOf H v with
  | none=>
    have hb:i6 H v 1 6=false:=by unfold i6; rw [e1]
    rw [hb] at eL
    rw [e1] at q
    refine aV (b:=true) (λ Q q=>bM (aQ eL) _ (gC q)) (λ _=>aG am (q H (ah.refl H))) (λ h=>by cases h)
  | some xs=>
    rw [e1] at q
    have q:∀H',ah H H'->Q (.bl (decide (1<=xs.length/\xs.length<=6)&&xs.all letB&&decide ((xs.map gh).Nodup))) H':=q
    obtain ⟨a,rfl,ha⟩:=eM e1
    have tx:=t.2 xs (.inr e1)
    have hb:i6 H (.ref a) 1 6=decide (1<=xs.length/\xs.length<=6):=by
     unfold i6
     rw [e1]
     show decide ((1:Int)<=xs.length/\(xs.length:Int)<=6)=_
     rw [decide_eq_decide]
     lia
    rw [hb] at eL
    by_cases hl:1<=xs.length/\xs.length<=6
    ·rw [decide_eq_true hl] at eL q
     refine dL (λ b H'=>b=(!xs.all letB)/\ah H H') (λ Q q=>?_) (λ H1 h=>?_) (λ H1 h=>?_)
     ·refine tor_k (bM (aQ eL)) ?_
      refine eV (d:=a) (xs:=xs) (rest:=[]) (aa rfl) (SqL.of ha) (by rw [sizeLine_eq]; lia) rfl (λ _=>true) (λ x=>.bl (letB x)) (λ x hx=>df) (λ x hx _=>?_) (λ p hp=>?_)
      ·exact aD (ad (aa rfl) au) (λ Q q=>⟨x,rfl,tx x hx,q⟩)
      ·refine ⟨xs.map letB,?_,?_⟩
       ·have e2:(xs.filter λ _=>true).map (λ x=>V.bl (letB x))=(xs.map letB).map V.bl:=by
         rw [zG.mpr (λ _ _=>rfl),zk]
         rfl
        rw [<-e2]
        exact SqL.of af
       ·have e3:(xs.map letB).all id=xs.all letB:=by
         rw [AE]
         rfl
        rw [e3]
        exact q _ _ ⟨rfl,(ah.refl H).upd hp⟩
     ·have k:=q H1 h.2
      have e0:xs.all letB=false:=by
       cases z:xs.all letB
       ·rfl
       ·rw [z] at h; cases h.1
      rw [e0] at k
      exact aG am k
     ·obtain ⟨hq,s1⟩:=h
      have e0:xs.all letB=true:=by
       cases z:xs.all letB
       ·rw [z] at hq; cases hq
       ·rfl
      have e5:xs=(xs.map gh).map V.str:=by
       rw [zk]
       have:∀x∈xs,x=(V.str∘gh) x:=λ x hx=>by
        obtain ⟨c,rfl,_⟩:=xN (zA.mp e0 x hx)
        rfl
       exact (List.map_id xs).symm.trans (zH this)
      have ha1:=s1 _ _ ha
      rw [e5] at ha1
      show cJ _ _ [some (.ref a)] H1
      refine yL (pL (ss:=xs.map gh) (aa rfl) (SqL.of ha1) (by rw [y3]; lia) (λ H4 s4=>?_))
      refine evk (dk (aa rfl) (.inl (SqL.of (s4 _ _ ha1)))) ?_
      have k:=q H4 (s1.trans s4)
      rw [e0] at k
      have e4:decide ((((jl (xs.map gh)).length:Nat):Int)=((((xs.map gh).map V.str).length:Nat):Int))=decide ((xs.map gh).Nodup):=by
       rw [y3 (f:=V.str)]
       by_cases hn:(xs.map gh).Nodup
       ·rw [decide_eq_true hn,decide_eq_true (by rw [(gM _).mpr hn])]
       ·rw [decide_eq_false hn,decide_eq_false (λ z=>hn ((gM _).mp (by lia)))]
      show Q (.bl (decide ((((jl (xs.map gh)).length:Nat):Int)=((((xs.map gh).map V.str).length:Nat):Int)))) H4
      rw [e4]
      exact k
    ·rw [decide_eq_false hl] at eL q
     exact aV (b:=true) (λ Q q=>bM (aQ eL) _ (gC q)) (λ _=>aG am (q H (ah.refl H))) (λ h=>by cases h)
theorem nG {f:Addr}{fd:FuncData}(F:Fun K "are_rules" "are_rules" cp f fd) (T:Txt mg aS aA aE aW) (C:GG1 P w K mg base):ba P w K mg base CX0 5 f fd ["thing","kinds"] (oE K):=by
 refine F.ok mM (λ vs H Q E h=>?_) (λ cdv A outer s H vs Q E hr h=>?_)
 ·obtain ⟨v,d,ws,rfl,_⟩:=h
  rfl
 ·obtain ⟨v,d,ws,rfl,t,hw,q⟩:=h
  have hu:=bQ hr
  refine ⟨_,(aj (ay (dB (aB C.is_list_of hr (pac (cv 0) (pac ag (pac (kg T.MOST_RULES) pa_nil)))) (dO (kB (kall K) om T.all (pac (eO (bV (N:=["part","kinds"]) (src:=[none,some 1]) (ak cp) ["thing","kinds"]) (kpl K (cv 0)) (λ _ _ _=>(aX (i:=0) ["part","kinds"])) (λ _ _ _=>bG) (λ _ _ _=>(aB C.is_rule hr (pac (cv 0) (pac (cv 1) pa_nil))))) pa_nil)))))),?_⟩
  show cJ _ _ [some v,some (.ref d)] H
  refine yW (a:=i6 H v 0 24) (aD (ad (aa rfl) (ad am (ad am au))) (λ Q q=>⟨v,0,24,rfl,t.thg,q⟩)) (λ h=>?_) (λ h=>?_)
  ·unfold i6 at h
   cases e1:lstOf H v with
   | none=>rw [e1] at h; cases h
   | some xs=>
     rw [e1] at h
     have h:0<=(xs.length:Int)/\(xs.length:Int)<=24:=of_decide_eq_true h
     obtain ⟨a,rfl,ha⟩:=eM e1
     have tx:=t.2 xs (.inr e1)
     refine eV (d:=a) (xs:=xs) (rest:=[some (.ref d)]) (aa rfl) (SqL.of ha) (by rw [sizeLine_eq]; lia) rfl (λ _=>true) (λ x=>.bl (dh H x ws)) (λ x hx=>df) (λ x hx _=>?_) (λ p hp=>?_)
     ·exact aD (ad (aa rfl) (ad (aa rfl) au)) (λ Q q=>⟨x,d,ws,rfl,tx x hx,hw,q⟩)
     ·refine ⟨xs.map (λ x=>dh H x ws),?_,?_⟩
      ·have e2:(xs.filter λ _=>true).map (λ x=>V.bl (dh H x ws))=(xs.map (λ x=>dh H x ws)).map V.bl:=by
        rw [zG.mpr (λ _ _=>rfl),zk]
        rfl
       rw [<-e2]
       exact SqL.of af
      ·have k:=q _ ((ah.refl H).upd (o:=.lst ((xs.filter λ _=>true).map (λ x=>V.bl (dh H x ws)))) hp)
       unfold dM at k
       rw [e1] at k
       have e3:(decide (xs.length<=24)&&xs.all (λ x=>dh H x ws))=(xs.map (λ x=>dh H x ws)).all id:=by
        rw [decide_eq_true (by lia:xs.length<=24),AE]
        rfl
       have k:Q (.bl (decide (xs.length<=24)&&xs.all (λ x=>dh H x ws))) _:=k
       rw [e3] at k
       exact k
  ·have k:=q H (ah.refl H)
   have e2:dM H v ws=false:=by
    unfold dM
    unfold i6 at h
    cases e1:lstOf H v with
    | none=>rfl
    | some xs=>
      rw [e1] at h
      have h:¬(0<=(xs.length:Int)/\(xs.length:Int)<=24):=of_decide_eq_false h
      show (decide (xs.length<=24)&&_)=false
      rw [decide_eq_false (by lia:¬xs.length<=24)]
      rfl
   rw [e2] at k
   exact k
theorem nQ {f cG:Addr}{fd:FuncData}(F:Fun K "__init__" "Game.__init__" bJ f fd) (T:Txt mg aS aA aE aW) (hW:∀H,gc K H aW gf) (B:GmC K cG) (C:GG2 P w K mg base):ba P w K mg base CX0 6 f fd ["self","board","kinds","rules","turns","ends","stuck"] (mB K cG):=by
 refine F.ok iS (λ vs H Q E h=>?_) (λ cdv A outer s H vs Q E hr h=>?_)
 ·obtain ⟨p,b,kd,rd,td,ed,dx,ws,rs,ts,es,st,rfl,_⟩:=h
  rfl
 ·obtain ⟨p,b,kd,rd,td,ed,dx,ws,rs,ts,es,st,rfl,hp,hk,hr',ht,he,tk,tr,tt,te,bk,br,bt,be,hst,lst',q⟩:=h
  have hu:=bQ hr
  have wk:∀H',ah H H'->gc K H' kd ws:=λ H' s=>.inl (SqL.of (s _ _ hk))
  refine ⟨_,(ae (aR (bm (bq (aB C.are_kinds hr (pac (cv 2) pa_nil)))) (aj eI) aC)
   (ae (aR (bm (bq (aB C.are_rules hr (pac (cv 3) (pac (cv 2) pa_nil))))) (aj eI) aC)
   (ae (aR (bm (bq (aB C.is_turns hr (pac (cv 4) (pac (cv 2) pa_nil))))) (aj eI) aC)
   (ae (aR (bm (bq (aB C.is_ends hr (pac (cv 5) (pac (cv 2) pa_nil))))) (aj eI) aC)
   (ae (aR (bm (bq (aB C.is_word hr (pac (cv 6) (pac (kg T.STUCK_WORDS) pa_nil))))) (aj eI) aC)
   (ae (g7 K (cv 0) (cv 1))
   (ae (g7 K (cv 0) (kTy (pO K) eX T.list (pac (cv 2) pa_nil)))
   (ae (g7 K (cv 0) (kTy (pO K) eX T.list (pac (cv 3) pa_nil)))
   (ae (g7 K (cv 0) (kTy (pO K) eX T.list (pac (cv 4) pa_nil)))
   (ae (g7 K (cv 0) (kTy (pO K) eX T.list (pac (cv 5) pa_nil)))
   (aj (g7 K (cv 0) (cv 6))))))))))))),?_⟩
  show bj _ _ _ [some (.ref p),some (.ref b),some (.ref kd),some (.ref rd),some (.ref td),some (.ref ed),some (.str st)] H
  refine dL (λ b H'=>b=false/\ah H H') (λ Q q=>jd (ad (aa rfl) au) ⟨.ref kd,rfl,tk,λ H' s=>?_⟩) (λ H' h=>by cases h.1) (λ H1 h=>?_)
  ·rw [bk]; exact q _ _ ⟨rfl,s⟩
  obtain ⟨_,s1⟩:=h
  have eqR:dM H1 (.ref rd) ws=dM H (.ref rd) ws:=oS tr s1
  refine dL (λ b H'=>b=false/\ah H1 H') (λ Q q=>jd (ad (aa rfl) (ad (aa rfl) au)) ⟨.ref rd,kd,ws,rfl,tr.same s1,wk _ s1,λ H' s=>?_⟩) (λ H' h=>by cases h.1) (λ H2 h=>?_)
  ·rw [eqR,br]; exact q _ _ ⟨rfl,s⟩
  obtain ⟨_,s2⟩:=h
  have s02:=s1.trans s2
  have eqT:eE H2 (.ref td) ws=eE H (.ref td) ws:=oq tt s02
  refine dL (λ b H'=>b=false/\ah H2 H') (λ Q q=>jd (ad (aa rfl) (ad (aa rfl) au)) ⟨.ref td,kd,ws,rfl,tt.same s02,wk _ s02,λ H' s=>?_⟩) (λ H' h=>by cases h.1) (λ H3 h=>?_)
  ·rw [eqT,bt]; exact q _ _ ⟨rfl,s⟩
  obtain ⟨_,s3⟩:=h
  have s03:=s02.trans s3
  have eqE:pairsB H3 (.ref ed) gb ws=pairsB H (.ref ed) gb ws:=jp te s03
  refine dL (λ b H'=>b=false/\ah H3 H') (λ Q q=>jd (ad (aa rfl) (ad (aa rfl) au)) ⟨.ref ed,kd,ws,rfl,te.same s03,wk _ s03,λ H' s=>?_⟩) (λ H' h=>by cases h.1) (λ H4 h=>?_)
  ·rw [eqE,be]; exact q _ _ ⟨rfl,s⟩
  obtain ⟨_,s4⟩:=h
  have s04:=s03.trans s4
  refine aV (bM (aQ (aD (ad (aa rfl) (ad am au)) (λ Q q=>⟨.str st,aW,gf,rfl,lst',hW H4,q⟩)))) (λ h=>?_) (λ _=>?_)
  ·have e:wordB (.str st) gf=true:=decide_eq_true hst
   rw [e] at h
   cases h
  have gl:=λ b k r t e=>gf_len (b:=b) (k:=k) (r:=r) (t:=t) (e:=e)
  have nk:p≠kd:=fB hp hk (by intro z; cases z)
  have nr:p≠rd:=fB hp hr' (by intro z; cases z)
  have nt:p≠td:=fB hp ht (by intro z; cases z)
  have ne':p≠ed:=fB hp he (by intro z; cases z)
  have h4:∀(G:Hp),SameBut p H G->G kd=some (.lst (ws.map V.str))/\G rd=some (.lst rs)/\G td=some (.lst ts)/\G ed=some (.lst es):=λ G sb=>⟨sb _ _ hk nk.symm,sb _ _ hr' nr.symm,sb _ _ ht nt.symm,sb _ _ he ne'.symm⟩
  refine qy (aa rfl) (aa rfl) (s04 _ _ hp) B.cl B.board (by decide) ?_
  generalize hG5:upd H4 p (HO.ins cG dx (putF "board" (V.ref b) []))=G5
  have p5:G5 p=some (.ins cG dx (gf1 b)):=hG5▸af
  have b5:SameBut p H G5:=hG5▸s04.but.self
  have nfree:∀(G:Hp) (q:Addr),SameBut p H G->G p≠none->G q=none->H q=none:=λ G q sb hpp hq=>by
   cases e:H q with
   | none=>rfl
   | some o=>
     by_cases z:q=p
     ·rw [z] at hq; exact absurd hq hpp
     ·have:=sb q o e z; rw [hq] at this; cases this
  refine jG (aa rfl) (h4 _ b5).1 (λ H'=>aa rfl) p5 B.cl B.kinds (by have:=(gl b 0 0 0 0).1; lia) (λ kq hkq=>?_)
  have nkq:p≠kq:=ar p5 hkq
  generalize hG6:upd (upd G5 kq (HO.lst (ws.map V.str))) p (HO.ins cG dx (putF "kinds" (V.ref kq) (gf1 b)))=G6
  have p6:G6 p=some (.ins cG dx (gf2 b kq)):=hG6▸af
  have k6:G6 kq=some (.lst (ws.map V.str)):=by rw [<-hG6,aq nkq.symm,af]
  have b6:SameBut p H G6:=hG6▸(b5.new (nfree _ _ b5 (by rw [p5]; simp) hkq)).self
  refine jG (aa rfl) (h4 _ b6).2.1 (λ H'=>aa rfl) p6 B.cl B.rules (by have:=(gl b kq 0 0 0).2.1; lia) (λ rq hrq=>?_)
  have nrq:p≠rq:=ar p6 hrq
  generalize hG7:upd (upd G6 rq (HO.lst rs)) p (HO.ins cG dx (putF "rules" (V.ref rq) (gf2 b kq)))=G7
  have p7:G7 p=some (.ins cG dx (gf3 b kq rq)):=hG7▸af
  have r7:G7 rq=some (.lst rs):=by rw [<-hG7,aq nrq.symm,af]
  have k7:G7 kq=some (.lst (ws.map V.str)):=by rw [<-hG7,aq nkq.symm,aq (ar k6 hrq)]; exact k6
  have b7:SameBut p H G7:=hG7▸(b6.new (nfree _ _ b6 (by rw [p6]; simp) hrq)).self
  refine jG (aa rfl) (h4 _ b7).2.2.1 (λ H'=>aa rfl) p7 B.cl B.turns (by have:=(gl b kq rq 0 0).2.2.1; lia) (λ tq htq=>?_)
  have ntq:p≠tq:=ar p7 htq
  generalize hG8:upd (upd G7 tq (HO.lst ts)) p (HO.ins cG dx (putF "turns" (V.ref tq) (gf3 b kq rq)))=G8
  have p8:G8 p=some (.ins cG dx (gf4 b kq rq tq)):=hG8▸af
  have t8:G8 tq=some (.lst ts):=by rw [<-hG8,aq ntq.symm,af]
  have r8:G8 rq=some (.lst rs):=by rw [<-hG8,aq nrq.symm,aq (ar r7 htq)]; exact r7
  have k8:G8 kq=some (.lst (ws.map V.str)):=by rw [<-hG8,aq nkq.symm,aq (ar k7 htq)]; exact k7
  have b8:SameBut p H G8:=hG8▸(b7.new (nfree _ _ b7 (by rw [p7]; simp) htq)).self
  refine jG (aa rfl) (h4 _ b8).2.2.2 (λ H'=>aa rfl) p8 B.cl B.ends (by have:=(gl b kq rq tq 0).2.2.2.1; lia) (λ eq heq=>?_)
  have neq:p≠eq:=ar p8 heq
  generalize hG9:upd (upd G8 eq (HO.lst es)) p (HO.ins cG dx (putF "ends" (V.ref eq) (gf4 b kq rq tq)))=G9
  have p9:G9 p=some (.ins cG dx (gf5 b kq rq tq eq)):=hG9▸af
  have e9:G9 eq=some (.lst es):=by rw [<-hG9,aq neq.symm,af]
  have t9:G9 tq=some (.lst ts):=by rw [<-hG9,aq ntq.symm,aq (ar t8 heq)]; exact t8
  have r9:G9 rq=some (.lst rs):=by rw [<-hG9,aq nrq.symm,aq (ar r8 heq)]; exact r8
  have k9:G9 kq=some (.lst (ws.map V.str)):=by rw [<-hG9,aq nkq.symm,aq (ar k8 heq)]; exact k8
  have b9:SameBut p H G9:=hG9▸(b8.new (nfree _ _ b8 (by rw [p8]; simp) heq)).self
  refine r0 (λ v H'=>v=.str st/\H'=G9) (λ Q q=>evk (v:=.str st) (aa rfl) (q _ _ ⟨rfl,rfl⟩)) p cG dx (λ H' Q q=>aa rfl Q q) B.cl B.stuck ?_
  rintro _ _ ⟨rfl,rfl⟩
  refine ⟨_,p9,by have:=(gl b kq rq tq eq).2.2.2.2; lia,?_⟩
  refine q _ ⟨dx,kq,rq,tq,eq,af,?_,?_,?_,?_⟩ b9.self
  ·rw [aq nkq.symm]; exact k9
  ·rw [aq nrq.symm]; exact r9
  ·rw [aq ntq.symm]; exact t9
  ·rw [aq neq.symm]; exact e9
end
end K13
namespace K13
open PySem L2
section
variable {P:Program}{w:World}{K:Frag}{mg:Str->Option Value}{base:Heap}{aS aA aE aW:Addr}
theorem nJ {f:Addr}{fd:FuncData}(F:Fun K "are_holes" "are_holes" cw f fd) (T:Txt mg aS aA aE aW) (C:CA P w K mg base):ba P w K mg base CX0 3 f fd ["thing","many"] oM:=by
 refine F.ok mP (λ vs H Q E h=>?_) (λ cdv A outer s H vs Q E hr h=>?_)
 ·obtain ⟨d,m,hs,rfl,_⟩:=h
  rfl
 ·obtain ⟨d,m,hs,rfl,hd,good,nd,hl,m64,k⟩:=h
  have hu:=bQ hr
  have hS:SqL K H d (hs.map V.int):=SqL.of hd
  refine ⟨_,(ae (aR (PW.pt (dR (bm (bq (kis .list T.isinstance T.list eX (cv 0)))) (cP (aJ K hu (kB (gB K) bW T.len (pac (cv 0) pa_nil)) (cv 1))))) (aj (ay eK)) aC)
   (ae (aR (bm (bq (kB (kall K) om T.all (pac (eO (bV (N:=["hole","many"]) (src:=[none,some 1]) (ak cw) ["thing","many"]) (kpl K (cv 0)) (λ _ _ _=>(aX (i:=0) ["hole","many"])) (λ _ _ _=>bG) (λ _ _ _=>(aB C.is_among hr (pac (cv 0) (pac ag (pac (ao (cv 1) ag) pa_nil)))))) pa_nil)))) (aj (ay eK)) aC)
   (aj (ay (iB K hu (kB rQ bW T.len (pac (kTy (kset K hr) oh T.set (pac (cv 0) pa_nil)) pa_nil)) (kB (gB K) bW T.len (pac (cv 0) pa_nil))))))),?_⟩
  show bj _ _ _ [some (.ref d),some (.int m)] H
  refine aV (fW (bM (aQ (ev_isl (aa rfl) hd))) (λ _=>(aQ (ev_ge (dk (aa rfl) (.inl hS)) (aa rfl))))) (λ h=>?_) (λ _=>?_)
  ·have h:decide (m<=((hs.map V.int).length:Int))=true:=h
   have h:=of_decide_eq_true h
   rw [y3] at h
   lia
  refine dL (λ b H'=>b=false/\ah H H') (λ Q q=>?_) (λ H' h=>by cases h.1) (λ H1 h=>?_)
  ·refine eV (d:=d) (xs:=hs.map V.int) (rest:=[some (.int m)]) (aa rfl) hS (by rw [y3,sizeLine_eq]; lia) rfl (λ _=>true) (λ _=>.bl true) (λ x hx=>df) (λ x hx _=>?_) (λ d' hd'=>?_)
   ·obtain ⟨z,hz,rfl⟩:=y4.mp hx
    have g:=good z hz
    refine aD (ad (aa rfl) (ad am (ad (gE (aa rfl) am) au))) (λ Q q=>⟨z,0,m - 1,rfl,?_⟩)
    rw [decide_eq_true (by lia:0<=z/\z<=m - 1)]
    exact q
   ·refine ⟨List.replicate hs.length true,?_,?_⟩
    ·have e:((hs.map V.int).filter λ _=>true).map (λ _=>V.bl true)=(List.replicate hs.length true).map V.bl:=by
      rw [zG.mpr (λ _ _=>rfl),zk,List.map_replicate]
      show hs.map (λ _=>V.bl true)=_
      rw [List.map_const']
     rw [<-e]
     exact SqL.of af
    ·have e:(List.replicate hs.length true).all id=true:=by simp
     rw [e]
     exact q _ _ ⟨rfl,(ah.refl H).upd hd'⟩
  obtain ⟨_,s1⟩:=h
  have hS1:=s1.seq hS
  simp only [cJ,dn,cB,bh,cO]
  refine evk (aa rfl) ?_
  refine ⟨hs,hS1,by have:scanBound=4096:=rfl; lia,λ q hq=>?_⟩
  refine ⟨_,_,af,?_⟩
  have s2:ah H1 (upd H1 q (.set (λ k=>(uniq hs).any (· == k)) (uniq hs).length)):=(ah.refl H1).upd hq
  refine evk (v:=.ref d) (aa rfl) ⟨_,.inl (s2.seq hS1),?_⟩
  rw [y3,(wF hs).mpr nd]
  show Q (.bl (decide ((hs.length:Int)=hs.length))) _
  rw [decide_eq_true rfl]
  exact k _ (s1.trans ((ah.refl H1).upd hq))
theorem lj {f cB:Addr}{fd:FuncData}(F:Fun K "__init__" "Board.__init__" bu f fd) (T:Txt mg aS aA aE aW) (B:kS K cB) (C:CB2 P w K mg base):ba P w K mg base CX0 4 f fd ["self","wide","high","holes"] (mC K cB):=by
 refine F.ok il (λ vs H Q E h=>?_) (λ cdv A outer s H vs Q E hr h=>?_)
 ·obtain ⟨p,d,dx,wi,hi,hs,rfl,_⟩:=h
  rfl
 ·obtain ⟨p,d,dx,wi,hi,hs,rfl,hp,hd,w1,w8,h1,h8,good,nd,hl,k⟩:=h
  have hu:=bQ hr
  have m1:wi*hi<=8*8:=Bk w8 h8 (by lia) (by lia)
  have m0:0<=wi*hi:=Bq (by lia) (by lia)
  have npd:p≠d:=fB hp hd (by intro z; cases z)
  refine ⟨_,(ae (aR (PW.pt (dR (bm (bq (aB C.is_among hr (pac (cv 1) (pac ag (pac (kg T.LONGEST) pa_nil)))))) (cP (bm (bq (aB C.is_among hr (pac (cv 2) (pac ag (pac (kg T.LONGEST) pa_nil))))))))) (aj eI) aC)
   (ae (aR (bm (bq (aB C.are_holes hr (pac (cv 3) (pac (ao (cv 1) (cv 2)) pa_nil))))) (aj eI) aC)
   (ae (g7 K (cv 0) (cv 1))
   (ae (g7 K (cv 0) (cv 2))
   (ae (g7 K (cv 0) (kB (ksort K) jf T.sorted (pac (cv 3) pa_nil)))
   (aj (g7 K (cv 0) (eO (bV (N:=["square","self"]) (src:=[none,some 0]) (ak bu) ["self","wide","high","holes"]) (kr1 T.range (pac (ao (cv 1) (cv 2)) pa_nil)) (λ _ _ _=>(aX (i:=0) ["square","self"])) (λ _ _ _=>bG) (λ _ _ _=>(iB K hu (cv 0) (cz K (cv 1)))))))))))),?_⟩
  show bj _ _ _ [some (.ref p),some (.int wi),some (.int hi),some (.ref d)] H
  refine aV (fW (bM (aQ (aD (ad (aa rfl) (ad am (ad am au))) (λ Q q=>⟨wi,1,8,rfl,q⟩)))) (λ _=>(bM (aQ (aD (ad (aa rfl) (ad am (ad am au))) (λ Q q=>⟨hi,1,8,rfl,q⟩)))))) (λ h=>?_) (λ _=>?_)
  ·rw [decide_eq_true (⟨w1,w8⟩:1<=wi/\wi<=8),decide_eq_true (⟨h1,h8⟩:1<=hi/\hi<=8)] at h
   cases h
  refine dL (λ b H'=>b=false/\ah H H') (λ Q q=>?_) (λ H' h=>by cases h.1) (λ H1 h=>?_)
  ·exact jd (ad (aa rfl) (ad (dA (aa rfl) (aa rfl) (.inl ⟨by lia,by lia⟩)) au)) ⟨d,wi*hi,hs,rfl,hd,good,nd,hl,by lia,λ H' s=>q _ _ ⟨rfl,s⟩⟩
  obtain ⟨_,s1⟩:=h
  refine qy (aa rfl) (aa rfl) (s1 _ _ hp) B.cl B.wide (by decide) ?_
  have a1:=bD "wide" (V.int wi) []
  have a2:=bD "high" (V.int hi) (putF "wide" (V.int wi) [])
  simp only [List.length_nil] at a1
  refine qy (aa rfl) (aa rfl) af B.cl B.high (by lia) ?_
  generalize hH3:upd (upd H1 p (HO.ins cB dx (putF "wide" (V.int wi) []))) p (HO.ins cB dx (putF "high" (V.int hi) (putF "wide" (V.int wi) [])))=H3
  have p3:H3 p=some (.ins cB dx (putF "high" (V.int hi) (putF "wide" (V.int wi) []))):=hH3▸af
  have s3:SameBut p H H3:=hH3▸(s1.but.self.self)
  have d3:H3 d=some (.lst (hs.map V.int)):=s3 _ _ hd npd.symm
  refine st_asgH (λ v H'=> ∃(hs':List Int) (q:Addr),v=.ref q/\hs'.Perm hs/\hs'.Pairwise (·<=·)/\H3 q=none/\H'=upd H3 q (.lst (hs'.map V.int))) (λ Q q=>?_) p cB dx (λ H' Q q=>aa rfl Q q) B.cl B.holes ?_
  ·exact b1_k (aa rfl) ⟨hs,SqL.of d3,by lia,λ hs' q' h1 h2 h3=>q _ _ ⟨hs',q',rfl,h1,h2,h3,rfl⟩⟩
  rintro _ _ ⟨hs',q,rfl,pm,sr,hq,rfl⟩
  have npq:p≠q:=ar p3 hq
  have a3:=bD "holes" (V.ref q) (putF "high" (V.int hi) (putF "wide" (V.int wi) []))
  refine ⟨_,(by rw [aq npq]; exact p3),(by lia),?_⟩
  generalize hH4:upd (upd H3 q (HO.lst (hs'.map V.int))) p (HO.ins cB dx (putF "holes" (V.ref q) (putF "high" (V.int hi) (putF "wide" (V.int wi) []))))=H4
  have p4:H4 p=some (.ins cB dx (putF "holes" (V.ref q) (putF "high" (V.int hi) (putF "wide" (V.int wi) [])))):=hH4▸af
  have q4:H4 q=some (.lst (hs'.map V.int)):=by rw [<-hH4,aq npq.symm,af]
  have hqH:H q=none:=by
   cases e:H q with
   | none=>rfl
   | some o=>
     have:=s3 q o e npq.symm
     rw [hq] at this
     cases this
  have s4:SameBut p H H4:=hH4▸((s3.new hqH).self)
  have f4:Fl K H4 p "holes" (.ref q):=⟨cB,dx,_,p4,B.cl,B.holes,by rw [av,if_pos rfl]⟩
  refine r0 (λ v H'=> ∃(pf:Addr),v=.ref pf/\H4 pf=none/\H'=upd H4 pf (.lst ((firmL wi hi hs').map V.bl))) (λ Q k'=>?_) p cB dx (λ H' Q q=>aa rfl Q q) B.cl B.firm ?_
  ·refine iF (n:=wi*hi) (rest:=[some (.ref p)]) (ad (dA (aa rfl) (aa rfl) (.inl ⟨by lia,by lia⟩)) au) m0 (by rw [sizeLine_eq]; lia) (by lia) rfl (λ _=>true) (λ x=>match x with | .int i=>.bl (!decide (i∈hs')) | _=>.non) (λ i hi=>df) (λ i hi _=>?_) (λ d' hd'=>?_)
   ·exact (rF (aa rfl) (aU (aa rfl) (f4)) (.inl (SqL.of q4)))
   ·refine k' _ _ ⟨d',rfl,hd',?_⟩
    have e:(((List.range (wi*hi).toNat).map λ (i:Nat)=>V.int (0+(i:Int))).filter λ _=>true).map (λ x=>match x with | .int i=>V.bl (!decide (i∈hs')) | _=>.non)=(firmL wi hi hs').map V.bl:=by
     rw [zG.mpr (λ _ _=>rfl),zk]
     unfold firmL
     rw [zk]
     refine zH λ i _=>?_
     show V.bl (!decide (0+(i:Int)∈hs'))=V.bl (!decide ((i:Int)∈hs'))
     rw [Bj]
    rw [e]
  rintro _ _ ⟨pf,rfl,hpf,rfl⟩
  have npf:p≠pf:=ar p4 hpf
  have nqf:q≠pf:=ar q4 hpf
  have hfH:H pf=none:=by
   cases e:H pf with
   | none=>rfl
   | some o=>
     have:=s4 pf o e npf.symm
     rw [hpf] at this
     cases this
  refine ⟨_,(by rw [aq npf]; exact p4),(by lia),?_⟩
  refine k hs' _ pm ⟨⟨dx,q,pf,af,by rw [aq npq.symm,aq nqf]; exact q4,by rw [aq npf.symm,af]⟩,w1,w8,h1,h8,λ h hh=>good h (pm.mem_iff.mp hh),sr,pm.nodup_iff.mpr nd⟩ ((s4.new hfH).self)
theorem nF {f:Addr}{fd:FuncData}(F:Fun K "column_of" "column_of" cW f fd) (T:Txt mg aS aA aE aW):ba P w K mg base CX0 1 f fd ["wide","square"] spCol:=by
 refine F.ok mL (λ vs H Q E h=>?_) (λ cdv A outer s H vs Q E hr h=>?_)
 ·obtain ⟨a,b,rfl,_⟩:=h
  rfl
 ·obtain ⟨a,b,rfl,a0,q⟩:=h
  refine ⟨_,(aj (ay (ao (cv 1) (cv 0)))),?_⟩
  show cJ _ _ [some (.int a),some (.int b)] H
  exact aG (aK (aa rfl) (aa rfl) (a0)) q
theorem uz {f:Addr}{fd:FuncData}(F:Fun K "row_of" "row_of" fv f fd) (T:Txt mg aS aA aE aW):ba P w K mg base CX0 1 f fd ["wide","square"] spRow:=by
 refine F.ok uc (λ vs H Q E h=>?_) (λ cdv A outer s H vs Q E hr h=>?_)
 ·obtain ⟨a,b,rfl,_⟩:=h
  rfl
 ·obtain ⟨a,b,rfl,a0,a1,q⟩:=h
  refine ⟨_,(aj (ay (ao (cv 1) (cv 0)))),?_⟩
  show cJ _ _ [some (.int a),some (.int b)] H
  exact aG (bC (aa rfl) (aa rfl) (⟨a0,by lia⟩)) q
theorem nB {f:Addr}{fd:FuncData}(F:Fun K "square_at" "square_at" cU f fd) (T:Txt mg aS aA aE aW):ba P w K mg base CX0 1 f fd ["wide","column","row"] wP:=by
 refine F.ok mI (λ vs H Q E h=>?_) (λ cdv A outer s H vs Q E hr h=>?_)
 ·obtain ⟨a,b,c,rfl,_⟩:=h
  rfl
 ·obtain ⟨a,b,c,rfl,a0,a1,q⟩:=h
  refine ⟨_,(aj (ay (ao (ao (cv 2) (cv 0)) (cv 1)))),?_⟩
  show cJ _ _ [some (.int a),some (.int b),some (.int c)] H
  exact aG (bB (dA (aa rfl) (aa rfl) (.inr ⟨by lia,by lia⟩)) (aa rfl)) q
theorem ke {f cB:Addr}{fd:FuncData}(F:Fun K "moved" "Board.moved" cm f fd) (T:Txt mg aS aA aE aW) (B:kS K cB) (C:CB P w K mg base):ba P w K mg base CX0 2 f fd ["self","square","across","up"] (sn K cB):=by
 refine F.ok dg (λ vs H Q E h=>?_) (λ cdv A outer s H vs Q E hr h=>?_)
 ·obtain ⟨p,wi,hi,hs,sq,ax,up,rfl,_⟩:=h
  rfl
 ·obtain ⟨p,wi,hi,hs,sq,ax,up,rfl,O,k⟩:=h
  have hu:=bQ hr
  have w1:=O.w1
  have w8:=O.w8
  have fw:=O.wide B
  have fh:=O.high B
  obtain ⟨pf,ff,hf⟩:=O.firm B
  refine ⟨_,(ae (aw (i:=4) dg.nd rfl (Or.inl rfl) (ao (aB C.column_of hr (pac (cz K (cv 0)) (pac (cv 1) pa_nil))) (cv 2)))
   (ae (aw (i:=5) dg.nd rfl (Or.inl rfl) (ao (aB C.row_of hr (pac (cz K (cv 0)) (pac (cv 1) pa_nil))) (cv 3)))
   (ae (aR (PW.pt (dR (bm (jL K hu ag (cv 4) (cz K (cv 0)))) (cP (bm (jL K hu ag (cv 5) (cz K (cv 0))))))) (aj (ay cQ)) aC)
   (ae (aw (i:=6) dg.nd rfl (Or.inl rfl) (aB C.square_at hr (pac (cz K (cv 0)) (pac (cv 4) (pac (cv 5) pa_nil)))))
   (aj (ay (dH (bq (kix K (cz K (cv 0)) (cv 6))) (cv 6) cQ))))))),?_⟩
  show bj _ _ _ [some (.ref p),some (.int sq),some (.int ax),some (.int up),none,none,none] H
  refine aM (bB (aD (ad (aU (aa rfl) (fw)) (ad (aa rfl) au)) (λ Q q=>⟨wi,sq,rfl,by lia,q⟩)) (aa rfl)) ?_
  refine aM (bB (aD (ad (aU (aa rfl) (fw)) (ad (aa rfl) au)) (λ Q q=>⟨wi,sq,rfl,by lia,by lia,q⟩)) (aa rfl)) ?_
  unfold mvd at k
  generalize hc:sq % wi+ax=c at k
  generalize hr':sq / wi+up=r at k
  refine aV (fW (bM (jE am (aa rfl) (λ _=>(aU (aa rfl) (fw))))) (λ _=>(bM (jE am (aa rfl) (λ _=>(aU (aa rfl) (fh))))))) (λ h=>?_) (λ h=>?_)
  ·show cJ _ _ _ _
   refine aG am ?_
   rw [if_neg (λ z=>by rw [decide_eq_true (⟨z.1,z.2.1⟩:0<=c/\c<wi),decide_eq_true (⟨z.2.2.1,z.2.2.2⟩:0<=r/\r<hi)] at h; cases h)] at k
   exact k
  ·have h2:(0<=c/\c<wi)/\(0<=r/\r<hi):=by
    by_cases a:0<=c/\c<wi
    ·by_cases b:0<=r/\r<hi
     ·exact ⟨a,b⟩
     ·rw [decide_eq_true a,decide_eq_false b] at h; cases h
    ·rw [decide_eq_false a] at h; cases h
   rw [if_pos ⟨h2.1.1,h2.1.2,h2.2.1,h2.2.2⟩] at k
   refine aM (aD (ad (aU (aa rfl) (fw)) (ad (aa rfl) (ad (aa rfl) au))) (λ Q q=>⟨wi,c,r,rfl,by lia,by lia,q⟩)) ?_
   have g0:0<=r*wi+c:=by have:=Bq h2.2.1 (by lia:0<=wi); lia
   have g1:r*wi+c<wi*hi:=by
    have:r*wi<=(hi - 1)*wi:=Br (by lia) (by lia)
    have e:(hi - 1)*wi=wi*hi - wi:=by rw [Int.sub_mul,Bn,Bl]
    lia
   show cJ _ _ _ _
   refine aG (v:=if (!decide (r*wi+c∈hs))=true then .int (r*wi+c) else .non) (yq (aQ (aT (aU (aa rfl) (ff)) (aa rfl) (.inl (SqL.of hf)) (firm_at g0 g1))) (λ _=>(aa rfl)) (λ _=>am)) ?_
   by_cases m:r*wi+c∈hs
   ·rw [decide_eq_true m]
    rw [if_pos m] at k
    exact k
   ·rw [decide_eq_false m]
    rw [if_neg m] at k
    exact k
theorem ok_ray {f cB:Addr}{fd:FuncData}(F:Fun K "ray" "ray" lK f fd) (T:Txt mg aS aA aE aW) (B:kS K cB) (C:CB3 P w K mg base cB):ba P w K mg base CX0 3 f fd ["board","square","across","up"] (spRay K cB):=by
 refine F.ok mJ (λ vs H Q E h=>?_) (λ cdv A outer s H vs Q E hr h=>?_)
 ·obtain ⟨p,wi,hi,hs,sq,ax,up,rfl,_⟩:=h
  rfl
 ·obtain ⟨p,wi,hi,hs,sq,ax,up,rfl,O,s0,s1,n0,k⟩:=h
  have hu:=bQ hr
  have w1:=O.w1
  have w8:=O.w8
  have m0:=Bg sq (by lia:wi≠0)
  have m1:=Bh sq (by lia:0<wi)
  refine ⟨_,(ae (aR (PW.pt (fO (aJ K hu (cv 2) ag) (eS (aJ K hu (cv 3) ag)))) (aj (ay (aY pa_nil))) aC)
   (ae (aw (i:=4) mJ.nd rfl (Or.inl rfl) (aY pa_nil))
   (ae (aw (i:=5) mJ.nd rfl (Or.inl rfl) (xQ C.Board_moved hr (cv 0) (pac (cv 1) (pac (cv 2) (pac (cv 3) pa_nil)))))
   (ae (pz PassesOwn.never (aJ K hu (cv 5) cQ) (ae (cN (fo (cv 4) (cv 5)))
   (aj (aw (i:=5) mJ.nd rfl (Or.inl rfl) (xQ C.Board_moved hr (cv 0) (pac (cv 5) (pac (cv 2) (pac (cv 3) pa_nil))))))))
   (aj (ay (cv 4))))))),?_⟩
  show bj _ _ _ [some (.ref p),some (.int sq),some (.int ax),some (.int up),none,none] H
  refine aV (fH (aQ (g8 (aa rfl) am)) (λ _=>(aQ (g8 (aa rfl) am)))) (λ h=>?_) (λ _=>?_)
  ·rw [Bu] at h
   exact absurd ⟨of_decide_eq_true h.1,of_decide_eq_true h.2⟩ n0
  refine eZ λ q hq=>?_
  have sm:ah H (upd H q (.lst [])):=(ah.refl H).upd hq
  have O1:=O.same sm
  refine aM (v:=oI (if okK wi hi hs sq ax up 1 then some (sqK wi sq ax up 1) else none)) (tu (p:=p) (aa rfl) O1.no (ad (aa rfl) (ad (aa rfl) (ad (aa rfl) au))) (λ Q q=>⟨p,wi,hi,hs,sq,ax,up,rfl,O1,?_⟩)) ?_
  ·have e:=jK (hi:=hi) (hs:=hs) (s:=sq) (ax:=ax) (up:=up) (k:=0) w1 (by simp; exact m0) (by simp; exact m1)
   rw [oz w1] at e
   rw [e]
   exact q
  refine ⟨λ m σ' H'=> ∃i:Nat,m=8 - i/\i<=8/\(∀j<i,okK wi hi hs sq ax up (j+1))/\σ'=[some (.ref p),some (.int sq),some (.int ax),some (.int up),some (.ref q),some (oI (if okK wi hi hs sq ax up (i+1) then some (sqK wi sq ax up (i+1)) else none))]/\H' q=some (.lst ((rayL wi sq ax up i).map V.int))/\ah H H',
   ⟨8,0,rfl,by lia,λ j hj=>by lia,rfl,af,sm⟩,?_⟩
  rintro m _ H1 ⟨i,rfl,hi8,hok,rfl,hl,hs1⟩
  by_cases hk:okK wi hi hs sq ax up (i+1)
  ·rw [if_pos hk]
   have hlt:=q9 w8 O.h8 w1 s0 s1 n0 hk
   refine (aQ (fR (aa rfl) am)) _ (gC ⟨_,λ _ _ h=>h,?_⟩)
   refine st_app (aa rfl) (aa rfl) hl (by rw [y3,fA,sizeLine_eq]; lia) ?_
   have s2:ah H (upd H1 q (.lst ((rayL wi sq ax up i).map V.int++[.int (sqK wi sq ax up (i+1))]))):=hs1.put hq
   have O2:=O.same s2
   refine ic (v:=oI (if okK wi hi hs sq ax up (i+1+1) then some (sqK wi sq ax up (i+1+1)) else none)) (tu (p:=p) (aa rfl) O2.no (ad (aa rfl) (ad (aa rfl) (ad (aa rfl) au))) (λ Q q=>⟨p,wi,hi,hs,sqK wi sq ax up (i+1),ax,up,rfl,O2,?_⟩)) ?_
   ·rw [jK w1 hk.1 hk.2.1]
    exact q
   ·refine ⟨8 - (i+1),by lia,i+1,rfl,by lia,λ j hj=>?_,rfl,?_,s2⟩
    ·by_cases e:j=i
     ·subst e; exact hk
     ·exact hok j (by lia)
    ·rw [af,ug,zn]
     rfl
  ·rw [if_neg hk]
   refine (aQ (eP (aa rfl) am)) _ (fE ?_)
   dsimp only
   exact aG (aa rfl) (k i q H1 ⟨hok,hk⟩ hi8 hq hl hs1)
theorem qU {f:Addr}{fd:FuncData}(F:Fun K "kind_of" "kind_of" d4 f fd) (T:Txt mg aS aA aE aW):ba P w K mg base CX0 1 f fd ["sign"] wS:=by
 refine F.ok qH (λ vs H Q E h=>?_) (λ cdv A outer s H vs Q E hr h=>?_)
 ·obtain ⟨c,rfl,_⟩:=h
  rfl
 ·obtain ⟨c,rfl,hc,q⟩:=h
  have hu:=bQ hr
  refine ⟨_,(aj (ay (dH (aJ K hu (cv 0) (bT (pac (kg T.EMPTY) (pac (kg T.HOLE) pa_nil)))) cQ (n6 PySem.F.slot_str_lower PySem.F.type_str_lower xH (cv 0))))),?_⟩
  show cJ _ _ [some (.str (one c))] H
  simp only [cJ,tIf]
  refine in2_k (aa rfl) yr tE (λ H' s=>?_)
  have k:=q H' s
  unfold jr at k
  by_cases h:c=46\/c=35
  ·rw [decide_eq_true h]
   rw [if_pos h] at k
   exact gC (evk am k)
  ·rw [decide_eq_false h]
   rw [if_neg h] at k
   exact fE (evk (ev_lo (aa rfl) hc) k)
theorem qT {f:Addr}{fd:FuncData}(F:Fun K "side_of" "side_of" dZ f fd) (T:Txt mg aS aA aE aW):ba P w K mg base CX0 1 f fd ["sign"] jU:=by
 refine F.ok qG (λ vs H Q E h=>?_) (λ cdv A outer s H vs Q E hr h=>?_)
 ·obtain ⟨c,rfl,_⟩:=h
  rfl
 ·obtain ⟨c,rfl,hc,q⟩:=h
  have hu:=bQ hr
  refine ⟨_,(ae (aR (aJ K hu (cv 0) (bT (pac (kg T.EMPTY) (pac (kg T.HOLE) pa_nil)))) (aj (ay cQ)) aC)
   (aj (ay (dH (bq (n6 PySem.F.slot_str_isupper PySem.F.type_str_isupper mt_iuA (cv 0))) ag ag)))),?_⟩
  show bj _ _ _ [some (.str (one c))] H
  unfold bF at q
  refine dL (λ b H'=>b=decide (c=46\/c=35)/\ah H H') (λ Q q=>in2_k (aa rfl) yr tE (λ H' s=>q _ _ ⟨rfl,s⟩)) (λ H1 h=>?_) (λ H1 h=>?_)
  ·have k:=q H1 h.2
   rw [if_pos (of_decide_eq_true h.1.symm)] at k
   exact aG am k
  ·have k:=q H1 h.2
   rw [if_neg (of_decide_eq_false h.1.symm)] at k
   refine aG (yq (aQ (ev_iu (aa rfl) hc)) (λ _=>am) (λ _=>am)) ?_
   by_cases g:65<=c/\c<=90
   ·rw [decide_eq_true g]
    rw [if_pos g] at k
    exact k
   ·rw [decide_eq_false g]
    rw [if_neg g] at k
    exact k
end
end K13
namespace K13
open PySem L2
section
variable {P:Program}{w:World}{K:Frag}{mg:Str->Option Value}{base:Heap}{aS aA aE aW:Addr}
theorem ok_slid {f:Addr}{fd:FuncData}(F:Fun K "slid" "slid" iT f fd) (T:Txt mg aS aA aE aW) (C:CRs P w K mg base):ba P w K mg base CX0 2 f fd ["row","side","aim","path"] (wQ K):=by
 refine F.ok jI (λ vs H Q E h=>?_) (λ cdv A outer s H vs Q E hr h=>?_)
 ·obtain ⟨row,aim,sd,p,path,rfl,_⟩:=h
  rfl
 ·obtain ⟨row,aim,sd,p,path,rfl,hp,R,hg,h8,k⟩:=h
  have hu:=bQ hr
  have rl:=R.len
  refine ⟨_,(ae (aw (i:=4) jI.nd rfl (Or.inl rfl) (aY pa_nil))
   (ae (dN PassesOwn.never rfl (kpl K (cv 3)) (bK (i:=5) jI.nd rfl (Or.inl rfl)) (ae (aw (i:=6) jI.nd rfl (Or.inl rfl) (aB C.side_of hr (pac (kix K (cv 0) (cv 5)) pa_nil)))
   (ae (aR (aJ K hu (cv 6) cQ) (ae (aR (PW.pt (fO (aJ K hu (cv 6) (cv 1)) (eS (aJ K hu (cv 2) bn)))) (aj (cN (fo (cv 4) (bT (pac (cv 5) (pac (cv 5) pa_nil)))))) aC)
   (aj xt)) aC)
   (aj (aR (aJ K hu (cv 2) bn) (aj (cN (fo (cv 4) (bT (pac (cv 5) (pac (kg T.NOTHING) pa_nil)))))) aC)))))
   (aj (ay (cv 4))))),?_⟩
  show bj _ _ _ [some (.str row),some (.int sd),some (.str aim),some (.ref p),none,none,none] H
  refine eZ λ q hq=>?_
  have sm:ah H (upd H q (.lst [])):=(ah.refl H).upd hq
  refine bZ (λ σ' H'=>(∃o5 o6,σ'=[some (.str row),some (.int sd),some (.str aim),some (.ref p),some (.ref q),o5,o6])/\aZ H H' q (cL row sd aim path)/\ah H H') (λ K' hK=>?_) ?_
  ·refine fF (λ v H'=>v=.ref p/\H'=upd H q (.lst [])) (λ Q z=>aa rfl _ (z _ _ ⟨rfl,rfl⟩)) ?_
   rintro _ _ ⟨rfl,rfl⟩
   refine ⟨p,path.map V.int,rfl,sm.seq hp,λ i σ' H'=> ∃(l:List (Int×Int)),(∃o5 o6,σ'=[some (.str row),some (.int sd),some (.str aim),some (.ref p),some (.ref q),o5,o6])/\aZ H H' q l/\l.length<=i/\l++cL row sd aim (path.drop i)=cL row sd aim path/\ah H H',⟨[],⟨_,_,rfl⟩,aZ.nil,AV _,rfl,sm⟩,?_,?_,?_⟩
   ·rintro i σ' H' _ ⟨_,_,_,_,_,s1⟩
    exact s1.seq hp
   ·rintro i x _ H1 hx ⟨l,⟨o5,o6,rfl⟩,⟨ps,p1,p2,p3⟩,ll,el,s1⟩
    have hi:i<path.length:=by
     have:=(zo.mp hx).1
     rwa [y3] at this
    obtain rfl:x=.int path[i]:=by
     rw [y8,y7 hi] at hx
     exact (Option.some.inj hx).symm
    have hd:path.drop i=path[i]::path.drop (i+1):=Af hi
    obtain ⟨g0,g1⟩:=hg _ (zp hi)
    generalize path[i]=g at hd g0 g1
    obtain ⟨at1,at2⟩:=R.at g0 g1
    rw [hd,fK] at el
    show bj _ _ _ [some (.str row),some (.int sd),some (.str aim),some (.ref p),some (.ref q),some (.int g),o6] H1
    refine bI (λ v H'=>v=sdV row g/\ah H1 H') (λ Q z=>(ad (cS (aa rfl) (aa rfl) (by rw [sizeLine_eq]; lia) at1) au) _ ⟨_,rfl,at2,λ H2 s2=>z _ _ ⟨rfl,s2⟩⟩) ?_
    rintro _ H2 ⟨rfl,s2⟩
    have p2':=s2 _ _ p2
    have p3':∀p∈ps,H p.2=none/\H2 p.2=some (.tup (p.1.map V.int)):=λ p h=>⟨(p3 p h).1,s2 _ _ (p3 p h).2⟩
    have s3:=s1.trans s2
    have lz:(ps.map λ z=>V.ref z.2).length=l.length:=by
     have:=congrArg List.length p1
     rw [y3,y3] at this
     rw [y3,this]
    by_cases hn:sdV row g=.non
    ·rw [if_pos hn] at el
     refine aV (b:=false) ?_ (λ z=>nomatch z) λ _=>?_
     ·rw [hn]
      exact aQ (eP (aa rfl) am)
     ·refine ib (aQ (jc (aa rfl) am)) (λ h=>?_) (λ h=>?_)
      ·have ha:¬aim="hit":=λ z=>by rw [z] at h; simp at h
       rw [if_neg ha] at el
       refine jw (aa rfl) ⟨_,p2'⟩ (eG (aa rfl) (am (x:=.int (-1))) λ t ht=>?_)
       have nt:q≠t:=λ z=>by rw [<-z,p2'] at ht; cases ht
       refine ⟨_,by rw [aq nt]; exact p2',by rw [lz,sizeLine_eq]; lia,l++[(g, -1)],⟨_,_,rfl⟩,aZ.add p1 p2' p3' s3 ht,by rw [zm]; show l.length+1<=_; lia,by rw [zW]; exact el,?_⟩
       exact (s3.upd ht).put hq
      ·have ha:aim="hit":=by simpa using h
       rw [if_pos ha] at el
       exact ⟨l,⟨_,_,rfl⟩,⟨ps,p1,p2',p3'⟩,by lia,el,s3⟩
    ·rw [if_neg hn] at el
     obtain ⟨v,hv⟩:∃v,sdV row g=.int v:=by
      unfold sdV bF at hn ⊢
      split
      ·rename_i z; rw [if_pos z] at hn; exact absurd rfl hn
      ·exact ⟨_,rfl⟩
     rw [hv] at el ⊢
     refine aV (b:=true) (aQ (fR (aa rfl) am)) (λ _=>?_) (λ z=>nomatch z)
     refine aV (fH (aQ (tm (aa rfl) (aa rfl))) (λ _=>(aQ (jc (aa rfl) am)))) (λ h=>?_) (λ h=>?_)
     ·rw [Bu] at h
      have h1:¬v=sd:=λ z=>by have:=h.1; rw [z] at this; simp at this
      have h2:¬aim="go":=λ z=>by have:=h.2; rw [z] at this; simp at this
      rw [if_pos ⟨λ z=>h1 (by injection z),h2⟩] at el
      refine jw (aa rfl) ⟨_,p2'⟩ (eG (aa rfl) (aa rfl) λ t ht=>?_)
      have nt:q≠t:=λ z=>by rw [<-z,p2'] at ht; cases ht
      refine ⟨_,by rw [aq nt]; exact p2',by rw [lz,sizeLine_eq]; lia,hK _ _ ⟨⟨_,_,rfl⟩,?_,(s3.upd ht).put hq⟩⟩
      rw [<-el]
      exact aZ.add p1 p2' p3' s3 ht
     ·have h3:¬(¬v=sd/\¬aim="go"):=λ z=>by simp [z.1,z.2] at h
      rw [if_neg (λ z=>h3 ⟨λ w=>z.1 (by rw [w]),z.2⟩),zt] at el
      refine hK _ _ ⟨⟨_,_,rfl⟩,?_,s3⟩
      rw [<-el]
      exact ⟨ps,p1,p2',p3'⟩
   ·rintro σ' H' ⟨l,o,hP,_,el,s1⟩
    rw [y3,List.drop_length] at el
    refine hK _ _ ⟨o,?_,s1⟩
    rw [<-el]
    simpa [cL] using hP
  ·rintro _ H1 ⟨⟨o5,o6,rfl⟩,hP,s1⟩
   exact aG (aa rfl) (k q H1 hq hP s1)
theorem uA {f:Addr}{fd:FuncData}(F:Fun K "jumped" "jumped" fz f fd) (T:Txt mg aS aA aE aW) (C:CRs P w K mg base):ba P w K mg base CX0 2 f fd ["row","side","path"] (wT K):=by
 refine F.ok ud (λ vs H Q E h=>?_) (λ cdv A outer s H vs Q E hr h=>?_)
 ·obtain ⟨row,sd,p,path,rfl,_⟩:=h
  rfl
 ·obtain ⟨row,sd,p,path,rfl,hp,R,hg,hsd,k⟩:=h
  have hu:=bQ hr
  have rl:=R.len
  refine ⟨_,(ae (aR (PW.pt (dR (aJ K hu (kB (gB K) bW T.len (pac (cv 2) pa_nil)) ag) (dR (aJ K hu (aB C.side_of hr (pac (kix K (cv 0) (kix K (cv 2) ag)) pa_nil)) (ao ag (cv 1))) (cP (aJ K hu (aB C.side_of hr (pac (kix K (cv 0) (kix K (cv 2) ag)) pa_nil)) cQ))))) (aj (ay (aY pa_nil))) aC)
   (aj (ay (aY (pac (bT (pac (kix K (cv 2) ag) (pac (kix K (cv 2) ag) pa_nil))) pa_nil))))),?_⟩
  show bj _ _ _ [some (.str row),some (.int sd),some (.ref p)] H
  refine dL (λ b H'=>ah H H'/\(b=true->jumpL row sd path=[])/\(b=false->∃g b' r,path=g::b'::r/\jumpL row sd path=[(b',g)])) (λ Q z=>?_) (λ H' ⟨s1,e,_⟩=>?_) (λ H' ⟨s1,_,e⟩=>?_)
  ·refine torh_k (b:=decide (((path.map V.int).length:Int)<2)) (aQ (tw (dk (aa rfl) (.inl hp)) am)) (λ h=>z _ _ ⟨ah.refl H,λ _=>?_,λ w=>nomatch w⟩) (λ h=>?_)
   ·have:=of_decide_eq_true h
    rw [y3] at this
    match path,this with
    | [],_=>rfl
    | [_],_=>rfl
    | _::_::_,w=>simp at w; lia
   ·have hl:=of_decide_eq_false h
    rw [y3] at hl
    obtain ⟨g,b,r,rfl⟩:∃g b r,path=g::b::r:=by
     match path,hl with
     | [],w=>simp at w
     | [_],w=>simp at w
     | g::b::r,_=>exact ⟨g,b,r,rfl⟩
    obtain ⟨g0,g1⟩:=hg g (by simp)
    obtain ⟨b0,b1⟩:=hg b (by simp)
    obtain ⟨x1,x2⟩:=R.at g0 g1
    obtain ⟨y1,y2⟩:=R.at b0 b1
    refine wH (yt (ad (cS (aa rfl) (aT (x:=.int g) (aa rfl) am (.inl hp) (bz (j:=0) rfl)) (by rw [sizeLine_eq]; lia) x1) au) ⟨_,rfl,x2,λ H2 s2=>evk (gE am (aa rfl)) ?_⟩)
    rw [side_ne]
    show if (!decide (sdV row g=.int (1 - sd)))=true then _ else _
    by_cases h1:sdV row g=.int (1 - sd)
    ·rw [decide_eq_true h1]
     refine fE (yt (ad (cS (aa rfl) (aT (x:=.int b) (aa rfl) am (.inl (s2.seq hp)) (bz (j:=1) rfl)) (by rw [sizeLine_eq]; lia) y1) au) ⟨_,rfl,y2,λ H3 s3=>evk am ?_⟩)
     rw [qC]
     show Q (!decide (sdV row b=.non)) H3
     refine z _ _ ⟨s2.trans s3,λ h2=>?_,λ h2=>⟨g,b,r,rfl,?_⟩⟩
     ·show (if _ then _ else _)=_
      rw [if_neg (λ w=>by rw [decide_eq_true w.2] at h2; cases h2)]
     ·show (if _ then _ else _)=_
      rw [if_pos ⟨h1,by simpa using h2⟩]
    ·rw [decide_eq_false h1]
     refine gC (z _ _ ⟨s2,λ _=>?_,λ w=>nomatch w⟩)
     show (if _ then _ else _)=_
     rw [if_neg (λ w=>h1 w.1)]
  ·refine ⟨AV _,λ q hq=>k q _ (s1.free hq) ?_ (s1.upd hq)⟩
   rw [e rfl]
   exact ⟨[],rfl,af,λ _ z=>nomatch z⟩
  ·obtain ⟨g,b,r,rfl,e⟩:=e rfl
   have hp2:=s1.seq hp
   refine ku (eG (x:=.int b) (y:=.int g) (aT (aa rfl) am (.inl hp2) (bz (j:=1) rfl)) (aT (aa rfl) am (.inl hp2) (bz (j:=0) rfl)) λ t ht=>⟨by show 1<=sizeLine; decide,λ q hq=>?_⟩)
   have hq1:H' q=none:=by
    by_cases w:q=t
    ·rw [w]; exact ht
    ·rw [aq w] at hq; exact hq
   have nt:t≠q:=λ w=>by rw [w,af] at hq; cases hq
   refine k q _ (s1.free hq1) ?_ ((s1.upd ht).upd hq)
   rw [e]
   refine ⟨[([b,g],t)],rfl,af,λ p hp=>?_⟩
   rw [zh.mp hp]
   exact ⟨s1.free ht,by rw [aq nt,af]; rfl⟩
theorem q8 {f cB:Addr}{fd:FuncData}(F:Fun K "by_rule" "by_rule" eC f fd) (T:Txt mg aS aA aE aW) (C:CRb P w K mg base cB):ba P w K mg base CX0 4 f fd ["board","row","square","rule"] (oN K cB):=by
 refine F.ok hZ (λ vs H Q E h=>?_) (λ cdv A outer s H vs Q E hr h=>?_)
 ·obtain ⟨b,r,row,sq,sd,wi,hi,hs,u,rfl,_⟩:=h
  rfl
 ·obtain ⟨b,r,row,sq,sd,wi,hi,hs,u,rfl,B,hT,R,rl,s0,s1,hsd,sd2,n0,k⟩:=h
  have hu:=bQ hr
  have r64:=R.len
  obtain ⟨x1,x2⟩:=R.at s0 (by lia)
  refine ⟨_,(ae (aw (i:=4) hZ.nd rfl (Or.inl rfl) (aB C.side_of hr (pac (kix K (cv 1) (cv 2)) pa_nil)))
   (ae (aw (i:=5) hZ.nd rfl (Or.inl rfl) (aB C.ray hr (pac (cv 0) (pac (cv 2) (pac (kix K (cv 3) ag) (pac (dH (aJ K hu (cv 4) ag) (kix K (cv 3) ag) (kM (kix K (cv 3) ag))) pa_nil))))))
   (ae (aR (aJ K hu (kix K (cv 3) ag) bn) (aj (ay (aB C.jumped hr (pac (cv 1) (pac (cv 4) (pac (cv 5) pa_nil)))))) aC)
   (aj (ay (aB C.slid hr (pac (cv 1) (pac (cv 4) (pac (kix K (cv 3) ag) (pac (dH (aJ K hu (kix K (cv 3) ag) bn) (ksl K (cv 5) gQ (gS ag)) (cv 5)) pa_nil)))))))))),?_⟩
  show bj _ _ _ [some (.ref b),some (.str row),some (.int sq),some (.ref r),none,none] H
  refine bI (λ v H'=>v=sdV row sq/\ah H H') (λ Q z=>(ad (cS (aa rfl) (aa rfl) (by rw [sizeLine_eq]; lia) x1) au) _ ⟨_,rfl,x2,λ H2 s2=>z _ _ ⟨rfl,s2⟩⟩) ?_
  rintro _ H1 ⟨rfl,q1⟩
  rw [hsd]
  have T1:∀{H'},ah H H'->SqT K H' r u.vs:=λ z=>ah.tupY z hT
  have dy0:¬(u.ax=0/\u.dy sd=0):=λ z=>n0 ⟨z.1,by have:=z.2; unfold aF.dy at this; split at this<;>lia⟩
  refine bI (λ v H'=> ∃n q,v=.ref q/\fG wi hi hs sq u.ax (u.dy sd) n/\n<=8/\H' q=some (.lst ((rayL wi sq u.ax (u.dy sd) n).map V.int))/\ah H1 H')
   (λ Q z=>(ad (aa rfl) (ad (aa rfl) (ad (aT (x:=.int u.ax) (aa rfl) am (.inr (T1 q1)) rfl) (ad (x:=.int (u.dy sd)) (λ Q' z'=>?_) au)))) _ ⟨b,wi,hi,hs,sq,u.ax,u.dy sd,rfl,B.same q1,s0,s1,dy0,λ n q H' a1 a2 _ a4 a5=>z _ _ ⟨n,q,rfl,a1,a2,a4,a5⟩⟩) ?_
  ·refine lB (b:=decide (sd=0)) (aQ (g8 (aa rfl) am)) (λ h=>?_) (λ h=>?_)
   ·have h:=of_decide_eq_true h
    rw [show u.dy sd=u.up by unfold aF.dy; rw [if_pos h]] at z'
    exact aT (x:=.int u.up) (aa rfl) am (.inr (T1 q1)) rfl _ z'
   ·have h:=of_decide_eq_false h
    rw [show u.dy sd= -u.up by unfold aF.dy; rw [if_neg h]] at z'
    exact kE (aT (x:=.int u.up) (aa rfl) am (.inr (T1 q1)) rfl) _ z'
  rintro _ H2 ⟨n,q,rfl,ry,n8,hq,q2⟩
  have q3:=q1.trans q2
  have inr:∀g∈rayL wi sq u.ax (u.dy sd) n,0<=g/\g<(row.length:Int):=λ g hg=>by
   obtain ⟨a,b,_⟩:=xa B.w1 ry g hg
   lia
  have free:∀{p:Addr},H2 p=none->H p=none:=λ {p} h=>q3.free h
  refine aV (b:=decide (u.so="jump")) (aQ (dl (aT (x:=.str u.so) (aa rfl) am (.inr (T1 q3)) rfl) am)) (λ h=>?_) (λ h=>?_)
  ·have h:=of_decide_eq_true h
   refine ret_y ((ad (aa rfl) (ad (aa rfl) (ad (aa rfl) au))) _ ⟨row,sd,q,_,rfl,.inl (.inl hq),R,inr,sd2,λ t H' t1 t2 t3=>k n t H' ry n8 (free t1) ?_ (q3.trans t3)⟩)
   unfold byL
   rw [if_pos h]
   exact t2.from q3
  ·have h:=of_decide_eq_false h
   refine ret_y ((aa rfl) _ ((aa rfl) _ ((aT (x:=.str u.ai) (aa rfl) am (.inr (T1 q3)) rfl) _ ?_)))
   refine lB (b:=decide (u.so="leap")) (aQ (dl (aT (x:=.str u.so) (aa rfl) am (.inr (T1 q3)) rfl) am)) (λ h2=>?_) (λ h2=>?_)
   ·have h2:=of_decide_eq_true h2
    refine lJ (lo:=none) (hi:=some 1) (aa rfl) sH (sI am) (.inl (.inl hq)) λ p hp=>?_
    have q4:ah H (upd H2 p (.lst (cutV ((rayL wi sq u.ax (u.dy sd) n).map V.int) none (some 1)))):=q3.upd hp
    have ec:cutV ((rayL wi sq u.ax (u.dy sd) n).map V.int) none (some 1)=((rayL wi sq u.ax (u.dy sd) n).take 1).map V.int:=by
     exact cut1R _
    refine ⟨row,u.ai,sd,p,(rayL wi sq u.ax (u.dy sd) n).take 1,rfl,.inl (.inl (by rw [ec]; exact af)),R,λ g hg=>inr g (zU hg),by rw [zx]; lia,λ t H' t1 t2 t3=>k n t H' ry n8 (q4.free t1) ?_ (q4.trans t3)⟩
    unfold byL
    rw [if_neg h,if_pos h2]
    exact t2.from q4
   ·have h2:=of_decide_eq_false h2
    refine (aa rfl) _ ⟨row,u.ai,sd,q,_,rfl,.inl (.inl hq),R,inr,by rw [fA]; exact n8,λ t H' t1 t2 t3=>k n t H' ry n8 (free t1) ?_ (q3.trans t3)⟩
    unfold byL
    rw [if_neg h,if_neg h2]
    exact t2.from q3
end
end K13
namespace K13
open PySem L2
section
variable {P:Program}{w:World}{K:Frag}{mg:Str->Option Value}{base:Heap}{aS aA aE aW:Addr}
theorem iY {f cG:Addr}{fd:FuncData}(F:Fun K "rules_of" "Game.rules_of" bA f fd) (T:Txt mg aS aA aE aW) (D:GmC K cG):ba P w K mg base CX0 1 f fd ["self","kind"] (lF cG):=by
 refine F.ok iR (λ vs H Q E h=>?_) (λ cdv A outer s H vs Q E hr h=>?_)
 ·obtain ⟨g,b,kd,ks,ts,es,st,us,rfl,_⟩:=h
  rfl
 ·obtain ⟨g,b,kd,ks,ts,es,st,us,rfl,G,R,h24,k⟩:=h
  have hu:=bQ hr
  obtain ⟨rq,fl,hrq⟩:=G.rules D
  refine ⟨_,(aj (ay (eO (bV (N:=["rule","kind"]) (src:=[none,some 1]) (ak bA) ["self","kind"]) (kpl K (cz K (cv 0))) (λ _ _ _=>(aX (i:=0) ["rule","kind"])) (λ _ _ _=>(gu (aJ K hu (kix K (cv 0) ag) (cv 1)))) (λ _ _ _=>(cv 0))))),?_⟩
  show tComp _ _ _ _ _ [some (.ref g),some (.str kd)] H Q
  refine eV (d:=rq) (xs:=rRefs us) (rest:=[some (.str kd)]) (aU (aa rfl) fl) (SqL.of hrq) (by rw [y3,sizeLine_eq]; lia) rfl (kdP us kd) (λ v=>v) (λ x hx=>?_) (λ x hx _=>aa rfl) (λ d hd=>?_)
  ·obtain ⟨z,hz,rfl⟩:=y4.mp hx
   rw [xT R hz]
   exact aQ (dl (aT (x:=.str z.1.kd) (aa rfl) am (.inr (.inl (.inl (R z hz)))) rfl) (aa rfl))
  ·rw [rz R,List.map_id'']
   ·exact k d _ hd af ((ah.refl H).upd hd)
   ·exact λ _=>rfl
theorem xD {f cB cG:Addr}{fd:FuncData}(F:Fun K "goals" "goals" gP f fd) (T:Txt mg aS aA aE aW) (D:GmC K cG) (C:CRg P w K mg base cB cG):ba P w K mg base CX0 5 f fd ["game","row","square"] (mz K cB cG):=by
 refine F.ok j3 (λ vs H Q E h=>?_) (λ cdv A outer s H vs Q E hr h=>?_)
 ·obtain ⟨g,b,row,kd,sq,sd,wi,hi,hs,ks,ts,es,st,us,rfl,_⟩:=h
  rfl
 ·obtain ⟨g,b,row,kd,sq,sd,wi,hi,hs,ks,ts,es,st,us,rfl,G,B,U,u12,un0,R,rl,s0,s1,hsd,sd2,hkd,few,k⟩:=h
  have hu:=bQ hr
  have r64:=R.len
  obtain ⟨x1,x2⟩:=R.at s0 (by lia)
  have ol:(ofKind us kd).length<=12:=AX (zN _ _) u12
  have osub:∀z∈ofKind us kd,z∈us:=λ z hz=>(zy.mp hz).1
  refine ⟨_,(ae (aw (i:=3) j3.nd rfl (Or.inl rfl) (aY pa_nil))
   (ae (dN PassesOwn.never rfl (kpl K (xQ C.Game_rules_of hr (cv 0) (pac (aB C.kind_of hr (pac (kix K (cv 1) (cv 2)) pa_nil)) pa_nil))) (bK (i:=4) j3.nd rfl (Or.inl rfl)) (aj (cN (yN (cv 3) (aB C.by_rule hr (pac (cz K (cv 0)) (pac (cv 1) (pac (cv 2) (pac (cv 4) pa_nil)))))))))
   (aj (ay (kB (ksortP P w hr) jf T.sorted (pac (kTy (ksetP P w K hr) oh T.set (pac (cv 3) pa_nil)) pa_nil)))))),?_⟩
  show bj _ _ _ [some (.ref g),some (.str row),some (.int sq),none,none] H
  refine eZ λ q hq=>?_
  have sm:ah H (upd H q (.lst [])):=(ah.refl H).upd hq
  refine bZ (λ σ' H'=>(∃o,σ'=[some (.ref g),some (.str row),some (.int sq),some (.ref q),o])/\(∃l,aI wi hi hs row sq sd (ofKind us kd) l/\aZ H H' q l)/\ah H H') (λ K' hK=>?_) ?_
  ·refine fF (λ v H'=> ∃d,v=.ref d/\H' d=some (.lst (rRefs (ofKind us kd)))/\d≠q/\ah (upd H q (.lst [])) H') (λ Q z=>?_) ?_
   ·refine (show Ev (iH 0) _ _ (.ref g) from aa rfl) _ ⟨(G.same sm).no,arg_y ((ad (cS (aa rfl) (aa rfl) (by rw [sizeLine_eq]; lia) x1) au) _ ⟨_,rfl,x2,λ H2 s2=>?_⟩)⟩
    rw [hkd]
    refine ⟨g,b,kd,ks,ts,es,st,us,rfl,(G.same sm).same s2,(U.same sm).same s2,by lia,λ d H' d1 d2 d3=>z _ _ ⟨d,rfl,d2,λ e=>?_,s2.trans d3⟩⟩
    rw [e,s2 _ _ af] at d1
    cases d1
   ·rintro _ H1 ⟨d,rfl,hd,ndq,s1'⟩
    refine ⟨d,rRefs (ofKind us kd),rfl,SqL.of hd,λ i σ' H'=>(∃o,σ'=[some (.ref g),some (.str row),some (.int sq),some (.ref q),o])/\(∃l,aI wi hi hs row sq sd ((ofKind us kd).take i) l/\aZ H H' q l)/\ah H H'/\H' d=some (.lst (rRefs (ofKind us kd))),⟨⟨_,rfl⟩,⟨[],.nil,[],rfl,s1' _ _ af,λ _ z=>nomatch z⟩,sm.trans s1',hd⟩,?_,?_,?_⟩
    ·rintro i σ' H' _ ⟨_,_,_,h⟩
     exact SqL.of h
    ·rintro i x _ H2 hx ⟨⟨o,rfl⟩,⟨l,hl,ps,p1,p2,p3⟩,s2,hd2⟩
     have hi':i<(ofKind us kd).length:=by
      have:=(zo.mp hx).1
      rwa [y3] at this
     obtain rfl:x=.ref (ofKind us kd)[i].2:=by
      rw [y8,y7 hi'] at hx
      exact (Option.some.inj hx).symm
     have tk:(ofKind us kd).take (i+1)=(ofKind us kd).take i++[(ofKind us kd)[i]]:=by rw [AF hi']
     have hz:=osub _ (zp hi')
     generalize (ofKind us kd)[i]=zz at tk hz
     have ll:=hl.len
     rw [zx] at ll
     show gX _ _ [some (.ref g),some (.str row),some (.int sq),some (.ref q),some (.ref zz.2)] H2
     refine ext_k (aa rfl) p2 ((ad (aU (aa rfl) ((G.same s2).board D)) (ad (aa rfl) (ad (aa rfl) (ad (aa rfl) au)))) _ ⟨b,zz.2,row,sq,sd,wi,hi,hs,zz.1,rfl,B.same s2,.inl (.inl ((U.same s2) zz hz)),R,rl,s0,s1,hsd,sd2,un0 zz hz,λ n t H3 ry n8 ht hP s3=>?_⟩)
     obtain ⟨ps2,g1,g2,g3⟩:=hP
     have lr:dQ wi hi hs row sq sd zz.1 (byL row sd zz.1.so zz.1.ai (rayL wi sq zz.1.ax (zz.1.dy sd) n)):=⟨n,ry,n8,rfl⟩
     have lr8:=lr.len
     have z1:=congrArg List.length p1
     have z2:=congrArg List.length g1
     rw [y3,y3] at z1 z2
     refine ⟨t,_,_,rfl,s3 _ _ p2,g2,by rw [y3,y3,sizeLine_eq]; lia,⟨_,rfl⟩,⟨_,?_,aZ.cat p1 (s3 _ _ p2) (λ p hp=>⟨(p3 p hp).1,s3 _ _ (p3 p hp).2⟩) s2 g1 g3⟩,(s2.trans s3).put hq,?_⟩
     ·rw [tk]
      exact aI.add lr hl
     ·rw [aq ndq]
      exact s3 _ _ hd2
    ·rintro σ' H' ⟨o,⟨l,hl,hP⟩,s2,_⟩
     rw [y3,Ai] at hl
     exact hK _ _ ⟨o,⟨l,hl,hP⟩,s2⟩
  ·rintro _ H1 ⟨⟨o,rfl⟩,⟨l,hl,ps,p1,p2,p3⟩,s2⟩
   have ll:=hl.len
   have z1:=congrArg List.length p1
   rw [y3,y3] at z1
   refine qA ((aa rfl) _ (qD (SqL.of p2) (λ p hp=>⟨?_,(p3 p hp).2⟩) (by lia) (λ L nd mem=>?_) λ ps' q' H' sub mem pw hq' s3 hq2=>?_))
   ·have:p.1∈l.map pk:=by rw [<-p1]; exact y4.mpr ⟨p,hp,rfl⟩
    obtain ⟨x,_,e⟩:=y4.mp this
    rw [<-e]
    exact λ z=>nomatch z
   ·obtain ⟨m,rfl,hm⟩:=unpk (l:=l) λ k hk=>by rw [<-p1]; exact (mem k).mp hk
    rw [y3]
    refine few l hl m ?_ hm
    rw [zC,zv] at nd
    exact nd.imp λ z e=>z (by rw [e])
   ·obtain ⟨l',e,hm⟩:=unpk (l:=l) (L:=ps'.map (·.1)) λ k hk=>by rw [<-p1]; exact (mem k).mp hk
    refine k l l' q' H' hl ⟨λ x=>⟨hm x,λ hx=>?_⟩,?_⟩ (s2.free hq') ⟨ps',e,hq2,λ p hp=>⟨(p3 p (sub p hp)).1,s3 _ _ (p3 p (sub p hp)).2⟩⟩ (s2.trans s3)
    ·have:pk x∈ps'.map (·.1):=(mem _).mpr (by rw [p1]; exact y4.mpr ⟨x,hx,rfl⟩)
     rw [e] at this
     obtain ⟨y,hy,ey⟩:=y4.mp this
     exact nu ey▸hy
    ·have z:(ps'.map (·.1)).Pairwise λ x y=>cR x y=true:=zv.mpr pw
     rw [e] at z
     exact zv.mp z
end
end K13
namespace K13
open PySem L2
section
variable {P:Program}{w:World}{K:Frag}{mg:Str->Option Value}{base:Heap}{aS aA aE aW:Addr}
theorem jB {f:Addr}{fd:FuncData}(F:Fun K "_law_cell_at" "_law_cell_at" bR f fd) (T:Txt mg aS aA aE aW):ba P w K mg base CX0 1 f fd ["_law_script","_law_k"] (ii K):=by
 refine F.ok jx (λ vs H Q E h=>?_) (λ cdv A outer s H vs Q E hr h=>?_)
 ·obtain ⟨a,ns,k,rfl,_⟩:=h
  rfl
 ·obtain ⟨a,ns,k,rfl,hS,k0,q⟩:=h
  have hu:=bQ hr
  refine ⟨_,(ae (aR (aJ K hu (cv 1) (kB (gB K) bW T.len (pac (cv 0) pa_nil))) (aj (ay (kix K (cv 0) (cv 1)))) aC)
   (aj (ay ag))),?_⟩
  show bj _ _ _ [some (.ref a),some (.int k)] H
  unfold cellAt at q
  refine aV (aQ (tw (aa rfl) (dk (aa rfl) (.inl hS)))) (λ h=>?_) (λ h=>?_)
  ·have h:=of_decide_eq_true h
   rw [y3] at h
   have hlt:k.toNat<ns.length:=by lia
   have e:(ns.map V.int)[k.toNat]? =some (.int (ns.getD k.toNat 0)):=by
    rw [y8,zb,y7 hlt]
    rfl
   have e2:=bz e
   have ei:((k.toNat:Nat):Int)=k:=by lia
   rw [ei] at e2
   exact aG (aT (aa rfl) (aa rfl) (.inl hS) e2) q
  ·have h:=of_decide_eq_false h
   rw [y3] at h
   rw [zb,zE (by lia)] at q
   exact aG am q
theorem lf {f:Addr}{fd:FuncData}(F:Fun K "_law_mixed" "_law_mixed" cF f fd) (T:Txt mg aS aA aE aW):ba P w K mg base CX0 1 f fd ["_law_cell","_law_k"] ms:=by
 refine F.ok kY (λ vs H Q E h=>?_) (λ cdv A outer s H vs Q E hr h=>?_)
 ·obtain ⟨c,k,rfl,_⟩:=h
  rfl
 ·obtain ⟨c,k,rfl,q⟩:=h
  refine ⟨_,(aj (ay (ao (ao (ao (ao (cv 0) (ao ag (cv 1))) ag) ag) ag))),?_⟩
  show cJ _ _ [some (.int c),some (.int k)] H
  exact aG (aK (dA (bB (bB (aa rfl) (dA am (aa rfl) (.inl ⟨by decide,by decide⟩))) am) am (.inr ⟨by decide,by decide⟩)) am (by decide)) q
theorem lg {f:Addr}{fd:FuncData}(F:Fun K "_law_kinds" "_law_kinds" cf f fd) (T:Txt mg aS aA aE aW):ba P w K mg base CX0 1 f fd ["_law_cell"] oH:=by
 refine F.ok fc (λ vs H Q E h=>?_) (λ cdv A outer s H vs Q E hr h=>?_)
 ·obtain ⟨c,rfl,_⟩:=h
  rfl
 ·obtain ⟨c,rfl,k⟩:=h
  have hu:=bQ hr
  refine ⟨_,(ae (aw (i:=1) fc.nd rfl (Or.inr rfl) bn)
   (ae (aw (i:=2) fc.nd rfl (Or.inr rfl) (kix K (aY (bU rfl)) (ao (ao (cv 0) ag) ag)))
   (aj (ay (eO (bV (N:=["_law_k","_law_letters","_law_cell","_law_step_here"]) (src:=[none,some 1,some 0,some 2]) (ak cf) ["_law_cell","_law_letters","_law_step_here"]) (kr1 T.range (pac (kix K (aY (bU rfl)) (ao (cv 0) ag)) pa_nil)) (λ _ _ _=>(aX (i:=0) ["_law_k","_law_letters","_law_cell","_law_step_here"])) (λ _ _ _=>bG) (λ _ _ _=>(kix K (cv 1) (ao (ao (ao (cv 2) ag) (ao (cv 3) (cv 0))) ag)))))))),?_⟩
  show bj _ _ _ [some (.int c),none,none] H
  refine aM am ?_
  refine bI (λ v H'=> ∃st:Int,v=.int st/\st∈([1,3,5,7,9,11]:List Int)/\ah H H') (λ Q q=>?_) ?_
  ·obtain ⟨n,e,hn⟩:=j7 (ns:=[1,3,5,7,9,11]) (i:=c / 208 % 6) (by lia) (by show _<(6:Int); lia)
   exact iy hG (by decide) (λ H'=>(aK (bC (aa rfl) am ⟨by decide,by decide⟩) am (by decide))) e (λ H' s=>q _ _ ⟨n,rfl,hn,s⟩)
  rintro _ H1 ⟨st,rfl,hst,s1⟩
  obtain ⟨n,e,hn⟩:=j7 (ns:=[1,2,2,3,3,1,6,4]) (i:=c % 8) (by lia) (by show _<(8:Int); lia)
  have hn6:1<=n/\n<=6:=by
   simp only [y6,zq,or_false] at hn
   lia
  show cJ _ _ [some (.int c),some (.str "abcdefghijklmnopqrstuvwxyz"),some (.int st)] H1
  refine uU (n:=n) (rest:=[some (.str "abcdefghijklmnopqrstuvwxyz"),some (.int c),some (.int st)]) (λ Q q=>sE hG (by decide) (λ H'=>(aK (aa rfl) am (by decide))) e q) (by lia) (by rw [sizeLine_eq]; lia) (by lia) rfl (λ _=>true)
   (λ x=>match x with | .int i=>strV (97+((c / 8+st*i) % 26).toNat) | _=>.non) (λ i H' s hi=>df) (λ i H' s hi _=>?_) (λ H' d s hd=>?_)
  ·have hlt:0<=0+(i:Int)/\0+(i:Int)<6:=by lia
   exact cS (aa rfl) (aK (bB (bC (aa rfl) am ⟨by decide,by decide⟩) (dA (aa rfl) (aa rfl) (.inr ⟨by lia,by lia⟩))) am (by decide)) (by decide) (abc_at (by lia) (by lia))
  ·have e2:(((List.range n.toNat).map λ (i:Nat)=>V.int (0+(i:Int))).filter λ _=>true).map (λ x=>match x with | .int i=>strV (97+((c / 8+st*i) % 26).toNat) | _=>.non)=(h9 (c / 8) st n.toNat).map strV:=by
    rw [zG.mpr (λ _ _=>rfl),zk]
    unfold h9
    rw [zk]
    refine zH λ i _=>?_
    show strV (97+((c / 8+st*(0+(i:Int))) % 26).toNat)=strV (97+((c / 8+st*(i:Int)) % 26).toNat)
    rw [Bj]
   rw [e2]
   have hl:(h9 (c / 8) st n.toNat).length=n.toNat:=by unfold h9; simp
   exact k d _ _ ((s1.trans s).free hd) af rp (uG (by lia) hst) (by lia) (by lia) ((s1.trans s).upd hd)
theorem li {f:Addr}{fd:FuncData}(F:Fun K "_law_board" "_law_board" cH f fd) (T:Txt mg aS aA aE aW) (C:LG1 P w K mg base):ba P w K mg base CX0 2 f fd ["_law_script"] (oJ K):=by
 refine F.ok bi (λ vs H Q E h=>?_) (λ cdv A outer s H vs Q E hr h=>?_)
 ·obtain ⟨a,ns,rfl,_⟩:=h
  rfl
 ·obtain ⟨a,ns,rfl,hS,k⟩:=h
  have hu:=bQ hr
  refine ⟨_,(ae (aw (i:=1) bi.nd rfl (Or.inl rfl) (aB C._law_cell_at hr (pac (cv 0) (pac ag pa_nil))))
   (ae (aw (i:=2) bi.nd rfl (Or.inl rfl) (ao ag (ao (cv 1) ag)))
   (ae (aw (i:=3) bi.nd rfl (Or.inl rfl) (ao ag (ao (ao (cv 1) ag) ag)))
   (ae (aR (aJ K hu (ao (ao (cv 1) ag) ag) ag) (ae (aw (i:=2) bi.nd rfl (Or.inl rfl) (ao ag (ao (ao (cv 1) ag) ag)))
   (aj (aw (i:=3) bi.nd rfl (Or.inl rfl) (ao ag (ao (ao (cv 1) ag) ag))))) aC)
   (ae (aw (i:=1) bi.nd rfl (Or.inl rfl) (aB C._law_cell_at hr (pac (cv 0) (pac ag pa_nil))))
   (ae (aw (i:=4) bi.nd rfl (Or.inl rfl) (aY pa_nil))
   (ae (dN PassesOwn.never rfl (kr1 T.range (pac (kix K (aY (bU rfl)) (ao (cv 1) ag)) pa_nil)) (bK (i:=5) bi.nd rfl (Or.inl rfl)) (ae (aw (i:=6) bi.nd rfl (Or.inl rfl) (ao (aB C._law_mixed hr (pac (ao (cv 1) ag) (pac (cv 5) pa_nil))) (ao (cv 2) (cv 3))))
   (aj (aR (PW.pt (fO (aJ K hu (cv 6) (cv 4)) (eS (aJ K hu (ao (kB (gB K) bW T.len (pac (cv 4) pa_nil)) ag) (ao (cv 2) (cv 3)))))) (aj (cN (fo (cv 4) (cv 6)))) aC))))
   (aj (ay (bT (pac (cv 2) (pac (cv 3) (pac (cv 4) pa_nil))))))))))))),?_⟩
  show bj _ _ _ [some (.ref a),none,none,none,none,none,none] H
  refine aM (aD (ad (aa rfl) (ad am au)) (λ Q q=>⟨a,ns,0,rfl,hS,by decide,q⟩)) ?_
  generalize cellAt ns 0=c
  refine aM (bB am (aK (aa rfl) am (by decide))) ?_
  refine aM (bB am (aK (bC (aa rfl) am ⟨by decide,by decide⟩) am (by decide))) ?_
  refine bZ (λ σ' H'=> ∃wi hi:Int,1<=wi/\wi<=8/\1<=hi/\hi<=8/\σ'=[some (.ref a),some (.int c),some (.int wi),some (.int hi),none,none,none]/\H'=H) (λ K' hK=>?_) ?_
  ·refine ib (aQ (g8 (aK (bC (aa rfl) am ⟨by decide,by decide⟩) am (by decide)) am)) (λ _=>?_) (λ _=>hK _ _ ⟨_,_,by lia,by lia,by lia,by lia,rfl,rfl⟩)
   refine aM (bB am (aK (bC (aa rfl) am ⟨by decide,by decide⟩) am (by decide))) ?_
   exact ic (bB am (aK (bC (aa rfl) am ⟨by decide,by decide⟩) am (by decide))) (hK _ _ ⟨_,_,by lia,by lia,by lia,by lia,rfl,rfl⟩)
  rintro _ H1 ⟨wi,hi,w1,w8,h1,h8,rfl,rfl⟩
  have m1:wi*hi<=8*8:=Bk w8 h8 (by lia) (by lia)
  have m0:1*1<=wi*hi:=Bk w1 h1 (by lia) (by lia)
  refine aM (aD (ad (aa rfl) (ad am au)) (λ Q q=>⟨a,ns,1,rfl,hS,by decide,q⟩)) ?_
  generalize cellAt ns 1=c1
  refine eZ λ q1 hq1=>?_
  have sm:ah H1 (upd H1 q1 (.lst [])):=(ah.refl H1).upd hq1
  obtain ⟨n,e,hn⟩:=j7 (ns:=[0,0,1,2]) (i:=c1 % 4) (by lia) (by show _<(4:Int); lia)
  have hn2:0<=n/\n<=2:=by
   simp only [y6,zq,or_false] at hn
   lia
  refine bZ (λ σ' H'=> ∃hs:List Int,(∃o5 o6,σ'=[some (.ref a),some (.int c1),some (.int wi),some (.int hi),some (.ref q1),o5,o6])/\H' q1=some (.lst (hs.map V.int))/\(∀h∈hs,0<=h/\h<wi*hi)/\hs.Nodup/\(hs.length:Int)<wi*hi/\hs.length<=2/\ah H1 H') (λ K' hK=>?_) ?_
  ·refine jb n (λ Q q=>sE hG (by decide) (λ H'=>(aK (aa rfl) am (by decide))) e q) (by lia) (by lia)
    (λ i σ' H'=> ∃hs:List Int,(∃o5 o6,σ'=[some (.ref a),some (.int c1),some (.int wi),some (.int hi),some (.ref q1),o5,o6])/\H' q1=some (.lst (hs.map V.int))/\(∀h∈hs,0<=h/\h<wi*hi)/\hs.Nodup/\(hs.length:Int)<wi*hi/\hs.length<=i/\ah H1 H')
    (λ H' s=>⟨[],⟨_,_,rfl⟩,s _ _ af,(λ h hh=>by cases hh),zX,by show (0:Int)<_; lia,AU _,sm.trans s⟩) ?_ (λ σ' H' h=>?_)
   ·rintro i _ H3 hi' ⟨hs,⟨o5,o6,rfl⟩,h3,gd,nd,hl,hl2,s3⟩
    show bj _ _ _ [some (.ref a),some (.int c1),some (.int wi),some (.int hi),some (.ref q1),some (.int (0+(i:Int))),o6] H3
    generalize 0+(i:Int)=j
    refine aM (aK (aD (ad (bC (aa rfl) am ⟨by decide,by decide⟩) (ad (aa rfl) au)) (λ Q q=>⟨_,_,rfl,q⟩)) (dA (aa rfl) (aa rfl) (.inl ⟨by lia,by lia⟩)) (by lia)) ?_
    generalize hsq:mixed (c1 / 4) j % (wi*hi)=sq
    have sq0:0<=sq:=hsq▸Bg _ (by lia)
    have sq1:sq<wi*hi:=hsq▸Bh _ (by lia)
    refine ib (fH (aQ (rF (aa rfl) (aa rfl) (.inl (SqL.of h3)))) (λ _=>(aQ (tw (bB (dk (aa rfl) (.inl (SqL.of h3))) am) (dA (aa rfl) (aa rfl) (.inl ⟨by lia,by lia⟩)))))) (λ h=>?_) (λ _=>⟨hs,⟨_,_,rfl⟩,h3,gd,nd,hl,by lia,s3⟩)
    rw [Bu] at h
    have hni:¬sq∈hs:=λ z=>by
     have h1:=h.1
     rw [decide_eq_true z] at h1
     cases h1
    have hl':=of_decide_eq_true h.2
    rw [y3] at hl'
    refine st_app1 (aa rfl) (aa rfl) h3 (by rw [y3,sizeLine_eq]; lia) ⟨hs++[sq],⟨_,_,rfl⟩,?_,λ h hh=>?_,?_,?_,?_,s3.put hq1⟩
    ·rw [af,zn]; rfl
    ·rcases zj.mp hh with z | z
     ·exact gd h z
     ·rw [zh.mp z]; exact ⟨sq0,sq1⟩
    ·rw [zZ]
     refine ⟨nd,by simp,λ x hx y hy e=>?_⟩
     rw [zh.mp hy] at e
     exact hni (e▸hx)
    ·rw [zm]; show ((hs.length+1:Nat):Int)<_; lia
    ·rw [zm]; show hs.length+1<=_; lia
   ·obtain ⟨hs,o,h3,gd,nd,hl,hl2,s3⟩:=h
    exact hK _ _ ⟨hs,o,h3,gd,nd,hl,by lia,s3⟩
  rintro _ H3 ⟨hs,⟨o5,o6,rfl⟩,h3,gd,nd,hl,hl2,s3⟩
  show cJ _ _ [some (.ref a),some (.int c1),some (.int wi),some (.int hi),some (.ref q1),o5,o6] H3
  refine jP (aa rfl) (aa rfl) (aa rfl) (λ t ht=>?_)
  exact k t q1 wi hi hs _ w1 w8 h1 h8 af (by rw [aq (ar h3 ht)]; exact h3) gd nd hl hl2 hq1 (s3.free ht) (s3.upd ht)
end
end K13
namespace K13
open PySem L2
section
variable {P:Program}{w:World}{K:Frag}{mg:Str->Option Value}{base:Heap}{aS aA aE aW:Addr}
theorem nN {f:Addr}{fd:FuncData}(F:Fun K "_law_rule" "_law_rule" cZ f fd) (T:Txt mg aS aA aE aW):ba P w K mg base CX0 1 f fd ["_law_cell","_law_kinds_here"] mw:=by
 refine F.ok bx (λ vs H Q E h=>?_) (λ cdv A outer s H vs Q E hr h=>?_)
 ·obtain ⟨c,d,ks,rfl,_⟩:=h
  rfl
 ·obtain ⟨c,d,ks,rfl,hk,q⟩:=h
  have hu:=bQ hr
  have hpos:(0:Int)<((ks.map strV).length:Int):=by rw [y3]; have:=hk.l1; lia
  have h6:((ks.map strV).length:Int)<=6:=by rw [y3]; have:=hk.l6; lia
  refine ⟨_,(ae (aw (i:=2) bx.nd rfl (Or.inl rfl) (ao (cv 0) (kB (gB K) bW T.len (pac (cv 1) pa_nil))))
   (ae (aw (i:=3) bx.nd rfl (Or.inl rfl) (kix K (aY (bU rfl)) (ao (cv 2) ag)))
   (ae (aw (i:=4) bx.nd rfl (Or.inl rfl) (kix K (aY (bU rfl)) (ao (ao (cv 2) ag) ag)))
   (ae (aw (i:=5) bx.nd rfl (Or.inl rfl) ag)
   (ae (aR (aJ K hu (cv 3) bn) (aj (aw (i:=4) bx.nd rfl (Or.inl rfl) bn)) aC)
   (ae (aR (aJ K hu (cv 3) bn) (aj (aw (i:=5) bx.nd rfl (Or.inl rfl) (kix K (aY (bU rfl)) (ao (ao (cv 2) ag) ag)))) aC)
   (ae (aw (i:=6) bx.nd rfl (Or.inl rfl) (ao (ao (ao (cv 2) ag) (ao (ao ag (cv 5)) ag)) (cv 5)))
   (ae (aw (i:=7) bx.nd rfl (Or.inl rfl) (ao (ao (ao (cv 2) ag) (ao (ao ag (cv 5)) ag)) (cv 5)))
   (ae (aR (PW.pt (fO (aJ K hu (cv 6) ag) (eS (aJ K hu (cv 7) ag)))) (aj (aw (i:=7) bx.nd rfl (Or.inl rfl) ag)) aC)
   (aj (ay (bT (pac (kix K (cv 1) (ao (cv 0) (kB (gB K) bW T.len (pac (cv 1) pa_nil)))) (pac (cv 3) (pac (cv 4) (pac (cv 6) (pac (cv 7) pa_nil))))))))))))))))),?_⟩
  show bj _ _ _ [some (.int c),some (.ref d),none,none,none,none,none,none] H
  refine aM (bC (aa rfl) (dk (aa rfl) (.inl (SqL.of hk.at_))) ⟨by lia,by lia⟩) ?_
  generalize c / ((ks.map strV).length:Int)=m
  refine bI (λ v H'=> ∃so:Str,v=.str so/\so∈sortsL/\ah H H') (λ Q q=>?_) ?_
  ·obtain ⟨n,e,hn⟩:=sK (ss:=sortsL) (i:=m % 3) (by lia) (by show _<(3:Int); lia)
   exact iy hG (by decide) (λ H'=>(aK (aa rfl) am (by decide))) e (λ H' s=>q _ _ ⟨n,rfl,hn,s⟩)
  rintro _ H1 ⟨so,rfl,hso,s1⟩
  refine bI (λ v H'=> ∃ai:Str,v=.str ai/\ai∈aimsL/\ah H1 H') (λ Q q=>?_) ?_
  ·obtain ⟨n,e,hn⟩:=sK (ss:=aimsL) (i:=m / 3 % 3) (by lia) (by show _<(3:Int); lia)
   exact iy hG (by decide) (λ H'=>(aK (bC (aa rfl) am ⟨by decide,by decide⟩) am (by decide))) e (λ H' s=>q _ _ ⟨n,rfl,hn,s⟩)
  rintro _ H2 ⟨ai,rfl,hai,s2⟩
  refine aM am ?_
  show bj _ _ _ [some (.int c),some (.ref d),some (.int m),some (.str so),some (.str ai),some (.int 1),none,none] H2
  refine fJ (λ σ' H'=>H'=H2/\∃ai:Str,σ'=[some (.int c),some (.ref d),some (.int m),some (.str so),some (.str ai),some (.int 1),none,none]/\ai∈aimsL/\(so="jump"->ai="hit")) ?_ (λ go=>?_)
  rotate_left
  ·exact aV (aQ (dl (aa rfl) am)) (λ h=>ic am (go _ _ ⟨rfl,"hit",rfl,by decide,λ _=>rfl⟩)) (λ h=>go _ _ ⟨rfl,ai,rfl,hai,λ z=>absurd z (of_decide_eq_false h)⟩)
  rintro _ H2 ⟨rfl,ai,rfl,hai,hjh⟩
  refine fJ (λ σ' H'=>ah H2 H'/\∃fr:Int,σ'=[some (.int c),some (.ref d),some (.int m),some (.str so),some (.str ai),some (.int fr),none,none]/\1<=fr/\fr<=(if so="leap" then 3 else 1)) ?_ (λ go=>?_)
  rotate_left
  ·refine aV (aQ (dl (aa rfl) am)) (λ h=>?_) (λ h=>go _ _ ⟨ah.refl _,1,rfl,by decide,by split<;>lia⟩)
   obtain ⟨n,e,hn⟩:=j7 (ns:=[1,2,3]) (i:=m / 9 % 3) (by lia) (by show _<(3:Int); lia)
   have hn6:1<=n/\n<=3:=by
    simp only [y6,zq,or_false] at hn
    lia
   exact ji (iy hG (by decide) (λ H'=>(aK (bC (aa rfl) am ⟨by decide,by decide⟩) am (by decide))) e (λ H' s=>go _ _ ⟨s,n,rfl,hn6.1,by rw [if_pos (of_decide_eq_true h)]; exact hn6.2⟩))
  rintro _ H3 ⟨s3,fr,rfl,f0,f1⟩
  have fr3:fr<=3:=by split at f1<;>lia
  refine aM (gE (aK (bC (aa rfl) am ⟨by decide,by decide⟩) (bB (dA am (aa rfl) (.inl ⟨by decide,by decide⟩)) am) (by lia)) (aa rfl)) ?_
  refine aM (gE (aK (bC (aa rfl) am ⟨by decide,by decide⟩) (bB (dA am (aa rfl) (.inl ⟨by decide,by decide⟩)) am) (by lia)) (aa rfl)) ?_
  have a0:=Bg (m / 27) (by lia:2*fr+1≠0)
  have a1:=Bh (m / 27) (by lia:0<2*fr+1)
  have b0:=Bg (m / 189) (by lia:2*fr+1≠0)
  have b1:=Bh (m / 189) (by lia:0<2*fr+1)
  have hax: -fr<=m / 27 % (2*fr+1) - fr/\m / 27 % (2*fr+1) - fr<=fr:=by lia
  have hup: -fr<=m / 189 % (2*fr+1) - fr/\m / 189 % (2*fr+1) - fr<=fr:=by lia
  generalize m / 27 % (2*fr+1) - fr=ax at hax
  generalize m / 189 % (2*fr+1) - fr=up at hup
  show bj _ _ _ [some (.int c),some (.ref d),some (.int m),some (.str so),some (.str ai),some (.int fr),some (.int ax),some (.int up)] H3
  refine fJ (λ σ' H'=>H'=H3/\∃up:Int,σ'=[some (.int c),some (.ref d),some (.int m),some (.str so),some (.str ai),some (.int fr),some (.int ax),some (.int up)]/\-fr<=up/\up<=fr/\¬(ax=0/\up=0)) ?_ (λ go=>?_)
  rotate_left
  ·refine aV (fH (aQ (g8 (aa rfl) am)) (λ _=>aQ (g8 (aa rfl) am))) (λ h=>ic am (go _ _ ⟨rfl,1,rfl,by lia,by lia,by lia⟩)) (λ h=>go _ _ ⟨rfl,up,rfl,hup.1,hup.2,λ z=>by simp [z.1,z.2] at h⟩)
  rintro _ H3 ⟨rfl,up,rfl,u0,u1,n0⟩
  have s03:=(s1.trans s2).trans s3
  have hk3:=hk.same s03
  obtain ⟨k,hkm,ek⟩:=hk3.pick c
  refine tupY (dI (aT (aa rfl) (aK (aa rfl) (dk (aa rfl) (.inl (SqL.of hk3.at_))) hpos) (.inl (SqL.of hk3.at_)) ek) (dI (aa rfl) (dI (aa rfl) (dI (aa rfl) (dI (aa rfl) (xE ⟨by show 5<=sizeLine; decide,λ p hp=>?_⟩))))))
  exact q p ⟨one k,so,ai,ax,up⟩ _ ⟨⟨k,hkm,rfl⟩,hso,hai,hjh,⟨by show -(if so="leap" then 3 else 1)<=ax; lia,Int.le_trans hax.2 f1⟩,⟨by show -(if so="leap" then 3 else 1)<=up; lia,Int.le_trans u1 f1⟩,n0⟩ (s03.free hp) af (s03.upd hp)
theorem lc {f:Addr}{fd:FuncData}(F:Fun K "_law_turns" "_law_turns" cc f fd) (T:Txt mg aS aA aE aW):ba P w K mg base CX0 1 f fd ["_law_cell","_law_kinds_here"] oG:=by
 refine F.ok dD (λ vs H Q E h=>?_) (λ cdv A outer s H vs Q E hr h=>?_)
 ·obtain ⟨c,d,ks,rfl,_⟩:=h
  rfl
 ·obtain ⟨c,d,ks,rfl,hk,q⟩:=h
  have hu:=bQ hr
  have hl1:=hk.l1
  have hl6:=hk.l6
  refine ⟨_,(ae (aw (i:=2) dD.nd rfl (Or.inr rfl) (kB (gB K) bW T.len (pac (cv 1) pa_nil)))
   (ae (aR (PW.pt (dR (aJ K hu (ao (cv 0) ag) ag) (cP (aJ K hu (cv 2) ag)))) (aj (ay (aY pa_nil))) aC)
   (ae (aw (i:=3) dD.nd rfl (Or.inr rfl) (kix K (cv 1) (ao (ao (cv 0) ag) (cv 2))))
   (ae (iq (i:=4) rfl (bV (N:=["_law_k","_law_other","_law_kinds_here","_law_many","_law_cell"]) (src:=[none,some 3,some 1,some 2,some 0]) (ak cc) ["_law_cell","_law_kinds_here","_law_many","_law_other","_law_turns_here"]) (kr1 T.range (pac (ao (cv 2) ag) pa_nil)) (λ _ _ _=>(aX (i:=0) ["_law_k","_law_other","_law_kinds_here","_law_many","_law_cell"])) (λ _ _ _=>bG) (λ _ _ _=>(bT (pac (kix K (cv 2) (ao (ao (ao (ao (cv 4) ag) ag) (cv 0)) (cv 3))) (pac (cv 1) pa_nil)))) dD.nd rfl (Or.inl rfl) rfl (Or.inl rfl))
   (aj (ay (ksl K (cv 4) gQ (gS (ao ag (ao (ao (cv 0) ag) ag)))))))))),?_⟩
  show bj _ _ _ [some (.int c),some (.ref d),none,none,none] H
  refine aM (dk (aa rfl) (.inl (SqL.of hk.at_))) ?_
  rw [y3]
  refine aV (fW (aQ (tm (aK (aa rfl) am (by decide)) am)) (λ _=>(aQ (tw (aa rfl) am)))) (λ h=>?_) (λ h=>?_)
  ·refine ⟨AV _,λ p hp=>q p [] _ ⟨AV _,λ _ z=>(nomatch z),zX,λ _ z=>(nomatch z)⟩ (λ _ z=>(nomatch z)) hp af ((ah.refl H).upd hp)⟩
  ·have hm:2<=ks.length:=by
    rw [BE] at h
    have:=of_decide_eq_false h.2
    lia
   have at_:∀i:Int,0<=i->i<ks.length->atI (ks.map strV) i=some (strV (ks.getD i.toNat 0))/\ks.getD i.toNat 0∈ks:=λ i h0 h1=>by
    have hi:i.toNat<ks.length:=by lia
    have e:ks[i.toNat]? =some (ks.getD i.toNat 0):=by rw [zb,y7 hi]; rfl
    have z:=bz (xs:=ks.map strV) (j:=i.toNat) (v:=strV (ks.getD i.toNat 0)) (by rw [y8,e]; rfl)
    rw [Bp h0] at z
    exact ⟨z,zu e⟩
   have inj:∀i j:Int,0<=i->i<ks.length->0<=j->j<ks.length->ks.getD i.toNat 0=ks.getD j.toNat 0->i=j:=λ i j a b c' d' e=>by
    have hi:i.toNat<ks.length:=by lia
    have hj:j.toNat<ks.length:=by lia
    rw [zb,zb,y7 hi,y7 hj] at e
    have:=(Ao hk.nd).mp (by simpa using e)
    lia
   have o0:=Bg (c / 3) (by lia:(ks.length:Int)≠0)
   have o1:=Bh (c / 3) (by lia:(0:Int)<ks.length)
   obtain ⟨eo,mo⟩:=at_ _ o0 o1
   refine aM (v:=strV (ks.getD (c / 3 % (ks.length:Int)).toNat 0)) (aT (aa rfl) (aK (bC (aa rfl) am ⟨by decide,by decide⟩) (aa rfl) (by lia)) (.inl (SqL.of hk.at_)) eo) ?_
   generalize hi0:c / 3 % (ks.length:Int)=i0 at o0 o1 eo mo
   refine bI (λ v H'=> ∃(p:Addr) (zs:List ((Str×Str)×Addr)),v=.ref p/\H' p=some (.lst (bw zs))/\ft H' zs/\zs.length=ks.length - 1/\(∀(i:Nat) z,zs[i]? =some z->z.1=(one (ks.getD ((c / 3+1+(i:Int)) % (ks.length:Int)).toNat 0),one (ks.getD i0.toNat 0)))/\ah H H') (λ Q z=>?_) ?_
   ·refine lZ (n:=(ks.length:Int) - 1) (λ Q' z'=>(ad (gE (aa rfl) am) au) _ (z' _ (ah.refl _))) (by lia) (by lia) rfl
     (λ i H' v=> ∃a,v=.ref a/\H' a=some (.tup [.str (one (ks.getD ((c / 3+1+(i:Int)) % (ks.length:Int)).toNat 0)),.str (one (ks.getD i0.toNat 0))])) (λ i H1 H2 v ⟨a,e1,e2⟩ s=>⟨a,e1,s _ _ e2⟩) (λ i H' hi s Q2 z2=>?_) (λ p H' ys s hp hl hy=>?_)
    ·have j0:=Bg (c / 3+1+(i:Int)) (by lia:(ks.length:Int)≠0)
     have j1:=Bh (c / 3+1+(i:Int)) (by lia:(0:Int)<ks.length)
     refine eG (x:=strV (ks.getD ((c / 3+1+(i:Int)) % (ks.length:Int)).toNat 0)) (y:=strV (ks.getD i0.toNat 0)) (aT (aa rfl) (aK (bB (bB (bC (aa rfl) am ⟨by decide,by decide⟩) am) (aa rfl)) (aa rfl) (by lia)) (.inl (SqL.of (hk.same s).at_)) ?_) (aa rfl) λ a ha=>z2 _ _ ⟨a,rfl,af⟩ ((ah.refl _).upd ha)
     rw [Bj]
     exact (at_ _ j0 j1).1
    ·obtain ⟨zs,rfl,h1,h2,h3⟩:=sG (λ i=>(one (ks.getD ((c / 3+1+(i:Int)) % (ks.length:Int)).toNat 0),one (ks.getD i0.toNat 0))) ys 0 λ i y hi=>by rw [A4]; exact hy i y hi
     refine z _ _ ⟨p,zs,rfl,af,h1.same ((ah.refl _).upd hp),by rw [h2,hl]; lia,λ i z hz=>by have:=h3 i z hz; rwa [A4] at this,s.upd hp⟩
   rintro _ H1 ⟨p,zs,rfl,hp,hz,zl,za,s1⟩
   have kk:∃n:Nat,1+c / 18 % 2=(n:Int)/\1<=n/\n<=2:=⟨(1+c / 18 % 2).toNat,by lia,by lia,by lia⟩
   obtain ⟨n,en,n1,n2⟩:=kk
   refine lJ (lo:=none) (hi:=some (n:Int)) (aa rfl) sH (sI ?_) (.inl (.inl hp)) λ t ht=>?_
   ·rw [<-en]
    exact (bB am (aK (bC (aa rfl) am ⟨by decide,by decide⟩) am (by decide)))
   have ec:cutV (bw zs) none (some (n:Int))=bw (zs.take n):=by
    unfold cutV
    rw [HT.sIx_none,HT.sIx_nat,Ag,Bd]
    show List.take (min n (List.map (λ z=>V.ref z.2) zs).length) (List.map (λ z=>V.ref z.2) zs)=List.map (λ z=>V.ref z.2) (List.take n zs)
    rw [Am]
    exact List.take_eq_take_iff.mpr (by lia)
   rw [ec]
   have s2:ah H (upd H1 t (.lst (bw (zs.take n)))):=s1.upd ht
   have val:∀(i:Nat) z,(zs.take n)[i]? =some z->i<n/\i<ks.length - 1/\z.1=(one (ks.getD ((c / 3+1+(i:Int)) % (ks.length:Int)).toNat 0),one (ks.getD i0.toNat 0)):=λ i z h=>by
    have hi:=(zo.mp h).1
    rw [zx] at hi
    rw [AH (by lia)] at h
    exact ⟨by lia,by lia,za i z h⟩
   have ixr:∀i:Nat,i<ks.length - 1->¬(c / 3+1+(i:Int)) % (ks.length:Int)=i0:=λ i hi e=>by
    rw [<-hi0] at e
    have e2:=Bs.mp e
    rw [show c / 3+1+(i:Int) - c / 3=1+i by lia,Bo (by lia) (by lia)] at e2
    lia
   refine q t (zs.take n) _ ⟨by rw [zx]; lia,λ z h=>?_,?_,λ z h y h' e=>?_⟩ (λ z h=>((ah.refl H1).upd ht) _ _ (hz z (zU h))) (s1.free ht) af s2
   ·obtain ⟨i,hi⟩:=Ab h
    obtain ⟨_,_,e⟩:=val i z hi
    rw [e]
    exact ⟨⟨_,(at_ _ (Bg _ (by lia)) (Bh _ (by lia))).2,rfl⟩,_,mo,rfl⟩
   ·rw [zC,zv,Al]
    intro i j hi hj hij e
    obtain ⟨a1,a2,a3⟩:=val i _ (y7 hi)
    obtain ⟨b1,b2,b3⟩:=val j _ (y7 hj)
    rw [a3,b3] at e
    have e:=inj _ _ (Bg _ (by lia)) (Bh _ (by lia)) (Bg _ (by lia)) (Bh _ (by lia)) (ir e)
    have e2:=Bs.mp e.symm
    rw [show c / 3+1+(j:Int) - (c / 3+1+(i:Int))=(j:Int) - i by lia,Bo (by lia) (by lia)] at e2
    lia
   ·obtain ⟨i,hi⟩:=Ab h
    obtain ⟨j,hj⟩:=Ab h'
    obtain ⟨_,_,a3⟩:=val i z hi
    obtain ⟨_,b2,b3⟩:=val j y hj
    rw [a3,b3] at e
    exact ixr j b2 (inj _ _ o0 o1 (Bg _ (by lia)) (Bh _ (by lia)) (ir e)).symm
end
end K13
namespace K13
open PySem L2
section
variable {P:Program}{w:World}{K:Frag}{mg:Str->Option Value}{base:Heap}{aS aA aE aW:Addr}
theorem nP {f cB cG:Addr}{fd:FuncData}(F:Fun K "_law_game" "_law_game" db f fd) (T:Txt mg aS aA aE aW) (C:LGg P w K mg base cB cG):ba P w K mg base CX0 8 f fd ["_law_script"] (sy K cB cG):=by
 refine F.ok aO (λ vs H Q E h=>?_) (λ cdv A outer s H vs Q E hr h=>?_)
 ·obtain ⟨a,ns,rfl,_⟩:=h
  rfl
 ·obtain ⟨a,ns,rfl,hS,k⟩:=h
  have hu:=bQ hr
  refine ⟨_,(ae (xu (aB C._law_board hr (pac (cv 0) pa_nil)) (kgt K (n:=3) (eJ (bK (i:=1) aO.nd rfl (Or.inl rfl)) (eJ (bK (i:=2) aO.nd rfl (Or.inl rfl)) (eJ (bK (i:=3) aO.nd rfl (Or.inl rfl)) nw)))))
   (ae (aw (i:=4) aO.nd rfl (Or.inl rfl) (aB C._law_kinds hr (pac (aB C._law_cell_at hr (pac (cv 0) (pac ag pa_nil))) pa_nil)))
   (ae (aw (i:=5) aO.nd rfl (Or.inl rfl) (aB C._law_cell_at hr (pac (cv 0) (pac ag pa_nil))))
   (ae (aw (i:=6) aO.nd rfl (Or.inl rfl) (aY pa_nil))
   (ae (dN PassesOwn.never rfl (kr1 T.range (pac (kix K (aY (bU rfl)) (ao (cv 5) ag)) pa_nil)) (bK (i:=7) aO.nd rfl (Or.inl rfl)) (aj (cN (fo (cv 6) (aB C._law_rule hr (pac (aB C._law_mixed hr (pac (ao (aB C._law_cell_at hr (pac (cv 0) (pac (ao ag (ao (cv 7) ag)) pa_nil))) (cv 5)) (pac (cv 7) pa_nil))) (pac (cv 4) pa_nil)))))))
   (ae (aw (i:=8) aO.nd rfl (Or.inl rfl) (aB C._law_turns hr (pac (aB C._law_cell_at hr (pac (cv 0) (pac ag pa_nil))) (pac (cv 4) pa_nil))))
   (ae (aw (i:=5) aO.nd rfl (Or.inl rfl) (aB C._law_cell_at hr (pac (cv 0) (pac ag pa_nil))))
   (ae (aw (i:=9) aO.nd rfl (Or.inl rfl) (aY pa_nil))
   (ae (dN PassesOwn.never rfl (kr1 T.range (pac (kix K (aY (bU rfl)) (ao (cv 5) ag)) pa_nil)) (bK (i:=7) aO.nd rfl (Or.inl rfl)) (ae (aw (i:=10) aO.nd rfl (Or.inl rfl) (aB C._law_mixed hr (pac (cv 5) (pac (cv 7) pa_nil))))
   (aj (cN (fo (cv 9) (bT (pac (kix K (aY (pac bn (pac bn pa_nil))) (ao (cv 10) ag)) (pac (kix K (cv 4) (ao (ao (cv 10) ag) (kB (gB K) bW T.len (pac (cv 4) pa_nil)))) pa_nil))))))))
   (ae (aw (i:=11) aO.nd rfl (Or.inl rfl) (kix K (aY (bU rfl)) (ao (ao (cv 5) ag) ag)))
   (aj (ay (xR C.Game hr (pac (xR C.Board hr (pac (cv 1) (pac (cv 2) (pac (cv 3) pa_nil)))) (pac (cv 4) (pac (cv 6) (pac (cv 8) (pac (cv 9) (pac (cv 11) pa_nil))))))))))))))))))),?_⟩
  show bj _ _ _ [some (.ref a),none,none,none,none,none,none,none,none,none,none,none] H
  refine bZ (λ σ' H'=> ∃(wi hi:Int) (d:Addr) (hs:List Int),σ'=[some (.ref a),some (.int wi),some (.int hi),some (.ref d),none,none,none,none,none,none,none,none]/\1<=wi/\wi<=8/\1<=hi/\hi<=8/\H' d=some (.lst (hs.map V.int))/\(∀h∈hs,0<=h/\h<wi*hi)/\hs.Nodup/\(hs.length:Int)<wi*hi/\hs.length<=2/\ah H H') (λ K' hK=>?_) ?_
  ·refine asgc_k (ad (aa rfl) au) ⟨a,ns,rfl,hS,λ t d wi hi hs H' w1 w8 h1 h8 et ed gd nd ln l2 nq nt s=>?_⟩
   exact gtrip et (hK _ _ ⟨wi,hi,d,hs,rfl,w1,w8,h1,h8,ed,gd,nd,ln,l2,s⟩)
  rintro _ H1 ⟨wi,hi,d,hs,rfl,w1,w8,h1,h8,ed,gd,nd,ln,l2,s1⟩
  have hS1:=s1.seq hS
  refine bI (λ v H'=> ∃(kq:Addr) (ks:List Nat),v=.ref kq/\gK H' kq ks/\ah H1 H') (λ Q q=>?_) ?_
  ·exact eW (ad (aD (ad (aa rfl) (ad am au)) (λ Q q=>⟨a,ns,2,rfl,hS1,by decide,q⟩)) au) ⟨_,rfl,λ kq ks H' z1 z2 z3 z4 z5 z6 z7=>q _ _ ⟨kq,ks,rfl,⟨z2,z3,z5,z6,z4⟩,z7⟩⟩
  rintro _ H2 ⟨kq,ks,rfl,ek,s2⟩
  have hS2:=s2.seq hS1
  refine aM (aD (ad (aa rfl) (ad am au)) (λ Q q=>⟨a,ns,3,rfl,hS2,by decide,q⟩)) ?_
  generalize cellAt ns 3=c3
  refine eZ λ rq hrq=>?_
  have sr:ah H2 (upd H2 rq (.lst [])):=(ah.refl H2).upd hrq
  obtain ⟨n,e,hn⟩:=j7 (ns:=[4,5,6,3,8,2,12,0]) (i:=c3 % 8) (by lia) (by show _<(8:Int); lia)
  have hn2:0<=n/\n<=12:=by
   simp only [y6,zq,or_false] at hn
   lia
  refine bZ (λ σ' H'=> ∃us:List (aF×Addr),(∃o7,σ'=[some (.ref a),some (.int wi),some (.int hi),some (.ref d),some (.ref kq),some (.int c3),some (.ref rq),o7,none,none,none,none])/\H' rq=some (.lst (rRefs us))/\cI H' us/\(∀z∈us,eY ks z.1)/\us.length<=12/\ah H2 H') (λ K' hK=>?_) ?_
  ·refine jb n (λ Q q=>sE hG (by decide) (λ H'=>(aK (aa rfl) am (by decide))) e q) (by lia) (by lia)
    (λ i σ' H'=> ∃us:List (aF×Addr),(∃o7,σ'=[some (.ref a),some (.int wi),some (.int hi),some (.ref d),some (.ref kq),some (.int c3),some (.ref rq),o7,none,none,none,none])/\H' rq=some (.lst (rRefs us))/\cI H' us/\(∀z∈us,eY ks z.1)/\us.length=i/\ah H2 H')
    (λ H' s=>⟨[],⟨_,rfl⟩,s _ _ af,λ _ z=>(nomatch z),λ _ z=>(nomatch z),rfl,sr.trans s⟩) ?_ (λ σ' H' h=>?_)
   ·rintro i _ H3 hi' ⟨us,⟨o7,rfl⟩,h3,hR,hg,hl,s3⟩
    show gX _ _ [some (.ref a),some (.int wi),some (.int hi),some (.ref d),some (.ref kq),some (.int c3),some (.ref rq),some (.int (0+(i:Int))),none,none,none,none] H3
    rw [Bj]
    have hS3:=s3.seq hS2
    refine jw (aa rfl) ⟨_,h3⟩ (eW (ad (aD (ad (bB (aD (ad (aa rfl) (ad (bB am (aK (aa rfl) am (by decide))) au)) (λ Q q=>⟨a,ns,4+(i:Int) % 4,rfl,hS3,by lia,q⟩)) (aa rfl)) (ad (aa rfl) au)) (λ Q q=>⟨_,_,rfl,q⟩)) (ad (aa rfl) au)) ⟨_,kq,ks,rfl,ek.same s3,λ t u H4 g1 g2 g3 g4=>⟨_,g4 _ _ h3,by rw [y3,hl,sizeLine_eq]; lia,us++[(u,t)],⟨_,rfl⟩,?_,?_,λ z hz=>?_,by rw [zm,hl]; rfl,(s3.trans g4).put hrq⟩⟩)
    ·rw [af,show rRefs (us++[(u,t)])=rRefs us++[V.ref t] from zn ..]
    ·exact (hR.add g4 g3).put (g4 _ _ h3)
    ·rcases zj.mp hz with w | w
     ·exact hg z w
     ·rw [zh.mp w]; exact g1
   ·obtain ⟨us,o,x1,x2,x3,x4,x5⟩:=h
    exact hK _ _ ⟨us,o,x1,x2,x3,by lia,x5⟩
  rintro _ H3 ⟨us,⟨o7,rfl⟩,h3,hR,hg,hl,s3⟩
  have hS3:=s3.seq hS2
  refine bI (λ v H'=> ∃(tq:Addr) (ts:List ((Str×Str)×Addr)),v=.ref tq/\qq ks ts/\ft H' ts/\H' tq=some (.lst (bw ts))/\ah H3 H') (λ Q q=>?_) ?_
  ·exact eW (ad (aD (ad (aa rfl) (ad am au)) (λ Q q=>⟨a,ns,8,rfl,hS3,by decide,q⟩)) (ad (aa rfl) au)) ⟨_,kq,ks,rfl,ek.same s3,λ tq ts H' g1 g2 g3 g4 g5=>q _ _ ⟨tq,ts,rfl,g1,g2,g4,g5⟩⟩
  rintro _ H4 ⟨tq,ts,rfl,tg,tp,et,s4⟩
  have hS4:=s4.seq hS3
  refine aM (aD (ad (aa rfl) (ad am au)) (λ Q q=>⟨a,ns,9,rfl,hS4,by decide,q⟩)) ?_
  generalize cellAt ns 9=c9
  refine eZ λ eq heq=>?_
  have se:ah H4 (upd H4 eq (.lst [])):=(ah.refl H4).upd heq
  obtain ⟨n2,e2,hn3⟩:=j7 (ns:=[0,1,2,3,0,6]) (i:=c9 % 6) (by lia) (by show _<(6:Int); lia)
  have hn4:0<=n2/\n2<=6:=by
   simp only [y6,zq,or_false] at hn3
   lia
  have hpos:(0:Int)<((ks.map strV).length:Int):=by rw [y3]; have:=ek.l1; lia
  refine bZ (λ σ' H'=> ∃es:List ((Str×Str)×Addr),(∃o7 o10,σ'=[some (.ref a),some (.int wi),some (.int hi),some (.ref d),some (.ref kq),some (.int c9),some (.ref rq),o7,some (.ref tq),some (.ref eq),o10,none])/\H' eq=some (.lst (bw es))/\ft H' es/\(∀z∈es,z.1.1∈gb/\∃b∈ks,z.1.2=one b)/\es.length<=6/\ah H4 H') (λ K' hK=>?_) ?_
  ·refine jb n2 (λ Q q=>sE hG (by decide) (λ H'=>(aK (aa rfl) am (by decide))) e2 q) (by lia) (by lia)
    (λ i σ' H'=> ∃es:List ((Str×Str)×Addr),(∃o7 o10,σ'=[some (.ref a),some (.int wi),some (.int hi),some (.ref d),some (.ref kq),some (.int c9),some (.ref rq),o7,some (.ref tq),some (.ref eq),o10,none])/\H' eq=some (.lst (bw es))/\ft H' es/\(∀z∈es,z.1.1∈gb/\∃b∈ks,z.1.2=one b)/\es.length=i/\ah H4 H')
    (λ H' s=>⟨[],⟨_,_,rfl⟩,s _ _ af,λ _ z=>(nomatch z),λ _ z=>(nomatch z),rfl,se.trans s⟩) ?_ (λ σ' H' h=>?_)
   ·rintro i _ H5 hi' ⟨es,⟨o7',o10,rfl⟩,h5,hP,hg5,hl5,s5⟩
    show bj _ _ _ [some (.ref a),some (.int wi),some (.int hi),some (.ref d),some (.ref kq),some (.int c9),some (.ref rq),some (.int (0+(i:Int))),some (.ref tq),some (.ref eq),o10,none] H5
    refine aM (aD (ad (aa rfl) (ad (aa rfl) au)) (λ Q q=>⟨_,_,rfl,q⟩)) ?_
    generalize mixed c9 (0+(i:Int))=mm
    obtain ⟨en,ee,he⟩:=sK (ss:=gb) (i:=mm % 2) (by lia) (by show _<(2:Int); lia)
    have ek5:∀{H'},ah H5 H'->gK H' kq ks:=λ z=>ek.same (((s3.trans s4).trans s5).trans z)
    obtain ⟨kc,kcm,kce⟩:=(ek5 (ah.refl _)).pick (mm / 2)
    refine jw (aa rfl) ⟨_,h5⟩ (tupY (dm (iy hG (by decide) (λ H'=>(aK (aa rfl) am (by decide))) ee (λ H6 s6=>dI (aT (aa rfl) (aK (bC (aa rfl) am ⟨by decide,by decide⟩) (dk (aa rfl) (.inl (SqL.of (ek5 s6).at_))) hpos) (.inl (SqL.of (ek5 s6).at_)) kce) (xE ⟨by show 2<=sizeLine; decide,λ t ht=>?_⟩)))))
    have h56:=s6 _ _ h5
    have s67:=s6.upd (o:=.tup [.str en,strV kc]) ht
    refine ⟨_,s67 _ _ h5,by rw [y3,hl5,sizeLine_eq]; lia,es++[((en,one kc),t)],⟨_,_,rfl⟩,?_,(hP.add s67 af).put (s67 _ _ h5),λ z hz=>?_,by rw [zm,hl5]; rfl,(s5.trans s67).put heq⟩
    ·rw [af,show bw (es++[((en,one kc),t)])=bw es++[V.ref t] from zn ..]
    ·rcases zj.mp hz with w | w
     ·exact hg5 z w
     ·rw [zh.mp w]; exact ⟨he,kc,kcm,rfl⟩
   ·obtain ⟨es,o,x1,x2,x3,x4,x5⟩:=h
    exact hK _ _ ⟨es,o,x1,x2,x3,by lia,x5⟩
  rintro _ H5 ⟨es,⟨o7',o10,rfl⟩,h5,hP,hg5,hl5,s5⟩
  refine bI (λ v H'=> ∃st:Str,v=.str st/\st∈gf/\ah H5 H') (λ Q q=>?_) ?_
  ·obtain ⟨n,e,hn⟩:=sK (ss:=gf) (i:=c9 / 6 % 3) (by lia) (by show _<(3:Int); lia)
   exact iy hG (by decide) (λ H'=>(aK (bC (aa rfl) am ⟨by decide,by decide⟩) am (by decide))) e (λ H' s=>q _ _ ⟨n,rfl,hn,s⟩)
  rintro _ H6 ⟨st,rfl,hst,s6⟩
  have s26:ah H2 H6:=((s3.trans s4).trans s5).trans s6
  have ed6:=(s2.trans s26) _ _ ed
  refine retMk (xM (dm (xM (dI (aa rfl) (dI (aa rfl) (dI (aa rfl) (xE λ x dx nx ndx ne=>?_)))))))
  refine ⟨x,d,dx,wi,hi,hs,rfl,af,by rw [aq (ar ed6 nx),aq (ar ed6 ndx)]; exact ed6,w1,w8,h1,h8,gd,nd,ln,λ hs' H7 pm O sb=>⟨rfl,?_⟩⟩
  have s7:ah H6 H7:=iZ (ah.refl H6) nx ndx sb
  refine dI (aa rfl) (dI (aa rfl) (dI (aa rfl) (dI (aa rfl) (dI (aa rfl) (xE λ g gx ng ngx nne=>?_)))))
  have sF:ah H7 (upd (upd H7 gx (.own g)) g (.ins cG gx [])):=((ah.refl H7).upd ngx).upd (by rw [aq (Ne.symm nne)]; exact ng)
  have ekF:=ek.same ((s26.trans s7).trans sF)
  have q3:=(((s4.trans s5).trans s6).trans s7).trans sF
  have q4:=((s5.trans s6).trans s7).trans sF
  have q5:=(s6.trans s7).trans sF
  have mm:(ks.map one).map V.str=ks.map strV:=by rw [zk]; rfl
  have tln:∀z∈ts,z.1.1.length<=1000/\z.1.2.length<=1000:=λ z hz=>by
   obtain ⟨⟨a,_,e1⟩,b,_,e2⟩:=tg.kd z hz
   rw [e1,e2]
   exact ⟨gv a,gv b⟩
  have eln:∀z∈es,z.1.1.length<=1000/\z.1.2.length<=1000:=λ z hz=>by
   obtain ⟨e1,b,_,e2⟩:=hg5 z hz
   rw [e2]
   exact ⟨en_len e1,gv b⟩
  refine ⟨g,x,kq,rq,tq,eq,gx,ks.map one,rRefs us,bw ts,bw es,st,rfl,af,by rw [mm]; exact ekF.at_,q3 _ _ h3,q4 _ _ et,q5 _ _ h5,xS ekF,w5 (q3 _ _ h3) (hR.same q3) hg,nj (q4 _ _ et) (tp.same q4) tln,nj (q5 _ _ h5) (hP.same q5) eln,
   lS ekF.at_ ek.ltr ek.nd ek.l1 ek.l6,lL (q3 _ _ h3) (hR.same q3) hg (by lia),ly (q4 _ _ et) (tp.same q4) tg,iW (q5 _ _ h5) (hP.same q5) (λ z hz=>⟨(hg5 z hz).1,?_⟩) hl5,hst,(by decide:∀s∈gf,s.length<=1000) st hst,λ H8 G sb'=>⟨rfl,?_⟩⟩
  ·obtain ⟨b,hb,e2⟩:=(hg5 z hz).2
   exact y4.mpr ⟨b,hb,e2.symm⟩
  ·rw [mm] at G
   have s8:ah H7 H8:=iZ (ah.refl H7) ng ngx sb'
   have t3:=(((s4.trans s5).trans s6).trans s7).trans s8
   have t4:=((s5.trans s6).trans s7).trans s8
   have t5:=(s6.trans s7).trans s8
   exact k g x kq wi hi hs' ks us ts es st H8 ⟨G,O.same s8,ek.ltr,ek.l1,ek.l6,ek.nd,hR.same t3,hl,hg,tp.same t4,tg,hP.same t5,hl5,hg5,hst⟩ (by rw [pm.length_eq]; exact l2) (by rw [pm.length_eq]; exact ln) (((s1.trans s2).trans s3).trans t3)
end
end K13
namespace K13
open PySem L2
theorem pickM {xs:List V}{i:Int}(h0:0<=i) (h1:i<xs.length):∃v,atI xs i=some v/\v∈xs:=by
 obtain ⟨v,e1,e2⟩:=yT (xs:=xs) h0 h1
 exact ⟨v,e1,zu e2⟩
def wR (K:Frag) (cB cG:Addr):Sp:=λ vs H Q _=> ∃(a g b:Addr) (ns:List Int) (st:Int) (wi hi:Int) (hs:List Int) (ks:List Nat) (rs ts es:List V) (sw:Str),vs=[.ref a,.ref g,.int st]/\SqL K H a (ns.map V.int)/\0<=st/\st<=100/\fV cG H g b (ks.map strV) rs ts es sw/\cj K cB H b wi hi hs/\(∀k∈ks,Ltr k)/\1<=ks.length/\ks.length<=6/\(hs.length:Int)<wi*hi/\
 ∀(z:Str) (H':Hp),z.length=(wi*hi).toNat->(∀(s c:Nat),z.cps.toList[s]? =some c->jv ks c (if (s:Int)∈hs then 35 else 46)=true)->ah H H'->Q (.str z) H'
theorem join_k {K:Frag}{H:Hp}{Q:VK}{d:Addr}{cs:List Nat}(h:H d=some (.lst (cs.map strV))) (hl:cs.length<=1000) (q:Q (.str ⟨cs.toArray⟩) H):pQ K (.str "") [.ref d] H Q:=by
 rw [xi]
 refine ⟨cs.map one,SqL.of (by rw [zk]; exact h),?_,?_⟩
 ·rw [zk]
  have es:∀l:List Nat,(l.map ((λ x:Str=>x.length)∘one)).sum=l.length:=λ l=>by
   induction l with
   | nil=>rfl
   | cons a r ih=>rw [zB,List.sum_cons,ih,zw]; show 1+r.length=_; lia
  have ez:("":Str).length=0:=by decide+kernel
  have hz:sizeLine=sizeLine:=rfl
  rw [es,ez]
  show cs.length+(cs.map one).length*0<=16777216
  lia
 ·rw [uH]
  exact q
theorem uT (F:List Int) (lo hi:Option Int):∃ss:List Int,cutV (F.map V.int) lo hi=ss.map V.int/\(∀s∈ss,s∈F)/\ss.length<=F.length:=by
 refine ⟨(F.drop (HT.sIx (F.map V.int).length 0 lo)).take (HT.sIx (F.map V.int).length (F.map V.int).length hi - HT.sIx (F.map V.int).length 0 lo),?_,λ s hs=>AJ (zU hs),?_⟩
 ·unfold cutV
  rw [Am,List.map_drop]
 ·rw [zx,At]; lia
def gI (F:List Int) (x:V):Int:=F.getD (match x with | .int i=>(i % (F.length:Int)).toNat | _=>0) 0
theorem gI_in {F:List Int}(h:0<F.length) (x:V):gI F x∈F:=by
 have key:∀j,j<F.length->F.getD j 0∈F:=λ j hj=>by
  rw [zb,y7 hj]
  exact zp _
 unfold gI
 cases x with
 | int i=>
   have h0:=Bg i (by lia:(F.length:Int)≠0)
   have h1:=Bh i (by lia:(0:Int)<F.length)
   refine key _ ?_
   dsimp only
   lia
 | _=>exact key _ h
theorem gI_at {F:List Int}(h:0<F.length) (i:Int):atI (F.map V.int) (i % ((F.map V.int).length:Int))=some (.int (gI F (.int i))):=by
 rw [y3]
 have h0:=Bg i (by lia:(F.length:Int)≠0)
 have h1:=Bh i (by lia:(0:Int)<F.length)
 obtain ⟨v,e1,e2⟩:=yT (xs:=F.map V.int) h0 (by rw [y3]; exact h1)
 rw [e1]
 rw [y8] at e2
 unfold gI
 dsimp only
 rw [zb]
 cases e:F[(i % (F.length:Int)).toNat]? with
 | none=>rw [e] at e2; cases e2
 | some z=>rw [e] at e2; exact e2.symm
def bareL (n:Nat) (hs:List Int):List Nat:=(List.range n).map λ (s:Nat)=>if (s:Int)∈hs then 35 else 46
def signV (hs:List Int):V->V
 | .int i=>strV (if i∈hs then 35 else 46)
 | _=>.non
section
variable {P:Program}{w:World}{K:Frag}{mg:Str->Option Value}{base:Heap}{aS aA aE aW:Addr}
theorem pG {f cB cG:Addr}{fd:FuncData}(F:Fun K "_law_row" "_law_row" bP f fd) (T:Txt mg aS aA aE aW) (B:kS K cB) (D:GmC K cG) (C:LG1 P w K mg base):ba P w K mg base CX0 2 f fd ["_law_script","_law_game_here","_law_start"] (wR K cB cG):=by
 refine F.ok bg (λ vs H Q E h=>?_) (λ cdv A outer s H vs Q E hr h=>?_)
 ·obtain ⟨a,g,b,ns,st,wi,hi,hs,ks,rs,ts,es,sw,rfl,_⟩:=h
  rfl
 ·obtain ⟨a,g,b,ns,st,wi,hi,hs,ks,rs,ts,es,sw,rfl,hS,st0,st1,G,O,hlt,k1,k6,ln,q⟩:=h
  have hu:=bQ hr
  refine ⟨_,(ae (aw (i:=3) bg.nd rfl (Or.inl rfl) (ao (cz K (cz K (cv 1))) (cz K (cz K (cv 1)))))
   (ae (aw (i:=4) bg.nd rfl (Or.inr rfl) (eO (bV (N:=["_law_square","_law_game_here"]) (src:=[none,some 1]) (ak bP) ["_law_script","_law_game_here","_law_start","_law_size","_law_free","_law_signs","_law_cell","_law_cells","_law_spots","_law_k","_law_square","_law_more","_law_kind"]) (kr1 T.range (pac (cv 3) pa_nil)) (λ _ _ _=>(aX (i:=0) ["_law_square","_law_game_here"])) (λ _ _ _=>(gu (aJ K hu (cv 0) (cz K (cz K (cv 1)))))) (λ _ _ _=>(cv 0))))
   (ae (iq (i:=5) rfl (bV (N:=["_law_square","_law_game_here"]) (src:=[none,some 1]) (ak bP) ["_law_script","_law_game_here","_law_start","_law_size","_law_free","_law_signs","_law_cell","_law_cells","_law_spots","_law_k","_law_square","_law_more","_law_kind"]) (kr1 T.range (pac (cv 3) pa_nil)) (λ _ _ _=>(aX (i:=0) ["_law_square","_law_game_here"])) (λ _ _ _=>bG) (λ _ _ _=>(kix K bn (kTy l0 oi T.int (pac (iB K hu (cv 0) (cz K (cz K (cv 1)))) pa_nil)))) bg.nd rfl (Or.inl rfl) rfl (Or.inl rfl))
   (ae (aw (i:=6) bg.nd rfl (Or.inl rfl) (aB C._law_cell_at hr (pac (cv 0) (pac (cv 2) pa_nil))))
   (ae (iq (i:=7) rfl (bV (N:=["_law_k","_law_script","_law_start"]) (src:=[none,some 0,some 2]) (ak bP) ["_law_script","_law_game_here","_law_start","_law_size","_law_free","_law_signs","_law_cell","_law_cells","_law_spots","_law_k","_law_square","_law_more","_law_kind"]) (kr1 T.range (pac ag pa_nil)) (λ _ _ _=>(aX (i:=0) ["_law_k","_law_script","_law_start"])) (λ _ _ _=>bG) (λ _ _ _=>(aB C._law_mixed hr (pac (aB C._law_cell_at hr (pac (cv 1) (pac (ao (ao (cv 2) ag) (cv 0)) pa_nil))) (pac (cv 0) pa_nil)))) bg.nd rfl (Or.inl rfl) rfl (Or.inl rfl))
   (ae (iq (i:=8) rfl (bV (N:=["_law_more","_law_free"]) (src:=[none,some 4]) (ak bP) ["_law_script","_law_game_here","_law_start","_law_size","_law_free","_law_signs","_law_cell","_law_cells","_law_spots","_law_k","_law_square","_law_more","_law_kind"]) (kpl K (ksl K (cv 7) gQ (gS (ao ag (ao (cv 6) ag))))) (λ _ _ _=>(aX (i:=0) ["_law_more","_law_free"])) (λ _ _ _=>bG) (λ _ _ _=>(kix K (cv 1) (ao (cv 0) (kB (gB K) bW T.len (pac (cv 1) pa_nil))))) bg.nd rfl (Or.inl rfl) rfl (Or.inl rfl))
   (ae (aR (aJ K hu (ao (ao (cv 6) ag) ag) ag) (aj (aw (i:=8) bg.nd rfl (Or.inl rfl) (ksl K (cv 4) gQ (gS ag)))) aC)
   (ae (aR (aJ K hu (ao (ao (cv 6) ag) ag) ag) (aj (aw (i:=8) bg.nd rfl (Or.inl rfl) (aY pa_nil))) aC)
   (ae (dN PassesOwn.never rfl (kenum K T.enumerate (cv 8)) (kgt K (n:=2) (eJ (bK (i:=9) bg.nd rfl (Or.inl rfl)) (eJ (bK (i:=10) bg.nd rfl (Or.inl rfl)) nw))) (ae (aw (i:=11) bg.nd rfl (Or.inl rfl) (ao (kix K (cv 7) (ao (cv 9) ag)) (ao ag (ao (cv 9) ag))))
   (ae (aw (i:=12) bg.nd rfl (Or.inl rfl) (kix K (cz K (cv 1)) (ao (ao (cv 11) ag) (kB (gB K) bW T.len (pac (cz K (cv 1)) pa_nil)))))
   (aj (xu (kix K (aY (pac (n6 PySem.F.slot_str_upper PySem.F.type_str_upper mt_upA (cv 12)) (pac (cv 12) pa_nil))) (ao (ao (cv 11) ag) ag)) (pg_sub (cv 5) (cv 10) wX))))))
   (aj (ay (ksm PySem.F.slot_str_join PySem.F.type_str_join (kjoin K) bn (pac (cv 5) pa_nil))))))))))))),?_⟩
  show bj _ _ _ [some (.ref a),some (.ref g),some (.int st),none,none,none,none,none,none,none,none,none,none] H
  have mm:=O.many
  have w1:=O.w1
  have w8:=O.w8
  have fb:∀(H':Hp) (σ:St) (j:Nat),σ[j]? =some (some (V.ref g))->ah H H'->Ev (cFld K (iH j) "board") σ H' (.ref b):=λ H' σ j h s=>aU (aa h) ((G.same s).board D)
  refine aM (dA (aU (fb H _ 1 rfl (ah.refl H)) (O.wide B)) (aU (fb H _ 1 rfl (ah.refl H)) (O.high B)) (.inl ⟨by lia,by lia⟩)) ?_
  obtain ⟨hq,fh,eh⟩:=O.holes B
  refine bI (λ v H'=> ∃fq,v=.ref fq/\H' fq=some (.lst ((dS wi hi hs).map V.int))/\ah H H') (λ Q q=>?_) ?_
  ·refine iF (n:=wi*hi) (rest:=[some (.ref g)]) (ad (aa rfl) au) (by lia) (by rw [sizeLine_eq]; lia) (by lia) rfl (yf hs) (λ v=>v) (λ i hi=>?_) (λ i hi _=>aa rfl) (λ q' hq'=>?_)
   ·exact aQ (rF (aa rfl) (aU (fb H _ 1 rfl (ah.refl H)) fh) (.inl (SqL.of eh)))
   ·rw [rE]
    exact q _ _ ⟨q',rfl,af,(ah.refl H).upd hq'⟩
  rintro _ H1 ⟨fq,rfl,ef,s1⟩
  obtain ⟨hq1,fh1,eh1⟩:=(O.same s1).holes B
  refine bI (λ v H'=> ∃sq,v=.ref sq/\H1 sq=none/\H' sq=some (.lst ((bareL (wi*hi).toNat hs).map strV))/\ah H1 H') (λ Q q=>?_) ?_
  ·refine iF (n:=wi*hi) (rest:=[some (.ref g)]) (ad (aa rfl) au) (by lia) (by rw [sizeLine_eq]; lia) (by lia) rfl (λ _=>true) (signV hs) (λ i hi=>df) (λ i hi' _=>?_) (λ q' hq'=>?_)
   ·have e:strV (if decide (0+(i:Int)∈hs)=true then 35 else 46)=signV hs (.int (0+(i:Int))):=by
     show _=strV (if 0+(i:Int)∈hs then 35 else 46)
     by_cases m:0+(i:Int)∈hs
     ·rw [if_pos m,if_pos (decide_eq_true m)]
     ·rw [if_neg m,decide_eq_false m]; rfl
    rw [<-e]
    exact cS am (tD (yp (aa rfl) (aU (fb H1 _ 1 rfl s1) fh1) (.inl (SqL.of eh1)))) (by decide) (dh_at _)
   ·refine q _ _ ⟨q',rfl,hq',?_,(ah.refl H1).upd hq'⟩
    rw [af,zG.mpr (λ _ _=>rfl),zk]
    unfold bareL
    rw [zk]
    congr 2
    refine zH λ i _=>?_
    show strV (if 0+(i:Int)∈hs then 35 else 46)=strV (if (i:Int)∈hs then 35 else 46)
    rw [Bj]
  rintro _ H2 ⟨sq,rfl,sqn,esq,s2⟩
  have s02:=s1.trans s2
  refine aM (aD (sp:=ii K) (ad (aa rfl) (ad (aa rfl) au)) (λ Q q=>⟨a,ns,st,rfl,s02.seq hS,st0,q⟩)) ?_
  generalize cellAt ns st=c
  refine bI (λ v H'=> ∃(cq:Addr) (cs:List Int),v=.ref cq/\H' cq=some (.lst (cs.map V.int))/\cs.length=6/\ah H2 H') (λ Q q=>?_) ?_
  ·refine iF (n:=6) (rest:=[some (.ref a),some (.int st)]) (ad am au) (by lia) (by decide) (by decide) rfl (λ _=>true) (λ x=>match x with | .int i=>.int (mixed (cellAt ns (st+1+i)) i) | _=>.non) (λ i hi=>df) (λ i hi' _=>?_) (λ q' hq'=>?_)
   ·exact aD (sp:=ms) (ad (aD (sp:=ii K) (ad (aa rfl) (ad (bB (bB (aa rfl) am) (aa rfl)) au)) (λ Q q=>⟨a,ns,_,rfl,s02.seq hS,by lia,q⟩)) (ad (aa rfl) au)) (λ Q q=>⟨_,_,rfl,q⟩)
   ·refine q _ _ ⟨q',(List.range 6).map λ (i:Nat)=>mixed (cellAt ns (st+1+(0+(i:Int)))) (0+(i:Int)),rfl,?_,by rw [y3,zI],(ah.refl H2).upd hq'⟩
    rw [af,zG.mpr (λ _ _=>rfl),zk,zk]
    rfl
  rintro _ H3 ⟨cq,cs,rfl,ecs,l6,s3⟩
  have s03:=s02.trans s3
  have esq3:=s3 _ _ esq
  have ef3:=(s2.trans s3) _ _ ef
  have fpos:=uO ln
  show bj _ _ _ [some (.ref a),some (.ref g),some (.int st),some (.int (wi*hi)),some (.ref fq),some (.ref sq),some (.int c),some (.ref cq),none,none,none,none,none] H3
  have flen:(dS wi hi hs).length<=64:=by
   unfold dS
   have:=zN (λ i=> !decide (i∈hs)) ((List.range (wi*hi).toNat).map λ (i:Nat)=>(i:Int))
   rw [y3,zI] at this
   lia
  have nsq:∀p,H3 p=none->p≠sq:=λ p hp e=>by rw [e,esq3] at hp; cases hp
  refine bI (λ v H'=> ∃(pq:Addr) (ss:List Int),v=.ref pq/\H' pq=some (.lst (ss.map V.int))/\pq≠sq/\(∀s∈ss,s∈dS wi hi hs)/\ss.length<=64/\ah H3 H') (λ Q q=>?_) ?_
  ·refine lJ (lo:=none) (hi:=some (1+c % 6)) (aa rfl) (λ Q q=>q) (λ Q q=>evk (bB am (aK (aa rfl) am (by decide))) q) (SqL.of ecs) (λ p hp=>?_)
   have s4:=(ah.refl H3).upd (o:=.lst (cutV (cs.map V.int) none (some (1+c % 6)))) hp
   have cl:(cutV (cs.map V.int) none (some (1+c % 6))).length<=6:=by have:=ju (cs.map V.int) none (some (1+c % 6)); rw [y3] at this; lia
   have ef4:SqL K _ fq ((dS wi hi hs).map V.int):=SqL.of (s4 _ _ ef3)
   refine eV (tl:=tC (.ref p)) (d:=p) (xs:=cutV (cs.map V.int) none (some (1+c % 6))) (rest:=[some (.ref fq)]) am (SqL.of af) (by rw [sizeLine_eq]; lia) rfl (λ _=>true) (λ x=>.int (gI (dS wi hi hs) x)) (λ x hx=>df) (λ x hx _=>?_) (λ p2 hp2=>?_)
   ·obtain ⟨i,_,rfl⟩:=y4.mp (yD hx)
    exact aT (aa rfl) (aK (aa rfl) (dk (aa rfl) (.inl ef4)) (by rw [y3]; lia)) (.inl ef4) (gI_at fpos i)
   ·refine q _ _ ⟨p2,(cutV (cs.map V.int) none (some (1+c % 6))).map (gI (dS wi hi hs)),rfl,?_,nsq _ (s4.free hp2),λ s hs'=>?_,by rw [y3]; lia,s4.upd hp2⟩
    ·rw [af,zG.mpr (λ _ _=>rfl),zk]
     rfl
    ·obtain ⟨x,_,rfl⟩:=y4.mp hs'
     exact gI_in fpos x
  rintro _ H4 ⟨pq,ss,rfl,epq,npq,hss,lss,s4⟩
  show bj _ _ _ [some (.ref a),some (.ref g),some (.int st),some (.int (wi*hi)),some (.ref fq),some (.ref sq),some (.int c),some (.ref cq),some (.ref pq),none,none,none,none] H4
  have ef4:=s4 _ _ ef3
  refine fJ (λ σ' H'=> ∃(pq:Addr) (ss:List Int),σ'=[some (.ref a),some (.ref g),some (.int st),some (.int (wi*hi)),some (.ref fq),some (.ref sq),some (.int c),some (.ref cq),some (.ref pq),none,none,none,none]/\H' pq=some (.lst (ss.map V.int))/\pq≠sq/\(∀s∈ss,s∈dS wi hi hs)/\ss.length<=64/\ah H3 H') ?_ (λ go=>?_)
  rotate_left
  ·refine aV (aQ (g8 (aK (bC (aa rfl) am ⟨by decide,by decide⟩) am (by decide)) am)) (λ _=>?_) (λ _=>go _ _ ⟨pq,ss,rfl,epq,npq,hss,lss,s4⟩)
   obtain ⟨ss2,e2,h2,l2⟩:=uT (dS wi hi hs) none (some 12)
   exact ji (lJ (lo:=none) (hi:=some 12) (aa rfl) (λ Q q=>q) (λ Q q=>evk am q) (SqL.of ef4) (λ p hp=>go _ _ ⟨p,ss2,rfl,by rw [af,e2],nsq _ (s4.free hp),h2,by lia,s4.upd hp⟩))
  rintro _ H4 ⟨pq,ss,rfl,epq,npq,hss,lss,s4⟩
  refine fJ (λ σ' H'=> ∃(pq:Addr) (ss:List Int),σ'=[some (.ref a),some (.ref g),some (.int st),some (.int (wi*hi)),some (.ref fq),some (.ref sq),some (.int c),some (.ref cq),some (.ref pq),none,none,none,none]/\H' pq=some (.lst (ss.map V.int))/\pq≠sq/\(∀s∈ss,s∈dS wi hi hs)/\ss.length<=64/\ah H3 H') ?_ (λ go=>?_)
  rotate_left
  ·refine aV (aQ (g8 (aK (bC (aa rfl) am ⟨by decide,by decide⟩) am (by decide)) am)) (λ _=>?_) (λ _=>go _ _ ⟨pq,ss,rfl,epq,npq,hss,lss,s4⟩)
   exact ji (ku (iw ⟨AV _,λ p hp=>go _ _ ⟨p,[],rfl,af,nsq _ (s4.free hp),λ s hs=>(by cases hs),AV _,s4.upd hp⟩⟩))
  rintro _ H4 ⟨pq,ss,rfl,epq,npq,hss,lss,s4⟩
  have esq4:=s4 _ _ esq3
  have hsn:H sq=none:=s1.free sqn
  have s04:=s03.trans s4
  have back:∀H',SameBut sq H4 H'->ah H H':=λ H' sb d o e=>sb d o (s04 d o e) (λ z=>by rw [z,hsn] at e; cases e)
  have ncq:cq≠sq:=λ z=>by
   have h1:H3 sq=some (.lst (cs.map V.int)):=z▸ecs
   rw [esq3] at h1
   have h2:(bareL (wi*hi).toNat hs).map strV=cs.map V.int:=by injection h1 with h1; injection h1
   cases cs with
   | nil=>simp at l6
   | cons x r=>
     cases hb:bareL (wi*hi).toNat hs with
     | nil=>rw [hb] at h2; cases h2
     | cons y r2=>rw [hb] at h2; injection h2 with h2 _; cases h2
  refine bZ (λ σ' H'=> ∃(zs:List Nat) (o9 o10 o11 o12:Option V),σ'=[some (.ref a),some (.ref g),some (.int st),some (.int (wi*hi)),some (.ref fq),some (.ref sq),some (.int c),some (.ref cq),some (.ref pq),o9,o10,o11,o12]/\H' sq=some (.lst (zs.map strV))/\zs.length=(wi*hi).toNat/\(∀(s c:Nat),zs[s]? =some c->jv ks c (if (s:Int)∈hs then 35 else 46)=true)/\SameBut sq H4 H') (λ K' hK=>?_) ?_
  ·refine yk (λ q' H'=>q'=pq/\H'=H4) (λ Q q=>evk (v:=.ref pq) (aa rfl) (q _ _ ⟨rfl,rfl⟩)) ?_
   rintro q' H' ⟨rfl,rfl⟩
   refine ⟨ss.map V.int,SqL.of epq,λ i σ' H''=> ∃(zs:List Nat) (o9 o10 o11 o12:Option V),σ'=[some (.ref a),some (.ref g),some (.int st),some (.int (wi*hi)),some (.ref fq),some (.ref sq),some (.int c),some (.ref cq),some (.ref q'),o9,o10,o11,o12]/\H'' sq=some (.lst (zs.map strV))/\zs.length=(wi*hi).toNat/\(∀(s c:Nat),zs[s]? =some c->jv ks c (if (s:Int)∈hs then 35 else 46)=true)/\SameBut sq H' H'',
    ⟨bareL (wi*hi).toNat hs,_,_,_,_,rfl,esq4,?_,?_,SameBut.refl _⟩,?_,?_,?_⟩
   ·unfold bareL; rw [y3,zI]
   ·intro s c' h
    unfold bareL at h
    rw [y8] at h
    cases hr:(List.range (wi*hi).toNat)[s]? with
    | none=>rw [hr] at h; cases h
    | some s'=>
      rw [hr] at h
      have e1:s'=s:=by
       have:=zo.mp hr
       obtain ⟨h1,h2⟩:=this
       rw [List.getElem_range] at h2
       exact h2.symm
      subst e1
      have h:(if (s':Int)∈hs then 35 else 46)=c':=by injection h
      rw [<-h]
      unfold jv
      by_cases m:(s':Int)∈hs
      ·rw [if_pos m]; rfl
      ·rw [if_neg m,if_neg (by decide)]; exact decide_eq_true (.inl rfl)
   ·rintro i σ' H'' ⟨_,_,_,_,_,_,_,_,_,sb⟩
    exact SqL.of (sb _ _ epq npq)
   ·rintro i x _ H5 t hx ⟨zs,o9,o10,o11,o12,rfl,e5,lz,gz,sb⟩ nt
    obtain ⟨z,hz,rfl⟩:=y4.mp (zu hx)
    refine gpair af ?_
    obtain ⟨z0,z1,z2⟩:=yg (hss z hz)
    have s6:=(ah.refl H5).upd (o:=.tup [.int (i:Int),.int z]) nt
    generalize upd H5 t (HO.tup [V.int (i:Int),V.int z])=H6 at s6
    have sb6:SameBut sq H' H6:=sb.trans s6.but
    have ecs6:SqL K H6 cq (cs.map V.int):=SqL.of (sb6 _ _ (s4 _ _ ecs) ncq)
    have s06:=back H6 sb6
    have e6:=s6 _ _ e5
    show bj _ _ _ [some (.ref a),some (.ref g),some (.int st),some (.int (wi*hi)),some (.ref fq),some (.ref sq),some (.int c),some (.ref cq),some (.ref q'),some (.int (i:Int)),some (.int z),o11,o12] H6
    obtain ⟨n1,en1,_⟩:=j7 (ns:=cs) (i:=(i:Int) % 6) (by lia) (by lia)
    refine aM (bB (aT (aa rfl) (aK (aa rfl) am (by decide)) (.inl ecs6) en1) (dA am (bC (aa rfl) am ⟨by decide,by decide⟩) (.inl ⟨by decide,by decide⟩))) ?_
    generalize n1+4099*((i:Int) / 6)=more
    obtain ⟨kq,fk,ek⟩:=(G.same s06).kinds D
    have kpos:(0:Int)<((ks.map strV).length:Int):=by rw [y3]; lia
    obtain ⟨kv,ekv,mkv⟩:=pickM (xs:=ks.map strV) (i:=more / 64 % ((ks.map strV).length:Int)) (Bg _ (by lia)) (Bh _ kpos)
    obtain ⟨k,hk,rfl⟩:=y4.mp mkv
    refine aM (aT (aU (aa rfl) fk) (aK (bC (aa rfl) am ⟨by decide,by decide⟩) (dk (aU (aa rfl) fk) (.inl (SqL.of ek))) kpos) (.inl (SqL.of ek)) ekv) ?_
    show tAsg _ _ _ [some (.ref a),some (.ref g),some (.int st),some (.int (wi*hi)),some (.ref fq),some (.ref sq),some (.int c),some (.ref cq),some (.ref q'),some (.int (i:Int)),some (.int z),some (.int more),some (strV k)] H6
    obtain ⟨v,ev,mv⟩:=pickM (xs:=[strV (k - 32),strV k]) (i:=more / 512 % 2) (by lia) (by show _<(2:Int); lia)
    refine put_k (l:=sq) (i:=z) (P:=λ v H'=>ah H6 H'/\∃c,v=strV c/\(c∈ks\/c∈ks.map (· - 32))) (λ Q q=>iy (ad (ev_up (aa rfl) (hlt k hk)) (ad (aa rfl) au)) (by show 2<=1000; decide) (λ H'=>(aK (bC (aa rfl) am ⟨by decide,by decide⟩) am (by decide))) ev (λ H' s=>q _ _ ⟨s,?_⟩)) (λ u H7 h=>?_)
    ·simp only [y6,zq,or_false] at mv
     rcases mv with rfl | rfl
     ·exact ⟨_,rfl,.inr (y4.mpr ⟨k,hk,rfl⟩)⟩
     ·exact ⟨_,rfl,.inl hk⟩
    ·obtain ⟨s7,c',rfl,hc'⟩:=h
     refine ⟨aa rfl,aa rfl,zs.map strV,s7 _ _ e6,z0,by rw [y3]; lia,zs.set z.toNat c',_,_,_,_,rfl,?_,by rw [List.length_set]; exact lz,λ s c2 h2=>?_,(sb6.trans s7.but).self⟩
     ·rw [af,List.map_set]
     ·by_cases hs2:s=z.toNat
      ·subst hs2
       rw [Ap (by lia)] at h2
       cases h2
       rw [if_neg (by rw [Bp z0]; exact z2)]
       unfold jv
       rw [if_neg (by decide)]
       exact decide_eq_true (.inr hc')
      ·rw [Aq (λ e=>hs2 e.symm)] at h2
       exact gz s c2 h2
   ·rintro σ' H'' h
    exact hK _ _ h
  rintro _ H5 ⟨zs,o9,o10,o11,o12,rfl,e5,lz,gz,sb⟩
  show cJ _ _ [some (.ref a),some (.ref g),some (.int st),some (.int (wi*hi)),some (.ref fq),some (.ref sq),some (.int c),some (.ref cq),some (.ref pq),o9,o10,o11,o12] H5
  refine sm1_k am (evk (aa rfl) (join_k e5 (by lia) (q _ _ ?_ (λ s c' h=>gz s c' h) (back _ sb))))
  show zs.toArray.size=_
  rw [y9]
  exact lz
end
end K13
namespace K13
open PySem L2
section
variable {P:Program}{w:World}{K:Frag}{mg:Str->Option Value}{base:Heap}{aS aA aE aW:Addr}
theorem nM {f:Addr}{fd:FuncData}(F:Fun K "_law_side" "_law_side" cY f fd) (T:Txt mg aS aA aE aW):ba P w K mg base CX0 1 f fd ["_law_sign"] ig:=by
 refine F.ok mQ (λ vs H Q E h=>?_) (λ cdv A outer s H vs Q E hr h=>?_)
 ·obtain ⟨c,rfl,_⟩:=h
  rfl
 ·obtain ⟨c,rfl,hc,k⟩:=h
  have hu:=bQ hr
  refine ⟨_,(ae (aR (PW.pt (dR (aJ K hu (cv 0) bn) (cP (aJ K hu (cv 0) bn)))) (aj (ay cQ)) aC)
   (aj (ay (kTy l0 oi T.int (pac (iB K hu (cv 0) bn) pa_nil))))),?_⟩
  show bj _ _ _ [some (.str (one c))] H
  have e1:(one c=".")<->c=46:=⟨λ z=>ir (b:=46) (z.trans (by decide+kernel)),λ z=>by rw [z]; decide+kernel⟩
  have e2:(one c="#")<->c=35:=⟨λ z=>ir (b:=35) (z.trans (by decide+kernel)),λ z=>by rw [z]; decide+kernel⟩
  unfold bF at k
  refine aV (fW (aQ (dl (aa rfl) am)) (λ _=>(aQ (dl (aa rfl) am)))) (λ h=>?_) (λ h=>?_)
  ·refine aG am ?_
   rw [if_pos] at k
   ·exact k
   ·rw [BA] at h
    exact h.imp (λ z=>e1.mp (of_decide_eq_true z)) (λ z=>e2.mp (of_decide_eq_true z))
  ·rw [BE] at h
   have n1:¬c=46:=λ z=>of_decide_eq_false h.1 (e1.mpr z)
   have n2:¬c=35:=λ z=>of_decide_eq_false h.2 (e2.mpr z)
   rw [if_neg (by lia)] at k
   refine aG (tD (ev_ins (aa rfl) am)) ?_
   have:(if decide (c∈("abcdefghijklmnopqrstuvwxyz":Str).cps.toList)=true then (1:Int) else 0)=if 65<=c/\c<=90 then 0 else 1:=by
    unfold Sg at hc
    by_cases z:Ltr c
    ·rw [if_pos (decide_eq_true (tQ.mpr z)),if_neg (by unfold Ltr at z; lia)]
    ·rw [if_neg (by rw [decide_eq_false (λ w=>z (tQ.mp w))]; decide),if_pos (by unfold Ltr at z; lia)]
   rw [this]
   exact k
theorem nK {f cB cG:Addr}{fd:FuncData}(F:Fun K "_law_step" "_law_step" cX f fd) (T:Txt mg aS aA aE aW) (B:kS K cB) (D:GmC K cG):ba P w K mg base CX0 1 f fd ["_law_game_here","_law_square","_law_across","_law_up"] (jH K cB cG):=by
 refine F.ok dW (λ vs H Q E h=>?_) (λ cdv A outer s H vs Q E hr h=>?_)
 ·obtain ⟨g,b,wi,hi,sq,ax,up,hs,ks,rs,ts,es,st,rfl,_⟩:=h
  rfl
 ·obtain ⟨g,b,wi,hi,sq,ax,up,hs,ks,rs,ts,es,st,rfl,G,O,k⟩:=h
  have hu:=bQ hr
  have w1:=O.w1
  have w8:=O.w8
  have fb:=G.board D
  have fw:=O.wide B
  have fh:=O.high B
  obtain ⟨hq,fq,eq⟩:=O.holes B
  refine ⟨_,(ae (aw (i:=4) dW.nd rfl (Or.inl rfl) (ao (ao (cv 1) (cz K (cz K (cv 0)))) (cv 2)))
   (ae (aw (i:=5) dW.nd rfl (Or.inl rfl) (ao (ao (cv 1) (cz K (cz K (cv 0)))) (cv 3)))
   (ae (aR (PW.pt (dR (bm (jL K hu ag (cv 4) (cz K (cz K (cv 0))))) (cP (bm (jL K hu ag (cv 5) (cz K (cz K (cv 0)))))))) (aj (ay cQ)) aC)
   (ae (aw (i:=6) dW.nd rfl (Or.inl rfl) (ao (ao (cv 5) (cz K (cz K (cv 0)))) (cv 4)))
   (aj (ay (dH (aJ K hu (cv 6) (cz K (cz K (cv 0)))) cQ (cv 6)))))))),?_⟩
  show bj _ _ _ [some (.ref g),some (.int sq),some (.int ax),some (.int up),none,none,none] H
  refine aM (bB (aK (aa rfl) (aU (aU (aa rfl) (fb)) (fw)) (by lia)) (aa rfl)) ?_
  refine aM (bB (bC (aa rfl) (aU (aU (aa rfl) (fb)) (fw)) (⟨by lia,by lia⟩)) (aa rfl)) ?_
  unfold mvd at k
  generalize hc:sq % wi+ax=c at k
  generalize hr':sq / wi+up=r at k
  refine aV (fW (bM (jE am (aa rfl) (λ _=>(aU (aU (aa rfl) (fb)) (fw))))) (λ _=>(bM (jE am (aa rfl) (λ _=>(aU (aU (aa rfl) (fb)) (fh))))))) (λ h=>?_) (λ h=>?_)
  ·refine aG am ?_
   rw [if_neg (λ z=>by rw [decide_eq_true (⟨z.1,z.2.1⟩:0<=c/\c<wi),decide_eq_true (⟨z.2.2.1,z.2.2.2⟩:0<=r/\r<hi)] at h; cases h)] at k
   exact k
  ·have hcr:(0<=c/\c<wi)/\0<=r/\r<hi:=by simpa using h
   rw [if_pos ⟨hcr.1.1,hcr.1.2,hcr.2.1,hcr.2.2⟩] at k
   have m1:r*wi<=8*8:=Bk (by have:=O.h8; lia) w8 (by lia) (by lia)
   refine aM (bB (dA (aa rfl) (aU (aU (aa rfl) (fb)) (fw)) (.inr ⟨by lia,by lia⟩)) (aa rfl)) ?_
   by_cases z:r*wi+c∈hs
   ·rw [if_pos z] at k
    exact lB (b:=decide (r*wi+c∈hs)) (aQ (yp (aa rfl) (aU (aU (aa rfl) fb) fq) (.inl (SqL.of eq)))) (λ _=>am _ k) (λ w=>absurd z (of_decide_eq_false w))
   ·rw [if_neg z] at k
    exact lB (b:=decide (r*wi+c∈hs)) (aQ (yp (aa rfl) (aU (aU (aa rfl) fb) fq) (.inl (SqL.of eq)))) (λ w=>absurd (of_decide_eq_true w) z) (λ _=>(aa rfl) _ k)
end
end K13
namespace K13
open PySem L2
section
variable {P:Program}{w:World}{K:Frag}{mg:Str->Option Value}{base:Heap}{aS aA aE aW:Addr}
theorem jC {f cB cG:Addr}{fd:FuncData}(F:Fun K "_law_by_rule" "_law_by_rule" bS f fd) (T:Txt mg aS aA aE aW) (C:CLb P w K mg base cB cG):ba P w K mg base CX0 2 f fd ["_law_game_here","_law_row_here","_law_square","_law_rule_here"] (lI K cB cG):=by
 refine F.ok bo (λ vs H Q E h=>?_) (λ cdv A outer s H vs Q E hr h=>?_)
 ·obtain ⟨g,b,r,row,sq,sd,wi,hi,hs,u,ks,rs,ts,es,st,rfl,_⟩:=h
  rfl
 ·obtain ⟨g,b,r,row,sq,sd,wi,hi,hs,u,ks,rs,ts,es,st,rfl,G,B,hT,R,rl,s0,s1,hsd,sd2,n0,k⟩:=h
  have hu:=bQ hr
  have r64:=R.len
  have w1:=B.w1
  obtain ⟨x1,x2⟩:=R.toRowS.at s0 (by lia)
  have xs:Sg (row.cps.toList.getD sq.toNat 0):=by
   obtain ⟨j,_,e,_⟩:=gT x1
   exact R.sg _ (zu e)
  have dy0:¬(u.ax=0/\u.dy sd=0):=λ z=>n0 ⟨z.1,by have:=z.2; unfold aF.dy at this; split at this<;>lia⟩
  obtain ⟨n,ry,n8⟩:=ray_ex (hs:=hs) B.w8 B.h8 B.w1 s0 s1 dy0
  have T1:∀{H'},ah H H'->SqT K H' r u.vs:=λ z=>ah.tupY z hT
  have m0:=Bg sq (by lia:wi≠0)
  have m1:=Bh sq (by lia:0<wi)
  refine ⟨_,(ae (aw (i:=4) bo.nd rfl (Or.inl rfl) (aB C._law_side hr (pac (kix K (cv 1) (cv 2)) pa_nil)))
   (ae (aw (i:=5) bo.nd rfl (Or.inl rfl) (kix K (cv 3) ag))
   (ae (aw (i:=6) bo.nd rfl (Or.inl rfl) (kix K (aY (pac (kix K (cv 3) ag) (pac (kM (kix K (cv 3) ag)) pa_nil))) (cv 4)))
   (ae (aw (i:=7) bo.nd rfl (Or.inl rfl) (aB C._law_step hr (pac (cv 0) (pac (cv 2) (pac (cv 5) (pac (cv 6) pa_nil))))))
   (ae (aw (i:=8) bo.nd rfl (Or.inl rfl) (aY pa_nil))
   (ae (aR (aJ K hu (kix K (cv 3) ag) bn) (ae (aw (i:=9) bo.nd rfl (Or.inl rfl) (dH (aJ K hu (cv 7) cQ) cQ (aB C._law_step hr (pac (cv 0) (pac (cv 7) (pac (cv 5) (pac (cv 6) pa_nil)))))))
   (ae (aR (PW.pt (fO (aJ K hu (cv 9) cQ) (fO (aJ K hu (kix K (cv 1) (cv 9)) bn) (eS (aJ K hu (aB C._law_side hr (pac (kix K (cv 1) (cv 7)) pa_nil)) (ao ag (cv 4))))))) (aj (cN (fo (cv 8) (bT (pac (cv 9) (pac (cv 7) pa_nil)))))) aC)
   (aj (ay (cv 8))))) aC)
   (ae (pz PassesOwn.never (aJ K hu (cv 7) cQ) (ae (aR (PW.pt (fO (aJ K hu (kix K (cv 1) (cv 7)) bn) (eS (aJ K hu (kix K (cv 3) ag) bn)))) (aj (cN (fo (cv 8) (bT (pac (cv 7) (pac (kM ag) pa_nil)))))) aC)
   (ae (aR (PW.pt (fO (aJ K hu (aB C._law_side hr (pac (kix K (cv 1) (cv 7)) pa_nil)) (ao ag (cv 4))) (eS (aJ K hu (kix K (cv 3) ag) bn)))) (aj (cN (fo (cv 8) (bT (pac (cv 7) (pac (cv 7) pa_nil)))))) aC)
   (ae (aR (PW.pt (dR (aJ K hu (kix K (cv 3) ag) bn) (cP (aJ K hu (kix K (cv 1) (cv 7)) bn)))) (aj (ay (cv 8))) aC)
   (aj (aw (i:=7) bo.nd rfl (Or.inl rfl) (aB C._law_step hr (pac (cv 0) (pac (cv 7) (pac (cv 5) (pac (cv 6) pa_nil)))))))))))
   (aj (ay (cv 8)))))))))),?_⟩
  show bj _ _ _ [some (.ref g),some (.str row),some (.int sq),some (.ref r),none,none,none,none,none,none] H
  refine aM (v:=.int sd) (aD (ad (cS (aa rfl) (aa rfl) (by rw [sizeLine_eq]; lia) x1) au) (λ Q q=>⟨_,rfl,xs,by rw [<-hsd] at q; exact q⟩)) ?_
  refine aM (v:=.int u.ax) (aT (aa rfl) am (.inr hT) rfl) ?_
  refine bI (λ v H'=>v=.int (u.dy sd)/\ah H H') (λ Q z=>?_) ?_
  ·refine iy (v:=.int (u.dy sd)) (i:=sd) (ad (aT (x:=.int u.up) (aa rfl) am (.inr hT) rfl) (ad (kE (aT (x:=.int u.up) (aa rfl) am (.inr hT) rfl)) au)) (by show 2<=1000; decide) (λ H'=>aa rfl) ?_ (λ H' s=>z _ _ ⟨rfl,s⟩)
   rcases sd2 with rfl | rfl
   ·rfl
   ·rfl
  rintro _ H1 ⟨rfl,q1⟩
  have G1:=G.same q1
  have B1:=B.same q1
  generalize hdy:u.dy sd=dy at ry dy0
  have step:∀(H':Hp),ah H H'->∀j:Nat,j<=n->∀Q:VK,Q (oI (rayL wi sq u.ax dy n)[j]?) H'->jH K cB cG [.ref g,.int (sqK wi sq u.ax dy j),.int u.ax,.int dy] H' Q E0:=λ H' s j hj Q q=>by
   refine ⟨g,b,wi,hi,_,u.ax,dy,hs,ks,rs,ts,es,st,rfl,G.same s,B.same s,?_⟩
   rw [<-j5 ry hj] at q
   cases j with
   | zero=>rw [jK w1 (by simp; exact m0) (by simp; exact m1)]; exact q
   | succ j=>
     obtain ⟨a1,a2,_⟩:=ry.1 j (by lia)
     rw [jK w1 a1 a2]
     exact q
  have step0:∀(H':Hp),ah H H'->∀Q:VK,Q (oI (rayL wi sq u.ax dy n)[0]?) H'->jH K cB cG [.ref g,.int sq,.int u.ax,.int dy] H' Q E0:=λ H' s Q q=>by
   have z:=step H' s 0 (AV _) Q q
   rwa [oz w1] at z
  refine aM (v:=oI (rayL wi sq u.ax dy n)[0]?) (aD (ad (aa rfl) (ad (aa rfl) (ad (aa rfl) (ad (aa rfl) au)))) (λ Q q=>step0 H1 q1 Q q)) ?_
  refine eZ λ q hq=>?_
  have q2:ah H (upd H1 q (.lst [])):=q1.upd hq
  have hqH:H q=none:=q1.free hq
  have look:∀x∈rayL wi sq u.ax dy n,∃c,atI row.cps.toList x=some c/\Sg c/\sdV row x=bF c/\(one c="."<->sdV row x=.non):=λ x hx=>by
   obtain ⟨a1,a2,a3⟩:=xa w1 ry x hx
   exact R.look a1 (by lia) a3
  have lead:dQ wi hi hs row sq sd u (byL row sd u.so u.ai (rayL wi sq u.ax dy n)):=⟨n,by rw [hdy]; exact ry,n8,by rw [hdy]⟩
  refine aV (b:=decide (u.so="jump")) (aQ (dl (aT (x:=.str u.so) (aa rfl) am (.inr (T1 q2)) rfl) am)) (λ h=>?_) (λ h=>?_)
  ·have h:=of_decide_eq_true h
   have fin:∀H':Hp,aZ H H' q (jumpL row sd (rayL wi sq u.ax dy n))->ah H H'->Q (.ref q) H':=λ H' hP s=>k _ q _ lead hqH (by unfold byL; rw [if_pos h]; exact hP) s
   generalize hpath:rayL wi sq u.ax dy n=path at look fin step
   match path,look,fin,step,hpath with
   | [],look,fin,step,hpath=>
     refine aM (v:=.non) (λ Q z=>lB (b:=true) (aQ (ev_is_n (aa rfl) am)) (λ _=>am _ z) (λ w=>nomatch w)) ?_
     refine aV (b:=false) (λ Q z=>(aQ (eP (aa rfl) am)) _ (fE z)) (λ w=>nomatch w) λ _=>?_
     exact aG (aa rfl) (fin _ (aZ.nil.from q1) q2)
   | x::rest,look,fin,step,hpath=>
     have e0:sqK wi sq u.ax dy 1=x:=by
      have:(rayL wi sq u.ax dy n)[0]? =some x:=by rw [hpath]; rfl
      rw [<-j5 ry (AV _)] at this
      split at this
      ·exact Option.some.inj this
      ·cases this
     have n1:1<=n:=by
      have:=congrArg List.length hpath
      rw [fA] at this
      simp at this
      lia
     obtain ⟨cx,cx1,cx2,cx3,cx4⟩:=look x zi
     refine aM (v:=oI rest[0]?) (λ Q z=>lB (b:=false) (aQ (ev_is_i (aa rfl) am)) (λ w=>nomatch w) (λ _=>(aD (x:=oI rest[0]?) (ad (aa rfl) (ad (aa rfl) (ad (aa rfl) (ad (aa rfl) au)))) (λ Q' z'=>?_)) _ z)) ?_
     ·have w:=step _ q2 1 n1 Q' (by simpa using z')
      rw [e0] at w
      exact w
     match rest,look,fin with
     | [],look,fin=>
       refine aV (b:=false) (λ Q z=>(aQ (eP (aa rfl) am)) _ (fE z)) (λ w=>nomatch w) λ _=>?_
       exact aG (aa rfl) (fin _ (aZ.nil.from q1) q2)
     | y::rest',look,fin=>
       obtain ⟨cy,cy1,cy2,cy3,cy4⟩:=look y (by simp)
       refine aV (b:=true&&(decide (one cy=".")&&decide (bF cx=.int (1 - sd)))) (fH (aQ (fR (aa rfl) am)) (λ _=>fH (aQ (dl (cS (aa rfl) (aa rfl) (by rw [sizeLine_eq]; lia) cy1) am)) (λ _=>aQ (pW (ad (cS (aa rfl) (aa rfl) (by rw [sizeLine_eq]; lia) cx1) au) cx2 (gE am (aa rfl)))))) (λ h2=>?_) (λ h2=>?_)
       ·rw [By,Bu] at h2
        refine jw (aa rfl) ⟨_,af⟩ (eG (x:=.int y) (y:=.int x) (aa rfl) (aa rfl) λ t ht=>?_)
        have nt:q≠t:=λ z=>by rw [<-z,af] at ht; cases ht
        refine ⟨[],by rw [aq nt]; exact af,by show 0<sizeLine; decide,?_⟩
        dsimp only
        refine aG (v:=.ref q) (aa rfl) (fin _ ?_ ((q2.upd ht).put hqH))
        show aZ H _ q (if sdV row x=.int (1 - sd)/\sdV row y=.non then [(y,x)] else [])
        rw [if_pos ⟨cx3.trans (of_decide_eq_true h2.2),cy4.mp (of_decide_eq_true h2.1)⟩]
        exact aZ.add (l:=[]) (ps:=[]) rfl af (λ _ z=>nomatch z) q2 ht
       ·refine aG (aa rfl) (fin _ ?_ q2)
        show aZ H _ q (if sdV row x=.int (1 - sd)/\sdV row y=.non then [(y,x)] else [])
        rw [if_neg (λ z=>by
         rw [decide_eq_true (cy4.mpr z.2),decide_eq_true (cx3.symm.trans z.1)] at h2
         cases h2)]
        exact aZ.nil.from q1
  ·have h:=of_decide_eq_false h
   have fin:∀H':Hp,aZ H H' q (cL row sd u.ai (if u.so="leap" then (rayL wi sq u.ax dy n).take 1 else rayL wi sq u.ax dy n))->ah H H'->Q (.ref q) H':=λ H' hP s=>k _ q _ lead hqH (by unfold byL; rw [if_neg h]; exact hP) s
   have pl:(rayL wi sq u.ax dy n).length=n:=fA
   have sqj:∀(j:Nat) x,(rayL wi sq u.ax dy n)[j]? =some x->sqK wi sq u.ax dy (j+1)=x/\j+1<=n:=λ j x e=>by
    have hj:=(zo.mp e).1
    rw [pl] at hj
    rw [<-j5 ry (by lia),if_pos (ry.1 j hj)] at e
    exact ⟨Option.some.inj e,hj⟩
   generalize hpath:rayL wi sq u.ax dy n=path at look fin step pl sqj
   refine ⟨λ m σ' H'=> ∃(j:Nat) (l:List (Int×Int)),m=8 - j/\j<=n/\(u.so="leap"->j=0)/\σ'=[some (.ref g),some (.str row),some (.int sq),some (.ref r),some (.int sd),some (.int u.ax),some (.int dy),some (oI path[j]?),some (.ref q),none]/\aZ H H' q l/\l.length<=2*j/\l++cL row sd u.ai ((if u.so="leap" then path.take 1 else path).drop j)=cL row sd u.ai (if u.so="leap" then path.take 1 else path)/\ah H H',
    ⟨8,0,[],rfl,AV _,λ _=>rfl,rfl,aZ.nil.from q1,AV _,rfl,q2⟩,?_⟩
   rintro m _ H2 ⟨j,l,rfl,hjn,hlp,rfl,⟨ps,p1,p2,p3⟩,ll,el,s2⟩
   cases hx:path[j]? with
   | none=>
     have hj:n<=j:=by rw [List.getElem?_eq_none_iff,pl] at hx; exact hx
     refine (aQ (eP (aa rfl) am)) _ (fE ?_)
     dsimp only
     refine aG (v:=.ref q) (aa rfl) (fin _ ?_ s2)
     have:(if u.so="leap" then path.take 1 else path).drop j=[]:=by
      rw [AT]
      split
      ·rw [zx]; lia
      ·lia
     rw [this] at el
     rw [<-el]
     show aZ H H2 q (l++[])
     rw [zt]
     exact ⟨ps,p1,p2,p3⟩
   | some x=>
     obtain ⟨ex,hj1⟩:=sqj j x hx
     have hmem:=zu hx
     obtain ⟨c,c1,c2,c3,c4⟩:=look x hmem
     have hdrop:(if u.so="leap" then path.take 1 else path).drop j=x::(if u.so="leap" then path.take 1 else path).drop (j+1):=by
      have hd:path.drop j=x::path.drop (j+1):=by
       have hj:=(zo.mp hx)
       rw [Af hj.1,hj.2]
      by_cases lp:u.so="leap"
      ·have:=hlp lp
       subst this
       rw [if_pos lp]
       cases path with
       | nil=>simp at hx
       | cons a b=>simp at hx; subst hx; rfl
      ·rw [if_neg lp]
       exact hd
     rw [hdrop,wV sd2,<-zW] at el
     have al:=add_len row sd u.ai x
     refine (aQ (fR (aa rfl) am)) _ (gC ⟨_,λ _ _ h=>h,?_⟩)
     show bj _ _ _ [some (.ref g),some (.str row),some (.int sq),some (.ref r),some (.int sd),some (.int u.ax),some (.int dy),some (.int x),some (.ref q),none] H2
     refine fJ (λ σ' H'=>σ'=[some (.ref g),some (.str row),some (.int sq),some (.ref r),some (.int sd),some (.int u.ax),some (.int dy),some (.int x),some (.ref q),none]/\aZ H H' q (l++lv row u.ai x)/\ah H H') ?_ (λ go=>?_)
     rotate_left
     ·refine aV (b:=decide (one c=".")&& !decide (u.ai="hit")) (fH (aQ (dl (cS (aa rfl) (aa rfl) (by rw [sizeLine_eq]; lia) c1) am)) (λ _=>aQ (jc (aT (x:=.str u.ai) (aa rfl) am (.inr (T1 s2)) rfl) am))) (λ h2=>?_) (λ h2=>?_)
      ·rw [Bu] at h2
       refine jw (aa rfl) ⟨_,p2⟩ (eG (x:=.int x) (y:=.int (-1)) (aa rfl) (kE am) λ t ht=>?_)
       have nt:q≠t:=λ z=>by rw [<-z,p2] at ht; cases ht
       have z1:=congrArg List.length p1
       rw [y3,y3] at z1
       refine ⟨_,by rw [aq nt]; exact p2,by rw [y3,sizeLine_eq]; lia,go _ _ ⟨rfl,?_,(s2.upd ht).put hqH⟩⟩
       unfold lv
       rw [if_pos ⟨c4.mp (of_decide_eq_true h2.1),by simpa using h2.2⟩]
       exact aZ.add p1 p2 p3 s2 ht
      ·refine go _ _ ⟨rfl,?_,s2⟩
       unfold lv
       rw [if_neg (λ z=>by rw [decide_eq_true (c4.mpr z.1),decide_eq_false z.2] at h2; cases h2),zt]
       exact ⟨ps,p1,p2,p3⟩
     rintro _ H3 ⟨rfl,⟨ps3,p13,p23,p33⟩,s3⟩
     refine fJ (λ σ' H'=>σ'=[some (.ref g),some (.str row),some (.int sq),some (.ref r),some (.int sd),some (.int u.ax),some (.int dy),some (.int x),some (.ref q),none]/\aZ H H' q (l++lv row u.ai x++on row sd u.ai x)/\ah H H') ?_ (λ go=>?_)
     rotate_left
     ·refine aV (b:=decide (bF c=.int (1 - sd))&& !decide (u.ai="go")) (fH (aQ (pW (ad (cS (aa rfl) (aa rfl) (by rw [sizeLine_eq]; lia) c1) au) c2 (gE am (aa rfl)))) (λ _=>aQ (jc (aT (x:=.str u.ai) (aa rfl) am (.inr (T1 s3)) rfl) am))) (λ h2=>?_) (λ h2=>?_)
      ·rw [Bu] at h2
       refine jw (aa rfl) ⟨_,p23⟩ (eG (x:=.int x) (y:=.int x) (aa rfl) (aa rfl) λ t ht=>?_)
       have nt:q≠t:=λ z=>by rw [<-z,p23] at ht; cases ht
       have z1:=congrArg List.length p13
       rw [y3,y3,zm] at z1
       refine ⟨_,by rw [aq nt]; exact p23,by rw [y3,sizeLine_eq]; lia,go _ _ ⟨rfl,?_,(s3.upd ht).put hqH⟩⟩
       unfold on
       rw [if_pos ⟨c3.trans (of_decide_eq_true h2.1),by simpa using h2.2⟩]
       exact aZ.add p13 p23 p33 s3 ht
      ·refine go _ _ ⟨rfl,?_,s3⟩
       unfold on
       rw [if_neg (λ z=>by rw [decide_eq_true (c3.symm.trans z.1),decide_eq_false z.2] at h2; cases h2),zt]
       exact ⟨ps3,p13,p23,p33⟩
     rintro _ H4 ⟨rfl,hP4,s4⟩
     rw [<-zW] at el
     refine aV (b:=decide (u.so="leap")|| !decide (one c=".")) (fW (aQ (dl (aT (x:=.str u.so) (aa rfl) am (.inr (T1 s4)) rfl) am)) (λ _=>aQ (jc (cS (aa rfl) (aa rfl) (by rw [sizeLine_eq]; lia) c1) am))) (λ h2=>?_) (λ h2=>?_)
     ·refine aG (v:=.ref q) (aa rfl) (fin _ ?_ s4)
      have:(if sdV row x=.non then cL row sd u.ai ((if u.so="leap" then path.take 1 else path).drop (j+1)) else [])=[]:=by
       by_cases z:sdV row x=.non
       ·rw [if_pos z]
        rw [decide_eq_true (c4.mpr z),Bx,Bz] at h2
        have lp:=of_decide_eq_true h2
        have:(if u.so="leap" then path.take 1 else path).drop (j+1)=[]:=by
         rw [if_pos lp,AT,zx]
         lia
        rw [this]
        rfl
       ·rw [if_neg z]
      rw [this,zt] at el
      rw [<-el]
      exact hP4
     ·rw [BE] at h2
      have lp:=of_decide_eq_false h2.1
      have z:sdV row x=.non:=c4.mp (by simpa using h2.2)
      rw [if_pos z] at el
      refine ic (v:=oI path[j+1]?) (aD (ad (aa rfl) (ad (aa rfl) (ad (aa rfl) (ad (aa rfl) au)))) (λ Q' z'=>?_)) ?_
      ·have w:=step _ s4 (j+1) hj1 Q' z'
       rw [ex] at w
       exact w
      ·refine ⟨8 - (j+1),by lia,j+1,_,rfl,hj1,λ w=>absurd w lp,rfl,hP4,?_,el,s4⟩
       rw [zm,zm]
       lia
end
end K13
namespace K13
open PySem L2
section
variable {P:Program}{w:World}{K:Frag}{mg:Str->Option Value}{base:Heap}{aS aA aE aW:Addr}
theorem lh {f cB cG:Addr}{fd:FuncData}(F:Fun K "_law_goals" "_law_goals" cg f fd) (T:Txt mg aS aA aE aW) (D:GmC K cG) (C:CLs P w K mg base cB cG):ba P w K mg base CX0 3 f fd ["_law_game_here","_law_row_here","_law_square"] (jV K cB cG):=by
 refine F.ok dF (λ vs H Q E h=>?_) (λ cdv A outer s H vs Q E hr h=>?_)
 ·obtain ⟨g,b,row,kd,sq,sd,wi,hi,hs,ks,ts,es,st,us,rfl,_⟩:=h
  rfl
 ·obtain ⟨g,b,row,kd,sq,sd,wi,hi,hs,ks,ts,es,st,us,rfl,G,B,U,u12,un0,R,rl,s0,s1,hsd,sd2,hkd,few,k⟩:=h
  have hu:=bQ hr
  have r64:=R.len
  have w1:=B.w1
  obtain ⟨x1,x2⟩:=R.toRowS.at s0 (by lia)
  have ekd:=kd_lo hkd
  obtain ⟨rq,fl,hrq⟩:=G.rules D
  refine ⟨_,(ae (aw (i:=3) dF.nd rfl (Or.inr rfl) (aY pa_nil))
   (ae (dN PassesOwn.never rfl (kpl K (cz K (cv 0))) (bK (i:=4) dF.nd rfl (Or.inl rfl)) (aj (aR (aJ K hu (kix K (cv 4) ag) (n6 PySem.F.slot_str_lower PySem.F.type_str_lower xH (kix K (cv 1) (cv 2)))) (aj (aw (i:=3) dF.nd rfl (Or.inr rfl) (ao (cv 3) (eO (bV (N:=["_law_pair","_law_found"]) (src:=[none,some 3]) (ak cg) ["_law_game_here","_law_row_here","_law_square","_law_found","_law_rule_here"]) (kpl K (aB C._law_by_rule hr (pac (cv 0) (pac (cv 1) (pac (cv 2) (pac (cv 4) pa_nil)))))) (λ _ _ _=>(aX (i:=0) ["_law_pair","_law_found"])) (λ _ _ _=>(gu (ktinP K hu (cv 0) (cv 1)))) (λ _ _ _=>(cv 0)))))) aC)))
   (aj (ay (kB (ksortL K) jf T.sorted (pac (cv 3) pa_nil)))))),?_⟩
  show bj _ _ _ [some (.ref g),some (.str row),some (.int sq),none,none] H
  refine eZ λ q0 hq0=>?_
  have sm:ah H (upd H q0 (.lst [])):=(ah.refl H).upd hq0
  refine bZ (λ σ' H'=> ∃(o:Option V) (q:Addr) (l m:List (Int×Int)),σ'=[some (.ref g),some (.str row),some (.int sq),some (.ref q),o]/\aI wi hi hs row sq sd (ofKind us kd) l/\m.Nodup/\(∀x,x∈m<->x∈l)/\aZ H H' q m/\ah H H') (λ K' hK=>?_) ?_
  ·refine fF (λ v H'=>v=.ref rq/\H'=upd H q0 (.lst [])) (λ Q z=>(aU (aa rfl) (fl.keepS sm)) _ (z _ _ ⟨rfl,rfl⟩)) ?_
   rintro _ _ ⟨rfl,rfl⟩
   refine ⟨rq,rRefs us,rfl,SqL.of (sm _ _ hrq),λ i σ' H'=> ∃(o:Option V) (q:Addr) (l m:List (Int×Int)),σ'=[some (.ref g),some (.str row),some (.int sq),some (.ref q),o]/\aI wi hi hs row sq sd (ofKind (us.take i) kd) l/\m.Nodup/\(∀x,x∈m<->x∈l)/\aZ H H' q m/\ah H H',⟨_,q0,[],[],rfl,.nil,zX,λ _=>Iff.rfl,aZ.nil,sm⟩,?_,?_,?_⟩
   ·rintro i σ' H' _ ⟨_,_,_,_,_,_,_,_,_,s2⟩
    exact SqL.of (s2 _ _ hrq)
   ·rintro i x _ H2 hx ⟨o,q,l,m,rfl,hl,nd,mem,⟨ps,p1,p2,p3⟩,s2⟩
    have hi':i<us.length:=by
     have:=(zo.mp hx).1
     rwa [y3] at this
    obtain rfl:x=.ref us[i].2:=by
     rw [y8,y7 hi'] at hx
     exact (Option.some.inj hx).symm
    have tk:us.take (i+1)=us.take i++[us[i]]:=by rw [AF hi']
    have hz:=zp hi'
    have ll:=hl.len
    have ol:(ofKind (us.take i) kd).length<=12:=by
     refine AX (zN _ _) ?_
     rw [zx]
     lia
    have ml:=iu nd λ x hx=>(mem x).mp hx
    have z1:=congrArg List.length p1
    rw [y3,y3] at z1
    generalize us[i]=zz at tk hz
    show iN _ _ _ _ [some (.ref g),some (.str row),some (.int sq),some (.ref q),some (.ref zz.2)] H2
    refine ib (b:=decide (zz.1.kd=one (PyProof.Rows.lo1 (row.cps.toList.getD sq.toNat 0)))) (aQ (dl (aT (x:=.str zz.1.kd) (aa rfl) am (.inr (.inl (.inl ((U.same s2) zz hz)))) rfl) (ev_lo (cS (aa rfl) (aa rfl) (by rw [sizeLine_eq]; lia) x1) x2))) (λ h=>?_) (λ h=>?_)
    ·have h:zz.1.kd=kd:=(of_decide_eq_true h).trans ekd.symm
     refine ji (qe ((aa rfl) _ (n4 (ad (aa rfl) (ad (aa rfl) (ad (aa rfl) (ad (aa rfl) au)))) ⟨g,b,zz.2,row,sq,sd,wi,hi,hs,zz.1,ks,rRefs us,ts,es,st,rfl,G.same s2,B.same s2,.inl (.inl ((U.same s2) zz hz)),R,rl,s0,s1,hsd,sd2,un0 zz hz,λ l2 t H3 lr ht hP s3=>?_⟩)))
     obtain ⟨ps2,g1,g2,g3⟩:=hP
     have lr8:=lr.len
     have z2:=congrArg List.length g1
     rw [y3,y3] at z2
     have p23:=s3 _ _ p2
     have pp:∀p∈ps,H3 p.2=some (.tup (p.1.map V.int)):=λ p hp=>s3 _ _ (p3 p hp).2
     have gg:∀p∈ps2,H3 p.2=some (.tup (p.1.map V.int)):=λ p hp=>(g3 p hp).2
     refine ⟨t,rfl,⟨_,SqL.of g2⟩,gF (xs:=ps2.map λ z=>V.ref z.2) (rest:=[some (.ref q)]) (by rw [y3,sizeLine_eq]; lia) rfl (ninP ps2 (ps.map (·.1))) (λ v=>v) (λ i hi=>⟨_,(ps2.map λ z=>V.ref z.2)[i],SqL.of g2,y7 hi⟩) ⟨_,SqL.of g2,AU _⟩ (λ i v H' _ y=>⟨y.1,y.2 _ (SqL.of g2)⟩) (λ x hx=>?_) (λ x hx _=>aa rfl) (λ d hd=>?_)⟩
     ·obtain ⟨z,hz2,rfl⟩:=y4.mp hx
      rw [sM gg hz2]
      exact inPT_k (aa rfl) (aa rfl) (gg z hz2) (SqL.of p23) pp
     ·rw [pI gg,List.map_id'' (λ _=>rfl)]
      have fl2:=zN (λ z:List Int×Addr=> !decide (z.1∈ps.map (·.1))) ps2
      have nq:q≠d:=ar p23 hd
      refine ⟨q,d,_,_,rfl,rfl,by rw [aq nq]; exact p23,af,by rw [y3,y3,sizeLine_eq]; lia,λ p hp=>?_⟩
      have sF:ah H3 (upd (upd H3 d (.lst ((ps2.filter λ z=> !decide (z.1∈ps.map (·.1))).map λ z=>V.ref z.2))) p (.lst ((ps.map λ z=>V.ref z.2)++(ps2.filter λ z=> !decide (z.1∈ps.map (·.1))).map λ z=>V.ref z.2))):=((ah.refl H3).upd hd).upd hp
      refine ⟨_,p,l++l2,m++(l2.filter λ x=> !decide (x∈m)),rfl,?_,nd_more nd (lr.nd w1 (un0 zz hz)),xK mem,⟨ps++ps2.filter λ z=> !decide (z.1∈ps.map (·.1)),?_,?_,λ y hy=>?_⟩,(s2.trans s3).trans sF⟩
      ·rw [tk,kj,if_pos h]
       exact aI.add lr hl
      ·rw [zn,zn,pP p1 g1,p1]
      ·rw [af,zn]
      ·rcases zj.mp hy with w | w
       ·exact ⟨(p3 y w).1,sF _ _ (pp y w)⟩
       ·have w:=(zy.mp w).1
        exact ⟨s2.free (g3 y w).1,sF _ _ (gg y w)⟩
    ·have h:¬zz.1.kd=kd:=λ e=>of_decide_eq_false h (e.trans ekd)
     refine ⟨_,q,l,m,rfl,?_,nd,mem,⟨ps,p1,p2,p3⟩,s2⟩
     rw [tk,kj,if_neg h,zt]
     exact hl
   ·rintro σ' H' ⟨o,q,l,m,e,hl,r⟩
    rw [y3,Ai] at hl
    exact hK _ _ ⟨o,q,l,m,e,hl,r⟩
  ·rintro _ H1 ⟨o,q,l,m,rfl,hl,nd,mem,⟨ps,p1,p2,p3⟩,s2⟩
   have m64:=few l hl m nd λ x hx=>(mem x).mp hx
   have z1:=congrArg List.length p1
   rw [y3,y3] at z1
   have ne:∀p∈ps,p.1≠[]:=λ p hp=>by
    have:p.1∈m.map pk:=by rw [<-p1]; exact y4.mpr ⟨p,hp,rfl⟩
    obtain ⟨x,_,e⟩:=y4.mp this
    rw [<-e]
    exact λ z=>nomatch z
   refine sortL_k (aa rfl) (SqL.of p2) (λ p hp=>⟨ne p hp,(p3 p hp).2⟩) ?_ (by lia) λ ps' q' pm pw hq'=>?_
   ·rw [p1,zC,zv]
    exact (zC.mp nd).imp λ z e=>z (nu e)
   ·obtain ⟨l',e,hm⟩:=unpk (l:=m) (L:=ps'.map (·.1)) λ k hk=>by rw [<-p1]; exact (pm.map _).mem_iff.mp hk
    have sF:ah H1 (upd H1 q' (.lst (ps'.map λ z=>V.ref z.2))):=(ah.refl H1).upd hq'
    exact k l l' q' _ hl (kP.of mem p1 pm pw e) (s2.free hq') ⟨ps',e,af,λ p hp=>⟨(p3 p (pm.mem_iff.mp hp)).1,sF _ _ (p3 p (pm.mem_iff.mp hp)).2⟩⟩ (s2.trans sF)
end
end K13
namespace K13
open PySem L2
section
variable {P:Program}{w:World}{K:Frag}{mg:Str->Option Value}{base:Heap}{aS aA aE aW:Addr}
theorem lb {f:Addr}{fd:FuncData}(F:Fun K "_law_whole" "_law_whole" cE f fd) (T:Txt mg aS aA aE aW):ba P w K mg base CX0 1 f fd ["_law_thing"] oA:=by
 refine F.ok kX (λ vs H Q E h=>?_) (λ cdv A outer s H vs Q E hr h=>?_)
 ·obtain ⟨v,rfl,_⟩:=h
  rfl
 ·obtain ⟨v,rfl,q⟩:=h
  refine ⟨_,(aj (ay (dB (kis .int T.isinstance T.int oi (cv 0)) (dO (yM (kis .bool T.isinstance T.bool tP (cv 0))))))),?_⟩
  show cJ _ _ [some (.int v)] H
  exact aG (cC (yn (aa rfl)) (λ _=>ym (yn (aa rfl)))) q
theorem kb {f:Addr}{fd:FuncData}(F:Fun K "_law_tuples" "_law_tuples" bO f fd) (T:Txt mg aS aA aE aW) (C:CLt P w K mg base):ba P w K mg base CX0 2 f fd ["_law_found","_law_due"] lH:=by
 refine F.ok gq (λ vs H Q E h=>?_) (λ cdv A outer s H vs Q E hr h=>?_)
 ·obtain ⟨q,d,ps,ps',rfl,_⟩:=h
  rfl
 ·obtain ⟨q,d,ps,ps',rfl,hq,hd,e,k1,k2,pl,k⟩:=h
  have hu:=bQ hr
  refine ⟨_,(ae (aR (PW.pt (dR (bm (bq (kis .list T.isinstance T.list eX (cv 0)))) (cP (aJ K hu (cv 0) (cv 1))))) (aj (ay eK)) aC)
   (ae (dN PassesOwn.never rfl (kpl K (cv 0)) (bK (i:=2) gq.nd rfl (Or.inl rfl)) (aj (aR (PW.pt (dR (bm (bq (kis .tuple T.isinstance T.tuple qh (cv 2)))) (cP (aJ K hu (eO (bV (N:=["_law_number"]) (src:=[none]) (ak bO) ["_law_found","_law_due","_law_one"]) (kpt K (cv 2)) (λ _ _ _=>(aX (i:=0) ["_law_number"])) (λ _ _ _=>(gu (bm (bq (aB C._law_whole hr (pac (cv 0) pa_nil)))))) (λ _ _ _=>(cv 0))) (aY pa_nil))))) (aj (ay eK)) aC)))
   (aj (ay eK)))),?_⟩
  show bj _ _ _ [some (.ref q),some (.ref d),none] H
  refine aV (b:=false) (fW (bM (aQ (ev_isL (aa rfl) hq))) (λ _=>aQ (ev_neT (aa rfl) (aa rfl) (kG (n:=18) (SqL.of hq) (SqL.of hd) e k1 k2)))) (λ h=>by cases h) (λ _=>?_)
  refine bZ (λ σ' H'=>(∃o,σ'=[some (.ref q),some (.ref d),o])/\ah H H') (λ K' hK=>?_) ?_
  ·refine fF (λ v H'=>v=.ref q/\H=H') (λ Q z=>(aa rfl) _ (z _ _ ⟨rfl,rfl⟩)) ?_
   rintro _ _ ⟨rfl,rfl⟩
   refine ⟨q,dj ps,rfl,SqL.of hq,λ i σ' H'=>(∃o,σ'=[some (.ref q),some (.ref d),o])/\ah H H',⟨⟨_,rfl⟩,ah.refl H⟩,?_,?_,?_⟩
   ·rintro i σ' H' _ ⟨_,s2⟩
    exact SqL.of (s2 _ _ hq)
   ·rintro i x _ H2 hx ⟨⟨o,rfl⟩,s2⟩
    obtain ⟨p,hp,rfl⟩:=y4.mp (zu hx)
    have ht:=(k1.same s2) p hp
    have pl':=pl p hp
    show iN _ _ _ _ [some (.ref q),some (.ref d),some (.ref p.2)] H2
    refine wO (λ b H'=>b=false/\ah H2 H') (λ R z=>?_) (λ H' w=>nomatch w.1) (λ H' w=>⟨⟨_,rfl⟩,s2.trans w.2⟩)
    refine wH ((bM (aQ (ev_isT (aa rfl) ht))) _ (fE (cmpC_k ?_)))
    refine yH (aa rfl) (SqT.of ht) (by rw [y3,sizeLine_eq]; lia) rfl (λ _=>false) (λ v=>v) (λ x hx=>?_) (λ x hx w=>nomatch w) λ d' hd'=>?_
    ·obtain ⟨n,_,rfl⟩:=y4.mp hx
     exact bM (aQ (aD (x:=.bl true) (ad (aa rfl) au) (λ Q q=>⟨n,rfl,q⟩)))
    ·rw [List.filter_eq_nil_iff.mpr (λ _ _=>by decide),Ad]
     refine ku (iw ⟨AV _,λ r hr'=>?_⟩)
     have s3:ah H2 (upd H2 d' (.lst [])):=(ah.refl H2).upd hd'
     have s4:=(ah.refl (upd H2 d' (.lst []))).upd (o:=.lst []) hr'
     exact ⟨true,eqT_nil (n:=19) (s4 _ _ af) af,z _ _ ⟨rfl,s3.trans s4⟩⟩
   ·rintro σ' H' h
    exact hK _ _ h
  ·rintro _ H1 ⟨⟨o,rfl⟩,s2⟩
   exact aG am (k _ s2)
end
end K13
namespace K13
open PySem L2
section
variable {P:Program}{w:World}{K:Frag}{mg:Str->Option Value}{base:Heap}{aS aA aE aW:Addr}
theorem kZ {f:Addr}{fd:FuncData}(F:Fun K "squares_of" "squares_of" cb f fd) (T:Txt mg aS aA aE aW) (C:CP1 P w K mg base):ba P w K mg base CX0 2 f fd ["row","side"] lE:=by
 refine F.ok kU (λ vs H Q E h=>?_) (λ cdv A outer s H vs Q E hr h=>?_)
 ·obtain ⟨row,sd,rfl,_⟩:=h
  rfl
 ·obtain ⟨row,sd,rfl,hz,ha,q⟩:=h
  have hu:=bQ hr
  refine ⟨_,(aj (ay (eO (bV (N:=["square","sign","side"]) (src:=[none,none,some 1]) (ak cb) ["row","side"]) (kenum K T.enumerate (cv 0)) (λ _ _ _=>(kgt K (n:=2) (eJ (aX (i:=0) ["square","sign","side"]) (eJ (aX (i:=1) ["square","sign","side"]) nw)))) (λ _ _ _=>(gu (aJ K hu (aB C.side_of hr (pac (cv 1) pa_nil)) (cv 2)))) (λ _ _ _=>(cv 0))))),?_⟩
  show tComp _ _ _ _ _ [some (.str row),some (.int sd)] H Q
  refine yI (z:=row) (rest:=[some (.int sd)]) (aa rfl) (by lia) rfl (λ i c=>decide (bF c=.int sd)) (λ i c=>.int (i:Int)) (λ i c H' hc s R r=>?_) (λ i c H' hc hp s=>aa rfl) (λ H' d s hd=>?_)
  ·refine yt (ad (aa rfl) au) ⟨c,rfl,ha c (zu hc),λ H2 s2=>evk (v:=.int sd) (aa rfl) ?_⟩
   rw [mG]
   exact r H2 s2
  ·have e:enL row.cps.toList (λ i c=>decide (bF c=.int sd)) (λ i c=>.int (i:Int)) row.length=(sqsOf row sd).map V.int:=by
    unfold enL sqsOf
    rw [zk]
    rfl
   rw [e]
   exact q d _ (s.free hd) af (s.upd hd)
theorem xC {f cB cG:Addr}{fd:FuncData}(F:Fun K "moves" "moves" fM f fd) (T:Txt mg aS aA aE aW) (C:CMv P w K mg base cB cG):ba P w K mg base CX0 6 f fd ["game","place"] (ie K cB cG):=by
 refine F.ok ik (λ vs H Q E h=>?_) (λ cdv A outer s H vs Q E hr h=>?_)
 ·obtain ⟨g,b,kq,p,row,sd,wi,hi,hs,ks,us,ts,es,st,rfl,_⟩:=h
  rfl
 ·obtain ⟨g,b,kq,p,row,sd,wi,hi,hs,ks,us,ts,es,st,rfl,G,hp,R,rl,k⟩:=h
  have hu:=bQ hr
  have r64:=R.len
  refine ⟨_,(ae (aw (i:=2) ik.nd rfl (Or.inl rfl) (kix K (cv 1) ag))
   (ae (aw (i:=3) ik.nd rfl (Or.inl rfl) (aY pa_nil))
   (ae (dN PassesOwn.never rfl (kpl K (aB C.squares_of hr (pac (cv 2) (pac (kix K (cv 1) ag) pa_nil)))) (bK (i:=4) ik.nd rfl (Or.inr rfl)) (aj (cN (yN (cv 3) (eO (bV (N:=["pair","start"]) (src:=[none,some 4]) (ak fM) ["game","place","row","found","start"]) (kpl K (aB C.goals hr (pac (cv 0) (pac (cv 2) (pac (cv 4) pa_nil))))) (λ _ _ _=>(aX (i:=0) ["pair","start"])) (λ _ _ _=>bG) (λ _ _ _=>(bT (pac (cv 1) (pac (kix K (cv 0) ag) (pac (kix K (cv 0) ag) pa_nil))))))))))
   (aj (ay (cv 3)))))),?_⟩
  show bj _ _ _ [some (.ref g),some (.ref p),none,none,none] H
  refine aM (aT (x:=.str row) (aa rfl) am (.inr hp) rfl) ?_
  refine eZ λ q hq=>?_
  have sm:ah H (upd H q (.lst [])):=(ah.refl H).upd hq
  show bj _ _ _ [some (.ref g),some (.ref p),some (.str row),some (.ref q),none] _
  refine bZ (λ σ' H'=>(∃o,σ'=[some (.ref g),some (.ref p),some (.str row),some (.ref q),o])/\(∃m,MvR wi hi hs row us sd (sqsOf row sd) m/\m.length<=4096/\iL H H' q m)/\ah H H') (λ K' hK=>?_) ?_
  ·refine fF (λ v H'=> ∃d,v=.ref d/\H' d=some (.lst ((sqsOf row sd).map V.int))/\d≠q/\ah (upd H q (.lst [])) H') (λ Q z=>?_) ?_
   ·refine eW (ad (aa rfl) (ad (aT (x:=.int sd) (aa rfl) am (.inr (sm.tupY hp)) rfl) au)) ⟨row,sd,rfl,by lia,R.asc,λ d H' d1 d2 d3=>z _ _ ⟨d,rfl,d2,λ e=>?_,d3⟩⟩
    rw [e,af] at d1
    cases d1
   ·rintro _ H1 ⟨d,rfl,hd,ndq,s1'⟩
    refine ⟨d,(sqsOf row sd).map V.int,rfl,SqL.of hd,λ i σ' H'=>(∃o,σ'=[some (.ref g),some (.ref p),some (.str row),some (.ref q),o])/\(∃m,MvR wi hi hs row us sd ((sqsOf row sd).take i) m/\m.length<=64*i/\iL H H' q m)/\ah H H'/\H' d=some (.lst ((sqsOf row sd).map V.int)),⟨⟨_,rfl⟩,⟨[],.nil,AV _,[],rfl,s1' _ _ af,λ _ z=>nomatch z⟩,sm.trans s1',hd⟩,?_,?_,?_⟩
    ·rintro i σ' H' _ ⟨_,_,_,h⟩
     exact SqL.of h
    ·rintro i x _ H2 hx ⟨⟨o,rfl⟩,⟨m,hm,ml,ps,p1,p2,p3⟩,s2,hd2⟩
     have hi':i<(sqsOf row sd).length:=by
      have:=(zo.mp hx).1
      rwa [y3] at this
     obtain rfl:x=.int (sqsOf row sd)[i]:=by
      rw [y8,y7 hi'] at hx
      exact (Option.some.inj hx).symm
     have tk:(sqsOf row sd).take (i+1)=(sqsOf row sd).take i++[(sqsOf row sd)[i]]:=by rw [AF hi']
     obtain ⟨z0,z1,z2⟩:=tW (zp hi')
     have i64:i<64:=AY hi' (AX lD r64)
     generalize (sqsOf row sd)[i]=sq at tk z0 z1 z2
     show gX _ _ [some (.ref g),some (.ref p),some (.str row),some (.ref q),some (.int sq)] H2
     refine ext_k (aa rfl) p2 (n4 (ad (aa rfl) (ad (aa rfl) (ad (aa rfl) au))) (tj (G.same s2) R rl z0 z1 z2 λ l' t H3 hg l64 ht hP s3=>?_).1)
     obtain ⟨ps2,g1,g2,g3⟩:=hP
     refine ⟨t,rfl,⟨_,SqL.of g2⟩,rX s3 g1 g2 (λ p hp=>(g3 p hp).2) l64 rfl (λ a x y H' Q' ha q'=>jP (aa rfl) (aT (x:=.int x) (aa rfl) am (.inr (SqT.of ha)) rfl) (aT (x:=.int y) (aa rfl) am (.inr (SqT.of ha)) rfl) q') (λ d' H4 ps3 s4 hd' e1 e2=>?_)⟩
     have sF:ah H2 (upd H4 d' (.lst (dj ps3))):=(s3.trans s4).upd hd'
     have y1:=congrArg List.length p1
     have y2:=congrArg List.length e1
     rw [y3] at y1
     rw [y3,y3] at y2
     refine ⟨d',_,_,rfl,sF _ _ p2,af,by rw [y3,y3,sizeLine_eq]; lia,⟨_,rfl⟩,⟨_,?_,?_,rZ p1 (λ xs w=>by rw [sF _ _ p2] at w; cases w) (λ p hp=>⟨(p3 p hp).1,sF _ _ (p3 p hp).2⟩) s2 e1 (λ p hp=>⟨(e2 p hp).1,?_⟩)⟩,(s2.trans sF).put hq,?_⟩
     ·rw [tk]
      exact MvR.add hg hm
     ·rw [zm,y3]
      lia
     ·rw [aq (ar (e2 p hp).2 hd')]
      exact (e2 p hp).2
     ·rw [aq ndq]
      exact sF _ _ hd2
    ·rintro σ' H' ⟨o,⟨m,hm,ml,hT⟩,s2,_⟩
     rw [y3,Ai] at hm
     rw [y3] at ml
     have:=lD (row:=row) (sd:=sd)
     exact hK _ _ ⟨o,⟨m,hm,by lia,hT⟩,s2⟩
  ·rintro _ H1 ⟨⟨o,rfl⟩,⟨m,hm,ml,hT⟩,s2⟩
   exact aG (aa rfl) (k m q H1 hm ml hq hT s2)
theorem ld {f cB cG:Addr}{fd:FuncData}(F:Fun K "_law_moves" "_law_moves" ce f fd) (T:Txt mg aS aA aE aW) (C:CLm P w K mg base cB cG):ba P w K mg base CX0 4 f fd ["_law_game_here","_law_place"] (ie K cB cG):=by
 refine F.ok dE (λ vs H Q E h=>?_) (λ cdv A outer s H vs Q E hr h=>?_)
 ·obtain ⟨g,b,kq,p,row,sd,wi,hi,hs,ks,us,ts,es,st,rfl,_⟩:=h
  rfl
 ·obtain ⟨g,b,kq,p,row,sd,wi,hi,hs,ks,us,ts,es,st,rfl,G,hp,R,rl,k⟩:=h
  have hu:=bQ hr
  have r64:=R.len
  refine ⟨_,(ae (aw (i:=2) dE.nd rfl (Or.inl rfl) (aY pa_nil))
   (ae (dN PassesOwn.never rfl (kr1 T.range (pac (kB (gB K) bW T.len (pac (kix K (cv 1) ag) pa_nil)) pa_nil)) (bK (i:=3) dE.nd rfl (Or.inr rfl)) (aj (aR (aJ K hu (aB C._law_side hr (pac (kix K (kix K (cv 1) ag) (cv 3)) pa_nil)) (kix K (cv 1) ag)) (aj (aw (i:=2) dE.nd rfl (Or.inl rfl) (ao (cv 2) (eO (bV (N:=["_law_pair","_law_start"]) (src:=[none,some 3]) (ak ce) ["_law_game_here","_law_place","_law_found","_law_start"]) (kpl K (aB C._law_goals hr (pac (cv 0) (pac (kix K (cv 1) ag) (pac (cv 3) pa_nil))))) (λ _ _ _=>(aX (i:=0) ["_law_pair","_law_start"])) (λ _ _ _=>bG) (λ _ _ _=>(bT (pac (cv 1) (pac (kix K (cv 0) ag) (pac (kix K (cv 0) ag) pa_nil))))))))) aC)))
   (aj (ay (cv 2))))),?_⟩
  show bj _ _ _ [some (.ref g),some (.ref p),none,none] H
  refine eZ λ q0 hq0=>?_
  have sm:ah H (upd H q0 (.lst [])):=(ah.refl H).upd hq0
  show bj _ _ _ [some (.ref g),some (.ref p),some (.ref q0),none] _
  have row0:∀{σ:St} {H':Hp} {te:TE},ah H H'->Ev te σ H' (.ref p)->Ev (cIx K te (tC (.int 0))) σ H' (.str row):=λ s e=>aT (x:=.str row) e am (.inr (s.tupY hp)) rfl
  refine bZ (λ σ' H'=> ∃o q m,σ'=[some (.ref g),some (.ref p),some (.ref q),o]/\MvR wi hi hs row us sd (sqsOf row sd) m/\m.length<=4096/\H q=none/\iL H H' q m/\ah H H') (λ K' hK=>?_) ?_
  ·refine yi (row.length:Int) (ad (tz (row0 sm (aa rfl)) (by rw [sizeLine_eq]; lia)) au) (by lia) (by lia) (λ i σ' H'=> ∃o q m,σ'=[some (.ref g),some (.ref p),some (.ref q),o]/\MvR wi hi hs row us sd (sh row sd i) m/\m.length<=64*i/\H q=none/\iL H H' q m/\ah H H') ⟨_,q0,[],rfl,.nil,AV _,hq0,⟨[],rfl,af,λ _ z=>nomatch z⟩,sm⟩ ?_ ?_
   ·rintro i _ H2 hi' ⟨o,q,m,rfl,hm,ml,hq,⟨ps,p1,p2,p3⟩,s2⟩
    have z1:(0+(i:Int))<row.length:=by lia
    have z0:0<=(0+(i:Int)):=by lia
    obtain ⟨x1,x2⟩:=R.toRowS.at z0 z1
    have xs:Sg (row.cps.toList.getD (0+(i:Int)).toNat 0):=by
     obtain ⟨j,_,e,_⟩:=gT x1
     exact R.sg _ (zu e)
    have ei:(0+(i:Int))=(i:Int):=Bj _
    have su:=qz (row:=row) (sd:=sd) (n:=i)
    rw [<-ei] at su
    have i64:i<64:=by lia
    generalize (0+(i:Int))=sq at z1 z0 x1 x2 xs su
    show iN _ _ _ _ [some (.ref g),some (.ref p),some (.ref q),some (.int sq)] H2
    refine ib (aQ (uQ (ad (cS (row0 s2 (aa rfl)) (aa rfl) (by rw [sizeLine_eq]; lia) x1) au) xs (aT (x:=.int sd) (aa rfl) am (.inr (s2.tupY hp)) rfl))) (λ h=>?_) (λ h=>?_)
    ·have hsd:sdV row sq=.int sd:=of_decide_eq_true h
     rw [if_pos hsd] at su
     refine ji (qe ((aa rfl) _ (n4 (ad (aa rfl) (ad (row0 s2 (aa rfl)) (ad (aa rfl) au))) (tj (G.same s2) R rl z0 z1 hsd λ l' t H3 hg l64 ht hP s3=>?_).2)))
     obtain ⟨ps2,g1,g2,g3⟩:=hP
     refine ⟨t,rfl,⟨_,SqL.of g2⟩,rX s3 g1 g2 (λ p hp=>(g3 p hp).2) l64 rfl (λ a x y H' Q' ha q'=>jP (aa rfl) (aT (x:=.int x) (aa rfl) am (.inr (SqT.of ha)) rfl) (aT (x:=.int y) (aa rfl) am (.inr (SqT.of ha)) rfl) q') (λ d' H4 ps3 s4 hd' e1 e2=>?_)⟩
     have sF:ah H2 (upd H4 d' (.lst (dj ps3))):=(s3.trans s4).upd hd'
     have y1:=congrArg List.length p1
     have y2:=congrArg List.length e1
     rw [y3] at y1
     rw [y3,y3] at y2
     refine ⟨q,d',_,_,rfl,rfl,sF _ _ p2,af,by rw [y3,y3,sizeLine_eq]; lia,λ r hr'=>?_⟩
     refine ⟨_,r,m++l'.map (tk3 sq),rfl,?_,?_,(s2.trans sF).free hr',rZ p1 (λ xs w=>by rw [hr'] at w; cases w) (λ p hp=>⟨(p3 p hp).1,sF _ _ (p3 p hp).2⟩) s2 e1 (λ p hp=>⟨(e2 p hp).1,?_⟩),(s2.trans sF).upd hr'⟩
     ·rw [su]
      exact MvR.add hg hm
     ·rw [zm,y3]
      lia
     ·rw [aq (ar (e2 p hp).2 hd')]
      exact (e2 p hp).2
    ·have hsd:¬sdV row sq=.int sd:=of_decide_eq_false h
     rw [if_neg hsd,zt] at su
     refine ⟨_,q,m,rfl,?_,by lia,hq,⟨ps,p1,p2,p3⟩,s2⟩
     rw [su]
     exact hm
   ·rintro σ' H' ⟨o,q,m,e,hm,ml,r⟩
    rw [show ((row.length:Int)).toNat=row.length by lia] at hm ml
    exact hK _ _ ⟨o,q,m,e,hm,by lia,r⟩
  ·rintro _ H1 ⟨o,q,m,rfl,hm,ml,hq,hT,s2⟩
   exact aG (aa rfl) (k m q H1 hm ml hq hT s2)
end
end K13
namespace K13
open PySem L2
section
variable {P:Program}{w:World}{K:Frag}{mg:Str->Option Value}{base:Heap}{aS aA aE aW:Addr}
theorem nO {f cB cG:Addr}{fd:FuncData}(F:Fun K "_law_good" "_law_good" da f fd) (T:Txt mg aS aA aE aW) (C:CLd P w K mg base cB cG):ba P w K mg base CX0 7 f fd ["_law_game_here","_law_place"] (mx K cB cG):=by
 refine F.ok fL (λ vs H Q E h=>?_) (λ cdv A outer s H vs Q E hr h=>?_)
 ·obtain ⟨g,b,kq,p,row,sd,wi,hi,hs,ks,us,ts,es,st,rfl,_⟩:=h
  rfl
 ·obtain ⟨g,b,kq,p,row,sd,wi,hi,hs,ks,us,ts,es,st,rfl,G,hp,R,rl,k⟩:=h
  have hu:=bQ hr
  refine ⟨_,(ae (aw (i:=2) fL.nd rfl (Or.inl rfl) (aB C._law_moves hr (pac (cv 0) (pac (cv 1) pa_nil))))
   (ae (aw (i:=3) fL.nd rfl (Or.inl rfl) (aB C.moves hr (pac (cv 0) (pac (cv 1) pa_nil))))
   (ae (aR (bm (bq (aB C._law_tuples hr (pac (cv 3) (pac (cv 2) pa_nil))))) (aj (ay eK)) aC)
   (ae (cN (fo (cv 3) (bT (bU rfl))))
   (aj (ay (dB (iB K hu (aB C.moves hr (pac (cv 0) (pac (cv 1) pa_nil))) (cv 2)) (dO (iB K hu (cv 3) (ao (cv 2) (aY (pac (bT (bU rfl)) pa_nil)))))))))))),?_⟩
  show bj _ _ _ [some (.ref g),some (.ref p),none,none] H
  refine bI (λ v H'=> ∃(d:Addr) (m:List (List Int)),v=.ref d/\MvR wi hi hs row us sd (sqsOf row sd) m/\m.length<=4096/\iL H H' d m/\ah H H') (λ Q q=>?_) ?_
  ·exact eW (ad (aa rfl) (ad (aa rfl) au)) ⟨g,b,kq,p,row,sd,wi,hi,hs,ks,us,ts,es,st,rfl,G,hp,R,rl,λ m d H' h1 h2 h3 h4 h5=>q _ _ ⟨d,m,rfl,h1,h2,h4,h5⟩⟩
  rintro _ H2 ⟨d,m,rfl,hm,ml,⟨pd,d1,d2,d3⟩,s2⟩
  have movesY:∀(H':Hp),ah H H'->∀Q:VK,(∀(q:Addr) (H'':Hp),H' q=none->iL H' H'' q m->ah H' H''->Q (.ref q) H'')->ie K cB cG [.ref g,.ref p] H' Q E0:=λ H' s' Q q=>by
   refine ⟨g,b,kq,p,row,sd,wi,hi,hs,ks,us,ts,es,st,rfl,G.same s',s'.tupY hp,R,rl,λ m' t H'' h1 _ h3 h4 h5=>?_⟩
   have e:=hm.uniq h1
   subst e
   exact q t H'' h3 h4 h5
  refine bI (λ v H'=> ∃q,v=.ref q/\H2 q=none/\iL H2 H' q m/\ah H2 H') (λ Q q=>eW (ad (aa rfl) (ad (aa rfl) au)) (movesY H2 s2 _ λ t H' h1 h2 h3=>q _ _ ⟨t,rfl,h1,h2,h3⟩)) ?_
  rintro _ H3 ⟨q,rfl,nq,⟨pf,f1,f2,f3⟩,s3⟩
  have kd3:gJ H3 pd:=λ p hp=>s3 _ _ (d3 p hp).2
  have kf3:gJ H3 pf:=λ p hp=>(f3 p hp).2
  have d23:=s3 _ _ d2
  have efd:pf.map (·.1)=pd.map (·.1):=f1.trans d1.symm
  have zf:=congrArg List.length f1
  have zd:=congrArg List.length d1
  rw [y3] at zf zd
  refine dL (λ b H'=>b=false/\ah H3 H') (λ R' z=>calN_y (ad (aa rfl) (ad (aa rfl) au)) ⟨q,d,pf,pd,rfl,f2,d23,efd,kf3,kd3,λ p hp=>?_,λ H' s=>z _ _ ⟨rfl,s⟩⟩) (λ H' w=>nomatch w.1) (λ H4 w=>?_)
  ·have:p.1∈m:=by rw [<-f1]; exact y4.mpr ⟨p,hp,rfl⟩
   rw [hm.len3 _ this]
   decide
  have s4:=w.2
  have f24:=s4 _ _ f2
  refine bZ (λ σ' H'=> ∃t,σ'=[some (.ref g),some (.ref p),some (.ref d),some (.ref q)]/\H' q=some (.lst (dj (pf++[([0,0,0],t)])))/\H' t=some (.tup [.int 0,.int 0,.int 0])/\SameBut q H4 H') (λ K2 hK2=>?_) ?_
  ·refine jw (aa rfl) ⟨_,f24⟩ (jP am am am λ t ht=>?_)
   have nqt:q≠t:=ar f24 ht
   refine ⟨_,by rw [aq nqt]; exact f24,by rw [y3,sizeLine_eq]; lia,hK2 _ _ ⟨t,rfl,by rw [af]; simp,by rw [aq (Ne.symm nqt),af],λ a o e ne=>?_⟩⟩
   rw [aq ne,aq (ar e ht)]
   exact e
  rintro _ H5 ⟨t,rfl,q5,t5,sb⟩
  have s25:ah H2 H5:=λ a o e=>sb a o ((s3.trans s4) _ _ e) (ar e nq)
  have s15:=s2.trans s25
  have kd5:gJ H5 pd:=λ p hp=>s25 _ _ (d3 p hp).2
  have d5:=s25 _ _ d2
  have kf5:gJ H5 pf:=λ p hp=>sb _ _ (s4 _ _ (kf3 p hp)) (λ e=>by
   have a:=kf3 p hp
   rw [e,f2] at a
   cases a)
  refine w9 (andX_k (yJ (eW (ad (aa rfl) (ad (aa rfl) au)) (movesY H5 s15 _ λ q3 H6 h1 h2 s6=>(aa rfl) _ ?_))))
  obtain ⟨pg,g1,g2,g3⟩:=h2
  refine ⟨true,kG (n:=18) (SqL.of g2) (SqL.of (s6 _ _ d5)) (g1.trans d1.symm) (λ p hp=>(g3 p hp).2) (kd5.same s6),and_tt ?_⟩
  refine (yJ ((aa rfl) _ (qe ((aa rfl) _ (ku (dm (jP am am am λ t2 ht2=>iw ⟨by show 1<=sizeLine; decide,λ r hr'=>?_⟩)))))))
  have sa:ah H6 (upd H6 t2 (.tup [.int 0,.int 0,.int 0])):=(ah.refl H6).upd ht2
  have ea:(upd H6 t2 (.tup [.int 0,.int 0,.int 0])) t2=some (.tup [.int 0,.int 0,.int 0]):=af
  generalize upd H6 t2 (.tup [.int 0,.int 0,.int 0])=H7 at sa ea hr' ⊢
  have sb':ah H7 (upd H7 r (.lst [.ref t2])):=(ah.refl H7).upd hr'
  have eb:(upd H7 r (.lst [.ref t2])) r=some (.lst [.ref t2]):=af
  generalize upd H7 r (.lst [.ref t2])=H8 at sb' eb ⊢
  have s58:=(s6.trans sa).trans sb'
  refine ⟨d,r,_,_,rfl,rfl,s58 _ _ d5,eb,by rw [y3,sizeLine_eq]; show _+1<=_; lia,λ c hc=>?_⟩
  have sc:=(ah.refl H8).upd (o:=.lst (dj pd++[.ref t2])) hc
  have s59:=s58.trans sc
  refine ⟨true,kG (n:=18) (ps:=pf++[([0,0,0],t)]) (ps':=pd++[([0,0,0],t2)]) (SqL.of (s59 _ _ q5)) (SqL.of (by rw [af]; simp)) (by rw [zn,zn,efd]; rfl) ?_ ?_,k _ (s15.trans s59)⟩
  ·intro p hp
   rcases zj.mp hp with w | w
   ·exact s59 _ _ (kf5 p w)
   ·rw [zh.mp w]
    exact s59 _ _ t5
  ·intro p hp
   rcases zj.mp hp with w | w
   ·exact s59 _ _ (kd5 p w)
   ·rw [zh.mp w]
    exact sc _ _ (sb' _ _ ea)
theorem gU {f cB cG:Addr}{fd:FuncData}(F:Fun K "_law_second_game" "_law_second_game" bf f fd) (T:Txt mg aS aA aE aW) (D:GmC K cG) (C:CLq P w K mg base cB cG):ba P w K mg base CX0 8 f fd ["_law_script","_law_game_here"] (oC K cB cG):=by
 refine F.ok cK (λ vs H Q E h=>?_) (λ cdv A outer s H vs Q E hr h=>?_)
 ·obtain ⟨a,g,b,kq,ns,wi,hi,hs,ks,us,ts,es,st,rfl,_⟩:=h
  rfl
 ·obtain ⟨a,g,b,kq,ns,wi,hi,hs,ks,us,ts,es,st,rfl,hS,G,k⟩:=h
  have hu:=bQ hr
  refine ⟨_,(ae (aw (i:=2) cK.nd rfl (Or.inr rfl) (kTy (pO K) eX T.list (pac (cz K (cv 1)) pa_nil)))
   (ae (iq (i:=3) rfl (bV (N:=["_law_k","_law_kinds_here","_law_script"]) (src:=[none,some 2,some 0]) (ak bf) ["_law_script","_law_game_here","_law_kinds_here","_law_rules"]) (kr1 T.range (pac (ao (aB C._law_cell_at hr (pac (cv 0) (pac ag pa_nil))) ag) pa_nil)) (λ _ _ _=>(aX (i:=0) ["_law_k","_law_kinds_here","_law_script"])) (λ _ _ _=>bG) (λ _ _ _=>(aB C._law_rule hr (pac (aB C._law_mixed hr (pac (aB C._law_cell_at hr (pac (cv 2) (pac ag pa_nil))) (pac (cv 0) pa_nil))) (pac (cv 1) pa_nil)))) cK.nd rfl (Or.inl rfl) rfl (Or.inl rfl))
   (aj (ay (xR C.Game hr (pac (cz K (cv 1)) (pac (cv 2) (pac (ao (cv 3) (ksl K (cz K (cv 1)) gQ (gS ag))) (pac (aY pa_nil) (pac (aY pa_nil) (pac bn pa_nil))))))))))),?_⟩
  show bj _ _ _ [some (.ref a),some (.ref g),none,none] H
  obtain ⟨qk,fk,hqk⟩:=G.gm.kinds D
  refine bI (λ v H'=> ∃d,v=.ref d/\gK H' d ks/\ah H H') (λ Q q=>?_) ?_
  ·exact (ad (aU (aa rfl) fk) au) _ ⟨_,.inl (SqL.of hqk),λ l hl=>q _ _ ⟨l,rfl,⟨af,G.ltr,G.k1,G.k6,G.knd⟩,(ah.refl H).upd hl⟩⟩
  rintro _ H1 ⟨d,rfl,ek,s1⟩
  have hS1:=s1.seq hS
  have G1:=G.same s1
  have m5:=Bg (cellAt ns 25) (show (5:Int)≠0 by decide)
  have n5:=Bh (cellAt ns 25) (show (0:Int)<5 by decide)
  refine bI (λ v H'=> ∃(rq:Addr) (us1:List (aF×Addr)),v=.ref rq/\H' rq=some (.lst (rRefs us1))/\cI H' us1/\(∀z∈us1,eY ks z.1)/\us1.length<=4/\ah H1 H') (λ Q q=>?_) ?_
  ·refine lZ (n:=cellAt ns 25 % 5) (rest:=[some (.ref d),some (.ref a)]) (λ Q' q'=>(ad (aK (aD (ad (aa rfl) (ad am au)) (λ Q q=>⟨a,ns,25,rfl,hS1,by decide,q⟩)) am (by decide)) au) _ (q' _ (ah.refl _))) m5 (by lia) rfl (λ i H' v=> ∃t u,v=.ref t/\eY ks u/\H' t=some (.tup u.vs)) (λ i H H' v h s=>?_) (λ i H' hi' s' Q' q'=>?_) (λ dd H' ys s' hd hl hy=>?_)
   ·obtain ⟨t,u,e,g1,g2⟩:=h
    exact ⟨t,u,e,g1,s _ _ g2⟩
   ·have hS2:=s'.seq hS1
    exact eW (ad (aD (ad (aD (ad (aa rfl) (ad am au)) (λ Q q=>⟨a,ns,24,rfl,hS2,by decide,q⟩)) (ad (aa rfl) au)) (λ Q q=>⟨_,_,rfl,q⟩)) (ad (aa rfl) au)) ⟨_,d,ks,rfl,ek.same s',λ t u H4 g1 g2 g3 g4=>q' _ _ ⟨t,u,rfl,g1,g3⟩ g4⟩
   ·obtain ⟨us1,rfl,r1,r2,r3⟩:=w6 (H:=H') (ks:=ks) ys λ y hy'=>by
     obtain ⟨i,hi'⟩:=Ab hy'
     exact hy i y hi'
    exact q _ _ ⟨dd,us1,rfl,af,r1.same ((ah.refl H').upd hd),r2,by lia,s'.upd hd⟩
  rintro _ H2 ⟨rq,us1,rfl,erq,R1,rg1,l4,s2⟩
  have G2:=G1.same s2
  obtain ⟨qr,fr,hqr⟩:=G2.gm.rules D
  show cJ _ _ [some (.ref a),some (.ref g),some (.ref d),some (.ref rq)] H2
  have tl1:(us.take 1).length<=1:=by rw [zx]; lia
  refine retMk (xM (dI (aU (aa rfl) (G2.gm.board D)) (dI (aa rfl) (dm (qe ((aa rfl) _ (lJ (aU (aa rfl) fr) sH (sI am) (SqL.of hqr) λ p hp=>?_)))))))
  have s3:ah H2 (upd H2 p (.lst (cutV (rRefs us) none (some 1)))):=(ah.refl H2).upd hp
  have e3:(upd H2 p (.lst (cutV (rRefs us) none (some 1)))) p=some (.lst (rRefs (us.take 1))):=by rw [af,yF,show rRefs (us.take 1)=(rRefs us).take 1 from Am ..]
  generalize upd H2 p (.lst (cutV (rRefs us) none (some 1)))=H3 at s3 e3 ⊢
  refine ⟨rq,p,_,_,rfl,rfl,s3 _ _ erq,e3,by rw [y3,y3,sizeLine_eq]; lia,λ r hr'=>?_⟩
  have s4:ah H3 (upd H3 r (.lst (rRefs us1++rRefs (us.take 1)))):=(ah.refl H3).upd hr'
  have e4:(upd H3 r (.lst (rRefs us1++rRefs (us.take 1)))) r=some (.lst (rRefs (us1++us.take 1))):=by rw [af,show rRefs (us1++us.take 1)=rRefs us1++rRefs (us.take 1) from zn ..]
  generalize upd H3 r (.lst (rRefs us1++rRefs (us.take 1)))=H4 at s4 e4 ⊢
  refine dm (ku (iw ⟨AV _,λ t ht=>?_⟩))
  have s5:ah H4 (upd H4 t (.lst [])):=(ah.refl H4).upd ht
  have e5:(upd H4 t (.lst [])) t=some (.lst (bw [])):=af
  generalize upd H4 t (.lst [])=H5 at s5 e5 ⊢
  refine dm (ku (iw ⟨AV _,λ e he=>?_⟩))
  have s6:ah H5 (upd H5 e (.lst [])):=(ah.refl H5).upd he
  have e6:(upd H5 e (.lst [])) e=some (.lst (bw [])):=af
  generalize upd H5 e (.lst [])=H6 at s6 e6 ⊢
  refine dI am (xE λ g2 gx ng ngx nne=>?_)
  have sF:ah H6 (upd (upd H6 gx (.own g2)) g2 (.ins cG gx [])):=((ah.refl H6).upd ngx).upd (by rw [aq (Ne.symm nne)]; exact ng)
  have s26:=((s3.trans s4).trans s5).trans s6
  have ekF:=ek.same ((s2.trans s26).trans sF)
  have q4:=(s5.trans s6).trans sF
  have mm:(ks.map one).map V.str=ks.map strV:=by rw [zk]; rfl
  have RA:cI H2 (us1++us.take 1):=λ z hz=>by
   rcases zj.mp hz with w | w
   ·exact R1 z w
   ·exact G2.rl z (zU w)
  have GA:∀z∈us1++us.take 1,eY ks z.1:=λ z hz=>by
   rcases zj.mp hz with w | w
   ·exact rg1 z w
   ·exact G2.rg z (zU w)
  have lA:(us1++us.take 1).length<=12:=by rw [zm]; lia
  have gt:qq ks []:=⟨by decide,λ _ z=>(nomatch z),zX,λ _ z=>(nomatch z)⟩
  have n0:∀H':Hp,ft H' []:=λ _ _ z=>nomatch z
  refine ⟨g2,b,d,r,t,e,gx,ks.map one,rRefs (us1++us.take 1),bw [],bw [],"even",rfl,af,by rw [mm]; exact ekF.at_,q4 _ _ e4,(s6.trans sF) _ _ e5,sF _ _ e6,xS ekF,w5 (q4 _ _ e4) (RA.same (s26.trans sF)) GA,nj ((s6.trans sF) _ _ e5) (n0 _) (λ _ z=>nomatch z),nj (sF _ _ e6) (n0 _) (λ _ z=>nomatch z),
   lS ekF.at_ ek.ltr ek.nd ek.l1 ek.l6,lL (q4 _ _ e4) (RA.same (s26.trans sF)) GA (by lia),ly ((s6.trans sF) _ _ e5) (n0 _) gt,iW (sF _ _ e6) (n0 _) (λ _ z=>nomatch z) (by decide),by decide,by decide,λ H8 G8 sb'=>⟨rfl,?_⟩⟩
  rw [mm] at G8
  have s8:ah H6 H8:=iZ (ah.refl H6) ng ngx sb'
  have s28:=s26.trans s8
  exact k g2 (us1++us.take 1) H8 ⟨G8,G2.bd.same s28,G.ltr,G.k1,G.k6,G.knd,RA.same s28,lA,GA,n0 _,gt,n0 _,by decide,λ _ z=>(nomatch z),by decide⟩ ((s1.trans s2).trans s28)
end
end K13
namespace K13
open PySem L2
def sx (K:Frag):Sp:=λ vs H Q _=> ∃(a:Addr) (ns:List Int),vs=[.ref a]/\SqL K H a (ns.map V.int)/\ns.length<=63/\∀H',Q (.bl true) H'
structure CL (P:Program) (w:World) (K:Frag) (mg:Str->Option Value) (base:Heap) (cB cG:Addr):Prop extends LG1 P w K mg base where
 _law_game:Cal P w K mg base "_law_game" ["_law_script"] 8 (sy K cB cG)
 _law_row:Cal P w K mg base "_law_row" ["_law_script","_law_game_here","_law_start"] 2 (wR K cB cG)
 _law_second_game:Cal P w K mg base "_law_second_game" ["_law_script","_law_game_here"] 8 (oC K cB cG)
 _law_good:Cal P w K mg base "_law_good" ["_law_game_here","_law_place"] 7 (mx K cB cG)
section
variable {P:Program}{w:World}{K:Frag}{mg:Str->Option Value}{base:Heap}{aS aA aE aW:Addr}
theorem ok_law {f cB cG:Addr}{fd:FuncData}(F:Fun K "law" "law" im f fd) (T:Txt mg aS aA aE aW) (B:kS K cB) (D:GmC K cG) (C:CL P w K mg base cB cG):ba P w K mg base CX0 9 f fd ["_law_script"] (sx K):=by
 refine F.ok hU (λ vs H Q E h=>?_) (λ cdv A outer s H vs Q E hr h=>?_)
 ·obtain ⟨a,ns,rfl,_⟩:=h
  rfl
 ·obtain ⟨a,ns,rfl,hS,hlen,k⟩:=h
  have hu:=bQ hr
  refine ⟨_,(ae (aw (i:=1) hU.nd rfl (Or.inl rfl) (aB C._law_game hr (pac (cv 0) pa_nil)))
   (ae (aw (i:=2) hU.nd rfl (Or.inl rfl) (aB C._law_second_game hr (pac (cv 0) (pac (cv 1) pa_nil))))
   (ae (aw (i:=3) hU.nd rfl (Or.inl rfl) (aY (pac (aB C._law_row hr (pac (cv 0) (pac (cv 1) (pac ag pa_nil)))) (pac (aB C._law_row hr (pac (cv 0) (pac (cv 1) (pac ag pa_nil)))) pa_nil))))
   (ae (aw (i:=4) hU.nd rfl (Or.inl rfl) (ao (aB C._law_cell_at hr (pac (cv 0) (pac ag pa_nil))) ag))
   (ae (dN PassesOwn.never rfl (kpl K (ao (cv 3) (ksl K (cv 3) gQ (gS ag)))) (bK (i:=5) hU.nd rfl (Or.inl rfl)) (aj (dN PassesOwn.never rfl (kpt K (bT (pac (cv 1) (pac (cv 2) pa_nil)))) (bK (i:=6) hU.nd rfl (Or.inl rfl)) (aj (aR (PW.pt (dR (bm (bq (aB C._law_good hr (pac (cv 6) (pac (bT (pac (cv 5) (pac (cv 4) pa_nil))) pa_nil))))) (cP (bm (bq (aB C._law_good hr (pac (cv 6) (pac (bT (pac (cv 5) (pac (ao ag (cv 4)) pa_nil))) pa_nil)))))))) (aj (ay eK)) aC)))))
   (aj (ay (aB C._law_good hr (pac (cv 1) (pac (bT (pac (kix K (cv 3) ag) (pac (cv 4) pa_nil))) pa_nil)))))))))),?_⟩
  show bj _ _ _ [some (.ref a),none,none,none,none,none,none] H
  refine bI (λ v H'=> ∃(g b kq:Addr) (wi hi:Int) (hs:List Int) (ks:List Nat) (us:List (aF×Addr)) (ts es:List ((Str×Str)×Addr)) (st:Str),v=.ref g/\GameS K cB cG H' g b kq wi hi hs ks us ts es st/\(hs.length:Int)<wi*hi/\ah H H') (λ Q q=>?_) ?_
  ·exact eW (ad (aa rfl) au) ⟨a,ns,rfl,hS,λ g b kq wi hi hs ks us ts es st H' h1 h2 h3 h4=>q _ _ ⟨g,b,kq,wi,hi,hs,ks,us,ts,es,st,rfl,h1,h3,h4⟩⟩
  rintro _ H1 ⟨g,b,kq,wi,hi,hs,ks,us,ts,es,st,rfl,G,ln,s1⟩
  have mm:=G.bd.many
  have w1:=G.bd.w1
  have hS1:=s1.seq hS
  refine bI (λ v H'=> ∃(g2:Addr) (us2:List (aF×Addr)),v=.ref g2/\GameS K cB cG H' g2 b kq wi hi hs ks us2 [] [] "even"/\ah H1 H') (λ Q q=>?_) ?_
  ·exact eW (ad (aa rfl) (ad (aa rfl) au)) ⟨a,g,b,kq,ns,wi,hi,hs,ks,us,ts,es,st,rfl,hS1,G,λ g2 us2 H' h1 h2=>q _ _ ⟨g2,us2,rfl,h1,h2⟩⟩
  rintro _ H2 ⟨g2,us2,rfl,G2,s2⟩
  have hS2:=s2.seq hS1
  have GA:=G.same s2
  show bj _ _ _ [some (.ref a),some (.ref g),some (.ref g2),none,none,none,none] H2
  refine bZ (λ σ' H'=> ∃(rq:Addr) (z1 z2:Str),σ'=[some (.ref a),some (.ref g),some (.ref g2),some (.ref rq),none,none,none]/\H' rq=some (.lst [.str z1,.str z2])/\vc wi hi hs ks z1/\vc wi hi hs ks z2/\ah H2 H') (λ K' hK=>?_) ?_
  ·refine ji (ku (dm (eW (ad (aa rfl) (ad (aa rfl) (ad am au))) ⟨a,g,b,ns,10,wi,hi,hs,ks,rRefs us,bw ts,bw es,st,rfl,hS2,by decide,by decide,GA.gm,GA.bd,G.ltr,G.k1,G.k6,ln,λ z1 H' e1 e2 s3=>?_⟩)))
   have GB:=GA.same s3
   exact dm (eW (ad (aa rfl) (ad (aa rfl) (ad am au))) ⟨a,g,b,ns,17,wi,hi,hs,ks,rRefs us,bw ts,bw es,st,rfl,s3.seq hS2,by decide,by decide,GB.gm,GB.bd,G.ltr,G.k1,G.k6,ln,λ z2 H'' e3 e4 s4=>iw ⟨by show 2<=sizeLine; decide,λ p hp=>hK _ _ ⟨p,z1,z2,rfl,af,⟨e1,e2⟩,⟨e3,e4⟩,(s3.trans s4).upd hp⟩⟩⟩)
  rintro _ H3 ⟨rq,z1,z2,rfl,erq,R1,R2,s3⟩
  have hS3:=s3.seq hS2
  refine aM (aK (aD (ad (aa rfl) (ad am au)) (λ Q q=>⟨a,ns,24,rfl,hS3,by decide,q⟩)) am (by decide)) ?_
  generalize cellAt ns 24 % 2=sd
  have goodY:∀(gx:Addr) (H':Hp) (us':List (aF×Addr)) (ts' es':List ((Str×Str)×Addr)) (st':Str) (t:Addr) (y:Str) (v:Int) (Q:VK),GameS K cB cG H' gx b kq wi hi hs ks us' ts' es' st'->vc wi hi hs ks y->H' t=some (.tup [.str y,.int v])->(∀H'',ah H' H''->Q (.bl true) H'')->mx K cB cG [.ref gx,.ref t] H' Q E0:=λ gx H' us' ts' es' st' t y v Q Gx Ry ht q=>
   ⟨gx,b,kq,t,y,v,wi,hi,hs,ks,us',ts',es',st',rfl,Gx,SqT.of ht,Ry.g G.ltr mm.2,by rw [Ry.len]; lia,q⟩
  show bj _ _ _ [some (.ref a),some (.ref g),some (.ref g2),some (.ref rq),some (.int sd),none,none] H3
  refine bZ (λ σ' H'=>(∃o5 o6,σ'=[some (.ref a),some (.ref g),some (.ref g2),some (.ref rq),some (.int sd),o5,o6])/\ah H3 H') (λ K' hK=>?_) ?_
  ·refine fF (λ v H'=> ∃(d:Addr) (ys:List Str),v=.ref d/\H' d=some (.lst (ys.map V.str))/\(∀y∈ys,vc wi hi hs ks y)/\ah H3 H') (λ Q q=>?_) ?_
   ·refine qe ((aa rfl) _ (lJ (aa rfl) sH (sI am) (SqL.of erq) λ p hp=>?_))
    have s5:=(ah.refl H3).upd (o:=.lst (cutV [V.str z1,V.str z2] none (some 1))) hp
    refine ⟨rq,p,_,_,rfl,rfl,s5 _ _ erq,af,by rw [yF]; show 3<=sizeLine; decide,λ d hd=>?_⟩
    refine q _ _ ⟨d,[z1,z2,z1],rfl,by rw [af,yF]; rfl,λ y hy=>?_,s5.upd hd⟩
    simp only [y6,zq,or_false] at hy
    rcases hy with rfl | rfl | rfl
    ·exact R1
    ·exact R2
    ·exact R1
   ·rintro _ H5 ⟨d,ys,rfl,e5,gy,s5⟩
    refine ⟨d,ys.map V.str,rfl,SqL.of e5,λ i σ' H'=>(∃o5 o6,σ'=[some (.ref a),some (.ref g),some (.ref g2),some (.ref rq),some (.int sd),o5,o6])/\ah H5 H',⟨⟨_,_,rfl⟩,ah.refl _⟩,?_,?_,?_⟩
    ·rintro i σ' H' _ ⟨_,s6⟩
     exact SqL.of (s6 _ _ e5)
    ·rintro i x _ H6 hx ⟨⟨o5,o6,rfl⟩,s6⟩
     obtain ⟨y,hy,rfl⟩:=y4.mp (zu hx)
     have Ry:=gy y hy
     have s36:=s5.trans s6
     show tFor _ _ _ _ [some (.ref a),some (.ref g),some (.ref g2),some (.ref rq),some (.int sd),some (.str y),o6] H6
     refine yh (λ v H'=> ∃t,v=.ref t/\H' t=some (.tup [.ref g,.ref g2])/\ah H6 H') (λ Q q=>eG (aa rfl) (aa rfl) λ t ht=>q _ _ ⟨t,rfl,af,(ah.refl _).upd ht⟩) ?_
     rintro _ H7 ⟨t,rfl,et,s7⟩
     refine ⟨t,_,rfl,SqT.of et,λ j σ' H'=>(∃o,σ'=[some (.ref a),some (.ref g),some (.ref g2),some (.ref rq),some (.int sd),some (.str y),o])/\ah H7 H',⟨⟨_,rfl⟩,ah.refl _⟩,?_,?_,?_⟩
     ·rintro j σ' H' _ ⟨_,s8⟩
      exact SqT.of (s8 _ _ et)
     ·rintro j x _ H8 hx ⟨⟨o,rfl⟩,s8⟩
      have s38:=(s36.trans s7).trans s8
      obtain ⟨gx,us',ts',es',st',rfl,Gx⟩:∃gx us' ts' es' st',x=.ref gx/\GameS K cB cG H8 gx b kq wi hi hs ks us' ts' es' st':=by
       have hm:=zu hx
       simp only [y6,zq,or_false] at hm
       rcases hm with rfl | rfl
       ·exact ⟨_,_,_,_,_,rfl,GA.same (s3.trans s38)⟩
       ·exact ⟨_,_,_,_,_,rfl,G2.same (s3.trans s38)⟩
      show iN _ _ _ _ [some (.ref a),some (.ref g),some (.ref g2),some (.ref rq),some (.int sd),some (.str y),some (.ref gx)] H8
      refine wO (λ b H'=>b=false/\ah H8 H') (λ R' z=>?_) (λ H' w=>nomatch w.1) (λ H' w=>⟨⟨_,rfl⟩,s8.trans w.2⟩)
      refine wH (tL (rK (aa rfl) (dm (eG (aa rfl) (aa rfl) λ t1 h1=>iw ?_))))
      have sa:=(ah.refl H8).upd (o:=.tup [.str y,.int sd]) h1
      refine goodY gx _ _ _ _ _ t1 y sd _ (Gx.same sa) Ry af λ H9 s9=>fE (A:=R' true H9) ?_
      have sb:=sa.trans s9
      refine tL (rK (aa rfl) (dm (eG (aa rfl) (gE am (aa rfl)) λ t2 h2=>iw ?_)))
      have sc:=(ah.refl H9).upd (o:=.tup [.str y,.int (1 - sd)]) h2
      exact goodY gx _ _ _ _ _ t2 y (1 - sd) _ (Gx.same (sb.trans sc)) Ry af λ H10 s10=>z _ _ ⟨rfl,(sb.trans sc).trans s10⟩
     ·rintro σ' H' ⟨⟨o,rfl⟩,s8⟩
      exact ⟨⟨_,_,rfl⟩,(s6.trans s7).trans s8⟩
    ·rintro σ' H' ⟨o,s6⟩
     exact hK _ _ ⟨o,s5.trans s6⟩
  ·rintro _ H4 ⟨⟨o5,o6,rfl⟩,s4⟩
   refine w9 (calX_k (rK (aa rfl) (dm (eG (aT (x:=.str z1) (aa rfl) am (.inl (SqL.of (s4 _ _ erq))) rfl) (aa rfl) λ t1 h1=>iw ?_))))
   have sa:=(ah.refl H4).upd (o:=.tup [.str z1,.int sd]) h1
   exact goodY g _ _ _ _ _ t1 z1 sd _ (GA.same ((s3.trans s4).trans sa)) R1 af λ H' _=>k H'
end
end K13
namespace L2
open PySem PySem.W PyProof.Rows
theorem wE {q:Program}{loose:List Str}{XP:(Str->Option Value)->Heap->Prop}{YP:World->Heap->Prop}{α:Type}{Yf:Shared->α}{Ya:World->α}{r:RowW}{d:DefRec}{kwd:List (Str×Expr)}{run:Value->List Value->Sem Value}
  (hY:∀(w:World) (s₀ s₁:Shared),Yf s₀=Ya w->(∀b o,s₀.heap.get? b=some o->s₁.heap.get? b=some o)->YP w s₁.heap) (h:WalkO q loose XP YP r d kwd run):PySem.W.WalkX q loose XP Yf Ya r d kwd run:=
 λ w s₀ s₁ mg mb G y a o pm cd doc dV kV ho hd hcd hD hmg hg args vals as L hpre hlay hrd hwl hlo=>h w s₀ s₁ mg mb G (hY w s₀ s₁ y L.keeps) a o pm cd doc dV kV ho hd hcd hD hmg hg args vals as hpre hlay hrd hwl hlo
theorem ln1 {P:List Value->Prop}(h:∀a0:Value,P [a0]):∀us:List Value,us.length=1->P us
 | [a0],_=>h a0
theorem ln2 {P:List Value->Prop}(h:∀a0 a1:Value,P [a0,a1]):∀us:List Value,us.length=2->P us
 | [a0,a1],_=>h a0 a1
theorem ln3 {P:List Value->Prop}(h:∀a0 a1 a2:Value,P [a0,a1,a2]):∀us:List Value,us.length=3->P us
 | [a0,a1,a2],_=>h a0 a1 a2
theorem ln4 {P:List Value->Prop}(h:∀a0 a1 a2 a3:Value,P [a0,a1,a2,a3]):∀us:List Value,us.length=4->P us
 | [a0,a1,a2,a3],_=>h a0 a1 a2 a3
theorem ln7 {P:List Value->Prop}(h:∀a0 a1 a2 a3 a4 a5 a6:Value,P [a0,a1,a2,a3,a4,a5,a6]):∀us:List Value,us.length=7->P us
 | [a0,a1,a2,a3,a4,a5,a6],_=>h a0 a1 a2 a3 a4 a5 a6
end L2
namespace L2
open PySem PySem.W PyProof.Rows
def qw:Nat->List Obj->Nat->Nat->PySem.W.BT
 | 0,_,_,_=>.nil
 | f+1,l,a,b=>(l[b]?).elim .nil λ o=>.node o (qw f l (2*a) (a+b)) (qw f l (2*a) (2*a+b))
def toT (s:Shared):SharedT:=⟨qw 12 s.heap.objs.toList 1 0,s.heap.objs.size,s.heap.life,s.gens,s.drawn,s.toks,s.os⟩
theorem left_own {p q:Program}{loose:List Str}{Xt:Shared->Bool}{α:Type}{Yf:Shared->α}{Ya:World->α}{N:Nat}{g0:Bool}{H₀:Params->Heap}{gs₀:Array GenState}{d₀:Drawn}{k₀ m₀:Nat}{ann:Option Value}{n0 nb n nf:Nat}
  {b:List Stmt} {env:Env} {qp p0 p1 p2:Pos} {sa:World->OsState->Shared} {sb sc:World->OsState->SharedT} {sf:World->OsState->Shared}
  (open_:∀w:World,(fencedOpening treeTable p w N).map (λ s=>(s.heap,s.gens,s.drawn,s.toks))=some (H₀ w.params,gs₀,d₀,k₀))
  (size:∀w:World,((H₀ w.params).isNs mainGlobals&&gs₀.size == 0,(H₀ w.params).objs.size,(H₀ w.params).nsMap mainGlobals "__annotations__")=(true,m₀,ann))
  (pre:∀w os,topGo treeTable p w m₀ ann n0 ⟨H₀ w.params,gs₀,d₀,k₀,os⟩ (topStub p)=some (sa w os,⟨denote treeTable (.body b env),.body b env,p0,[topFrame qp]⟩))
  (block:∀w os,segRun treeTable p w m₀ ann 1 nb (sa w os) (blockOf b env (.body b env) p0 [topFrame qp])=some (.next,(sb w os).abs,.body b env,p1))
  (main:∀w os,segRunT treeTable p w m₀ ann 1 n (sb w os) (piecesOf b env (.body b env) p1 [topFrame qp])=some (.next,sc w os,.body b env,p2))
  (fin:∀w os,topRun treeTable p w m₀ ann nf (sc w os).abs ⟨doneF .next,.body b env,p2,[topFrame qp]⟩=some (sf w os))
  (le:Nat.ble (n0+(nb+(n+nf))) N=true)
  (looks:∀w os,((staticsOk (importedModules p.main.body) (H₀ w.params) (sf w os).heap&&namesBound p (sf w os).heap&&gensDone (sf w os)&&laidKept (H₀ w.params) (sf w os).heap),
    openSeen q loose (importedModules p.main.body) Xt g0 (sf w os),Yf (sf w os))=(true,openGood q loose,Ya w)):LeftO p q loose Xt Yf Ya N g0:=λ w=>by
 obtain ⟨⟨h,gs,d,k,os⟩,e,e'⟩:=BQ.mp (open_ w)
 obtain ⟨rfl,rfl,rfl,rfl⟩:h=H₀ w.params/\gs=gs₀/\d=d₀/\k=k₀:=by simpa using e'
 obtain ⟨z1,z2,z3⟩:_/\_/\_:=by simpa only [Prod.mk.injEq] using size w
 obtain ⟨l1,l2,l3⟩:_/\_/\_:=by simpa only [Prod.mk.injEq] using looks w os
 have r1:=piece_app (rest:=[]) (segRun_of (main w os)) (piece_nil (fin w os))
 rw [zt] at r1
 have r3:=go_top (pre w os) (piece_block (block w os) r1)
 have r:=topRun_mono (N - (n0+(nb+(n+nf)))) _ _ _ _ r3
 rw [show n0+(nb+(n+nf))+(N - (n0+(nb+(n+nf))))=N by have:=Bf le; lia] at r
 have t:topFrom treeTable p w N ⟨H₀ w.params,gs,d,k,os⟩=some (sf w os):=by
  unfold topFrom
  dsimp only
  rw [z1,z2,z3,r]
  show (match staticsOk (importedModules p.main.body) (H₀ w.params) (sf w os).heap&&namesBound p (sf w os).heap&&gensDone (sf w os)&&laidKept (H₀ w.params) (sf w os).heap with | true=>_ | false=>_)=_
  rw [l1]
 unfold openEnds
 rw [e]
 show (topFrom treeTable p w N _).map _=_
 rw [t]
 exact congrArg some (Prod.ext l2 l3)
abbrev fnRaw (name qual:Str) (params:Arguments) (body:List Stmt) (scope:Scope) (globals:Addr) (closure:List (Str×Addr)) (dV kV doc pm:Value) (an:Option Addr) (cdv ct:Value) (bl:Addr):FuncData:=
 {name,qualname:=qual,params,body:=.stmts body,scope,globals,closure,defaults:=dV,kwdefaults:=kV,doc,pyModule:=pm,annotations:=an,code:=cdv,closureTuple:=ct,builtins:=bl}
noncomputable def stT (t:PySem.W.BT) (n k:Nat) (P:Params) (os:OsState):SharedT:=⟨t,n,(boot_heap P).life,Array.mk [],boot_drawn,k,os⟩
theorem uE {p q:Program}{loose:List Str}{Xt:Shared->Bool}{α:Type}{Yf:Shared->α}{Ya:World->α}{N:Nat}{g0:Bool}{H₀:Params->Heap}{gs₀:Array GenState}{d₀:Drawn}{k₀ m₀:Nat}{ann:Option Value}{n0 nb n:Nat}
  {b:List Stmt} {env:Env} {qp p0 p1:Pos} {sa:World->OsState->Shared} {sb:World->OsState->SharedT} {sf:World->OsState->Shared}
  (open_:∀w:World,(fencedOpening treeTable p w N).map (λ s=>(s.heap,s.gens,s.drawn,s.toks))=some (H₀ w.params,gs₀,d₀,k₀))
  (size:∀w:World,((H₀ w.params).isNs mainGlobals&&gs₀.size == 0,(H₀ w.params).objs.size,(H₀ w.params).nsMap mainGlobals "__annotations__")=(true,m₀,ann))
  (pre:∀w os,topGo treeTable p w m₀ ann n0 ⟨H₀ w.params,gs₀,d₀,k₀,os⟩ (topStub p)=some (sa w os,⟨denote treeTable (.body b env),.body b env,p0,[topFrame qp]⟩))
  (block:∀w os,segRun treeTable p w m₀ ann 1 nb (sa w os) (blockOf b env (.body b env) p0 [topFrame qp])=some (.next,(sb w os).abs,.body b env,p1))
  (main:∀w os,topRun treeTable p w m₀ ann n (sb w os).abs (restOf b env (.body b env) p1 [topFrame qp])=some (sf w os))
  (le:Nat.ble (n0+(nb+n)) N=true)
  (looks:∀w os,((staticsOk (importedModules p.main.body) (H₀ w.params) (sf w os).heap&&namesBound p (sf w os).heap&&gensDone (sf w os)&&laidKept (H₀ w.params) (sf w os).heap),
    openSeen q loose (importedModules p.main.body) Xt g0 (sf w os),Yf (sf w os))=(true,openGood q loose,Ya w)):LeftO p q loose Xt Yf Ya N g0:=λ w=>by
 obtain ⟨⟨h,gs,d,k,os⟩,e,e'⟩:=BQ.mp (open_ w)
 obtain ⟨rfl,rfl,rfl,rfl⟩:h=H₀ w.params/\gs=gs₀/\d=d₀/\k=k₀:=by simpa using e'
 obtain ⟨z1,z2,z3⟩:_/\_/\_:=by simpa only [Prod.mk.injEq] using size w
 obtain ⟨l1,l2,l3⟩:_/\_/\_:=by simpa only [Prod.mk.injEq] using looks w os
 have r3:=go_top (pre w os) (piece_block (block w os) (main w os))
 have r:=topRun_mono (N - (n0+(nb+n))) _ _ _ _ r3
 rw [show n0+(nb+n)+(N - (n0+(nb+n)))=N by have:=Bf le; lia] at r
 have t:topFrom treeTable p w N ⟨H₀ w.params,gs,d,k,os⟩=some (sf w os):=by
  unfold topFrom
  dsimp only
  rw [z1,z2,z3,r]
  show (match staticsOk (importedModules p.main.body) (H₀ w.params) (sf w os).heap&&namesBound p (sf w os).heap&&gensDone (sf w os)&&laidKept (H₀ w.params) (sf w os).heap with | true=>_ | false=>_)=_
  rw [l1]
 unfold openEnds
 rw [e]
 show (topFrom treeTable p w N _).map _=_
 rw [t]
 exact congrArg some (Prod.ext l2 l3)
def tf (as:List Addr) (s:Shared):List (Option Obj):=as.map s.heap.get?
def sZ (K:Params->Frag) (w:World):List (Option Obj):=(K w.params).map λ p=>some p.2
theorem hookY {K:Params->Frag}{as:List Addr}(e:∀P,as=(K P).map (·.1)) (w:World) (s₀ s₁:Shared) (y:tf as s₀=sZ K w) (k:∀b o,s₀.heap.get? b=some o->s₁.heap.get? b=some o):(K w.params).In s₁.heap:=
 InK.keeps w s₀.heap s₁.heap (InK.of e w s₀ y) k
end L2
namespace K13
open PySem L2
abbrev ζt (x:Array Value) (n:Nat):Obj:=⟨.type "tuple",none,.seq x n,#[]⟩
noncomputable abbrev ζf (a b:Str) (s:Stmt) (d e f m:Value) (n:Option Addr) (c t:Value):Obj:=⟨.type "function",none,.func (PySem.W.fnOf a b (eU s) (dX s) (ak s) d e f m n c t),#[]⟩
noncomputable abbrev ζr (a b:Str) (s:Stmt):Obj:=⟨.none,none,.func (L2.fnRaw a b (eU s) (dX s) (ak s) 0 [] .none .none .none .none none .none .none 0),#[]⟩
abbrev ζs (x:Array Value):Obj:=⟨.none,none,.fields x,#[]⟩
abbrev ζc (x:Array Value):Obj:=⟨.type "code",none,.fields x,#[]⟩
abbrev ζe (P:Params) (x:Str) (n:Nat) (v:Value):DictEntry:=⟨PyData.keyHash P x,.str x n,v⟩
abbrev ζl (x:Obj):PySem.W.BT:=.node x .nil .nil
abbrev ζn (x:Obj) (a b:PySem.W.BT):PySem.W.BT:=.node x a b
abbrev ζo:Value:=.int 0 0
abbrev ζm (n:Nat):Value:=.str "/claim/cut.py" n
abbrev ζi (n:Int):Value:=.int n 0
abbrev hP:Program:=PySem.Challenge.pw_playboard_k13_moves
noncomputable def hQ:Program:={hP with main:={hP.main with body:=top 0::top 2::top 3::top 4::top 6::top 7::top 8::top 10::top 11::top 12::top 13::top 14::top 15::top 16::top 17::top 18::top 19::top 20::top 21::top 22::top 23::top 24::top 25::top 26::top 27::top 29::top 30::top 31::top 32::top 33::top 35::top 37::top 38::top 39::top 40::top 41::top 43::top 44::top 45::top 47::top 49::top 50::top 51::top 53::top 55::top 56::top 57::top 58::top 59::top 60::top 61::top 62::top 63::top 64::top 65::top 66::top 67::top 68::top 69::top 70::top 71::top 72::[]}}
noncomputable section
variable (P:Params)
def zo3:Obj:=⟨(.type "dict"),none,(.dict #[ζe P "__name__" 165 (.str "playboard.squares" 470),ζe P "__doc__" 166 .none,ζe P "__package__" 167 .none,ζe P "__loader__" 168 (.builtin "__main__.__loader__#opaque"),ζe P "__spec__" 169 .none,ζe P "__annotations__" 170 (.ref 6),ζe P "__builtins__" 171 (.ref 4),ζe P "__file__" 173 (ζm 172),ζe P "__cached__" 174 .none,ζe P "_wall" 193 (.ref 21),ζe P "PlayError" 213 (.ref 31),ζe P "BadBoard" 229 (.ref 44),ζe P "BadGame" 245 (.ref 56),ζe P "is_whole" 254 (.ref 65),ζe P "is_letter" 261 (.ref 72),ζe P "is_among" 270 (.ref 79),ζe P "SORTS" 276 (.ref 80),ζe P "AIMS" 280 (.ref 81),ζe P "END_WORDS" 283 (.ref 82),ζe P "STUCK_WORDS" 287 (.ref 83),ζe P "MOST_KINDS" 289 (.int 6 288),ζe P "MOST_RULES" 291 (.int 24 290),ζe P "MOST_PAIRS" 293 (.int 6 292),ζe P "is_word" 301 (.ref 90),ζe P "is_tuple_of" 309 (.ref 97),ζe P "is_list_of" 318 (.ref 104),ζe P "is_step" 328 (.ref 111),ζe P "is_rule" 338 (.ref 118),ζe P "is_pair" 347 (.ref 125),ζe P "are_pairs" 353 (.ref 130),ζe P "is_turns" 359 (.ref 135),ζe P "is_ends" 367 (.ref 142),ζe P "are_kinds" 373 (.ref 147),ζe P "are_rules" 379 (.ref 152),ζe P "EMPTY" 383 (.str "." 382),ζe P "HOLE" 385 (.str "#" 384),ζe P "kind_of" 392 (.ref 159),ζe P "side_of" 399 (.ref 166),ζe P "squares_of" 405 (.ref 171),ζe P "ray" 419 (.ref 178),ζe P "NOTHING" 424 (.int (-1) 423),ζe P "slid" 437 (.ref 185),ζe P "jumped" 446 (.ref 192),ζe P "by_rule" 458 (.ref 199),ζe P "goals" 469 (.ref 206)] 45),#[]⟩
def zo11:Obj:=ζt #[] 0
def zo12:Obj:=ζs #[(ζi 1),ζo,(.ref 20),(ζi 5),ζo,(.ref 27),(ζi 7),ζo,(.ref 40),(ζi 9),ζo,(.ref 52),(ζi 12),ζo,(.ref 64),(ζi 14),ζo,(.ref 71),(ζi 16),ζo,(.ref 78),(ζi 26),ζo,(.ref 89),(ζi 28),ζo,(.ref 96),(ζi 30),ζo,(.ref 103),(ζi 32),ζo,(.ref 110),(ζi 37),ζo,(.ref 117),(ζi 47),ζo,(.ref 124),(ζi 49),ζo,(.ref 129),(ζi 51),ζo,(.ref 134),(ζi 58),ζo,(.ref 141),(ζi 60),ζo,(.ref 146),(ζi 64),ζo,(.ref 151),(ζi 69),ζo,(.ref 158),(ζi 71),ζo,(.ref 165),(ζi 75),ζo,(.ref 170),(ζi 78),ζo,(.ref 177),(ζi 89),ζo,(.ref 184),(ζi 100),ζo,(.ref 191),(ζi 104),ζo,(.ref 198),(ζi 110),ζo,(.ref 205)]
def zo13:Obj:=ζc #[(.str "<module>" 182),(.str "<module>" 183),(ζm 184),(ζi 1),ζo,ζo,ζo,ζo,(.ref 11),(.bool false),(ζi 181),(.ref 12),.none,.none,.none,.none,(ζi 185),(ζi 1),(ζm 186)]
def zo14:Obj:=⟨(.type "frame"),none,.plain,#[(some (.ref 13)),(some (.ref 3)),(some (.ref 3)),none,(some (.str "__main__" 164)),none,(some (.ref 0))]⟩
def zo15:Obj:=ζt #[] 0
def zo16:Obj:=ζs #[]
def zo17:Obj:=ζt #[(.str "k" 190)] 0
def zo18:Obj:=ζt #[] 0
def zo19:Obj:=ζr "_wall" "_wall" sC
def zo20:Obj:=ζc #[(.str "_wall" 187),(.str "_wall" 188),(ζm 189),(ζi 1),(ζi 1),ζo,ζo,(ζi 3),(.ref 15),(.bool true),(ζi 181),(.ref 16),.none,(.ref 17),(.ref 18),(.ref 19),(ζi 191),(ζi 1),(ζm 192)]
def zo21:Obj:=ζf "_wall" "_wall" sC .none .none .none (.str "__main__" 164) none (.ref 20) .none
def zo22:Obj:=ζt #[(.type "ValueError")] 0
def zo23:Obj:=⟨(.type "builtin_function_or_method"),none,(.fields #[(.builtin "type.__prepare__"),(.type "type")]),#[]⟩
def zo24:Obj:=⟨(.type "dict"),none,(.dict #[ζe P "__module__" 203 (.str "playboard.errors" 194),ζe P "__qualname__" 205 (.str "PlayError" 204),ζe P "__firstlineno__" 207 (.int 5 206),ζe P "__static_attributes__" 208 (.ref 29)] 4),#[]⟩
def zo25:Obj:=ζt #[] 0
def zo26:Obj:=ζs #[]
def zo27:Obj:=ζc #[(.str "PlayError" 198),(.str "PlayError" 199),(ζm 200),(ζi 5),ζo,ζo,ζo,ζo,(.ref 25),(.bool false),(ζi 181),(.ref 26),.none,.none,.none,.none,(ζi 201),(ζi 5),(ζm 202)]
def zo28:Obj:=⟨(.type "frame"),none,.plain,#[(some (.ref 27)),(some (.ref 3)),(some (.ref 24)),none,(some (.str "playboard.errors" 194)),none,(some (.ref 0))]⟩
def zo29:Obj:=ζt #[] 0
def zo30:Obj:=⟨(.type "dict"),none,(.dict #[ζe P "__module__" 203 (.str "playboard.errors" 194),ζe P "__firstlineno__" 207 (.int 5 206),ζe P "__static_attributes__" 208 (.ref 29),ζe P "__weakref__" 210 (.ref 32),ζe P "__doc__" 211 .none] 3),#[]⟩
def zo31:Obj:=⟨(.type "type"),none,(.cls ⟨"PlayError",[(.type "ValueError")],[(.ref 31),(.type "ValueError"),(.type "Exception"),(.type "BaseException"),(.type "object")],30,"PlayError",true,[],[(.ref 44),(.ref 56)],false,none,false⟩),#[(some (.ref 22)),none,(some (.str "PlayError" 196)),(some (.str "PlayError" 204)),(some (.builtin "ValueError.__new__")),(some (.bool true))]⟩
def zo32:Obj:=⟨(.type "getset_descriptor"),none,(.fields #[(.str "__weakref__" 209),(.ref 31),(.builtin "ExceptionGroup.__weakref__"),.none]),#[]⟩
def zo33:Obj:=⟨(.type "super"),none,(.fields #[(.ref 31),(.ref 31),(.ref 31)]),#[]⟩
def zo34:Obj:=⟨(.type "builtin_function_or_method"),none,(.fields #[(.builtin "object.__init_subclass__"),(.ref 31)]),#[]⟩
def zo35:Obj:=ζt #[(.ref 31)] 0
def zo36:Obj:=⟨(.type "builtin_function_or_method"),none,(.fields #[(.builtin "type.__prepare__"),(.type "type")]),#[]⟩
def zo37:Obj:=⟨(.type "dict"),none,(.dict #[ζe P "__module__" 221 (.str "playboard.errors" 194),ζe P "__qualname__" 223 (.str "BadBoard" 222),ζe P "__firstlineno__" 225 (.int 7 224),ζe P "__static_attributes__" 226 (.ref 42)] 4),#[]⟩
def zo38:Obj:=ζt #[] 0
def zo39:Obj:=ζs #[]
def zo40:Obj:=ζc #[(.str "BadBoard" 216),(.str "BadBoard" 217),(ζm 218),(ζi 7),ζo,ζo,ζo,ζo,(.ref 38),(.bool false),(ζi 181),(.ref 39),.none,.none,.none,.none,(ζi 219),(ζi 7),(ζm 220)]
def zo41:Obj:=⟨(.type "frame"),none,.plain,#[(some (.ref 40)),(some (.ref 3)),(some (.ref 37)),none,(some (.str "playboard.errors" 194)),none,(some (.ref 0))]⟩
def zo42:Obj:=ζt #[] 0
def zo43:Obj:=⟨(.type "dict"),none,(.dict #[ζe P "__module__" 221 (.str "playboard.errors" 194),ζe P "__firstlineno__" 225 (.int 7 224),ζe P "__static_attributes__" 226 (.ref 42),ζe P "__doc__" 227 .none] 2),#[]⟩
def zo44:Obj:=⟨(.type "type"),none,(.cls ⟨"BadBoard",[(.ref 31)],[(.ref 44),(.ref 31),(.type "ValueError"),(.type "Exception"),(.type "BaseException"),(.type "object")],43,"BadBoard",true,[],[],false,none,false⟩),#[(some (.ref 35)),none,(some (.str "BadBoard" 214)),(some (.str "BadBoard" 222)),(some (.builtin "ValueError.__new__")),(some (.bool true))]⟩
def zo45:Obj:=⟨(.type "super"),none,(.fields #[(.ref 44),(.ref 44),(.ref 44)]),#[]⟩
def zo46:Obj:=⟨(.type "builtin_function_or_method"),none,(.fields #[(.builtin "object.__init_subclass__"),(.ref 44)]),#[]⟩
def zo47:Obj:=ζt #[(.ref 31)] 0
def zo48:Obj:=⟨(.type "builtin_function_or_method"),none,(.fields #[(.builtin "type.__prepare__"),(.type "type")]),#[]⟩
def zo49:Obj:=⟨(.type "dict"),none,(.dict #[ζe P "__module__" 237 (.str "playboard.errors" 194),ζe P "__qualname__" 239 (.str "BadGame" 238),ζe P "__firstlineno__" 241 (.int 9 240),ζe P "__static_attributes__" 242 (.ref 54)] 4),#[]⟩
def zo50:Obj:=ζt #[] 0
def zo51:Obj:=ζs #[]
def zo52:Obj:=ζc #[(.str "BadGame" 232),(.str "BadGame" 233),(ζm 234),(ζi 9),ζo,ζo,ζo,ζo,(.ref 50),(.bool false),(ζi 181),(.ref 51),.none,.none,.none,.none,(ζi 235),(ζi 9),(ζm 236)]
def zo53:Obj:=⟨(.type "frame"),none,.plain,#[(some (.ref 52)),(some (.ref 3)),(some (.ref 49)),none,(some (.str "playboard.errors" 194)),none,(some (.ref 0))]⟩
def zo54:Obj:=ζt #[] 0
def zo55:Obj:=⟨(.type "dict"),none,(.dict #[ζe P "__module__" 237 (.str "playboard.errors" 194),ζe P "__firstlineno__" 241 (.int 9 240),ζe P "__static_attributes__" 242 (.ref 54),ζe P "__doc__" 243 .none] 2),#[]⟩
def zo56:Obj:=⟨(.type "type"),none,(.cls ⟨"BadGame",[(.ref 31)],[(.ref 56),(.ref 31),(.type "ValueError"),(.type "Exception"),(.type "BaseException"),(.type "object")],55,"BadGame",true,[],[],false,none,false⟩),#[(some (.ref 47)),none,(some (.str "BadGame" 230)),(some (.str "BadGame" 238)),(some (.builtin "ValueError.__new__")),(some (.bool true))]⟩
def zo57:Obj:=⟨(.type "super"),none,(.fields #[(.ref 56),(.ref 56),(.ref 56)]),#[]⟩
def zo58:Obj:=⟨(.type "builtin_function_or_method"),none,(.fields #[(.builtin "object.__init_subclass__"),(.ref 56)]),#[]⟩
def zo59:Obj:=ζt #[] 0
def zo60:Obj:=ζs #[]
def zo61:Obj:=ζt #[(.str "thing" 251)] 0
def zo62:Obj:=ζt #[] 0
def zo63:Obj:=ζr "is_whole" "is_whole" dw
def zo64:Obj:=ζc #[(.str "is_whole" 248),(.str "is_whole" 249),(ζm 250),(ζi 12),(ζi 1),ζo,ζo,(ζi 3),(.ref 59),(.bool true),(ζi 181),(.ref 60),.none,(.ref 61),(.ref 62),(.ref 63),(ζi 252),(ζi 12),(ζm 253)]
def zo65:Obj:=ζf "is_whole" "is_whole" dw .none .none .none (.str "playboard.words" 246) none (.ref 64) .none
def zo66:Obj:=ζt #[] 0
def zo67:Obj:=ζs #[]
def zo68:Obj:=ζt #[(.str "thing" 258)] 0
def zo69:Obj:=ζt #[] 0
def zo70:Obj:=ζr "is_letter" "is_letter" cV
def zo71:Obj:=ζc #[(.str "is_letter" 255),(.str "is_letter" 256),(ζm 257),(ζi 14),(ζi 1),ζo,ζo,(ζi 3),(.ref 66),(.bool true),(ζi 181),(.ref 67),.none,(.ref 68),(.ref 69),(.ref 70),(ζi 259),(ζi 14),(ζm 260)]
def zo72:Obj:=ζf "is_letter" "is_letter" cV .none .none .none (.str "playboard.words" 246) none (.ref 71) .none
def zo73:Obj:=ζt #[] 0
def zo74:Obj:=ζs #[]
def zo75:Obj:=ζt #[(.str "thing" 265),(.str "least" 266),(.str "most" 267)] 0
def zo76:Obj:=ζt #[] 0
def zo77:Obj:=ζr "is_among" "is_among" dz
def zo78:Obj:=ζc #[(.str "is_among" 262),(.str "is_among" 263),(ζm 264),(ζi 16),(ζi 3),ζo,ζo,(ζi 3),(.ref 73),(.bool true),(ζi 181),(.ref 74),.none,(.ref 75),(.ref 76),(.ref 77),(ζi 268),(ζi 16),(ζm 269)]
def zo79:Obj:=ζf "is_among" "is_among" dz .none .none .none (.str "playboard.words" 246) none (.ref 78) .none
def zo80:Obj:=ζt #[(.str "leap" 273),(.str "slide" 274),(.str "jump" 275)] 0
def zo81:Obj:=ζt #[(.str "go" 277),(.str "hit" 278),(.str "any" 279)] 0
def zo82:Obj:=ζt #[(.str "without" 281),(.str "home" 282)] 0
def zo83:Obj:=ζt #[(.str "lost" 284),(.str "even" 285),(.str "won" 286)] 0
def zo84:Obj:=ζt #[] 0
def zo85:Obj:=ζs #[]
def zo86:Obj:=ζt #[(.str "thing" 297),(.str "words" 298)] 0
def zo87:Obj:=ζt #[] 0
def zo88:Obj:=ζr "is_word" "is_word" d6
def zo89:Obj:=ζc #[(.str "is_word" 294),(.str "is_word" 295),(ζm 296),(ζi 26),(ζi 2),ζo,ζo,(ζi 3),(.ref 84),(.bool true),(ζi 181),(.ref 85),.none,(.ref 86),(.ref 87),(.ref 88),(ζi 299),(ζi 26),(ζm 300)]
def zo90:Obj:=ζf "is_word" "is_word" d6 .none .none .none (.str "playboard.rules" 271) none (.ref 89) .none
def zo91:Obj:=ζt #[] 0
def zo92:Obj:=ζs #[]
def zo93:Obj:=ζt #[(.str "thing" 305),(.str "many" 306)] 0
def zo94:Obj:=ζt #[] 0
def zo95:Obj:=ζr "is_tuple_of" "is_tuple_of" ck
def zo96:Obj:=ζc #[(.str "is_tuple_of" 302),(.str "is_tuple_of" 303),(ζm 304),(ζi 28),(ζi 2),ζo,ζo,(ζi 3),(.ref 91),(.bool true),(ζi 181),(.ref 92),.none,(.ref 93),(.ref 94),(.ref 95),(ζi 307),(ζi 28),(ζm 308)]
def zo97:Obj:=ζf "is_tuple_of" "is_tuple_of" ck .none .none .none (.str "playboard.rules" 271) none (.ref 96) .none
def zo98:Obj:=ζt #[] 0
def zo99:Obj:=ζs #[]
def wA:Obj:=ζt #[(.str "thing" 313),(.str "least" 314),(.str "most" 315)] 0
def wz:Obj:=ζt #[] 0
def zo102:Obj:=ζr "is_list_of" "is_list_of" cD
def wy:Obj:=ζc #[(.str "is_list_of" 310),(.str "is_list_of" 311),(ζm 312),(ζi 30),(ζi 3),ζo,ζo,(ζi 3),(.ref 98),(.bool true),(ζi 181),(.ref 99),.none,(.ref 100),(.ref 101),(.ref 102),(ζi 316),(ζi 30),(ζm 317)]
def wx:Obj:=ζf "is_list_of" "is_list_of" cD .none .none .none (.str "playboard.rules" 271) none (.ref 103) .none
def ww:Obj:=ζt #[] 0
def zo106:Obj:=ζs #[]
def wv:Obj:=ζt #[(.str "sort" 322),(.str "across" 323),(.str "up" 324),(.str "longest" 325)] 0
def wu:Obj:=ζt #[] 0
def zo109:Obj:=ζr "is_step" "is_step" d7
def wt:Obj:=ζc #[(.str "is_step" 319),(.str "is_step" 320),(ζm 321),(ζi 32),(ζi 3),ζo,ζo,(ζi 3),(.ref 105),(.bool true),(ζi 181),(.ref 106),.none,(.ref 107),(.ref 108),(.ref 109),(ζi 326),(ζi 32),(ζm 327)]
def wq:Obj:=ζf "is_step" "is_step" d7 .none .none .none (.str "playboard.rules" 271) none (.ref 110) .none
def wp:Obj:=ζt #[] 0
def zo113:Obj:=ζs #[]
def wo:Obj:=ζt #[(.str "thing" 332),(.str "kinds" 333),(.str "sort" 334),(.str "aim" 335)] 0
def wn:Obj:=ζt #[] 0
def zo116:Obj:=ζr "is_rule" "is_rule" d9
def wm:Obj:=ζc #[(.str "is_rule" 329),(.str "is_rule" 330),(ζm 331),(ζi 37),(ζi 2),ζo,ζo,(ζi 3),(.ref 112),(.bool true),(ζi 181),(.ref 113),.none,(.ref 114),(.ref 115),(.ref 116),(ζi 336),(ζi 37),(ζm 337)]
def wl:Obj:=ζf "is_rule" "is_rule" d9 .none .none .none (.str "playboard.rules" 271) none (.ref 117) .none
def wj:Obj:=ζt #[] 0
def zo120:Obj:=ζs #[]
def wg:Obj:=ζt #[(.str "thing" 342),(.str "firsts" 343),(.str "seconds" 344)] 0
def wf:Obj:=ζt #[] 0
def zo123:Obj:=ζr "is_pair" "is_pair" eA
def we:Obj:=ζc #[(.str "is_pair" 339),(.str "is_pair" 340),(ζm 341),(ζi 47),(ζi 3),ζo,ζo,(ζi 3),(.ref 119),(.bool true),(ζi 181),(.ref 120),.none,(.ref 121),(.ref 122),(.ref 123),(ζi 345),(ζi 47),(ζm 346)]
def wd:Obj:=ζf "is_pair" "is_pair" eA .none .none .none (.str "playboard.rules" 271) none (.ref 124) .none
def wc:Obj:=ζt #[] 0
def zo127:Obj:=ζs #[]
def zo128:Obj:=ζr "are_pairs" "are_pairs" cr
def wb:Obj:=ζc #[(.str "are_pairs" 348),(.str "are_pairs" 349),(ζm 350),(ζi 49),(ζi 3),ζo,ζo,(ζi 3),(.ref 126),(.bool true),(ζi 181),(.ref 127),.none,.none,.none,(.ref 128),(ζi 351),(ζi 49),(ζm 352)]
def wa:Obj:=ζf "are_pairs" "are_pairs" cr .none .none .none (.str "playboard.rules" 271) none (.ref 129) .none
def v9:Obj:=ζt #[] 0
def zo132:Obj:=ζs #[]
def zo133:Obj:=ζr "is_turns" "is_turns" cn
def v8:Obj:=ζc #[(.str "is_turns" 354),(.str "is_turns" 355),(ζm 356),(ζi 51),(ζi 2),ζo,ζo,(ζi 3),(.ref 131),(.bool true),(ζi 181),(.ref 132),.none,.none,.none,(.ref 133),(ζi 357),(ζi 51),(ζm 358)]
def v7:Obj:=ζf "is_turns" "is_turns" cn .none .none .none (.str "playboard.rules" 271) none (.ref 134) .none
def v6:Obj:=ζt #[] 0
def zo137:Obj:=ζs #[]
def v5:Obj:=ζt #[(.str "thing" 363),(.str "kinds" 364)] 0
def v4:Obj:=ζt #[] 0
def zo140:Obj:=ζr "is_ends" "is_ends" eB
def v3:Obj:=ζc #[(.str "is_ends" 360),(.str "is_ends" 361),(ζm 362),(ζi 58),(ζi 2),ζo,ζo,(ζi 3),(.ref 136),(.bool true),(ζi 181),(.ref 137),.none,(.ref 138),(.ref 139),(.ref 140),(ζi 365),(ζi 58),(ζm 366)]
def v2:Obj:=ζf "is_ends" "is_ends" eB .none .none .none (.str "playboard.rules" 271) none (.ref 141) .none
def v1:Obj:=ζt #[] 0
def zo144:Obj:=ζs #[]
def zo145:Obj:=ζr "are_kinds" "are_kinds" cu
def vZ:Obj:=ζc #[(.str "are_kinds" 368),(.str "are_kinds" 369),(ζm 370),(ζi 60),(ζi 1),ζo,ζo,(ζi 3),(.ref 143),(.bool true),(ζi 181),(.ref 144),.none,.none,.none,(.ref 145),(ζi 371),(ζi 60),(ζm 372)]
def vY:Obj:=ζf "are_kinds" "are_kinds" cu .none .none .none (.str "playboard.rules" 271) none (.ref 146) .none
def vX:Obj:=ζt #[] 0
def zo149:Obj:=ζs #[]
def zo150:Obj:=ζr "are_rules" "are_rules" cp
def vW:Obj:=ζc #[(.str "are_rules" 374),(.str "are_rules" 375),(ζm 376),(ζi 64),(ζi 2),ζo,ζo,(ζi 3),(.ref 148),(.bool true),(ζi 181),(.ref 149),.none,.none,.none,(.ref 150),(ζi 377),(ζi 64),(ζm 378)]
def vV:Obj:=ζf "are_rules" "are_rules" cp .none .none .none (.str "playboard.rules" 271) none (.ref 151) .none
def vU:Obj:=ζt #[] 0
def zo154:Obj:=ζs #[]
def vT:Obj:=ζt #[(.str "sign" 389)] 0
def vS:Obj:=ζt #[] 0
def zo157:Obj:=ζr "kind_of" "kind_of" d4
def vR:Obj:=ζc #[(.str "kind_of" 386),(.str "kind_of" 387),(ζm 388),(ζi 69),(ζi 1),ζo,ζo,(ζi 3),(.ref 153),(.bool true),(ζi 181),(.ref 154),.none,(.ref 155),(.ref 156),(.ref 157),(ζi 390),(ζi 69),(ζm 391)]
def vQ:Obj:=ζf "kind_of" "kind_of" d4 .none .none .none (.str "playboard.places" 380) none (.ref 158) .none
def vP:Obj:=ζt #[] 0
def zo161:Obj:=ζs #[]
def vO:Obj:=ζt #[(.str "sign" 396)] 0
def vN:Obj:=ζt #[] 0
def zo164:Obj:=ζr "side_of" "side_of" dZ
def vM:Obj:=ζc #[(.str "side_of" 393),(.str "side_of" 394),(ζm 395),(ζi 71),(ζi 1),ζo,ζo,(ζi 3),(.ref 160),(.bool true),(ζi 181),(.ref 161),.none,(.ref 162),(.ref 163),(.ref 164),(ζi 397),(ζi 71),(ζm 398)]
def vL:Obj:=ζf "side_of" "side_of" dZ .none .none .none (.str "playboard.places" 380) none (.ref 165) .none
def vK:Obj:=ζt #[] 0
def zo168:Obj:=ζs #[]
def zo169:Obj:=ζr "squares_of" "squares_of" cb
def vJ:Obj:=ζc #[(.str "squares_of" 400),(.str "squares_of" 401),(ζm 402),(ζi 75),(ζi 2),ζo,ζo,(ζi 3),(.ref 167),(.bool true),(ζi 181),(.ref 168),.none,.none,.none,(.ref 169),(ζi 403),(ζi 75),(ζm 404)]
def vI:Obj:=ζf "squares_of" "squares_of" cb .none .none .none (.str "playboard.places" 380) none (.ref 170) .none
def vH:Obj:=ζt #[] 0
def zo173:Obj:=ζs #[]
def vG:Obj:=ζt #[(.str "board" 411),(.str "square" 412),(.str "across" 413),(.str "up" 414),(.str "come_to" 415),(.str "here" 416)] 0
def vF:Obj:=ζt #[] 0
def zo176:Obj:=ζr "ray" "ray" lK
def vE:Obj:=ζc #[(.str "ray" 408),(.str "ray" 409),(ζm 410),(ζi 78),(ζi 4),ζo,ζo,(ζi 3),(.ref 172),(.bool true),(ζi 181),(.ref 173),.none,(.ref 174),(.ref 175),(.ref 176),(ζi 417),(ζi 78),(ζm 418)]
def vD:Obj:=ζf "ray" "ray" lK .none .none .none (.str "playboard.rays" 406) none (.ref 177) .none
def vC:Obj:=ζt #[] 0
def zo180:Obj:=ζs #[]
def vB:Obj:=ζt #[(.str "row" 428),(.str "side" 429),(.str "aim" 430),(.str "path" 431),(.str "found" 432),(.str "goal" 433),(.str "owner" 434)] 0
def vA:Obj:=ζt #[] 0
def zo183:Obj:=ζr "slid" "slid" iT
def vz:Obj:=ζc #[(.str "slid" 425),(.str "slid" 426),(ζm 427),(ζi 89),(ζi 4),ζo,ζo,(ζi 3),(.ref 179),(.bool true),(ζi 181),(.ref 180),.none,(.ref 181),(.ref 182),(.ref 183),(ζi 435),(ζi 89),(ζm 436)]
def vy:Obj:=ζf "slid" "slid" iT .none .none .none (.str "playboard.reach" 420) none (.ref 184) .none
def vx:Obj:=ζt #[] 0
def zo187:Obj:=ζs #[]
def vw:Obj:=ζt #[(.str "row" 441),(.str "side" 442),(.str "path" 443)] 0
def vv:Obj:=ζt #[] 0
def zo190:Obj:=ζr "jumped" "jumped" fz
def vt:Obj:=ζc #[(.str "jumped" 438),(.str "jumped" 439),(ζm 440),(ζi 100),(ζi 3),ζo,ζo,(ζi 3),(.ref 186),(.bool true),(ζi 181),(.ref 187),.none,(.ref 188),(.ref 189),(.ref 190),(ζi 444),(ζi 100),(ζm 445)]
def vq:Obj:=ζf "jumped" "jumped" fz .none .none .none (.str "playboard.reach" 420) none (.ref 191) .none
def vp:Obj:=ζt #[] 0
def zo194:Obj:=ζs #[]
def vo:Obj:=ζt #[(.str "board" 450),(.str "row" 451),(.str "square" 452),(.str "rule" 453),(.str "side" 454),(.str "path" 455)] 0
def vn:Obj:=ζt #[] 0
def zo197:Obj:=ζr "by_rule" "by_rule" eC
def vm:Obj:=ζc #[(.str "by_rule" 447),(.str "by_rule" 448),(ζm 449),(ζi 104),(ζi 4),ζo,ζo,(ζi 3),(.ref 193),(.bool true),(ζi 181),(.ref 194),.none,(.ref 195),(.ref 196),(.ref 197),(ζi 456),(ζi 104),(ζm 457)]
def vk:Obj:=ζf "by_rule" "by_rule" eC .none .none .none (.str "playboard.reach" 420) none (.ref 198) .none
def vj:Obj:=ζt #[] 0
def zo201:Obj:=ζs #[]
def vi:Obj:=ζt #[(.str "game" 462),(.str "row" 463),(.str "square" 464),(.str "found" 465),(.str "rule" 466)] 0
def vh:Obj:=ζt #[] 0
def zo204:Obj:=ζr "goals" "goals" gP
def vg:Obj:=ζc #[(.str "goals" 459),(.str "goals" 460),(ζm 461),(ζi 110),(ζi 3),ζo,ζo,(ζi 3),(.ref 200),(.bool true),(ζi 181),(.ref 201),.none,(.ref 202),(.ref 203),(.ref 204),(ζi 467),(ζi 110),(ζm 468)]
def vf:Obj:=ζf "goals" "goals" gP .none .none .none (.str "playboard.reach" 420) none (.ref 205) .none
def zo3_1:Obj:=⟨(.type "dict"),none,(.dict #[ζe P "__name__" 165 (.str "law_playboard_k13_moves" 635),ζe P "__doc__" 166 .none,ζe P "__package__" 167 .none,ζe P "__loader__" 168 (.builtin "__main__.__loader__#opaque"),ζe P "__spec__" 169 .none,ζe P "__annotations__" 170 (.ref 6),ζe P "__builtins__" 171 (.ref 4),ζe P "__file__" 173 (ζm 172),ζe P "__cached__" 174 .none,ζe P "_wall" 193 (.ref 21),ζe P "PlayError" 213 (.ref 31),ζe P "BadBoard" 229 (.ref 44),ζe P "BadGame" 245 (.ref 56),ζe P "is_whole" 254 (.ref 65),ζe P "is_letter" 261 (.ref 72),ζe P "is_among" 270 (.ref 79),ζe P "SORTS" 276 (.ref 80),ζe P "AIMS" 280 (.ref 81),ζe P "END_WORDS" 283 (.ref 82),ζe P "STUCK_WORDS" 287 (.ref 83),ζe P "MOST_KINDS" 289 (.int 6 288),ζe P "MOST_RULES" 291 (.int 24 290),ζe P "MOST_PAIRS" 293 (.int 6 292),ζe P "is_word" 301 (.ref 90),ζe P "is_tuple_of" 309 (.ref 97),ζe P "is_list_of" 318 (.ref 104),ζe P "is_step" 328 (.ref 111),ζe P "is_rule" 338 (.ref 118),ζe P "is_pair" 347 (.ref 125),ζe P "are_pairs" 353 (.ref 130),ζe P "is_turns" 359 (.ref 135),ζe P "is_ends" 367 (.ref 142),ζe P "are_kinds" 373 (.ref 147),ζe P "are_rules" 379 (.ref 152),ζe P "EMPTY" 383 (.str "." 382),ζe P "HOLE" 385 (.str "#" 384),ζe P "kind_of" 392 (.ref 159),ζe P "side_of" 399 (.ref 166),ζe P "squares_of" 405 (.ref 171),ζe P "ray" 419 (.ref 178),ζe P "NOTHING" 424 (.int (-1) 423),ζe P "slid" 437 (.ref 185),ζe P "jumped" 446 (.ref 192),ζe P "by_rule" 458 (.ref 199),ζe P "goals" 469 (.ref 206),ζe P "column_of" 479 (.ref 213),ζe P "row_of" 487 (.ref 220),ζe P "square_at" 496 (.ref 227),ζe P "moves" 504 (.ref 232),ζe P "LONGEST" 508 (.int 8 507),ζe P "are_holes" 514 (.ref 237),ζe P "Board" 579 (.ref 278),ζe P "Game" 634 (.ref 311),ζe P "_law_cell_at" 644 (.ref 322),ζe P "_law_mixed" 652 (.ref 329),ζe P "_law_whole" 659 (.ref 336),ζe P "_law_board" 672 (.ref 343),ζe P "_law_kinds" 678 (.ref 348),ζe P "_law_rule" 692 (.ref 355),ζe P "_law_turns" 698 (.ref 360),ζe P "_law_game" 716 (.ref 367),ζe P "_law_row" 722 (.ref 372),ζe P "_law_side" 729 (.ref 379),ζe P "_law_step" 742 (.ref 386),ζe P "_law_by_rule" 758 (.ref 393),ζe P "_law_goals" 764 (.ref 398),ζe P "_law_moves" 770 (.ref 403),ζe P "_law_tuples" 776 (.ref 408),ζe P "_law_good" 786 (.ref 415),ζe P "_law_second_game" 792 (.ref 420),ζe P "law" 805 (.ref 427)] 71),#[]⟩
def zo12_1:Obj:=ζs #[(ζi 1),ζo,(.ref 20),(ζi 5),ζo,(.ref 27),(ζi 7),ζo,(.ref 40),(ζi 9),ζo,(.ref 52),(ζi 12),ζo,(.ref 64),(ζi 14),ζo,(.ref 71),(ζi 16),ζo,(.ref 78),(ζi 26),ζo,(.ref 89),(ζi 28),ζo,(.ref 96),(ζi 30),ζo,(.ref 103),(ζi 32),ζo,(.ref 110),(ζi 37),ζo,(.ref 117),(ζi 47),ζo,(.ref 124),(ζi 49),ζo,(.ref 129),(ζi 51),ζo,(.ref 134),(ζi 58),ζo,(.ref 141),(ζi 60),ζo,(.ref 146),(ζi 64),ζo,(.ref 151),(ζi 69),ζo,(.ref 158),(ζi 71),ζo,(.ref 165),(ζi 75),ζo,(.ref 170),(ζi 78),ζo,(.ref 177),(ζi 89),ζo,(.ref 184),(ζi 100),ζo,(.ref 191),(ζi 104),ζo,(.ref 198),(ζi 110),ζo,(.ref 205),(ζi 116),ζo,(.ref 212),(ζi 118),ζo,(.ref 219),(ζi 120),ζo,(.ref 226),(ζi 123),ζo,(.ref 231),(ζi 131),ζo,(.ref 236),(ζi 137),ζo,(.ref 243),(ζi 166),ζo,(.ref 288),(ζi 192),ζo,(.ref 321),(ζi 196),ζo,(.ref 328),(ζi 198),ζo,(.ref 335),(ζi 200),ζo,(.ref 342),(ζi 214),ζo,(.ref 347),(ζi 218),ζo,(.ref 354),(ζi 232),ζo,(.ref 359),(ζi 239),ζo,(.ref 366),(ζi 254),ζo,(.ref 371),(ζi 270),ζo,(.ref 378),(ζi 274),ζo,(.ref 385),(ζi 281),ζo,(.ref 392),(ζi 301),ζo,(.ref 397),(ζi 307),ζo,(.ref 402),(ζi 313),ζo,(.ref 407),(ζi 320),ζo,(.ref 414),(ζi 327),ζo,(.ref 419),(ζi 331),ζo,(.ref 426)]
def zo207:Obj:=ζt #[] 0
def zo208:Obj:=ζs #[]
def zo209:Obj:=ζt #[(.str "wide" 475),(.str "square" 476)] 0
def zo210:Obj:=ζt #[] 0
def zo211:Obj:=ζr "column_of" "column_of" cW
def zo212:Obj:=ζc #[(.str "column_of" 472),(.str "column_of" 473),(ζm 474),(ζi 116),(ζi 2),ζo,ζo,(ζi 3),(.ref 207),(.bool true),(ζi 181),(.ref 208),.none,(.ref 209),(.ref 210),(.ref 211),(ζi 477),(ζi 116),(ζm 478)]
def zo213:Obj:=ζf "column_of" "column_of" cW .none .none .none (.str "playboard.squares" 470) none (.ref 212) .none
def zo214:Obj:=ζt #[] 0
def zo215:Obj:=ζs #[]
def zo216:Obj:=ζt #[(.str "wide" 483),(.str "square" 484)] 0
def zo217:Obj:=ζt #[] 0
def zo218:Obj:=ζr "row_of" "row_of" fv
def zo219:Obj:=ζc #[(.str "row_of" 480),(.str "row_of" 481),(ζm 482),(ζi 118),(ζi 2),ζo,ζo,(ζi 3),(.ref 214),(.bool true),(ζi 181),(.ref 215),.none,(.ref 216),(.ref 217),(.ref 218),(ζi 485),(ζi 118),(ζm 486)]
def zo220:Obj:=ζf "row_of" "row_of" fv .none .none .none (.str "playboard.squares" 470) none (.ref 219) .none
def zo221:Obj:=ζt #[] 0
def zo222:Obj:=ζs #[]
def zo223:Obj:=ζt #[(.str "wide" 491),(.str "column" 492),(.str "row" 493)] 0
def zo224:Obj:=ζt #[] 0
def zo225:Obj:=ζr "square_at" "square_at" cU
def zo226:Obj:=ζc #[(.str "square_at" 488),(.str "square_at" 489),(ζm 490),(ζi 120),(ζi 3),ζo,ζo,(ζi 3),(.ref 221),(.bool true),(ζi 181),(.ref 222),.none,(.ref 223),(.ref 224),(.ref 225),(ζi 494),(ζi 120),(ζm 495)]
def zo227:Obj:=ζf "square_at" "square_at" cU .none .none .none (.str "playboard.squares" 470) none (.ref 226) .none
def zo228:Obj:=ζt #[] 0
def zo229:Obj:=ζs #[]
def zo230:Obj:=ζr "moves" "moves" fM
def zo231:Obj:=ζc #[(.str "moves" 499),(.str "moves" 500),(ζm 501),(ζi 123),(ζi 2),ζo,ζo,(ζi 3),(.ref 228),(.bool true),(ζi 181),(.ref 229),.none,.none,.none,(.ref 230),(ζi 502),(ζi 123),(ζm 503)]
def zo232:Obj:=ζf "moves" "moves" fM .none .none .none (.str "playboard.moves" 497) none (.ref 231) .none
def zo233:Obj:=ζt #[] 0
def zo234:Obj:=ζs #[]
def zo235:Obj:=ζr "are_holes" "are_holes" cw
def zo236:Obj:=ζc #[(.str "are_holes" 509),(.str "are_holes" 510),(ζm 511),(ζi 131),(ζi 2),ζo,ζo,(ζi 3),(.ref 233),(.bool true),(ζi 181),(.ref 234),.none,.none,.none,(.ref 235),(ζi 512),(ζi 131),(ζm 513)]
def zo237:Obj:=ζf "are_holes" "are_holes" cw .none .none .none (.str "playboard.boards" 505) none (.ref 236) .none
def zo238:Obj:=ζt #[] 0
def zo239:Obj:=⟨(.type "builtin_function_or_method"),none,(.fields #[(.builtin "type.__prepare__"),(.type "type")]),#[]⟩
def zo240:Obj:=⟨(.type "dict"),none,(.dict #[ζe P "__module__" 522 (.str "playboard.boards" 505),ζe P "__qualname__" 524 (.str "Board" 523),ζe P "__firstlineno__" 526 (.int 137 525),ζe P "__init__" 532 (.ref 249),ζe P "has" 540 (.ref 256),ζe P "squares" 546 (.ref 261),ζe P "moved" 559 (.ref 268),ζe P "far_row" 567 (.ref 275),ζe P "__static_attributes__" 572 (.ref 276)] 9),#[]⟩
def zo241:Obj:=ζt #[] 0
def zo242:Obj:=ζs #[(ζi 139),(ζi 4),(.ref 248),(ζi 149),(ζi 4),(.ref 255),(ζi 152),(ζi 4),(.ref 260),(ζi 155),(ζi 4),(.ref 267),(ζi 163),(ζi 4),(.ref 274)]
def zo243:Obj:=ζc #[(.str "Board" 517),(.str "Board" 518),(ζm 519),(ζi 137),ζo,ζo,ζo,ζo,(.ref 241),(.bool false),(ζi 181),(.ref 242),.none,.none,.none,.none,(ζi 520),(ζi 137),(ζm 521)]
def zo244:Obj:=⟨(.type "frame"),none,.plain,#[(some (.ref 243)),(some (.ref 3)),(some (.ref 240)),none,(some (.str "playboard.boards" 505)),none,(some (.ref 0))]⟩
def zo245:Obj:=ζt #[] 0
def zo246:Obj:=ζs #[]
def zo247:Obj:=ζr "__init__" "Board.__init__" bu
def zo248:Obj:=ζc #[(.str "__init__" 527),(.str "Board.__init__" 528),(ζm 529),(ζi 139),(ζi 4),ζo,ζo,(ζi 3),(.ref 245),(.bool true),(ζi 181),(.ref 246),.none,.none,.none,(.ref 247),(ζi 530),(ζi 139),(ζm 531)]
def zo249:Obj:=ζf "__init__" "Board.__init__" bu .none .none .none (.str "playboard.boards" 505) none (.ref 248) .none
def zo250:Obj:=ζt #[] 0
def zo251:Obj:=ζs #[]
def zo252:Obj:=ζt #[(.str "self" 536),(.str "square" 537)] 0
def zo253:Obj:=ζt #[] 0
def zo254:Obj:=ζr "has" "Board.has" jo
def zo255:Obj:=ζc #[(.str "has" 533),(.str "Board.has" 534),(ζm 535),(ζi 149),(ζi 2),ζo,ζo,(ζi 3),(.ref 250),(.bool true),(ζi 181),(.ref 251),.none,(.ref 252),(.ref 253),(.ref 254),(ζi 538),(ζi 149),(ζm 539)]
def zo256:Obj:=ζf "has" "Board.has" jo .none .none .none (.str "playboard.boards" 505) none (.ref 255) .none
def zo257:Obj:=ζt #[] 0
def zo258:Obj:=ζs #[]
def zo259:Obj:=ζr "squares" "Board.squares" fX
def zo260:Obj:=ζc #[(.str "squares" 541),(.str "Board.squares" 542),(ζm 543),(ζi 152),(ζi 1),ζo,ζo,(ζi 3),(.ref 257),(.bool true),(ζi 181),(.ref 258),.none,.none,.none,(.ref 259),(ζi 544),(ζi 152),(ζm 545)]
def zo261:Obj:=ζf "squares" "Board.squares" fX .none .none .none (.str "playboard.boards" 505) none (.ref 260) .none
def zo262:Obj:=ζt #[] 0
def zo263:Obj:=ζs #[]
def zo264:Obj:=ζt #[(.str "self" 550),(.str "square" 551),(.str "across" 552),(.str "up" 553),(.str "column" 554),(.str "row" 555),(.str "goal" 556)] 0
def zo265:Obj:=ζt #[] 0
def zo266:Obj:=ζr "moved" "Board.moved" cm
def zo267:Obj:=ζc #[(.str "moved" 547),(.str "Board.moved" 548),(ζm 549),(ζi 155),(ζi 4),ζo,ζo,(ζi 3),(.ref 262),(.bool true),(ζi 181),(.ref 263),.none,(.ref 264),(.ref 265),(.ref 266),(ζi 557),(ζi 155),(ζm 558)]
def zo268:Obj:=ζf "moved" "Board.moved" cm .none .none .none (.str "playboard.boards" 505) none (.ref 267) .none
def zo269:Obj:=ζt #[] 0
def zo270:Obj:=ζs #[]
def zo271:Obj:=ζt #[(.str "self" 563),(.str "side" 564)] 0
def zo272:Obj:=ζt #[] 0
def zo273:Obj:=ζr "far_row" "Board.far_row" fY
def zo274:Obj:=ζc #[(.str "far_row" 560),(.str "Board.far_row" 561),(ζm 562),(ζi 163),(ζi 2),ζo,ζo,(ζi 3),(.ref 269),(.bool true),(ζi 181),(.ref 270),.none,(.ref 271),(.ref 272),(.ref 273),(ζi 565),(ζi 163),(ζm 566)]
def zo275:Obj:=ζf "far_row" "Board.far_row" fY .none .none .none (.str "playboard.boards" 505) none (.ref 274) .none
def zo276:Obj:=ζt #[(.str "firm" 568),(.str "high" 569),(.str "holes" 570),(.str "wide" 571)] 0
def zo277:Obj:=⟨(.type "dict"),none,(.dict #[ζe P "__module__" 522 (.str "playboard.boards" 505),ζe P "__firstlineno__" 526 (.int 137 525),ζe P "__init__" 532 (.ref 249),ζe P "has" 540 (.ref 256),ζe P "squares" 546 (.ref 261),ζe P "moved" 559 (.ref 268),ζe P "far_row" 567 (.ref 275),ζe P "__static_attributes__" 572 (.ref 276),ζe P "__dict__" 574 (.ref 279),ζe P "__weakref__" 576 (.ref 280),ζe P "__doc__" 577 .none] 4),#[]⟩
def zo278:Obj:=⟨(.type "type"),none,(.cls ⟨"Board",[(.type "object")],[(.ref 278),(.type "object")],277,"Board",true,[],[],false,none,false⟩),#[none,none,(some (.str "Board" 515)),(some (.str "Board" 523)),(some (.builtin "object.__new__")),(some (.bool true))]⟩
def zo279:Obj:=⟨(.type "getset_descriptor"),none,(.fields #[(.str "__dict__" 573),(.ref 278),(.builtin "function.__dict__"),(.builtin "function.__dict__#set")]),#[]⟩
def zo280:Obj:=⟨(.type "getset_descriptor"),none,(.fields #[(.str "__weakref__" 575),(.ref 278),(.builtin "ExceptionGroup.__weakref__"),.none]),#[]⟩
def zo281:Obj:=⟨(.type "super"),none,(.fields #[(.ref 278),(.ref 278),(.ref 278)]),#[]⟩
def zo282:Obj:=⟨(.type "builtin_function_or_method"),none,(.fields #[(.builtin "object.__init_subclass__"),(.ref 278)]),#[]⟩
def zo283:Obj:=ζt #[] 0
def zo284:Obj:=⟨(.type "builtin_function_or_method"),none,(.fields #[(.builtin "type.__prepare__"),(.type "type")]),#[]⟩
def zo285:Obj:=⟨(.type "dict"),none,(.dict #[ζe P "__module__" 589 (.str "playboard.games" 580),ζe P "__qualname__" 591 (.str "Game" 590),ζe P "__firstlineno__" 593 (.int 166 592),ζe P "__init__" 606 (.ref 296),ζe P "rules_of" 612 (.ref 301),ζe P "turned" 620 (.ref 308),ζe P "__static_attributes__" 627 (.ref 309)] 7),#[]⟩
def zo286:Obj:=ζt #[] 0
def zo287:Obj:=ζs #[(ζi 168),(ζi 4),(.ref 295),(ζi 186),(ζi 4),(.ref 300),(ζi 189),(ζi 4),(.ref 307)]
def zo288:Obj:=ζc #[(.str "Game" 584),(.str "Game" 585),(ζm 586),(ζi 166),ζo,ζo,ζo,ζo,(.ref 286),(.bool false),(ζi 181),(.ref 287),.none,.none,.none,.none,(ζi 587),(ζi 166),(ζm 588)]
def zo289:Obj:=⟨(.type "frame"),none,.plain,#[(some (.ref 288)),(some (.ref 3)),(some (.ref 285)),none,(some (.str "playboard.games" 580)),none,(some (.ref 0))]⟩
def zo290:Obj:=ζt #[] 0
def zo291:Obj:=ζs #[]
def zo292:Obj:=ζt #[(.str "self" 597),(.str "board" 598),(.str "kinds" 599),(.str "rules" 600),(.str "turns" 601),(.str "ends" 602),(.str "stuck" 603)] 0
def zo293:Obj:=ζt #[] 0
def zo294:Obj:=ζr "__init__" "Game.__init__" bJ
def zo295:Obj:=ζc #[(.str "__init__" 594),(.str "Game.__init__" 595),(ζm 596),(ζi 168),(ζi 7),ζo,ζo,(ζi 3),(.ref 290),(.bool true),(ζi 181),(.ref 291),.none,(.ref 292),(.ref 293),(.ref 294),(ζi 604),(ζi 168),(ζm 605)]
def zo296:Obj:=ζf "__init__" "Game.__init__" bJ .none .none .none (.str "playboard.games" 580) none (.ref 295) .none
def zo297:Obj:=ζt #[] 0
def zo298:Obj:=ζs #[]
def zo299:Obj:=ζr "rules_of" "Game.rules_of" bA
def zo300:Obj:=ζc #[(.str "rules_of" 607),(.str "Game.rules_of" 608),(ζm 609),(ζi 186),(ζi 2),ζo,ζo,(ζi 3),(.ref 297),(.bool true),(ζi 181),(.ref 298),.none,.none,.none,(.ref 299),(ζi 610),(ζi 186),(ζm 611)]
def zo301:Obj:=ζf "rules_of" "Game.rules_of" bA .none .none .none (.str "playboard.games" 580) none (.ref 300) .none
def zo302:Obj:=ζt #[] 0
def zo303:Obj:=ζs #[]
def zo304:Obj:=ζt #[(.str "self" 616),(.str "kind" 617)] 0
def zo305:Obj:=ζt #[] 0
def zo306:Obj:=ζr "turned" "Game.turned" gY
def zo307:Obj:=ζc #[(.str "turned" 613),(.str "Game.turned" 614),(ζm 615),(ζi 189),(ζi 2),ζo,ζo,(ζi 3),(.ref 302),(.bool true),(ζi 181),(.ref 303),.none,(.ref 304),(.ref 305),(.ref 306),(ζi 618),(ζi 189),(ζm 619)]
def zo308:Obj:=ζf "turned" "Game.turned" gY .none .none .none (.str "playboard.games" 580) none (.ref 307) .none
def zo309:Obj:=ζt #[(.str "board" 621),(.str "ends" 622),(.str "kinds" 623),(.str "rules" 624),(.str "stuck" 625),(.str "turns" 626)] 0
def zo310:Obj:=⟨(.type "dict"),none,(.dict #[ζe P "__module__" 589 (.str "playboard.games" 580),ζe P "__firstlineno__" 593 (.int 166 592),ζe P "__init__" 606 (.ref 296),ζe P "rules_of" 612 (.ref 301),ζe P "turned" 620 (.ref 308),ζe P "__static_attributes__" 627 (.ref 309),ζe P "__dict__" 629 (.ref 312),ζe P "__weakref__" 631 (.ref 313),ζe P "__doc__" 632 .none] 4),#[]⟩
def zo311:Obj:=⟨(.type "type"),none,(.cls ⟨"Game",[(.type "object")],[(.ref 311),(.type "object")],310,"Game",true,[],[],false,none,false⟩),#[none,none,(some (.str "Game" 582)),(some (.str "Game" 590)),(some (.builtin "object.__new__")),(some (.bool true))]⟩
def zo312:Obj:=⟨(.type "getset_descriptor"),none,(.fields #[(.str "__dict__" 628),(.ref 311),(.builtin "function.__dict__"),(.builtin "function.__dict__#set")]),#[]⟩
def zo313:Obj:=⟨(.type "getset_descriptor"),none,(.fields #[(.str "__weakref__" 630),(.ref 311),(.builtin "ExceptionGroup.__weakref__"),.none]),#[]⟩
def zo314:Obj:=⟨(.type "super"),none,(.fields #[(.ref 311),(.ref 311),(.ref 311)]),#[]⟩
def zo315:Obj:=⟨(.type "builtin_function_or_method"),none,(.fields #[(.builtin "object.__init_subclass__"),(.ref 311)]),#[]⟩
def zo316:Obj:=ζt #[] 0
def zo317:Obj:=ζs #[]
def zo318:Obj:=ζt #[(.str "_law_script" 640),(.str "_law_k" 641)] 0
def zo319:Obj:=ζt #[] 0
def zo320:Obj:=ζr "_law_cell_at" "_law_cell_at" bR
def zo321:Obj:=ζc #[(.str "_law_cell_at" 637),(.str "_law_cell_at" 638),(ζm 639),(ζi 192),(ζi 2),ζo,ζo,(ζi 3),(.ref 316),(.bool true),(ζi 181),(.ref 317),.none,(.ref 318),(.ref 319),(.ref 320),(ζi 642),(ζi 192),(ζm 643)]
def zo322:Obj:=ζf "_law_cell_at" "_law_cell_at" bR .none .none .none (.str "law_playboard_k13_moves" 635) none (.ref 321) .none
def zo323:Obj:=ζt #[] 0
def zo324:Obj:=ζs #[]
def zo325:Obj:=ζt #[(.str "_law_cell" 648),(.str "_law_k" 649)] 0
def zo326:Obj:=ζt #[] 0
def zo327:Obj:=ζr "_law_mixed" "_law_mixed" cF
def zo328:Obj:=ζc #[(.str "_law_mixed" 645),(.str "_law_mixed" 646),(ζm 647),(ζi 196),(ζi 2),ζo,ζo,(ζi 3),(.ref 323),(.bool true),(ζi 181),(.ref 324),.none,(.ref 325),(.ref 326),(.ref 327),(ζi 650),(ζi 196),(ζm 651)]
def zo329:Obj:=ζf "_law_mixed" "_law_mixed" cF .none .none .none (.str "law_playboard_k13_moves" 635) none (.ref 328) .none
def zo330:Obj:=ζt #[] 0
def zo331:Obj:=ζs #[]
def zo332:Obj:=ζt #[(.str "_law_thing" 656)] 0
def zo333:Obj:=ζt #[] 0
def zo334:Obj:=ζr "_law_whole" "_law_whole" cE
def zo335:Obj:=ζc #[(.str "_law_whole" 653),(.str "_law_whole" 654),(ζm 655),(ζi 198),(ζi 1),ζo,ζo,(ζi 3),(.ref 330),(.bool true),(ζi 181),(.ref 331),.none,(.ref 332),(.ref 333),(.ref 334),(ζi 657),(ζi 198),(ζm 658)]
def zo336:Obj:=ζf "_law_whole" "_law_whole" cE .none .none .none (.str "law_playboard_k13_moves" 635) none (.ref 335) .none
def zo337:Obj:=ζt #[] 0
def zo338:Obj:=ζs #[]
def zo339:Obj:=ζt #[(.str "_law_script" 663),(.str "_law_cell" 664),(.str "_law_wide" 665),(.str "_law_high" 666),(.str "_law_holes" 667),(.str "_law_k" 668),(.str "_law_hole" 669)] 0
def zo340:Obj:=ζt #[] 0
def zo341:Obj:=ζr "_law_board" "_law_board" cH
def zo342:Obj:=ζc #[(.str "_law_board" 660),(.str "_law_board" 661),(ζm 662),(ζi 200),(ζi 1),ζo,ζo,(ζi 3),(.ref 337),(.bool true),(ζi 181),(.ref 338),.none,(.ref 339),(.ref 340),(.ref 341),(ζi 670),(ζi 200),(ζm 671)]
def zo343:Obj:=ζf "_law_board" "_law_board" cH .none .none .none (.str "law_playboard_k13_moves" 635) none (.ref 342) .none
def zo344:Obj:=ζt #[] 0
def zo345:Obj:=ζs #[]
def zo346:Obj:=ζr "_law_kinds" "_law_kinds" cf
def zo347:Obj:=ζc #[(.str "_law_kinds" 673),(.str "_law_kinds" 674),(ζm 675),(ζi 214),(ζi 1),ζo,ζo,(ζi 3),(.ref 344),(.bool true),(ζi 181),(.ref 345),.none,.none,.none,(.ref 346),(ζi 676),(ζi 214),(ζm 677)]
def zo348:Obj:=ζf "_law_kinds" "_law_kinds" cf .none .none .none (.str "law_playboard_k13_moves" 635) none (.ref 347) .none
def zo349:Obj:=ζt #[] 0
def zo350:Obj:=ζs #[]
def zo351:Obj:=ζt #[(.str "_law_cell" 682),(.str "_law_kinds_here" 683),(.str "_law_more" 684),(.str "_law_sort" 685),(.str "_law_aim" 686),(.str "_law_reach" 687),(.str "_law_across" 688),(.str "_law_up" 689)] 0
def zo352:Obj:=ζt #[] 0
def zo353:Obj:=ζr "_law_rule" "_law_rule" cZ
def zo354:Obj:=ζc #[(.str "_law_rule" 679),(.str "_law_rule" 680),(ζm 681),(ζi 218),(ζi 2),ζo,ζo,(ζi 3),(.ref 349),(.bool true),(ζi 181),(.ref 350),.none,(.ref 351),(.ref 352),(.ref 353),(ζi 690),(ζi 218),(ζm 691)]
def zo355:Obj:=ζf "_law_rule" "_law_rule" cZ .none .none .none (.str "law_playboard_k13_moves" 635) none (.ref 354) .none
def zo356:Obj:=ζt #[] 0
def zo357:Obj:=ζs #[]
def zo358:Obj:=ζr "_law_turns" "_law_turns" cc
def zo359:Obj:=ζc #[(.str "_law_turns" 693),(.str "_law_turns" 694),(ζm 695),(ζi 232),(ζi 2),ζo,ζo,(ζi 3),(.ref 356),(.bool true),(ζi 181),(.ref 357),.none,.none,.none,(.ref 358),(ζi 696),(ζi 232),(ζm 697)]
def zo360:Obj:=ζf "_law_turns" "_law_turns" cc .none .none .none (.str "law_playboard_k13_moves" 635) none (.ref 359) .none
def zo361:Obj:=ζt #[] 0
def zo362:Obj:=ζs #[]
def zo363:Obj:=ζt #[(.str "_law_script" 702),(.str "_law_wide" 703),(.str "_law_high" 704),(.str "_law_holes" 705),(.str "_law_kinds_here" 706),(.str "_law_cell" 707),(.str "_law_rules" 708),(.str "_law_k" 709),(.str "_law_turns_here" 710),(.str "_law_ends" 711),(.str "_law_more" 712),(.str "_law_stuck" 713)] 0
def zo364:Obj:=ζt #[] 0
def zo365:Obj:=ζr "_law_game" "_law_game" db
def zo366:Obj:=ζc #[(.str "_law_game" 699),(.str "_law_game" 700),(ζm 701),(ζi 239),(ζi 1),ζo,ζo,(ζi 3),(.ref 361),(.bool true),(ζi 181),(.ref 362),.none,(.ref 363),(.ref 364),(.ref 365),(ζi 714),(ζi 239),(ζm 715)]
def zo367:Obj:=ζf "_law_game" "_law_game" db .none .none .none (.str "law_playboard_k13_moves" 635) none (.ref 366) .none
def zo368:Obj:=ζt #[] 0
def zo369:Obj:=ζs #[]
def zo370:Obj:=ζr "_law_row" "_law_row" bP
def zo371:Obj:=ζc #[(.str "_law_row" 717),(.str "_law_row" 718),(ζm 719),(ζi 254),(ζi 3),ζo,ζo,(ζi 3),(.ref 368),(.bool true),(ζi 181),(.ref 369),.none,.none,.none,(.ref 370),(ζi 720),(ζi 254),(ζm 721)]
def zo372:Obj:=ζf "_law_row" "_law_row" bP .none .none .none (.str "law_playboard_k13_moves" 635) none (.ref 371) .none
def zo373:Obj:=ζt #[] 0
def zo374:Obj:=ζs #[]
def zo375:Obj:=ζt #[(.str "_law_sign" 726)] 0
def zo376:Obj:=ζt #[] 0
def zo377:Obj:=ζr "_law_side" "_law_side" cY
def zo378:Obj:=ζc #[(.str "_law_side" 723),(.str "_law_side" 724),(ζm 725),(ζi 270),(ζi 1),ζo,ζo,(ζi 3),(.ref 373),(.bool true),(ζi 181),(.ref 374),.none,(.ref 375),(.ref 376),(.ref 377),(ζi 727),(ζi 270),(ζm 728)]
def zo379:Obj:=ζf "_law_side" "_law_side" cY .none .none .none (.str "law_playboard_k13_moves" 635) none (.ref 378) .none
def zo380:Obj:=ζt #[] 0
def zo381:Obj:=ζs #[]
def zo382:Obj:=ζt #[(.str "_law_game_here" 733),(.str "_law_square" 734),(.str "_law_across" 735),(.str "_law_up" 736),(.str "_law_column" 737),(.str "_law_row_here" 738),(.str "_law_goal" 739)] 0
def zo383:Obj:=ζt #[] 0
def zo384:Obj:=ζr "_law_step" "_law_step" cX
def zo385:Obj:=ζc #[(.str "_law_step" 730),(.str "_law_step" 731),(ζm 732),(ζi 274),(ζi 4),ζo,ζo,(ζi 3),(.ref 380),(.bool true),(ζi 181),(.ref 381),.none,(.ref 382),(.ref 383),(.ref 384),(ζi 740),(ζi 274),(ζm 741)]
def zo386:Obj:=ζf "_law_step" "_law_step" cX .none .none .none (.str "law_playboard_k13_moves" 635) none (.ref 385) .none
def zo387:Obj:=ζt #[] 0
def zo388:Obj:=ζs #[]
def zo389:Obj:=ζt #[(.str "_law_game_here" 746),(.str "_law_row_here" 747),(.str "_law_square" 748),(.str "_law_rule_here" 749),(.str "_law_side_here" 750),(.str "_law_across" 751),(.str "_law_up" 752),(.str "_law_goal" 753),(.str "_law_found" 754),(.str "_law_behind" 755)] 0
def zo390:Obj:=ζt #[] 0
def zo391:Obj:=ζr "_law_by_rule" "_law_by_rule" bS
def zo392:Obj:=ζc #[(.str "_law_by_rule" 743),(.str "_law_by_rule" 744),(ζm 745),(ζi 281),(ζi 4),ζo,ζo,(ζi 3),(.ref 387),(.bool true),(ζi 181),(.ref 388),.none,(.ref 389),(.ref 390),(.ref 391),(ζi 756),(ζi 281),(ζm 757)]
def zo393:Obj:=ζf "_law_by_rule" "_law_by_rule" bS .none .none .none (.str "law_playboard_k13_moves" 635) none (.ref 392) .none
def zo394:Obj:=ζt #[] 0
def zo395:Obj:=ζs #[]
def zo396:Obj:=ζr "_law_goals" "_law_goals" cg
def zo397:Obj:=ζc #[(.str "_law_goals" 759),(.str "_law_goals" 760),(ζm 761),(ζi 301),(ζi 3),ζo,ζo,(ζi 3),(.ref 394),(.bool true),(ζi 181),(.ref 395),.none,.none,.none,(.ref 396),(ζi 762),(ζi 301),(ζm 763)]
def zo398:Obj:=ζf "_law_goals" "_law_goals" cg .none .none .none (.str "law_playboard_k13_moves" 635) none (.ref 397) .none
def zo399:Obj:=ζt #[] 0
def zo400:Obj:=ζs #[]
def zo401:Obj:=ζr "_law_moves" "_law_moves" ce
def zo402:Obj:=ζc #[(.str "_law_moves" 765),(.str "_law_moves" 766),(ζm 767),(ζi 307),(ζi 2),ζo,ζo,(ζi 3),(.ref 399),(.bool true),(ζi 181),(.ref 400),.none,.none,.none,(.ref 401),(ζi 768),(ζi 307),(ζm 769)]
def zo403:Obj:=ζf "_law_moves" "_law_moves" ce .none .none .none (.str "law_playboard_k13_moves" 635) none (.ref 402) .none
def zo404:Obj:=ζt #[] 0
def zo405:Obj:=ζs #[]
def zo406:Obj:=ζr "_law_tuples" "_law_tuples" bO
def zo407:Obj:=ζc #[(.str "_law_tuples" 771),(.str "_law_tuples" 772),(ζm 773),(ζi 313),(ζi 2),ζo,ζo,(ζi 3),(.ref 404),(.bool true),(ζi 181),(.ref 405),.none,.none,.none,(.ref 406),(ζi 774),(ζi 313),(ζm 775)]
def zo408:Obj:=ζf "_law_tuples" "_law_tuples" bO .none .none .none (.str "law_playboard_k13_moves" 635) none (.ref 407) .none
def zo409:Obj:=ζt #[] 0
def zo410:Obj:=ζs #[]
def zo411:Obj:=ζt #[(.str "_law_game_here" 780),(.str "_law_place" 781),(.str "_law_due" 782),(.str "_law_found" 783)] 0
def zo412:Obj:=ζt #[] 0
def zo413:Obj:=ζr "_law_good" "_law_good" da
def zo414:Obj:=ζc #[(.str "_law_good" 777),(.str "_law_good" 778),(ζm 779),(ζi 320),(ζi 2),ζo,ζo,(ζi 3),(.ref 409),(.bool true),(ζi 181),(.ref 410),.none,(.ref 411),(.ref 412),(.ref 413),(ζi 784),(ζi 320),(ζm 785)]
def zo415:Obj:=ζf "_law_good" "_law_good" da .none .none .none (.str "law_playboard_k13_moves" 635) none (.ref 414) .none
def zo416:Obj:=ζt #[] 0
def zo417:Obj:=ζs #[]
def zo418:Obj:=ζr "_law_second_game" "_law_second_game" bf
def zo419:Obj:=ζc #[(.str "_law_second_game" 787),(.str "_law_second_game" 788),(ζm 789),(ζi 327),(ζi 2),ζo,ζo,(ζi 3),(.ref 416),(.bool true),(ζi 181),(.ref 417),.none,.none,.none,(.ref 418),(ζi 790),(ζi 327),(ζm 791)]
def zo420:Obj:=ζf "_law_second_game" "_law_second_game" bf .none .none .none (.str "law_playboard_k13_moves" 635) none (.ref 419) .none
def zo421:Obj:=ζt #[] 0
def zo422:Obj:=ζs #[]
def zo423:Obj:=ζt #[(.str "_law_script" 796),(.str "_law_game_here" 797),(.str "_law_other" 798),(.str "_law_rows" 799),(.str "_law_side_here" 800),(.str "_law_row_here" 801),(.str "_law_one" 802)] 0
def zo424:Obj:=ζt #[] 0
def zo425:Obj:=ζr "law" "law" im
def zo426:Obj:=ζc #[(.str "law" 793),(.str "law" 794),(ζm 795),(ζi 331),(ζi 1),ζo,ζo,(ζi 3),(.ref 421),(.bool true),(ζi 181),(.ref 422),.none,(.ref 423),(.ref 424),(.ref 425),(ζi 803),(ζi 331),(ζm 804)]
def zo427:Obj:=ζf "law" "law" im .none .none .none (.str "law_playboard_k13_moves" 635) none (.ref 426) .none
end
noncomputable def hK (P:Params):Frag:=(nat_lit 2,BZ P)::(nat_lit 3,zo3_1 P)::(nat_lit 15,zo15)::(nat_lit 17,zo17)::(nat_lit 18,zo18)::(nat_lit 20,zo20)::(nat_lit 21,zo21)::(nat_lit 22,zo22)::(nat_lit 29,zo29)::(nat_lit 30,zo30 P)::(nat_lit 31,zo31)::(nat_lit 32,zo32)::(nat_lit 35,zo35)::(nat_lit 42,zo42)::(nat_lit 43,zo43 P)::(nat_lit 44,zo44)::(nat_lit 47,zo47)::(nat_lit 54,zo54)::(nat_lit 55,zo55 P)::(nat_lit 56,zo56)::(nat_lit 59,zo59)::(nat_lit 61,zo61)::(nat_lit 62,zo62)::(nat_lit 64,zo64)::(nat_lit 65,zo65)::(nat_lit 66,zo66)::(nat_lit 68,zo68)::(nat_lit 69,zo69)::(nat_lit 71,zo71)::(nat_lit 72,zo72)::(nat_lit 73,zo73)::(nat_lit 75,zo75)::(nat_lit 76,zo76)::(nat_lit 78,zo78)::(nat_lit 79,zo79)::(nat_lit 80,zo80)::(nat_lit 81,zo81)::(nat_lit 82,zo82)::(nat_lit 83,zo83)::(nat_lit 84,zo84)::(nat_lit 86,zo86)::(nat_lit 87,zo87)::(nat_lit 89,zo89)::(nat_lit 90,zo90)::(nat_lit 91,zo91)::(nat_lit 93,zo93)::(nat_lit 94,zo94)::(nat_lit 96,zo96)::(nat_lit 97,zo97)::(nat_lit 98,zo98)::(nat_lit 100,wA)::(nat_lit 101,wz)::(nat_lit 103,wy)::(nat_lit 104,wx)::(nat_lit 105,ww)::(nat_lit 107,wv)::(nat_lit 108,wu)::(nat_lit 110,wt)::(nat_lit 111,wq)::(nat_lit 112,wp)::(nat_lit 114,wo)::(nat_lit 115,wn)::(nat_lit 117,wm)::(nat_lit 118,wl)::(nat_lit 119,wj)::(nat_lit 121,wg)::(nat_lit 122,wf)::(nat_lit 124,we)::(nat_lit 125,wd)::(nat_lit 126,wc)::(nat_lit 129,wb)::(nat_lit 130,wa)::(nat_lit 131,v9)::(nat_lit 134,v8)::(nat_lit 135,v7)::(nat_lit 136,v6)::(nat_lit 138,v5)::(nat_lit 139,v4)::(nat_lit 141,v3)::(nat_lit 142,v2)::(nat_lit 143,v1)::(nat_lit 146,vZ)::(nat_lit 147,vY)::(nat_lit 148,vX)::(nat_lit 151,vW)::(nat_lit 152,vV)::(nat_lit 153,vU)::(nat_lit 155,vT)::(nat_lit 156,vS)::(nat_lit 158,vR)::(nat_lit 159,vQ)::(nat_lit 160,vP)::(nat_lit 162,vO)::(nat_lit 163,vN)::(nat_lit 165,vM)::(nat_lit 166,vL)::(nat_lit 167,vK)::(nat_lit 170,vJ)::(nat_lit 171,vI)::(nat_lit 172,vH)::(nat_lit 174,vG)::(nat_lit 175,vF)::(nat_lit 177,vE)::(nat_lit 178,vD)::(nat_lit 179,vC)::(nat_lit 181,vB)::(nat_lit 182,vA)::(nat_lit 184,vz)::(nat_lit 185,vy)::(nat_lit 186,vx)::(nat_lit 188,vw)::(nat_lit 189,vv)::(nat_lit 191,vt)::(nat_lit 192,vq)::(nat_lit 193,vp)::(nat_lit 195,vo)::(nat_lit 196,vn)::(nat_lit 198,vm)::(nat_lit 199,vk)::(nat_lit 200,vj)::(nat_lit 202,vi)::(nat_lit 203,vh)::(nat_lit 205,vg)::(nat_lit 206,vf)::(nat_lit 207,zo207)::(nat_lit 209,zo209)::(nat_lit 210,zo210)::(nat_lit 212,zo212)::(nat_lit 213,zo213)::(nat_lit 214,zo214)::(nat_lit 216,zo216)::(nat_lit 217,zo217)::(nat_lit 219,zo219)::(nat_lit 220,zo220)::(nat_lit 221,zo221)::(nat_lit 223,zo223)::(nat_lit 224,zo224)::(nat_lit 226,zo226)::(nat_lit 227,zo227)::(nat_lit 228,zo228)::(nat_lit 231,zo231)::(nat_lit 232,zo232)::(nat_lit 233,zo233)::(nat_lit 236,zo236)::(nat_lit 237,zo237)::(nat_lit 245,zo245)::(nat_lit 248,zo248)::(nat_lit 249,zo249)::(nat_lit 250,zo250)::(nat_lit 252,zo252)::(nat_lit 253,zo253)::(nat_lit 255,zo255)::(nat_lit 256,zo256)::(nat_lit 257,zo257)::(nat_lit 260,zo260)::(nat_lit 261,zo261)::(nat_lit 262,zo262)::(nat_lit 264,zo264)::(nat_lit 265,zo265)::(nat_lit 267,zo267)::(nat_lit 268,zo268)::(nat_lit 269,zo269)::(nat_lit 271,zo271)::(nat_lit 272,zo272)::(nat_lit 274,zo274)::(nat_lit 275,zo275)::(nat_lit 276,zo276)::(nat_lit 277,zo277 P)::(nat_lit 278,zo278)::(nat_lit 279,zo279)::(nat_lit 280,zo280)::(nat_lit 290,zo290)::(nat_lit 292,zo292)::(nat_lit 293,zo293)::(nat_lit 295,zo295)::(nat_lit 296,zo296)::(nat_lit 297,zo297)::(nat_lit 300,zo300)::(nat_lit 301,zo301)::(nat_lit 302,zo302)::(nat_lit 304,zo304)::(nat_lit 305,zo305)::(nat_lit 307,zo307)::(nat_lit 308,zo308)::(nat_lit 309,zo309)::(nat_lit 310,zo310 P)::(nat_lit 311,zo311)::(nat_lit 312,zo312)::(nat_lit 313,zo313)::(nat_lit 316,zo316)::(nat_lit 318,zo318)::(nat_lit 319,zo319)::(nat_lit 321,zo321)::(nat_lit 322,zo322)::(nat_lit 323,zo323)::(nat_lit 325,zo325)::(nat_lit 326,zo326)::(nat_lit 328,zo328)::(nat_lit 329,zo329)::(nat_lit 330,zo330)::(nat_lit 332,zo332)::(nat_lit 333,zo333)::(nat_lit 335,zo335)::(nat_lit 336,zo336)::(nat_lit 337,zo337)::(nat_lit 339,zo339)::(nat_lit 340,zo340)::(nat_lit 342,zo342)::(nat_lit 343,zo343)::(nat_lit 344,zo344)::(nat_lit 347,zo347)::(nat_lit 348,zo348)::(nat_lit 349,zo349)::(nat_lit 351,zo351)::(nat_lit 352,zo352)::(nat_lit 354,zo354)::(nat_lit 355,zo355)::(nat_lit 356,zo356)::(nat_lit 359,zo359)::(nat_lit 360,zo360)::(nat_lit 361,zo361)::(nat_lit 363,zo363)::(nat_lit 364,zo364)::(nat_lit 366,zo366)::(nat_lit 367,zo367)::(nat_lit 368,zo368)::(nat_lit 371,zo371)::(nat_lit 372,zo372)::(nat_lit 373,zo373)::(nat_lit 375,zo375)::(nat_lit 376,zo376)::(nat_lit 378,zo378)::(nat_lit 379,zo379)::(nat_lit 380,zo380)::(nat_lit 382,zo382)::(nat_lit 383,zo383)::(nat_lit 385,zo385)::(nat_lit 386,zo386)::(nat_lit 387,zo387)::(nat_lit 389,zo389)::(nat_lit 390,zo390)::(nat_lit 392,zo392)::(nat_lit 393,zo393)::(nat_lit 394,zo394)::(nat_lit 397,zo397)::(nat_lit 398,zo398)::(nat_lit 399,zo399)::(nat_lit 402,zo402)::(nat_lit 403,zo403)::(nat_lit 404,zo404)::(nat_lit 407,zo407)::(nat_lit 408,zo408)::(nat_lit 409,zo409)::(nat_lit 411,zo411)::(nat_lit 412,zo412)::(nat_lit 414,zo414)::(nat_lit 415,zo415)::(nat_lit 416,zo416)::(nat_lit 419,zo419)::(nat_lit 420,zo420)::(nat_lit 421,zo421)::(nat_lit 423,zo423)::(nat_lit 424,zo424)::(nat_lit 426,zo426)::(nat_lit 427,zo427)::[]
noncomputable def hA:List Addr:=nat_lit 2::nat_lit 3::nat_lit 15::nat_lit 17::nat_lit 18::nat_lit 20::nat_lit 21::nat_lit 22::nat_lit 29::nat_lit 30::nat_lit 31::nat_lit 32::nat_lit 35::nat_lit 42::nat_lit 43::nat_lit 44::nat_lit 47::nat_lit 54::nat_lit 55::nat_lit 56::nat_lit 59::nat_lit 61::nat_lit 62::nat_lit 64::nat_lit 65::nat_lit 66::nat_lit 68::nat_lit 69::nat_lit 71::nat_lit 72::nat_lit 73::nat_lit 75::nat_lit 76::nat_lit 78::nat_lit 79::nat_lit 80::nat_lit 81::nat_lit 82::nat_lit 83::nat_lit 84::nat_lit 86::nat_lit 87::nat_lit 89::nat_lit 90::nat_lit 91::nat_lit 93::nat_lit 94::nat_lit 96::nat_lit 97::nat_lit 98::nat_lit 100::nat_lit 101::nat_lit 103::nat_lit 104::nat_lit 105::nat_lit 107::nat_lit 108::nat_lit 110::nat_lit 111::nat_lit 112::nat_lit 114::nat_lit 115::nat_lit 117::nat_lit 118::nat_lit 119::nat_lit 121::nat_lit 122::nat_lit 124::nat_lit 125::nat_lit 126::nat_lit 129::nat_lit 130::nat_lit 131::nat_lit 134::nat_lit 135::nat_lit 136::nat_lit 138::nat_lit 139::nat_lit 141::nat_lit 142::nat_lit 143::nat_lit 146::nat_lit 147::nat_lit 148::nat_lit 151::nat_lit 152::nat_lit 153::nat_lit 155::nat_lit 156::nat_lit 158::nat_lit 159::nat_lit 160::nat_lit 162::nat_lit 163::nat_lit 165::nat_lit 166::nat_lit 167::nat_lit 170::nat_lit 171::nat_lit 172::nat_lit 174::nat_lit 175::nat_lit 177::nat_lit 178::nat_lit 179::nat_lit 181::nat_lit 182::nat_lit 184::nat_lit 185::nat_lit 186::nat_lit 188::nat_lit 189::nat_lit 191::nat_lit 192::nat_lit 193::nat_lit 195::nat_lit 196::nat_lit 198::nat_lit 199::nat_lit 200::nat_lit 202::nat_lit 203::nat_lit 205::nat_lit 206::nat_lit 207::nat_lit 209::nat_lit 210::nat_lit 212::nat_lit 213::nat_lit 214::nat_lit 216::nat_lit 217::nat_lit 219::nat_lit 220::nat_lit 221::nat_lit 223::nat_lit 224::nat_lit 226::nat_lit 227::nat_lit 228::nat_lit 231::nat_lit 232::nat_lit 233::nat_lit 236::nat_lit 237::nat_lit 245::nat_lit 248::nat_lit 249::nat_lit 250::nat_lit 252::nat_lit 253::nat_lit 255::nat_lit 256::nat_lit 257::nat_lit 260::nat_lit 261::nat_lit 262::nat_lit 264::nat_lit 265::nat_lit 267::nat_lit 268::nat_lit 269::nat_lit 271::nat_lit 272::nat_lit 274::nat_lit 275::nat_lit 276::nat_lit 277::nat_lit 278::nat_lit 279::nat_lit 280::nat_lit 290::nat_lit 292::nat_lit 293::nat_lit 295::nat_lit 296::nat_lit 297::nat_lit 300::nat_lit 301::nat_lit 302::nat_lit 304::nat_lit 305::nat_lit 307::nat_lit 308::nat_lit 309::nat_lit 310::nat_lit 311::nat_lit 312::nat_lit 313::nat_lit 316::nat_lit 318::nat_lit 319::nat_lit 321::nat_lit 322::nat_lit 323::nat_lit 325::nat_lit 326::nat_lit 328::nat_lit 329::nat_lit 330::nat_lit 332::nat_lit 333::nat_lit 335::nat_lit 336::nat_lit 337::nat_lit 339::nat_lit 340::nat_lit 342::nat_lit 343::nat_lit 344::nat_lit 347::nat_lit 348::nat_lit 349::nat_lit 351::nat_lit 352::nat_lit 354::nat_lit 355::nat_lit 356::nat_lit 359::nat_lit 360::nat_lit 361::nat_lit 363::nat_lit 364::nat_lit 366::nat_lit 367::nat_lit 368::nat_lit 371::nat_lit 372::nat_lit 373::nat_lit 375::nat_lit 376::nat_lit 378::nat_lit 379::nat_lit 380::nat_lit 382::nat_lit 383::nat_lit 385::nat_lit 386::nat_lit 387::nat_lit 389::nat_lit 390::nat_lit 392::nat_lit 393::nat_lit 394::nat_lit 397::nat_lit 398::nat_lit 399::nat_lit 402::nat_lit 403::nat_lit 404::nat_lit 407::nat_lit 408::nat_lit 409::nat_lit 411::nat_lit 412::nat_lit 414::nat_lit 415::nat_lit 416::nat_lit 419::nat_lit 420::nat_lit 421::nat_lit 423::nat_lit 424::nat_lit 426::nat_lit 427::[]
noncomputable def hE:Env:={scope:=hP.main.scope,locals:=mainNs,globals:=mainNs,cells:=[],code:=(.ref 13),frame:=some 14}
noncomputable def hB:List Stmt:=PySem.W.behindTheImports hP
noncomputable abbrev hC:Code:=.body hB hE
noncomputable abbrev hN:Option Value:=(some (.ref 6))
noncomputable abbrev hF:List Frame:=[PySem.W.topFrame ⟨0,0,0,0⟩]
noncomputable def hS (w:World) (os:OsState):Shared:=⟨BW w.params,Array.mk [],PySem.W.boot_drawn,PySem.W.boot_toks,os⟩
noncomputable def hSa (w:World) (os:OsState):Shared:=(PySem.W.topGo treeTable hP w 11 hN 12 (hS w os) (PySem.W.topStub hP)).elim (hS w os) λ x=>x.1
noncomputable def hSb (w:World) (os:OsState):PySem.W.SharedT:=toT ((PySem.W.segRun treeTable hP w 11 hN 1 1 (hSa w os) (PySem.W.blockOf hB hE hC ⟨0,0,0,0⟩ hF)).elim (hSa w os) λ x=>x.2.1)
theorem hpre (w:World) (os:OsState):PySem.W.topGo treeTable hP w 11 hN 12 (hS w os) (PySem.W.topStub hP)=some (hSa w os,⟨denote treeTable hC,hC,⟨0,0,0,0⟩,hF⟩):=by kernel_rfl
theorem hblk (w:World) (os:OsState):PySem.W.segRun treeTable hP w 11 hN 1 1 (hSa w os) (PySem.W.blockOf hB hE hC ⟨0,0,0,0⟩ hF)=some (.next,(hSb w os).abs,hC,⟨0,0,0,0⟩):=by kernel_rfl
noncomputable def hL1 (P:Params):PySem.W.BT:=ζn (B4 P) (ζn (B5 P) (ζn (zo3 P) (ζn (B6 P) (ζn zo15 (ζn zo31 (ζn zo63 (ζl zo127) (ζl vt)) (ζn zo95 (ζl vQ) .nil)) (ζn zo47 (ζn zo79 (ζl v1) .nil) (ζn wq (ζl vF) .nil))) (ζn zo23 (ζn zo39 (ζn zo71 (ζl v7) (ζl vk)) (ζn wy (ζl vK) .nil)) (ζn (zo55 P) (ζn zo87 (ζl vW) .nil) (ζn wj (ζl zo183) .nil)))) (ζn zo11 (ζn zo19 (ζn zo35 (ζn zo67 (ζl v9) (ζl vo)) (ζn zo99 (ζl vN) .nil)) (ζn zo51 (ζn zo83 (ζl vY) .nil) (ζn wn (ζl vC) .nil))) (ζn zo27 (ζn (zo43 P) (ζn zo75 (ζl v4) (ζl vh)) (ζn wv (ζl vI) .nil)) (ζn zo59 (ζn zo91 (ζl vT) .nil) (ζn zo123 (ζl zo187) .nil))))) (ζn (B7 P) (ζn (B8 P) (ζn zo17 (ζn zo33 (ζn zo65 (ζl wb) (ζl vp)) (ζn zo97 (ζl zo161) .nil)) (ζn (zo49 P) (ζn zo81 (ζl zo145) .nil) (ζn zo113 (ζl vE) .nil))) (ζn zo25 (ζn zo41 (ζn zo73 (ζl zo137) (ζl zo201)) (ζn ww (ζl zo169) .nil)) (ζn zo57 (ζn zo89 (ζl vU) .nil) (ζn wg (ζl vy) .nil)))) (ζn zo13 (ζn zo21 (ζn (zo37 P) (ζn zo69 (ζl zo133) (ζl zo197)) (ζn wz (ζl vM) .nil)) (ζn zo53 (ζn zo85 (ζl zo149) .nil) (ζn wm (ζl vB) .nil))) (ζn zo29 (ζn zo45 (ζn zo77 (ζl v3) (ζl vg)) (ζn zo109 (ζl zo173) .nil)) (ζn zo61 (ζn zo93 (ζl zo157) .nil) (ζn wd (ζl vv) .nil)))))) (ζn (BZ P) (ζn (B9 P) (ζn (Ca P) (ζn zo16 (ζn zo32 (ζn zo64 (ζl zo128) (ζl vq)) (ζn zo96 (ζl vP) .nil)) (ζn zo48 (ζn zo80 (ζl zo144) .nil) (ζn wp (ζl zo176) .nil))) (ζn (zo24 P) (ζn zo40 (ζn zo72 (ζl v6) (ζl vj)) (ζn wx (ζl zo168) .nil)) (ζn zo56 (ζn zo88 (ζl vV) .nil) (ζn zo120 (ζl vz) .nil)))) (ζn zo12 (ζn zo20 (ζn zo36 (ζn zo68 (ζl zo132) (ζl vn)) (ζn wA (ζl zo164) .nil)) (ζn zo52 (ζn zo84 (ζl vX) .nil) (ζn zo116 (ζl zo180) .nil))) (ζn zo28 (ζn zo44 (ζn zo76 (ζl zo140) (ζl zo204)) (ζn wu (ζl vH) .nil)) (ζn zo60 (ζn zo92 (ζl vS) .nil) (ζn we (ζl vw) .nil))))) (ζn (Cb P) (ζn (Cc P) (ζn zo18 (ζn zo34 (ζn zo66 (ζl wa) (ζl zo194)) (ζn zo98 (ζl vO) .nil)) (ζn zo50 (ζn zo82 (ζl vZ) .nil) (ζn wo (ζl vD) .nil))) (ζn zo26 (ζn zo42 (ζn zo74 (ζl v5) (ζl vi)) (ζn zo106 (ζl vJ) .nil)) (ζn zo58 (ζn zo90 (ζl zo154) .nil) (ζn wf (ζl vx) .nil)))) (ζn zo14 (ζn zo22 (ζn zo38 (ζn zo70 (ζl v8) (ζl vm)) (ζn zo102 (ζl vL) .nil)) (ζn zo54 (ζn zo86 (ζl zo150) .nil) (ζn wl (ζl vA) .nil))) (ζn (zo30 P) (ζn zo46 (ζn zo78 (ζl v2) (ζl vf)) (ζn wt (ζl vG) .nil)) (ζn zo62 (ζn zo94 (ζl vR) .nil) (ζn wc (ζl zo190) .nil))))))
noncomputable def hG1 (w:World) (os:OsState):PySem.W.SharedT:=stT (hL1 w.params) 207 472 w.params os
noncomputable def hT1:List Stmt:=(hB.drop 0).take 43
theorem hrun1 (w:World):(λ os=>PySem.W.segRunT treeTable hP w 11 hN 1 1475 (hSb w os) ⟨(execs hT1 hE).wrap PySem.W.doneF PySem.W.deadEnd id id,hC,⟨0,0,0,0⟩,hF⟩)=λ os=>some (Flow.next,(hG1 w os),hC,⟨115,0,115,8⟩):=by
 rw [PySem.W.Fast.te10110043849684766642,PySem.W.Fast.te12563942051412417395,PySem.W.Fast.te14364793385576792824]
 kernel_rfl
noncomputable def hL2 (P:Params):PySem.W.BT:=ζn (B4 P) (ζn (B5 P) (ζn (zo3_1 P) (ζn (B6 P) (ζn zo15 (ζn zo31 (ζn zo63 (ζn zo127 (ζl zo255) (ζl zo383)) (ζn vt (ζl zo319) .nil)) (ζn zo95 (ζn vQ (ζl zo287) (ζl zo415)) (ζn zo223 (ζl zo351) .nil))) (ζn zo47 (ζn zo79 (ζn v1 (ζl zo271) (ζl zo399)) (ζn zo207 (ζl zo335) .nil)) (ζn wq (ζn vF (ζl zo303) .nil) (ζn zo239 (ζl zo367) .nil)))) (ζn zo23 (ζn zo39 (ζn zo71 (ζn v7 (ζl zo263) (ζl zo391)) (ζn vk (ζl zo327) .nil)) (ζn wy (ζn vK (ζl zo295) (ζl zo423)) (ζn zo231 (ζl zo359) .nil))) (ζn (zo55 P) (ζn zo87 (ζn vW (ζl zo279) (ζl zo407)) (ζn zo215 (ζl zo343) .nil)) (ζn wj (ζn zo183 (ζl zo311) .nil) (ζn zo247 (ζl zo375) .nil))))) (ζn zo11 (ζn zo19 (ζn zo35 (ζn zo67 (ζn v9 (ζl zo259) (ζl zo387)) (ζn vo (ζl zo323) .nil)) (ζn zo99 (ζn vN (ζl zo291) (ζl zo419)) (ζn zo227 (ζl zo355) .nil))) (ζn zo51 (ζn zo83 (ζn vY (ζl zo275) (ζl zo403)) (ζn zo211 (ζl zo339) .nil)) (ζn wn (ζn vC (ζl zo307) .nil) (ζn zo243 (ζl zo371) .nil)))) (ζn zo27 (ζn (zo43 P) (ζn zo75 (ζn v4 (ζl zo267) (ζl zo395)) (ζn vh (ζl zo331) .nil)) (ζn wv (ζn vI (ζl zo299) (ζl zo427)) (ζn zo235 (ζl zo363) .nil))) (ζn zo59 (ζn zo91 (ζn vT (ζl zo283) (ζl zo411)) (ζn zo219 (ζl zo347) .nil)) (ζn zo123 (ζn zo187 (ζl zo315) .nil) (ζn zo251 (ζl zo379) .nil)))))) (ζn (B7 P) (ζn (B8 P) (ζn zo17 (ζn zo33 (ζn zo65 (ζn wb (ζl zo257) (ζl zo385)) (ζn vp (ζl zo321) .nil)) (ζn zo97 (ζn zo161 (ζl zo289) (ζl zo417)) (ζn zo225 (ζl zo353) .nil))) (ζn (zo49 P) (ζn zo81 (ζn zo145 (ζl zo273) (ζl zo401)) (ζn zo209 (ζl zo337) .nil)) (ζn zo113 (ζn vE (ζl zo305) .nil) (ζn zo241 (ζl zo369) .nil)))) (ζn zo25 (ζn zo41 (ζn zo73 (ζn zo137 (ζl zo265) (ζl zo393)) (ζn zo201 (ζl zo329) .nil)) (ζn ww (ζn zo169 (ζl zo297) (ζl zo425)) (ζn zo233 (ζl zo361) .nil))) (ζn zo57 (ζn zo89 (ζn vU (ζl zo281) (ζl zo409)) (ζn zo217 (ζl zo345) .nil)) (ζn wg (ζn vy (ζl zo313) .nil) (ζn zo249 (ζl zo377) .nil))))) (ζn zo13 (ζn zo21 (ζn (zo37 P) (ζn zo69 (ζn zo133 (ζl zo261) (ζl zo389)) (ζn zo197 (ζl zo325) .nil)) (ζn wz (ζn vM (ζl zo293) (ζl zo421)) (ζn zo229 (ζl zo357) .nil))) (ζn zo53 (ζn zo85 (ζn zo149 (ζl (zo277 P)) (ζl zo405)) (ζn zo213 (ζl zo341) .nil)) (ζn wm (ζn vB (ζl zo309) .nil) (ζn zo245 (ζl zo373) .nil)))) (ζn zo29 (ζn zo45 (ζn zo77 (ζn v3 (ζl zo269) (ζl zo397)) (ζn vg (ζl zo333) .nil)) (ζn zo109 (ζn zo173 (ζl zo301) .nil) (ζn zo237 (ζl zo365) .nil))) (ζn zo61 (ζn zo93 (ζn zo157 (ζl (zo285 P)) (ζl zo413)) (ζn zo221 (ζl zo349) .nil)) (ζn wd (ζn vv (ζl zo317) .nil) (ζn zo253 (ζl zo381) .nil))))))) (ζn (BZ P) (ζn (B9 P) (ζn (Ca P) (ζn zo16 (ζn zo32 (ζn zo64 (ζn zo128 (ζl zo256) (ζl zo384)) (ζn vq (ζl zo320) .nil)) (ζn zo96 (ζn vP (ζl zo288) (ζl zo416)) (ζn zo224 (ζl zo352) .nil))) (ζn zo48 (ζn zo80 (ζn zo144 (ζl zo272) (ζl zo400)) (ζn zo208 (ζl zo336) .nil)) (ζn wp (ζn zo176 (ζl zo304) .nil) (ζn (zo240 P) (ζl zo368) .nil)))) (ζn (zo24 P) (ζn zo40 (ζn zo72 (ζn v6 (ζl zo264) (ζl zo392)) (ζn vj (ζl zo328) .nil)) (ζn wx (ζn zo168 (ζl zo296) (ζl zo424)) (ζn zo232 (ζl zo360) .nil))) (ζn zo56 (ζn zo88 (ζn vV (ζl zo280) (ζl zo408)) (ζn zo216 (ζl zo344) .nil)) (ζn zo120 (ζn vz (ζl zo312) .nil) (ζn zo248 (ζl zo376) .nil))))) (ζn zo12_1 (ζn zo20 (ζn zo36 (ζn zo68 (ζn zo132 (ζl zo260) (ζl zo388)) (ζn vn (ζl zo324) .nil)) (ζn wA (ζn zo164 (ζl zo292) (ζl zo420)) (ζn zo228 (ζl zo356) .nil))) (ζn zo52 (ζn zo84 (ζn vX (ζl zo276) (ζl zo404)) (ζn zo212 (ζl zo340) .nil)) (ζn zo116 (ζn zo180 (ζl zo308) .nil) (ζn zo244 (ζl zo372) .nil)))) (ζn zo28 (ζn zo44 (ζn zo76 (ζn zo140 (ζl zo268) (ζl zo396)) (ζn zo204 (ζl zo332) .nil)) (ζn wu (ζn vH (ζl zo300) .nil) (ζn zo236 (ζl zo364) .nil))) (ζn zo60 (ζn zo92 (ζn vS (ζl zo284) (ζl zo412)) (ζn zo220 (ζl zo348) .nil)) (ζn we (ζn vw (ζl zo316) .nil) (ζn zo252 (ζl zo380) .nil)))))) (ζn (Cb P) (ζn (Cc P) (ζn zo18 (ζn zo34 (ζn zo66 (ζn wa (ζl zo258) (ζl zo386)) (ζn zo194 (ζl zo322) .nil)) (ζn zo98 (ζn vO (ζl zo290) (ζl zo418)) (ζn zo226 (ζl zo354) .nil))) (ζn zo50 (ζn zo82 (ζn vZ (ζl zo274) (ζl zo402)) (ζn zo210 (ζl zo338) .nil)) (ζn wo (ζn vD (ζl zo306) .nil) (ζn zo242 (ζl zo370) .nil)))) (ζn zo26 (ζn zo42 (ζn zo74 (ζn v5 (ζl zo266) (ζl zo394)) (ζn vi (ζl zo330) .nil)) (ζn zo106 (ζn vJ (ζl zo298) (ζl zo426)) (ζn zo234 (ζl zo362) .nil))) (ζn zo58 (ζn zo90 (ζn zo154 (ζl zo282) (ζl zo410)) (ζn zo218 (ζl zo346) .nil)) (ζn wf (ζn vx (ζl zo314) .nil) (ζn zo250 (ζl zo378) .nil))))) (ζn zo14 (ζn zo22 (ζn zo38 (ζn zo70 (ζn v8 (ζl zo262) (ζl zo390)) (ζn vm (ζl zo326) .nil)) (ζn zo102 (ζn vL (ζl zo294) (ζl zo422)) (ζn zo230 (ζl zo358) .nil))) (ζn zo54 (ζn zo86 (ζn zo150 (ζl zo278) (ζl zo406)) (ζn zo214 (ζl zo342) .nil)) (ζn wl (ζn vA (ζl (zo310 P)) .nil) (ζn zo246 (ζl zo374) .nil)))) (ζn (zo30 P) (ζn zo46 (ζn zo78 (ζn v2 (ζl zo270) (ζl zo398)) (ζn vf (ζl zo334) .nil)) (ζn wt (ζn vG (ζl zo302) .nil) (ζn zo238 (ζl zo366) .nil))) (ζn zo62 (ζn zo94 (ζn vR (ζl zo286) (ζl zo414)) (ζn zo222 (ζl zo350) .nil)) (ζn wc (ζn zo190 (ζl zo318) .nil) (ζn zo254 (ζl zo382) .nil)))))))
noncomputable def hG2 (w:World) (os:OsState):PySem.W.SharedT:=stT (hL2 w.params) 428 806 w.params os
noncomputable def hT2:List Stmt:=(hB.drop 43).take 30
theorem hrun2 (w:World):(λ os=>PySem.W.segRunT treeTable hP w 11 hN 1 1382 (hG1 w os) ⟨(execs hT2 hE).wrap PySem.W.doneF PySem.W.deadEnd id id,hC,⟨115,0,115,8⟩,hF⟩)=λ os=>some (Flow.next,(hG2 w os),hC,⟨331,0,340,68⟩):=by
 rw [PySem.W.Fast.te10110043849684766642,PySem.W.Fast.te12563942051412417395,PySem.W.Fast.te14364793385576792824]
 kernel_rfl
noncomputable def hSf (tr:(String->Option Builtin)->Program->World->Nat->Option Value->Nat->Shared->Thread->Option Shared) (tb:String->Option Builtin) (w:World) (os:OsState):Shared:=
 (tr tb hP w 11 hN 2 (hG2 w os).abs ⟨PySem.W.doneF .next,hC,⟨331,0,340,68⟩,hF⟩).elim (hS w os) id
noncomputable def hX (s:Shared):Bool:=PySem.W.xlAt hQ [] s&&PySem.W.recOk (PySem.W.RowW.records PySem.Challenge.rw_playboard_k13_moves.row.toRowW) s
theorem hfin (w:World):(λ os=>PySem.W.topRun treeTable hP w 11 hN 2 (hG2 w os).abs ⟨PySem.W.doneF .next,hC,⟨331,0,340,68⟩,hF⟩)=λ os=>some (hSf PySem.W.topRun treeTable w os):=by
 rw [PySem.W.Fast.te14364793385576792824,PySem.W.Fast.te14082659384304107361]
 kernel_rfl
theorem hlook1 (w:World):(λ os=>(PySem.W.staticsOk (importedModules hP.main.body) (BW w.params) (hSf PySem.W.topRun treeTable w os).heap&&PySem.W.namesBound hP (hSf PySem.W.topRun treeTable w os).heap&&PySem.W.gensDone (hSf PySem.W.topRun treeTable w os)&&PySem.W.laidKept (BW w.params) (hSf PySem.W.topRun treeTable w os).heap))=λ os=>true:=by
 rw [PySem.W.Fast.te14364793385576792824,PySem.W.Fast.te14082659384304107361,PySem.W.Fast.te5923862056798008813]
 kernel_rfl
theorem hlook2 (w:World):(λ os=>PySem.W.openSeen hQ [] (importedModules hP.main.body) hX true (hSf PySem.W.topRun treeTable w os))=λ os=>PySem.W.openGood hQ []:=by
 rw [PySem.W.Fast.te14364793385576792824,PySem.W.Fast.te14082659384304107361,PySem.W.Fast.te4187177175401517315,PySem.W.Fast.te5923862056798008813]
 kernel_rfl
theorem hlook3 (w:World):(λ os=>tf hA (hSf PySem.W.topRun treeTable w os))=λ os=>sZ hK w:=by
 rw [PySem.W.Fast.te14364793385576792824,PySem.W.Fast.te14082659384304107361]
 kernel_rfl
theorem hBe:hB=(hT1++(hT2++[])):=by kernel_rfl
theorem hmain (w:World) (os:OsState):PySem.W.topRun treeTable hP w 11 hN (1475+(1382+2)) (hSb w os).abs (PySem.W.restOf hB hE hC ⟨0,0,0,0⟩ hF)=some (hSf PySem.W.topRun treeTable w os):=by
 have r:=PySem.W.piece_nil (env:=hE) (congrFun (hfin w) os)
 have r:=Cd (Ce (congrFun (hrun2 w) os)) r
 have r:=Cd (Ce (congrFun (hrun1 w) os)) r
 exact (congrArg (λ l=>PySem.W.topRun treeTable hP w 11 hN (1475+(1382+2)) (hSb w os).abs (PySem.W.restOf l hE hC ⟨0,0,0,0⟩ hF)) hBe).trans r
theorem hleft:PySem.W.LeftO hP hQ [] hX (tf hA) (sZ hK) 5836:=
 uE (n0:=12) (nb:=1) (n:=(1475+(1382+2))) (qp:=⟨0,0,0,0⟩) (p0:=⟨0,0,0,0⟩) (p1:=⟨0,0,0,0⟩) (H₀:=BW) (m₀:=11) (ann:=hN) (b:=hB) (env:=hE) (sa:=hSa) (sb:=hSb) (sf:=λ w os=>(hSf PySem.W.topRun treeTable w os))
  (PySem.W.boot_open (by kernel_rfl) (by decide+kernel) (λ s=>by kernel_rfl)) (λ w=>by kernel_rfl) hpre hblk hmain (by decide+kernel) (λ w os=>by rw [congrFun (hlook1 w) os,congrFun (hlook2 w) os,congrFun (hlook3 w) os])
end K13
local macro_rules | `(tactic| walk_at "rd")=> `(tactic| simp only [L2.bj,L2.iN,L2.cJ,L2.tAsg,L2.gName,L2.jR,L2.gX,L2.iH,L2.tC,L2.og,L2.dn,L2.eQ,L2.ma,L2.cOrV,L2.tN,L2.cNeg,L2.cIs,L2.cIx,L2.cSl,L2.tM,L2.jF,L2.cB,L2.bh,L2.cCs,L2.cO,L2.cSM,L2.u7,L2.dq,L2.qx,L2.tAnd,L2.tOr,L2.tIf,L2.je,L2.iI,L2.xq,L2.xf,L2.xp,L2.xc,L2.r_eq_bl,L2.r_ne_bl,L2.r_eq_nn,L2.r_ne_nn,L2.nc,L2.mW,L2.ni,L2.mY,L2.m8,L2.mT,L2.pi,L2.oU,L2.m7,L2.mS,L2.pr,L2.oW,L2.px,L2.oX,L2.na,L2.mV,L2.m9,L2.mU,L2.pj,L2.oV,L2.r_eq_rr,L2.r_ne_rr,L2.xh,L2.iV,L2.xo,L2.um,L2.xg,L2.lM,L2.pc,L2.oT,L2.ip,L2.fZ,L2.xn,L2.o8,L2.fN,L2.jy,L2.xk,L2.oY,L2.pe,L2.j6,L2.r_is_bl,L2.qP,L2.m6,L2.jA,L2.xm,L2.o4,L2.mZ,L2.jz,L2.xl,L2.oZ,L2.r_add,L2.r_adds,L2.r_addr,L2.r_sub,L2.r_mul,L2.r_fdiv,L2.r_mod,L2.r_pow,L2.r_ixs,L2.r_ixr,L2.r_sls,L2.r_slr,L2.r_lens,L2.r_lenr,L2.r_min,L2.r_str,L2.r_ints,L2.r_intb,L2.r_all,L2.r_sw,L2.xi,L2.r_up,L2.uk,L2.xj,L2.ul,L2.uj,L2.r_b,AQ,AR,An,AS,y3,Bx,Bool.not_false,Bv,if_true,if_false,decide_true,decide_false])
namespace K13
open PySem L2
noncomputable abbrev ζL (o:Value) (d:Option Addr) (a b:Str) (s:Stmt) (k c p:Value) (n:Option Addr) (e t:Value) (l:Array (Option Value)):Obj:=⟨o,d,.func (PySem.W.fnOf a b (eU s) (dX s) (ak s) .none k c p n e t),l⟩
theorem all_mk {l:PySem.W.OpenLaw}{w:World}{K:Frag}{h:Heap}{mg:Str->Option Value}{fa f1 f2 f3 f4 f5 f6 f7 f8 f9 f10 f11 f12 f13 f14 f15 f16 f17 f18 f19 f20 f21 f22 f23 f24 f25 f26 f27 f28 f29 f30 f31 f32 f33 f34 f35 f36 f37 f38 f39 f40 f41 f42 f43 f44 f45 f46 f47 f48 f49 cBoard cGame aS aA aE aW:Addr}(X:K.In h) (G:h.Ns mainGlobals mg) (hfa:mg "law"=some (.ref fa))
  {od1 an1 od2 an2 od3 an3 od4 an4 od5 an5 od6 an6 od7 an7 od8 an8 od9 an9 od10 an10 od11 an11 od12 an12 od13 an13 od14 an14 od15 an15 od16 an16 od17 an17 od18 an18 od19 an19 od20 an20 od21 an21 od22 an22 od23 an23 od24 an24 od25 an25 od26 an26 od27 an27 od28 an28 od29 an29 od30 an30 od31 an31 od32 an32 od33 an33 od34 an34 od35 an35 od36 an36 od37 an37 od38 an38 od39 an39 od40 an40 od41 an41 od42 an42 od43 an43 od44 an44 od45 an45 od46 an46 od47 an47 od48 an48 od49 an49:Option Addr} {sl1 sl2 sl3 sl4 sl5 sl6 sl7 sl8 sl9 sl10 sl11 sl12 sl13 sl14 sl15 sl16 sl17 sl18 sl19 sl20 sl21 sl22 sl23 sl24 sl25 sl26 sl27 sl28 sl29 sl30 sl31 sl32 sl33 sl34 sl35 sl36 sl37 sl38 sl39 sl40 sl41 sl42 sl43 sl44 sl45 sl46 sl47 sl48 sl49:Array (Option Value)} {oc1 kV1 dc1 pm1 cd1 ct1 oc2 kV2 dc2 pm2 cd2 ct2 oc3 kV3 dc3 pm3 cd3 ct3 oc4 kV4 dc4 pm4 cd4 ct4 oc5 kV5 dc5 pm5 cd5 ct5 oc6 kV6 dc6 pm6 cd6 ct6 oc7 kV7 dc7 pm7 cd7 ct7 oc8 kV8 dc8 pm8 cd8 ct8 oc9 kV9 dc9 pm9 cd9 ct9 oc10 kV10 dc10 pm10 cd10 ct10 oc11 kV11 dc11 pm11 cd11 ct11 oc12 kV12 dc12 pm12 cd12 ct12 oc13 kV13 dc13 pm13 cd13 ct13 oc14 kV14 dc14 pm14 cd14 ct14 oc15 kV15 dc15 pm15 cd15 ct15 oc16 kV16 dc16 pm16 cd16 ct16 oc17 kV17 dc17 pm17 cd17 ct17 oc18 kV18 dc18 pm18 cd18 ct18 oc19 kV19 dc19 pm19 cd19 ct19 oc20 kV20 dc20 pm20 cd20 ct20 oc21 kV21 dc21 pm21 cd21 ct21 oc22 kV22 dc22 pm22 cd22 ct22 oc23 kV23 dc23 pm23 cd23 ct23 oc24 kV24 dc24 pm24 cd24 ct24 oc25 kV25 dc25 pm25 cd25 ct25 oc26 kV26 dc26 pm26 cd26 ct26 oc27 kV27 dc27 pm27 cd27 ct27 oc28 kV28 dc28 pm28 cd28 ct28 oc29 kV29 dc29 pm29 cd29 ct29 oc30 kV30 dc30 pm30 cd30 ct30 oc31 kV31 dc31 pm31 cd31 ct31 oc32 kV32 dc32 pm32 cd32 ct32 oc33 kV33 dc33 pm33 cd33 ct33 oc34 kV34 dc34 pm34 cd34 ct34 oc35 kV35 dc35 pm35 cd35 ct35 oc36 kV36 dc36 pm36 cd36 ct36 oc37 kV37 dc37 pm37 cd37 ct37 oc38 kV38 dc38 pm38 cd38 ct38 oc39 kV39 dc39 pm39 cd39 ct39 oc40 kV40 dc40 pm40 cd40 ct40 oc41 kV41 dc41 pm41 cd41 ct41 oc42 kV42 dc42 pm42 cd42 ct42 oc43 kV43 dc43 pm43 cd43 ct43 oc44 kV44 dc44 pm44 cd44 ct44 oc45 kV45 dc45 pm45 cd45 ct45 oc46 kV46 dc46 pm46 cd46 ct46 oc47 kV47 dc47 pm47 cd47 ct47 oc48 kV48 dc48 pm48 cd48 ct48 oc49 kV49 dc49 pm49 cd49 ct49:Value} {u0 u1 u2 u3 u4 u5 u6:Value}
  (aCBoard:PySem.W.nsIn K mainGlobals "Board"=some (some (.ref cBoard)))
  (aCGame:PySem.W.nsIn K mainGlobals "Game"=some (some (.ref cGame)))
  (a1:PySem.W.nsIn K mainGlobals "is_whole"=some (some (.ref f1)))
  (l1:K.lookup f1=some (ζL oc1 od1 "is_whole" "is_whole" dw kV1 dc1 pm1 an1 cd1 ct1 sl1)) (c1:PySem.W.codeIn K cd1 "is_whole"=true) (k1:PySem.W.keepIn K (.ref f1)=true)
  (a2:PySem.W.nsIn K mainGlobals "is_letter"=some (some (.ref f2)))
  (l2:K.lookup f2=some (ζL oc2 od2 "is_letter" "is_letter" cV kV2 dc2 pm2 an2 cd2 ct2 sl2)) (c2:PySem.W.codeIn K cd2 "is_letter"=true) (k2:PySem.W.keepIn K (.ref f2)=true)
  (a3:PySem.W.nsIn K mainGlobals "is_among"=some (some (.ref f3)))
  (l3:K.lookup f3=some (ζL oc3 od3 "is_among" "is_among" dz kV3 dc3 pm3 an3 cd3 ct3 sl3)) (c3:PySem.W.codeIn K cd3 "is_among"=true) (k3:PySem.W.keepIn K (.ref f3)=true)
  (a4:PySem.W.nsIn K mainGlobals "is_word"=some (some (.ref f4)))
  (l4:K.lookup f4=some (ζL oc4 od4 "is_word" "is_word" d6 kV4 dc4 pm4 an4 cd4 ct4 sl4)) (c4:PySem.W.codeIn K cd4 "is_word"=true) (k4:PySem.W.keepIn K (.ref f4)=true)
  (a5:PySem.W.nsIn K mainGlobals "is_tuple_of"=some (some (.ref f5)))
  (l5:K.lookup f5=some (ζL oc5 od5 "is_tuple_of" "is_tuple_of" ck kV5 dc5 pm5 an5 cd5 ct5 sl5)) (c5:PySem.W.codeIn K cd5 "is_tuple_of"=true) (k5:PySem.W.keepIn K (.ref f5)=true)
  (a6:PySem.W.nsIn K mainGlobals "is_list_of"=some (some (.ref f6)))
  (l6:K.lookup f6=some (ζL oc6 od6 "is_list_of" "is_list_of" cD kV6 dc6 pm6 an6 cd6 ct6 sl6)) (c6:PySem.W.codeIn K cd6 "is_list_of"=true) (k6:PySem.W.keepIn K (.ref f6)=true)
  (a7:PySem.W.nsIn K mainGlobals "is_step"=some (some (.ref f7)))
  (l7:K.lookup f7=some (ζL oc7 od7 "is_step" "is_step" d7 kV7 dc7 pm7 an7 cd7 ct7 sl7)) (c7:PySem.W.codeIn K cd7 "is_step"=true) (k7:PySem.W.keepIn K (.ref f7)=true)
  (a8:PySem.W.nsIn K mainGlobals "is_rule"=some (some (.ref f8)))
  (l8:K.lookup f8=some (ζL oc8 od8 "is_rule" "is_rule" d9 kV8 dc8 pm8 an8 cd8 ct8 sl8)) (c8:PySem.W.codeIn K cd8 "is_rule"=true) (k8:PySem.W.keepIn K (.ref f8)=true)
  (a9:PySem.W.nsIn K mainGlobals "is_pair"=some (some (.ref f9)))
  (l9:K.lookup f9=some (ζL oc9 od9 "is_pair" "is_pair" eA kV9 dc9 pm9 an9 cd9 ct9 sl9)) (c9:PySem.W.codeIn K cd9 "is_pair"=true) (k9:PySem.W.keepIn K (.ref f9)=true)
  (a10:PySem.W.nsIn K mainGlobals "are_pairs"=some (some (.ref f10)))
  (l10:K.lookup f10=some (ζL oc10 od10 "are_pairs" "are_pairs" cr kV10 dc10 pm10 an10 cd10 ct10 sl10)) (c10:PySem.W.codeIn K cd10 "are_pairs"=true) (k10:PySem.W.keepIn K (.ref f10)=true)
  (a11:PySem.W.nsIn K mainGlobals "is_turns"=some (some (.ref f11)))
  (l11:K.lookup f11=some (ζL oc11 od11 "is_turns" "is_turns" cn kV11 dc11 pm11 an11 cd11 ct11 sl11)) (c11:PySem.W.codeIn K cd11 "is_turns"=true) (k11:PySem.W.keepIn K (.ref f11)=true)
  (a12:PySem.W.nsIn K mainGlobals "is_ends"=some (some (.ref f12)))
  (l12:K.lookup f12=some (ζL oc12 od12 "is_ends" "is_ends" eB kV12 dc12 pm12 an12 cd12 ct12 sl12)) (c12:PySem.W.codeIn K cd12 "is_ends"=true) (k12:PySem.W.keepIn K (.ref f12)=true)
  (a13:PySem.W.nsIn K mainGlobals "are_kinds"=some (some (.ref f13)))
  (l13:K.lookup f13=some (ζL oc13 od13 "are_kinds" "are_kinds" cu kV13 dc13 pm13 an13 cd13 ct13 sl13)) (c13:PySem.W.codeIn K cd13 "are_kinds"=true) (k13:PySem.W.keepIn K (.ref f13)=true)
  (a14:PySem.W.nsIn K mainGlobals "are_rules"=some (some (.ref f14)))
  (l14:K.lookup f14=some (ζL oc14 od14 "are_rules" "are_rules" cp kV14 dc14 pm14 an14 cd14 ct14 sl14)) (c14:PySem.W.codeIn K cd14 "are_rules"=true) (k14:PySem.W.keepIn K (.ref f14)=true)
  (a15:PySem.W.nsIn K mainGlobals "kind_of"=some (some (.ref f15)))
  (l15:K.lookup f15=some (ζL oc15 od15 "kind_of" "kind_of" d4 kV15 dc15 pm15 an15 cd15 ct15 sl15)) (c15:PySem.W.codeIn K cd15 "kind_of"=true) (k15:PySem.W.keepIn K (.ref f15)=true)
  (a16:PySem.W.nsIn K mainGlobals "side_of"=some (some (.ref f16)))
  (l16:K.lookup f16=some (ζL oc16 od16 "side_of" "side_of" dZ kV16 dc16 pm16 an16 cd16 ct16 sl16)) (c16:PySem.W.codeIn K cd16 "side_of"=true) (k16:PySem.W.keepIn K (.ref f16)=true)
  (a17:PySem.W.nsIn K mainGlobals "squares_of"=some (some (.ref f17)))
  (l17:K.lookup f17=some (ζL oc17 od17 "squares_of" "squares_of" cb kV17 dc17 pm17 an17 cd17 ct17 sl17)) (c17:PySem.W.codeIn K cd17 "squares_of"=true) (k17:PySem.W.keepIn K (.ref f17)=true)
  (a18:PySem.W.nsIn K mainGlobals "ray"=some (some (.ref f18)))
  (l18:K.lookup f18=some (ζL oc18 od18 "ray" "ray" lK kV18 dc18 pm18 an18 cd18 ct18 sl18)) (c18:PySem.W.codeIn K cd18 "ray"=true) (k18:PySem.W.keepIn K (.ref f18)=true)
  (a19:PySem.W.nsIn K mainGlobals "slid"=some (some (.ref f19)))
  (l19:K.lookup f19=some (ζL oc19 od19 "slid" "slid" iT kV19 dc19 pm19 an19 cd19 ct19 sl19)) (c19:PySem.W.codeIn K cd19 "slid"=true) (k19:PySem.W.keepIn K (.ref f19)=true)
  (a20:PySem.W.nsIn K mainGlobals "jumped"=some (some (.ref f20)))
  (l20:K.lookup f20=some (ζL oc20 od20 "jumped" "jumped" fz kV20 dc20 pm20 an20 cd20 ct20 sl20)) (c20:PySem.W.codeIn K cd20 "jumped"=true) (k20:PySem.W.keepIn K (.ref f20)=true)
  (a21:PySem.W.nsIn K mainGlobals "by_rule"=some (some (.ref f21)))
  (l21:K.lookup f21=some (ζL oc21 od21 "by_rule" "by_rule" eC kV21 dc21 pm21 an21 cd21 ct21 sl21)) (c21:PySem.W.codeIn K cd21 "by_rule"=true) (k21:PySem.W.keepIn K (.ref f21)=true)
  (a22:PySem.W.nsIn K mainGlobals "goals"=some (some (.ref f22)))
  (l22:K.lookup f22=some (ζL oc22 od22 "goals" "goals" gP kV22 dc22 pm22 an22 cd22 ct22 sl22)) (c22:PySem.W.codeIn K cd22 "goals"=true) (k22:PySem.W.keepIn K (.ref f22)=true)
  (a23:PySem.W.nsIn K mainGlobals "column_of"=some (some (.ref f23)))
  (l23:K.lookup f23=some (ζL oc23 od23 "column_of" "column_of" cW kV23 dc23 pm23 an23 cd23 ct23 sl23)) (c23:PySem.W.codeIn K cd23 "column_of"=true) (k23:PySem.W.keepIn K (.ref f23)=true)
  (a24:PySem.W.nsIn K mainGlobals "row_of"=some (some (.ref f24)))
  (l24:K.lookup f24=some (ζL oc24 od24 "row_of" "row_of" fv kV24 dc24 pm24 an24 cd24 ct24 sl24)) (c24:PySem.W.codeIn K cd24 "row_of"=true) (k24:PySem.W.keepIn K (.ref f24)=true)
  (a25:PySem.W.nsIn K mainGlobals "square_at"=some (some (.ref f25)))
  (l25:K.lookup f25=some (ζL oc25 od25 "square_at" "square_at" cU kV25 dc25 pm25 an25 cd25 ct25 sl25)) (c25:PySem.W.codeIn K cd25 "square_at"=true) (k25:PySem.W.keepIn K (.ref f25)=true)
  (a26:PySem.W.nsIn K mainGlobals "moves"=some (some (.ref f26)))
  (l26:K.lookup f26=some (ζL oc26 od26 "moves" "moves" fM kV26 dc26 pm26 an26 cd26 ct26 sl26)) (c26:PySem.W.codeIn K cd26 "moves"=true) (k26:PySem.W.keepIn K (.ref f26)=true)
  (a27:PySem.W.nsIn K mainGlobals "are_holes"=some (some (.ref f27)))
  (l27:K.lookup f27=some (ζL oc27 od27 "are_holes" "are_holes" cw kV27 dc27 pm27 an27 cd27 ct27 sl27)) (c27:PySem.W.codeIn K cd27 "are_holes"=true) (k27:PySem.W.keepIn K (.ref f27)=true)
  (a28:PySem.W.findIn K (.ref cBoard) "__init__"=some (some (.ref f28))) (iF28:PySem.W.isFn K (.ref f28)=true)
  (l28:K.lookup f28=some (ζL oc28 od28 "__init__" "Board.__init__" bu kV28 dc28 pm28 an28 cd28 ct28 sl28)) (c28:PySem.W.codeIn K cd28 "Board.__init__"=true) (k28:PySem.W.keepIn K (.ref f28)=true)
  (a29:PySem.W.findIn K (.ref cBoard) "moved"=some (some (.ref f29))) (iF29:PySem.W.isFn K (.ref f29)=true)
  (l29:K.lookup f29=some (ζL oc29 od29 "moved" "Board.moved" cm kV29 dc29 pm29 an29 cd29 ct29 sl29)) (c29:PySem.W.codeIn K cd29 "Board.moved"=true) (k29:PySem.W.keepIn K (.ref f29)=true)
  (a30:PySem.W.findIn K (.ref cGame) "__init__"=some (some (.ref f30))) (iF30:PySem.W.isFn K (.ref f30)=true)
  (l30:K.lookup f30=some (ζL oc30 od30 "__init__" "Game.__init__" bJ kV30 dc30 pm30 an30 cd30 ct30 sl30)) (c30:PySem.W.codeIn K cd30 "Game.__init__"=true) (k30:PySem.W.keepIn K (.ref f30)=true)
  (a31:PySem.W.findIn K (.ref cGame) "rules_of"=some (some (.ref f31))) (iF31:PySem.W.isFn K (.ref f31)=true)
  (l31:K.lookup f31=some (ζL oc31 od31 "rules_of" "Game.rules_of" bA kV31 dc31 pm31 an31 cd31 ct31 sl31)) (c31:PySem.W.codeIn K cd31 "Game.rules_of"=true) (k31:PySem.W.keepIn K (.ref f31)=true)
  (a32:PySem.W.nsIn K mainGlobals "_law_cell_at"=some (some (.ref f32)))
  (l32:K.lookup f32=some (ζL oc32 od32 "_law_cell_at" "_law_cell_at" bR kV32 dc32 pm32 an32 cd32 ct32 sl32)) (c32:PySem.W.codeIn K cd32 "_law_cell_at"=true) (k32:PySem.W.keepIn K (.ref f32)=true)
  (a33:PySem.W.nsIn K mainGlobals "_law_mixed"=some (some (.ref f33)))
  (l33:K.lookup f33=some (ζL oc33 od33 "_law_mixed" "_law_mixed" cF kV33 dc33 pm33 an33 cd33 ct33 sl33)) (c33:PySem.W.codeIn K cd33 "_law_mixed"=true) (k33:PySem.W.keepIn K (.ref f33)=true)
  (a34:PySem.W.nsIn K mainGlobals "_law_whole"=some (some (.ref f34)))
  (l34:K.lookup f34=some (ζL oc34 od34 "_law_whole" "_law_whole" cE kV34 dc34 pm34 an34 cd34 ct34 sl34)) (c34:PySem.W.codeIn K cd34 "_law_whole"=true) (k34:PySem.W.keepIn K (.ref f34)=true)
  (a35:PySem.W.nsIn K mainGlobals "_law_board"=some (some (.ref f35)))
  (l35:K.lookup f35=some (ζL oc35 od35 "_law_board" "_law_board" cH kV35 dc35 pm35 an35 cd35 ct35 sl35)) (c35:PySem.W.codeIn K cd35 "_law_board"=true) (k35:PySem.W.keepIn K (.ref f35)=true)
  (a36:PySem.W.nsIn K mainGlobals "_law_kinds"=some (some (.ref f36)))
  (l36:K.lookup f36=some (ζL oc36 od36 "_law_kinds" "_law_kinds" cf kV36 dc36 pm36 an36 cd36 ct36 sl36)) (c36:PySem.W.codeIn K cd36 "_law_kinds"=true) (k36:PySem.W.keepIn K (.ref f36)=true)
  (a37:PySem.W.nsIn K mainGlobals "_law_rule"=some (some (.ref f37)))
  (l37:K.lookup f37=some (ζL oc37 od37 "_law_rule" "_law_rule" cZ kV37 dc37 pm37 an37 cd37 ct37 sl37)) (c37:PySem.W.codeIn K cd37 "_law_rule"=true) (k37:PySem.W.keepIn K (.ref f37)=true)
  (a38:PySem.W.nsIn K mainGlobals "_law_turns"=some (some (.ref f38)))
  (l38:K.lookup f38=some (ζL oc38 od38 "_law_turns" "_law_turns" cc kV38 dc38 pm38 an38 cd38 ct38 sl38)) (c38:PySem.W.codeIn K cd38 "_law_turns"=true) (k38:PySem.W.keepIn K (.ref f38)=true)
  (a39:PySem.W.nsIn K mainGlobals "_law_game"=some (some (.ref f39)))
  (l39:K.lookup f39=some (ζL oc39 od39 "_law_game" "_law_game" db kV39 dc39 pm39 an39 cd39 ct39 sl39)) (c39:PySem.W.codeIn K cd39 "_law_game"=true) (k39:PySem.W.keepIn K (.ref f39)=true)
  (a40:PySem.W.nsIn K mainGlobals "_law_row"=some (some (.ref f40)))
  (l40:K.lookup f40=some (ζL oc40 od40 "_law_row" "_law_row" bP kV40 dc40 pm40 an40 cd40 ct40 sl40)) (c40:PySem.W.codeIn K cd40 "_law_row"=true) (k40:PySem.W.keepIn K (.ref f40)=true)
  (a41:PySem.W.nsIn K mainGlobals "_law_side"=some (some (.ref f41)))
  (l41:K.lookup f41=some (ζL oc41 od41 "_law_side" "_law_side" cY kV41 dc41 pm41 an41 cd41 ct41 sl41)) (c41:PySem.W.codeIn K cd41 "_law_side"=true) (k41:PySem.W.keepIn K (.ref f41)=true)
  (a42:PySem.W.nsIn K mainGlobals "_law_step"=some (some (.ref f42)))
  (l42:K.lookup f42=some (ζL oc42 od42 "_law_step" "_law_step" cX kV42 dc42 pm42 an42 cd42 ct42 sl42)) (c42:PySem.W.codeIn K cd42 "_law_step"=true) (k42:PySem.W.keepIn K (.ref f42)=true)
  (a43:PySem.W.nsIn K mainGlobals "_law_by_rule"=some (some (.ref f43)))
  (l43:K.lookup f43=some (ζL oc43 od43 "_law_by_rule" "_law_by_rule" bS kV43 dc43 pm43 an43 cd43 ct43 sl43)) (c43:PySem.W.codeIn K cd43 "_law_by_rule"=true) (k43:PySem.W.keepIn K (.ref f43)=true)
  (a44:PySem.W.nsIn K mainGlobals "_law_goals"=some (some (.ref f44)))
  (l44:K.lookup f44=some (ζL oc44 od44 "_law_goals" "_law_goals" cg kV44 dc44 pm44 an44 cd44 ct44 sl44)) (c44:PySem.W.codeIn K cd44 "_law_goals"=true) (k44:PySem.W.keepIn K (.ref f44)=true)
  (a45:PySem.W.nsIn K mainGlobals "_law_tuples"=some (some (.ref f45)))
  (l45:K.lookup f45=some (ζL oc45 od45 "_law_tuples" "_law_tuples" bO kV45 dc45 pm45 an45 cd45 ct45 sl45)) (c45:PySem.W.codeIn K cd45 "_law_tuples"=true) (k45:PySem.W.keepIn K (.ref f45)=true)
  (a46:PySem.W.nsIn K mainGlobals "_law_moves"=some (some (.ref f46)))
  (l46:K.lookup f46=some (ζL oc46 od46 "_law_moves" "_law_moves" ce kV46 dc46 pm46 an46 cd46 ct46 sl46)) (c46:PySem.W.codeIn K cd46 "_law_moves"=true) (k46:PySem.W.keepIn K (.ref f46)=true)
  (a47:PySem.W.nsIn K mainGlobals "_law_good"=some (some (.ref f47)))
  (l47:K.lookup f47=some (ζL oc47 od47 "_law_good" "_law_good" da kV47 dc47 pm47 an47 cd47 ct47 sl47)) (c47:PySem.W.codeIn K cd47 "_law_good"=true) (k47:PySem.W.keepIn K (.ref f47)=true)
  (a48:PySem.W.nsIn K mainGlobals "_law_second_game"=some (some (.ref f48)))
  (l48:K.lookup f48=some (ζL oc48 od48 "_law_second_game" "_law_second_game" bf kV48 dc48 pm48 an48 cd48 ct48 sl48)) (c48:PySem.W.codeIn K cd48 "_law_second_game"=true) (k48:PySem.W.keepIn K (.ref f48)=true)
  (a49:PySem.W.nsIn K mainGlobals "law"=some (some (.ref f49)))
  (l49:K.lookup f49=some (ζL oc49 od49 "law" "law" im kV49 dc49 pm49 an49 cd49 ct49 sl49)) (c49:PySem.W.codeIn K cd49 "law"=true) (k49:PySem.W.keepIn K (.ref f49)=true)
  (pgXBoard:PySem.W.plainGet K cBoard Str.empty=true)
  (hdXBoard:PySem.W.hasDictIn K cBoard=true)
  (poXBoard:PySem.W.plainOver K cBoard=true)
  (saXBoard:PySem.W.findIn K (.ref cBoard) "__setattr__"=some (some (.builtin "object.__setattr__")))
  (mkXBoard:PySem.W.makesIn K cBoard=true)
  (kcXBoard:PySem.W.keepIn K (.ref cBoard)=true)
  (naBoardwide:PySem.W.findIn K (.ref cBoard) "wide"=some none)
  (naBoardhigh:PySem.W.findIn K (.ref cBoard) "high"=some none)
  (naBoardholes:PySem.W.findIn K (.ref cBoard) "holes"=some none)
  (naBoardfirm:PySem.W.findIn K (.ref cBoard) "firm"=some none)
  (pgXGame:PySem.W.plainGet K cGame Str.empty=true)
  (hdXGame:PySem.W.hasDictIn K cGame=true)
  (poXGame:PySem.W.plainOver K cGame=true)
  (saXGame:PySem.W.findIn K (.ref cGame) "__setattr__"=some (some (.builtin "object.__setattr__")))
  (mkXGame:PySem.W.makesIn K cGame=true)
  (kcXGame:PySem.W.keepIn K (.ref cGame)=true)
  (naGameboard:PySem.W.findIn K (.ref cGame) "board"=some none)
  (naGamekinds:PySem.W.findIn K (.ref cGame) "kinds"=some none)
  (naGamerules:PySem.W.findIn K (.ref cGame) "rules"=some none)
  (naGameturns:PySem.W.findIn K (.ref cGame) "turns"=some none)
  (naGameends:PySem.W.findIn K (.ref cGame) "ends"=some none)
  (naGamestuck:PySem.W.findIn K (.ref cGame) "stuck"=some none)
  (z0:PySem.W.nsIn K mainGlobals "isinstance"=some none)
  (z1:PySem.W.nsIn K mainGlobals "int"=some none)
  (z2:PySem.W.nsIn K mainGlobals "bool"=some none)
  (z3:PySem.W.nsIn K mainGlobals "str"=some none)
  (z4:PySem.W.nsIn K mainGlobals "list"=some none)
  (z5:PySem.W.nsIn K mainGlobals "tuple"=some none)
  (z6:PySem.W.nsIn K mainGlobals "len"=some none)
  (z7:PySem.W.nsIn K mainGlobals "range"=some none)
  (z8:PySem.W.nsIn K mainGlobals "all"=some none)
  (z9:PySem.W.nsIn K mainGlobals "any"=some none)
  (z10:PySem.W.nsIn K mainGlobals "set"=some none)
  (z11:PySem.W.nsIn K mainGlobals "sorted"=some none)
  (z12:PySem.W.nsIn K mainGlobals "min"=some none)
  (z13:PySem.W.nsIn K mainGlobals "enumerate"=some none)
  (kg0:PySem.W.nsIn K mainGlobals "NOTHING"=some (some u0)) (rv0:aN (.int (-1)) u0)
  (kg1:PySem.W.nsIn K mainGlobals "EMPTY"=some (some u1)) (rv1:aN (.str ".") u1)
  (kg2:PySem.W.nsIn K mainGlobals "HOLE"=some (some u2)) (rv2:aN (.str "#") u2)
  (kg3:PySem.W.nsIn K mainGlobals "MOST_PAIRS"=some (some u3)) (rv3:aN (.int 6) u3)
  (kg4:PySem.W.nsIn K mainGlobals "MOST_KINDS"=some (some u4)) (rv4:aN (.int 6) u4)
  (kg5:PySem.W.nsIn K mainGlobals "MOST_RULES"=some (some u5)) (rv5:aN (.int 24) u5)
  (kg6:PySem.W.nsIn K mainGlobals "LONGEST"=some (some u6)) (rv6:aN (.int 8) u6)
  {tO0:Value} {tD0:Option Addr} {tI0:Array Value} {tN0:Nat} {tS0:Array (Option Value)} (kt0:PySem.W.nsIn K mainGlobals "SORTS"=some (some (.ref aS))) (lt0:K.lookup aS=some ⟨tO0,tD0,.seq tI0 tN0,tS0⟩) (ctp0:tO0=.type "tuple") (zt0:tI0.size<=sizeLine) (vt0:aP ([V.str "leap",V.str "slide",V.str "jump"]) tI0.toList)
  {tO1:Value} {tD1:Option Addr} {tI1:Array Value} {tN1:Nat} {tS1:Array (Option Value)} (kt1:PySem.W.nsIn K mainGlobals "AIMS"=some (some (.ref aA))) (lt1:K.lookup aA=some ⟨tO1,tD1,.seq tI1 tN1,tS1⟩) (ctp1:tO1=.type "tuple") (zt1:tI1.size<=sizeLine) (vt1:aP ([V.str "go",V.str "hit",V.str "any"]) tI1.toList)
  {tO2:Value} {tD2:Option Addr} {tI2:Array Value} {tN2:Nat} {tS2:Array (Option Value)} (kt2:PySem.W.nsIn K mainGlobals "END_WORDS"=some (some (.ref aE))) (lt2:K.lookup aE=some ⟨tO2,tD2,.seq tI2 tN2,tS2⟩) (ctp2:tO2=.type "tuple") (zt2:tI2.size<=sizeLine) (vt2:aP ([V.str "without",V.str "home"]) tI2.toList)
  {tO3:Value} {tD3:Option Addr} {tI3:Array Value} {tN3:Nat} {tS3:Array (Option Value)} (kt3:PySem.W.nsIn K mainGlobals "STUCK_WORDS"=some (some (.ref aW))) (lt3:K.lookup aW=some ⟨tO3,tD3,.seq tI3 tN3,tS3⟩) (ctp3:tO3=.type "tuple") (zt3:tI3.size<=sizeLine) (vt3:aP ([V.str "lost",V.str "even",V.str "won"]) tI3.toList):
  ∃fd:FuncData,(∀(s:Shared) (v:Value),BindsTo s fd ⟨[v],[]⟩ [("_law_script",v)])/\∀base:Heap,K.In base->base.Ns mainGlobals mg->ba l.prog w K mg base CX0 9 fa fd ["_law_script"] (sx K):=by
 have e:=hfa.symm.trans (BS X G a49)
 cases e
 have T:Txt mg aS aA aE aW:=⟨BU X G z0,BU X G z1,BU X G z2,BU X G z3,BU X G z4,BU X G z5,BU X G z6,BU X G z7,BU X G z8,BU X G z9,BU X G z10,BU X G z11,BU X G z12,BU X G z13,⟨_,BS X G kg0,rv0⟩,⟨_,BS X G kg1,rv1⟩,⟨_,BS X G kg2,rv2⟩,⟨_,BS X G kg3,rv3⟩,⟨_,BS X G kg4,rv4⟩,⟨_,BS X G kg5,rv5⟩,⟨_,BS X G kg6,rv6⟩,⟨_,BS X G kt0,rfl⟩,⟨_,BS X G kt1,rfl⟩,⟨_,BS X G kt2,rfl⟩,⟨_,BS X G kt3,rfl⟩⟩
 have hT_SORTS:∀H,gc K H aS ["leap","slide","jump"]:=λ H=>.inr (.inr ⟨_,tI0,tN0,lt0,ctp0,rfl,zt0,vt0⟩)
 have hT_AIMS:∀H,gc K H aA ["go","hit","any"]:=λ H=>.inr (.inr ⟨_,tI1,tN1,lt1,ctp1,rfl,zt1,vt1⟩)
 have hT_END_WORDS:∀H,gc K H aE ["without","home"]:=λ H=>.inr (.inr ⟨_,tI2,tN2,lt2,ctp2,rfl,zt2,vt2⟩)
 have hT_STUCK_WORDS:∀H,gc K H aW ["lost","even","won"]:=λ H=>.inr (.inr ⟨_,tI3,tN3,lt3,ctp3,rfl,zt3,vt3⟩)
 have F1:=aH (st:=dw) l1 c1 k1
 have b1:=F1.binds (ps:=["thing"]) λ _ _ _ _ _ _=>L2.ln1 (λ _=>rfl)
 have F2:=aH (st:=cV) l2 c2 k2
 have b2:=F2.binds (ps:=["thing"]) λ _ _ _ _ _ _=>L2.ln1 (λ _=>rfl)
 have F3:=aH (st:=dz) l3 c3 k3
 have b3:=F3.binds (ps:=["thing","least","most"]) λ _ _ _ _ _ _=>L2.ln3 (λ _ _ _=>rfl)
 have F4:=aH (st:=d6) l4 c4 k4
 have b4:=F4.binds (ps:=["thing","words"]) λ _ _ _ _ _ _=>L2.ln2 (λ _ _=>rfl)
 have F5:=aH (st:=ck) l5 c5 k5
 have b5:=F5.binds (ps:=["thing","many"]) λ _ _ _ _ _ _=>L2.ln2 (λ _ _=>rfl)
 have F6:=aH (st:=cD) l6 c6 k6
 have b6:=F6.binds (ps:=["thing","least","most"]) λ _ _ _ _ _ _=>L2.ln3 (λ _ _ _=>rfl)
 have F7:=aH (st:=d7) l7 c7 k7
 have b7:=F7.binds (ps:=["sort","across","up"]) λ _ _ _ _ _ _=>L2.ln3 (λ _ _ _=>rfl)
 have F8:=aH (st:=d9) l8 c8 k8
 have b8:=F8.binds (ps:=["thing","kinds"]) λ _ _ _ _ _ _=>L2.ln2 (λ _ _=>rfl)
 have F9:=aH (st:=eA) l9 c9 k9
 have b9:=F9.binds (ps:=["thing","firsts","seconds"]) λ _ _ _ _ _ _=>L2.ln3 (λ _ _ _=>rfl)
 have F10:=aH (st:=cr) l10 c10 k10
 have b10:=F10.binds (ps:=["thing","firsts","seconds"]) λ _ _ _ _ _ _=>L2.ln3 (λ _ _ _=>rfl)
 have F11:=aH (st:=cn) l11 c11 k11
 have b11:=F11.binds (ps:=["thing","kinds"]) λ _ _ _ _ _ _=>L2.ln2 (λ _ _=>rfl)
 have F12:=aH (st:=eB) l12 c12 k12
 have b12:=F12.binds (ps:=["thing","kinds"]) λ _ _ _ _ _ _=>L2.ln2 (λ _ _=>rfl)
 have F13:=aH (st:=cu) l13 c13 k13
 have b13:=F13.binds (ps:=["thing"]) λ _ _ _ _ _ _=>L2.ln1 (λ _=>rfl)
 have F14:=aH (st:=cp) l14 c14 k14
 have b14:=F14.binds (ps:=["thing","kinds"]) λ _ _ _ _ _ _=>L2.ln2 (λ _ _=>rfl)
 have F15:=aH (st:=d4) l15 c15 k15
 have b15:=F15.binds (ps:=["sign"]) λ _ _ _ _ _ _=>L2.ln1 (λ _=>rfl)
 have F16:=aH (st:=dZ) l16 c16 k16
 have b16:=F16.binds (ps:=["sign"]) λ _ _ _ _ _ _=>L2.ln1 (λ _=>rfl)
 have F17:=aH (st:=cb) l17 c17 k17
 have b17:=F17.binds (ps:=["row","side"]) λ _ _ _ _ _ _=>L2.ln2 (λ _ _=>rfl)
 have F18:=aH (st:=lK) l18 c18 k18
 have b18:=F18.binds (ps:=["board","square","across","up"]) λ _ _ _ _ _ _=>L2.ln4 (λ _ _ _ _=>rfl)
 have F19:=aH (st:=iT) l19 c19 k19
 have b19:=F19.binds (ps:=["row","side","aim","path"]) λ _ _ _ _ _ _=>L2.ln4 (λ _ _ _ _=>rfl)
 have F20:=aH (st:=fz) l20 c20 k20
 have b20:=F20.binds (ps:=["row","side","path"]) λ _ _ _ _ _ _=>L2.ln3 (λ _ _ _=>rfl)
 have F21:=aH (st:=eC) l21 c21 k21
 have b21:=F21.binds (ps:=["board","row","square","rule"]) λ _ _ _ _ _ _=>L2.ln4 (λ _ _ _ _=>rfl)
 have F22:=aH (st:=gP) l22 c22 k22
 have b22:=F22.binds (ps:=["game","row","square"]) λ _ _ _ _ _ _=>L2.ln3 (λ _ _ _=>rfl)
 have F23:=aH (st:=cW) l23 c23 k23
 have b23:=F23.binds (ps:=["wide","square"]) λ _ _ _ _ _ _=>L2.ln2 (λ _ _=>rfl)
 have F24:=aH (st:=fv) l24 c24 k24
 have b24:=F24.binds (ps:=["wide","square"]) λ _ _ _ _ _ _=>L2.ln2 (λ _ _=>rfl)
 have F25:=aH (st:=cU) l25 c25 k25
 have b25:=F25.binds (ps:=["wide","column","row"]) λ _ _ _ _ _ _=>L2.ln3 (λ _ _ _=>rfl)
 have F26:=aH (st:=fM) l26 c26 k26
 have b26:=F26.binds (ps:=["game","place"]) λ _ _ _ _ _ _=>L2.ln2 (λ _ _=>rfl)
 have F27:=aH (st:=cw) l27 c27 k27
 have b27:=F27.binds (ps:=["thing","many"]) λ _ _ _ _ _ _=>L2.ln2 (λ _ _=>rfl)
 have F28:=aH (st:=bu) l28 c28 k28
 have b28:=F28.binds (ps:=["self","wide","high","holes"]) λ _ _ _ _ _ _=>L2.ln4 (λ _ _ _ _=>rfl)
 have F29:=aH (st:=cm) l29 c29 k29
 have b29:=F29.binds (ps:=["self","square","across","up"]) λ _ _ _ _ _ _=>L2.ln4 (λ _ _ _ _=>rfl)
 have F30:=aH (st:=bJ) l30 c30 k30
 have b30:=F30.binds (ps:=["self","board","kinds","rules","turns","ends","stuck"]) λ _ _ _ _ _ _=>L2.ln7 (λ _ _ _ _ _ _ _=>rfl)
 have F31:=aH (st:=bA) l31 c31 k31
 have b31:=F31.binds (ps:=["self","kind"]) λ _ _ _ _ _ _=>L2.ln2 (λ _ _=>rfl)
 have F32:=aH (st:=bR) l32 c32 k32
 have b32:=F32.binds (ps:=["_law_script","_law_k"]) λ _ _ _ _ _ _=>L2.ln2 (λ _ _=>rfl)
 have F33:=aH (st:=cF) l33 c33 k33
 have b33:=F33.binds (ps:=["_law_cell","_law_k"]) λ _ _ _ _ _ _=>L2.ln2 (λ _ _=>rfl)
 have F34:=aH (st:=cE) l34 c34 k34
 have b34:=F34.binds (ps:=["_law_thing"]) λ _ _ _ _ _ _=>L2.ln1 (λ _=>rfl)
 have F35:=aH (st:=cH) l35 c35 k35
 have b35:=F35.binds (ps:=["_law_script"]) λ _ _ _ _ _ _=>L2.ln1 (λ _=>rfl)
 have F36:=aH (st:=cf) l36 c36 k36
 have b36:=F36.binds (ps:=["_law_cell"]) λ _ _ _ _ _ _=>L2.ln1 (λ _=>rfl)
 have F37:=aH (st:=cZ) l37 c37 k37
 have b37:=F37.binds (ps:=["_law_cell","_law_kinds_here"]) λ _ _ _ _ _ _=>L2.ln2 (λ _ _=>rfl)
 have F38:=aH (st:=cc) l38 c38 k38
 have b38:=F38.binds (ps:=["_law_cell","_law_kinds_here"]) λ _ _ _ _ _ _=>L2.ln2 (λ _ _=>rfl)
 have F39:=aH (st:=db) l39 c39 k39
 have b39:=F39.binds (ps:=["_law_script"]) λ _ _ _ _ _ _=>L2.ln1 (λ _=>rfl)
 have F40:=aH (st:=bP) l40 c40 k40
 have b40:=F40.binds (ps:=["_law_script","_law_game_here","_law_start"]) λ _ _ _ _ _ _=>L2.ln3 (λ _ _ _=>rfl)
 have F41:=aH (st:=cY) l41 c41 k41
 have b41:=F41.binds (ps:=["_law_sign"]) λ _ _ _ _ _ _=>L2.ln1 (λ _=>rfl)
 have F42:=aH (st:=cX) l42 c42 k42
 have b42:=F42.binds (ps:=["_law_game_here","_law_square","_law_across","_law_up"]) λ _ _ _ _ _ _=>L2.ln4 (λ _ _ _ _=>rfl)
 have F43:=aH (st:=bS) l43 c43 k43
 have b43:=F43.binds (ps:=["_law_game_here","_law_row_here","_law_square","_law_rule_here"]) λ _ _ _ _ _ _=>L2.ln4 (λ _ _ _ _=>rfl)
 have F44:=aH (st:=cg) l44 c44 k44
 have b44:=F44.binds (ps:=["_law_game_here","_law_row_here","_law_square"]) λ _ _ _ _ _ _=>L2.ln3 (λ _ _ _=>rfl)
 have F45:=aH (st:=bO) l45 c45 k45
 have b45:=F45.binds (ps:=["_law_found","_law_due"]) λ _ _ _ _ _ _=>L2.ln2 (λ _ _=>rfl)
 have F46:=aH (st:=ce) l46 c46 k46
 have b46:=F46.binds (ps:=["_law_game_here","_law_place"]) λ _ _ _ _ _ _=>L2.ln2 (λ _ _=>rfl)
 have F47:=aH (st:=da) l47 c47 k47
 have b47:=F47.binds (ps:=["_law_game_here","_law_place"]) λ _ _ _ _ _ _=>L2.ln2 (λ _ _=>rfl)
 have F48:=aH (st:=bf) l48 c48 k48
 have b48:=F48.binds (ps:=["_law_script","_law_game_here"]) λ _ _ _ _ _ _=>L2.ln2 (λ _ _=>rfl)
 have F49:=aH (st:=im) l49 c49 k49
 have b49:=F49.binds (ps:=["_law_script"]) λ _ _ _ _ _ _=>L2.ln1 (λ _=>rfl)
 have cl_Board:Cls K cBoard:=⟨pgXBoard,hdXBoard,poXBoard,saXBoard⟩
 have cl_Game:Cls K cGame:=⟨pgXGame,hdXGame,poXGame,saXGame⟩
 refine ⟨PySem.W.fnOf "law" "law" (eU im) (dX im) (ak im) .none kV49 dc49 pm49 an49 cd49 ct49,λ s v=>.of_eq rfl,λ base _ _=>?_⟩
 have C_is_whole:Cal l.prog w K mg base "is_whole" _ _ _:=⟨f1,_,pD F1 T,BS X G a1,F1.kp,b1⟩
 have C_is_letter:Cal l.prog w K mg base "is_letter" _ _ _:=⟨f2,_,nE F2 T,BS X G a2,F2.kp,b2⟩
 have C_is_among:Cal l.prog w K mg base "is_among" _ _ _:=⟨f3,_,pF F3 T ⟨C_is_whole⟩,BS X G a3,F3.kp,b3⟩
 have C_is_word:Cal l.prog w K mg base "is_word" _ _ _:=⟨f4,_,qV F4 T,BS X G a4,F4.kp,b4⟩
 have C_is_tuple_of:Cal l.prog w K mg base "is_tuple_of" _ _ _:=⟨f5,_,j9 F5 T,BS X G a5,F5.kp,b5⟩
 have C_is_list_of:Cal l.prog w K mg base "is_list_of" _ _ _:=⟨f6,_,la F6 T,BS X G a6,F6.kp,b6⟩
 have C_is_step:Cal l.prog w K mg base "is_step" _ _ _:=⟨f7,_,qW F7 T ⟨C_is_among⟩,BS X G a7,F7.kp,b7⟩
 have R2:RG2 l.prog w K mg base:=⟨C_is_word,C_is_tuple_of⟩
 have R3:RG3 l.prog w K mg base:={toRG2:=R2,is_step:=C_is_step}
 have C_is_rule:Cal l.prog w K mg base "is_rule" _ _ _:=⟨f8,_,qX F8 T hT_SORTS hT_AIMS R3,BS X G a8,F8.kp,b8⟩
 have C_is_pair:Cal l.prog w K mg base "is_pair" _ _ _:=⟨f9,_,qY F9 T R2,BS X G a9,F9.kp,b9⟩
 have C_are_pairs:Cal l.prog w K mg base "are_pairs" _ _ _:=⟨f10,_,nH F10 T ⟨C_is_list_of,C_is_pair⟩,BS X G a10,F10.kp,b10⟩
 have C_is_ends:Cal l.prog w K mg base "is_ends" _ _ _:=⟨f12,_,qZ F12 T hT_END_WORDS ⟨C_are_pairs⟩,BS X G a12,F12.kp,b12⟩
 have C_is_turns:Cal l.prog w K mg base "is_turns" _ _ _:=⟨f11,_,pE F11 T ⟨C_are_pairs⟩,BS X G a11,F11.kp,b11⟩
 have G1:GG1 l.prog w K mg base:=⟨C_is_list_of,C_is_letter,C_is_rule⟩
 have C_are_kinds:Cal l.prog w K mg base "are_kinds" _ _ _:=⟨f13,_,nI F13 T G1,BS X G a13,F13.kp,b13⟩
 have C_are_rules:Cal l.prog w K mg base "are_rules" _ _ _:=⟨f14,_,nG F14 T G1,BS X G a14,F14.kp,b14⟩
 have G2:GG2 l.prog w K mg base:=⟨C_are_kinds,C_are_rules,C_is_turns,C_is_ends,C_is_word⟩
 have GC:GmC K cGame:=⟨cl_Game,naGameboard,naGamekinds,naGamerules,naGameturns,naGameends,naGamestuck⟩
 have C_Game:kR l.prog w K mg base "Game" cGame _ _ _:=⟨f30,_,⟨mkXGame,a30,iF30,kcXGame⟩,nQ F30 T hT_STUCK_WORDS GC G2,BS X G aCGame,b30⟩
 have DA:CA l.prog w K mg base:=⟨amI_of C_is_among⟩
 have C_are_holes:Cal l.prog w K mg base "are_holes" _ _ _:=⟨f27,_,nJ F27 T DA,BS X G a27,F27.kp,b27⟩
 have DB2:CB2 l.prog w K mg base:={toCA:=DA,are_holes:=C_are_holes}
 have BC:kS K cBoard:=⟨cl_Board,naBoardwide,naBoardhigh,naBoardholes,naBoardfirm⟩
 have C_Board:kR l.prog w K mg base "Board" cBoard _ _ _:=⟨f28,_,⟨mkXBoard,a28,iF28,kcXBoard⟩,lj F28 T BC DB2,BS X G aCBoard,b28⟩
 have C_column_of:Cal l.prog w K mg base "column_of" _ _ _:=⟨f23,_,nF F23 T,BS X G a23,F23.kp,b23⟩
 have C_row_of:Cal l.prog w K mg base "row_of" _ _ _:=⟨f24,_,uz F24 T,BS X G a24,F24.kp,b24⟩
 have C_square_at:Cal l.prog w K mg base "square_at" _ _ _:=⟨f25,_,nB F25 T,BS X G a25,F25.kp,b25⟩
 have C_Board_moved:y0 l.prog w K mg base cBoard "moved" _ _ _:=⟨⟨f29,_,ke F29 T BC ⟨C_column_of,C_row_of,C_square_at⟩,⟨a29,iF29,k29⟩,b29⟩,cl_Board⟩
 have DB3:CB3 l.prog w K mg base cBoard:={toCB2:=DB2,Board:=C_Board,Board_moved:=C_Board_moved}
 have C_ray:Cal l.prog w K mg base "ray" _ _ _:=⟨f18,_,ok_ray F18 T BC DB3,BS X G a18,F18.kp,b18⟩
 have C_kind_of:Cal l.prog w K mg base "kind_of" _ _ _:=⟨f15,_,qU F15 T,BS X G a15,F15.kp,b15⟩
 have C_side_of:Cal l.prog w K mg base "side_of" _ _ _:=⟨f16,_,qT F16 T,BS X G a16,F16.kp,b16⟩
 have C_squares_of:Cal l.prog w K mg base "squares_of" _ _ _:=⟨f17,_,kZ F17 T ⟨C_side_of⟩,BS X G a17,F17.kp,b17⟩
 have S1:CRs l.prog w K mg base:=⟨C_side_of⟩
 have C_slid:Cal l.prog w K mg base "slid" _ _ _:=⟨f19,_,ok_slid F19 T S1,BS X G a19,F19.kp,b19⟩
 have C_jumped:Cal l.prog w K mg base "jumped" _ _ _:=⟨f20,_,uA F20 T S1,BS X G a20,F20.kp,b20⟩
 have S2:CRb l.prog w K mg base cBoard:={toCRs:=S1,ray:=C_ray,jumped:=C_jumped,slid:=C_slid}
 have C_by_rule:Cal l.prog w K mg base "by_rule" _ _ _:=⟨f21,_,q8 F21 T S2,BS X G a21,F21.kp,b21⟩
 have C_Game_rules_of:y0 l.prog w K mg base cGame "rules_of" _ _ _:=⟨⟨f31,_,iY F31 T GC,⟨a31,iF31,k31⟩,b31⟩,cl_Game⟩
 have C_goals:Cal l.prog w K mg base "goals" _ _ _:=⟨f22,_,xD F22 T GC ⟨C_kind_of,C_by_rule,C_Game_rules_of⟩,BS X G a22,F22.kp,b22⟩
 have C_moves:Cal l.prog w K mg base "moves" _ _ _:=⟨f26,_,xC F26 T ⟨C_squares_of,C_goals⟩,BS X G a26,F26.kp,b26⟩
 have C__law_cell_at:Cal l.prog w K mg base "_law_cell_at" _ _ _:=⟨f32,_,jB F32 T,BS X G a32,F32.kp,b32⟩
 have C__law_mixed:Cal l.prog w K mg base "_law_mixed" _ _ _:=⟨f33,_,lf F33 T,BS X G a33,F33.kp,b33⟩
 have C__law_whole:Cal l.prog w K mg base "_law_whole" _ _ _:=⟨f34,_,lb F34 T,BS X G a34,F34.kp,b34⟩
 have LG:LG1 l.prog w K mg base:=⟨C__law_cell_at,C__law_mixed⟩
 have C__law_board:Cal l.prog w K mg base "_law_board" _ _ _:=⟨f35,_,li F35 T LG,BS X G a35,F35.kp,b35⟩
 have C__law_kinds:Cal l.prog w K mg base "_law_kinds" _ _ _:=⟨f36,_,lg F36 T,BS X G a36,F36.kp,b36⟩
 have C__law_rule:Cal l.prog w K mg base "_law_rule" _ _ _:=⟨f37,_,nN F37 T,BS X G a37,F37.kp,b37⟩
 have C__law_turns:Cal l.prog w K mg base "_law_turns" _ _ _:=⟨f38,_,lc F38 T,BS X G a38,F38.kp,b38⟩
 have LGG:LGg l.prog w K mg base cBoard cGame:={toLG1:=LG,_law_board:=C__law_board,_law_kinds:=C__law_kinds,_law_rule:=C__law_rule,_law_turns:=C__law_turns,Board:=C_Board,Game:=C_Game}
 have C__law_game:Cal l.prog w K mg base "_law_game" _ _ _:=⟨f39,_,nP F39 T LGG,BS X G a39,F39.kp,b39⟩
 have C__law_row:Cal l.prog w K mg base "_law_row" _ _ _:=⟨f40,_,pG F40 T BC GC LG,BS X G a40,F40.kp,b40⟩
 have C__law_side:Cal l.prog w K mg base "_law_side" _ _ _:=⟨f41,_,nM F41 T,BS X G a41,F41.kp,b41⟩
 have C__law_step:Cal l.prog w K mg base "_law_step" _ _ _:=⟨f42,_,nK F42 T BC GC,BS X G a42,F42.kp,b42⟩
 have C__law_by_rule:Cal l.prog w K mg base "_law_by_rule" _ _ _:=⟨f43,_,jC F43 T ⟨C__law_side,C__law_step⟩,BS X G a43,F43.kp,b43⟩
 have C__law_goals:Cal l.prog w K mg base "_law_goals" _ _ _:=⟨f44,_,lh F44 T GC ⟨C__law_by_rule⟩,BS X G a44,F44.kp,b44⟩
 have C__law_tuples:Cal l.prog w K mg base "_law_tuples" _ _ _:=⟨f45,_,kb F45 T ⟨C__law_whole⟩,BS X G a45,F45.kp,b45⟩
 have C__law_moves:Cal l.prog w K mg base "_law_moves" _ _ _:=⟨f46,_,ld F46 T ⟨C__law_side,C__law_goals⟩,BS X G a46,F46.kp,b46⟩
 have C__law_good:Cal l.prog w K mg base "_law_good" _ _ _:=⟨f47,_,nO F47 T ⟨C__law_moves,C_moves,C__law_tuples⟩,BS X G a47,F47.kp,b47⟩
 have LQ:CLq l.prog w K mg base cBoard cGame:={toLG1:=LG,_law_rule:=C__law_rule,Game:=C_Game}
 have C__law_second_game:Cal l.prog w K mg base "_law_second_game" _ _ _:=⟨f48,_,gU F48 T GC LQ,BS X G a48,F48.kp,b48⟩
 have C:CL l.prog w K mg base cBoard cGame:={toLG1:=LG,_law_game:=C__law_game,_law_row:=C__law_row,_law_second_game:=C__law_second_game,_law_good:=C__law_good}
 exact ok_law F49 T BC GC C
theorem walk {l:PySem.W.OpenLaw}{q:Program}{loose:List Str}{XP:(Str->Option Value)->Heap->Prop}{YP:World->Heap->Prop}{d:DefRec}{K:Params->Frag}(hn:l.most=some 63) (hdf:d.params.defaults=[])
  (hY:∀(w:World) (h:Heap),YP w h->(K w.params).In h)
  (F:∀(w:World) (mg:Str->Option Value) (fa:Addr) (h:Heap),(K w.params).In h->h.Ns mainGlobals mg->mg d.name=some (.ref fa)->
   ∃fd:FuncData,(∀(s:Shared) (u:Value),BindsTo s fd ⟨[u],[]⟩ [("_law_script",u)])/\∀base:Heap,(K w.params).In base->base.Ns mainGlobals mg->ba l.prog w (K w.params) mg base CX0 9 fa fd ["_law_script"] (sx (K w.params))):
  PySem.W.WalkO q loose XP YP l.row.toRowW d [] (λ f vs=>PySem.call f vs):=
 L2.walk_of (n:=63) (k:=9) (x:="_law_script") (CX:=λ _=>CX0) (sp:=λ w=>sx (K w.params)) hn (by decide) hdf ⟨rfl,by decide,by decide⟩ hY F (λ _ _ a ns hl _ hS=>⟨a,ns,rfl,hS,hl,λ _=>rfl⟩) λ _ _ _ _ _ z=>z
end K13
open PySem PySem.W PyProof.Rows
set_option maxRecDepth 100000 in
set_option maxHeartbeats 0 in
theorem PySem.Challenge.cw_playboard_k13_moves_holds : PySem.Challenge.rw_playboard_k13_moves.Holds := by
 w_on
 o_law
 refine PySem.W.holds_openX (q:=K13.hQ) (loose:=[]) (Xt:=K13.hX) (XP:=PySem.W.XL K13.hQ []) (Yf:=L2.tf K13.hA) (Ya:=L2.sZ K13.hK) K13.hleft (λ s e=>PySem.W.xl_of s (BG.mp e).1) PySem.W.XL.keeps (by rfl) (by rfl) (by rfl) (λ s e=>PySem.W.recFacts_of (BG.mp e).2) (by rfl) (by first | assumption | decide+kernel) (by decide+kernel) ⟨rfl,rfl,rfl,rfl,rfl,by decide+kernel⟩ ?hw ?hc
 (case hw=>w_witness2)
 k_fill
 refine L2.wE (L2.hookY (λ _=>by kernel_rfl)) ?_
 refine K13.walk (l:=PySem.Challenge.rw_playboard_k13_moves) rfl rfl (λ w h Y=>Y) ?F
 case F=>
  intro w mg fa h KX G hmg
  refine' K13.all_mk KX G hmg ?aCBoard ?aCGame ?a1 ?l1 ?c1 ?k1 ?a2 ?l2 ?c2 ?k2 ?a3 ?l3 ?c3 ?k3 ?a4 ?l4 ?c4 ?k4 ?a5 ?l5 ?c5 ?k5 ?a6 ?l6 ?c6 ?k6 ?a7 ?l7 ?c7 ?k7 ?a8 ?l8 ?c8 ?k8 ?a9 ?l9 ?c9 ?k9 ?a10 ?l10 ?c10 ?k10 ?a11 ?l11 ?c11 ?k11 ?a12 ?l12 ?c12 ?k12 ?a13 ?l13 ?c13 ?k13 ?a14 ?l14 ?c14 ?k14 ?a15 ?l15 ?c15 ?k15 ?a16 ?l16 ?c16 ?k16 ?a17 ?l17 ?c17 ?k17 ?a18 ?l18 ?c18 ?k18 ?a19 ?l19 ?c19 ?k19 ?a20 ?l20 ?c20 ?k20 ?a21 ?l21 ?c21 ?k21 ?a22 ?l22 ?c22 ?k22 ?a23 ?l23 ?c23 ?k23 ?a24 ?l24 ?c24 ?k24 ?a25 ?l25 ?c25 ?k25 ?a26 ?l26 ?c26 ?k26 ?a27 ?l27 ?c27 ?k27 ?a28 ?iF28 ?l28 ?c28 ?k28 ?a29 ?iF29 ?l29 ?c29 ?k29 ?a30 ?iF30 ?l30 ?c30 ?k30 ?a31 ?iF31 ?l31 ?c31 ?k31 ?a32 ?l32 ?c32 ?k32 ?a33 ?l33 ?c33 ?k33 ?a34 ?l34 ?c34 ?k34 ?a35 ?l35 ?c35 ?k35 ?a36 ?l36 ?c36 ?k36 ?a37 ?l37 ?c37 ?k37 ?a38 ?l38 ?c38 ?k38 ?a39 ?l39 ?c39 ?k39 ?a40 ?l40 ?c40 ?k40 ?a41 ?l41 ?c41 ?k41 ?a42 ?l42 ?c42 ?k42 ?a43 ?l43 ?c43 ?k43 ?a44 ?l44 ?c44 ?k44 ?a45 ?l45 ?c45 ?k45 ?a46 ?l46 ?c46 ?k46 ?a47 ?l47 ?c47 ?k47 ?a48 ?l48 ?c48 ?k48 ?a49 ?l49 ?c49 ?k49 ?pgXBoard ?hdXBoard ?poXBoard ?saXBoard ?mkXBoard ?kcXBoard ?naBoardwide ?naBoardhigh ?naBoardholes ?naBoardfirm ?pgXGame ?hdXGame ?poXGame ?saXGame ?mkXGame ?kcXGame ?naGameboard ?naGamekinds ?naGamerules ?naGameturns ?naGameends ?naGamestuck ?z0 ?z1 ?z2 ?z3 ?z4 ?z5 ?z6 ?z7 ?z8 ?z9 ?z10 ?z11 ?z12 ?z13 ?kg0 ?rv0 ?kg1 ?rv1 ?kg2 ?rv2 ?kg3 ?rv3 ?kg4 ?rv4 ?kg5 ?rv5 ?kg6 ?rv6 ?kt0 ?lt0 ?ctp0 ?zt0 ?vt0 ?kt1 ?lt1 ?ctp1 ?zt1 ?vt1 ?kt2 ?lt2 ?ctp2 ?zt2 ?vt2 ?kt3 ?lt3 ?ctp3 ?zt3 ?vt3
  (case aCBoard=>k_is)
  (case aCGame=>k_is)
  (case a1=>k_is)
  (case l1=>k_is)
  (case c1=>k_is)
  (case k1=>k_is)
  (case a2=>k_is)
  (case l2=>k_is)
  (case c2=>k_is)
  (case k2=>k_is)
  (case a3=>k_is)
  (case l3=>k_is)
  (case c3=>k_is)
  (case k3=>k_is)
  (case a4=>k_is)
  (case l4=>k_is)
  (case c4=>k_is)
  (case k4=>k_is)
  (case a5=>k_is)
  (case l5=>k_is)
  (case c5=>k_is)
  (case k5=>k_is)
  (case a6=>k_is)
  (case l6=>k_is)
  (case c6=>k_is)
  (case k6=>k_is)
  (case a7=>k_is)
  (case l7=>k_is)
  (case c7=>k_is)
  (case k7=>k_is)
  (case a8=>k_is)
  (case l8=>k_is)
  (case c8=>k_is)
  (case k8=>k_is)
  (case a9=>k_is)
  (case l9=>k_is)
  (case c9=>k_is)
  (case k9=>k_is)
  (case a10=>k_is)
  (case l10=>k_is)
  (case c10=>k_is)
  (case k10=>k_is)
  (case a11=>k_is)
  (case l11=>k_is)
  (case c11=>k_is)
  (case k11=>k_is)
  (case a12=>k_is)
  (case l12=>k_is)
  (case c12=>k_is)
  (case k12=>k_is)
  (case a13=>k_is)
  (case l13=>k_is)
  (case c13=>k_is)
  (case k13=>k_is)
  (case a14=>k_is)
  (case l14=>k_is)
  (case c14=>k_is)
  (case k14=>k_is)
  (case a15=>k_is)
  (case l15=>k_is)
  (case c15=>k_is)
  (case k15=>k_is)
  (case a16=>k_is)
  (case l16=>k_is)
  (case c16=>k_is)
  (case k16=>k_is)
  (case a17=>k_is)
  (case l17=>k_is)
  (case c17=>k_is)
  (case k17=>k_is)
  (case a18=>k_is)
  (case l18=>k_is)
  (case c18=>k_is)
  (case k18=>k_is)
  (case a19=>k_is)
  (case l19=>k_is)
  (case c19=>k_is)
  (case k19=>k_is)
  (case a20=>k_is)
  (case l20=>k_is)
  (case c20=>k_is)
  (case k20=>k_is)
  (case a21=>k_is)
  (case l21=>k_is)
  (case c21=>k_is)
  (case k21=>k_is)
  (case a22=>k_is)
  (case l22=>k_is)
  (case c22=>k_is)
  (case k22=>k_is)
  (case a23=>k_is)
  (case l23=>k_is)
  (case c23=>k_is)
  (case k23=>k_is)
  (case a24=>k_is)
  (case l24=>k_is)
  (case c24=>k_is)
  (case k24=>k_is)
  (case a25=>k_is)
  (case l25=>k_is)
  (case c25=>k_is)
  (case k25=>k_is)
  (case a26=>k_is)
  (case l26=>k_is)
  (case c26=>k_is)
  (case k26=>k_is)
  (case a27=>k_is)
  (case l27=>k_is)
  (case c27=>k_is)
  (case k27=>k_is)
  (case a28=>k_is)
  (case iF28=>k_is)
  (case l28=>k_is)
  (case c28=>k_is)
  (case k28=>k_is)
  (case a29=>k_is)
  (case iF29=>k_is)
  (case l29=>k_is)
  (case c29=>k_is)
  (case k29=>k_is)
  (case a30=>k_is)
  (case iF30=>k_is)
  (case l30=>k_is)
  (case c30=>k_is)
  (case k30=>k_is)
  (case a31=>k_is)
  (case iF31=>k_is)
  (case l31=>k_is)
  (case c31=>k_is)
  (case k31=>k_is)
  (case a32=>k_is)
  (case l32=>k_is)
  (case c32=>k_is)
  (case k32=>k_is)
  (case a33=>k_is)
  (case l33=>k_is)
  (case c33=>k_is)
  (case k33=>k_is)
  (case a34=>k_is)
  (case l34=>k_is)
  (case c34=>k_is)
  (case k34=>k_is)
  (case a35=>k_is)
  (case l35=>k_is)
  (case c35=>k_is)
  (case k35=>k_is)
  (case a36=>k_is)
  (case l36=>k_is)
  (case c36=>k_is)
  (case k36=>k_is)
  (case a37=>k_is)
  (case l37=>k_is)
  (case c37=>k_is)
  (case k37=>k_is)
  (case a38=>k_is)
  (case l38=>k_is)
  (case c38=>k_is)
  (case k38=>k_is)
  (case a39=>k_is)
  (case l39=>k_is)
  (case c39=>k_is)
  (case k39=>k_is)
  (case a40=>k_is)
  (case l40=>k_is)
  (case c40=>k_is)
  (case k40=>k_is)
  (case a41=>k_is)
  (case l41=>k_is)
  (case c41=>k_is)
  (case k41=>k_is)
  (case a42=>k_is)
  (case l42=>k_is)
  (case c42=>k_is)
  (case k42=>k_is)
  (case a43=>k_is)
  (case l43=>k_is)
  (case c43=>k_is)
  (case k43=>k_is)
  (case a44=>k_is)
  (case l44=>k_is)
  (case c44=>k_is)
  (case k44=>k_is)
  (case a45=>k_is)
  (case l45=>k_is)
  (case c45=>k_is)
  (case k45=>k_is)
  (case a46=>k_is)
  (case l46=>k_is)
  (case c46=>k_is)
  (case k46=>k_is)
  (case a47=>k_is)
  (case l47=>k_is)
  (case c47=>k_is)
  (case k47=>k_is)
  (case a48=>k_is)
  (case l48=>k_is)
  (case c48=>k_is)
  (case k48=>k_is)
  (case a49=>k_is)
  (case l49=>k_is)
  (case c49=>k_is)
  (case k49=>k_is)
  (case pgXBoard=>k_is)
  (case hdXBoard=>k_is)
  (case poXBoard=>k_is)
  (case saXBoard=>k_is)
  (case mkXBoard=>k_is)
  (case kcXBoard=>k_is)
  (case naBoardwide=>k_is)
  (case naBoardhigh=>k_is)
  (case naBoardholes=>k_is)
  (case naBoardfirm=>k_is)
  (case pgXGame=>k_is)
  (case hdXGame=>k_is)
  (case poXGame=>k_is)
  (case saXGame=>k_is)
  (case mkXGame=>k_is)
  (case kcXGame=>k_is)
  (case naGameboard=>k_is)
  (case naGamekinds=>k_is)
  (case naGamerules=>k_is)
  (case naGameturns=>k_is)
  (case naGameends=>k_is)
  (case naGamestuck=>k_is)
  (case z0=>k_is)
  (case z1=>k_is)
  (case z2=>k_is)
  (case z3=>k_is)
  (case z4=>k_is)
  (case z5=>k_is)
  (case z6=>k_is)
  (case z7=>k_is)
  (case z8=>k_is)
  (case z9=>k_is)
  (case z10=>k_is)
  (case z11=>k_is)
  (case z12=>k_is)
  (case z13=>k_is)
  (case kg0=>k_is)
  (case rv0=>exact ⟨_,rfl⟩)
  (case kg1=>k_is)
  (case rv1=>exact ⟨_,rfl⟩)
  (case kg2=>k_is)
  (case rv2=>exact ⟨_,rfl⟩)
  (case kg3=>k_is)
  (case rv3=>exact ⟨_,rfl⟩)
  (case kg4=>k_is)
  (case rv4=>exact ⟨_,rfl⟩)
  (case kg5=>k_is)
  (case rv5=>exact ⟨_,rfl⟩)
  (case kg6=>k_is)
  (case rv6=>exact ⟨_,rfl⟩)
  (case kt0=>k_is)
  (case lt0=>k_is)
  (case ctp0=>rfl)
  (case zt0=>decide)
  (case vt0=>exact .cons ⟨_,rfl⟩ (.cons ⟨_,rfl⟩ (.cons ⟨_,rfl⟩ (.nil))))
  (case kt1=>k_is)
  (case lt1=>k_is)
  (case ctp1=>rfl)
  (case zt1=>decide)
  (case vt1=>exact .cons ⟨_,rfl⟩ (.cons ⟨_,rfl⟩ (.cons ⟨_,rfl⟩ (.nil))))
  (case kt2=>k_is)
  (case lt2=>k_is)
  (case ctp2=>rfl)
  (case zt2=>decide)
  (case vt2=>exact .cons ⟨_,rfl⟩ (.cons ⟨_,rfl⟩ (.nil)))
  (case kt3=>k_is)
  (case lt3=>k_is)
  (case ctp3=>rfl)
  (case zt3=>decide)
  (case vt3=>exact .cons ⟨_,rfl⟩ (.cons ⟨_,rfl⟩ (.cons ⟨_,rfl⟩ (.nil))))
