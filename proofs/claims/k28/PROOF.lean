import PyProof.Rows.All
import Wide.All
import OpenK.AllK
import Wide.FinOn
import Lean
import PyProof.EqAt
import PyProof.EqKinds
import PyProof.TupleCall
import KE.KIntText
import KE.IntTextLaws
import KE.IntText
import KE.KRevIter
import KE.KEqDict
import PyProof.ZipIter
import PyProof.Draws
import PyProof.EnumMake
import PyProof.ListStr
import PyProof.Seq
import PyProof.TupleIter
import PyProof.StationsW
import PyProof.Rows.Catch
import PyProof.ToksMono
import PyProof.Rows.TupIter
import PyProof.AttrMissHeap
import KE.KDictOf
import PyProof.SetScanFacts
import PyProof.SetKind
import PyProof.CollectWalk
import PyProof.FactsAll.set
import PyProof.StrLoop
import PyProof.TupleKey
import KE.KSortTup
import PyProof.Rows.SortWalk
import PyProof.Rows.SortStr
import PyProof.NeKinds
import PyProof.ListRange
import PyProof.StrWalks
import PyProof.StrCalls6
import PyProof.FitsReplace
import PyProof.StrLawsFirst
import PyProof.MeetsStr3
import PyProof.Rows.RegReprOcc
import OpenK.ZGo
import PySem.Challenge.RW_playboard_k28_placings
set_option Elab.async false
set_option linter.all false
set_option maxRecDepth 100000
set_option maxHeartbeats 4000000
open List renaming length_map → Eu, mem_cons → Ew, getElem?_eq_getElem → Ex, size_toArray → Ey, mem_cons_of_mem → Ez, length_cons → EA, getElem?_map → EB, map_map → EC, mem_cons_self → ED, mem_map → EE, length_append → EF, mem_append_right → EG, getElem?_eq_some_iff → EH, count_cons → EI, map_cons → EJ, length_range → EK, mem_singleton → EL, map_append → EM, pairwise_cons → EN, all_cons → EO, getD_eq_getElem?_getD → EQ, mem_range → ER, mem_append → ES, append_nil → ET, filter_eq_self → EU, all_eq_true → EV, erase_cons → EW, mem_of_getElem? → EX, lookup_cons → EY, getElem_mem → EZ, getElem?_eq_none → E1, erase_of_not_mem → E2, getElem?_range → E3, map_congr_left → E4, not_mem_nil → E5, any_eq_true → E6, take_length → E7, sum_cons → E8, nodup_cons → E9, length_take → Fa, map_nil → Fb, ext_getElem? → Fc, length_filter_le → Fd, length_eq_zero_iff → Fe, pairwise_map → Ff, filterMap_cons → Fg, of_mem_zip → Fh, getElem?_append_left → Fi, any_cons → Fj, length_singleton → Fk, range_succ → Fm, nodup_append → Fn, take_add_one → Fo, flatMap_cons → Fp, nodup_iff_pairwise_ne → Fq, count_le_length → Fs, mem_filter → Ft, any_eq_false → Fu, getElem?_append_right → Fv, any_map → Fw, pairwise_iff_getElem → Fx, drop_eq_getElem_cons → Fy, filter_append → Fz, filter_cons → FA, length_erase_le → FB, map_id → FC, all_map → FD, length_nil → FE, filter_cons_of_neg → FF, sum_append → FG, length_take_le → FH, mem_append_left → FI, getElem?_set_self → FJ, getElem?_set_ne → FK, mem_filterMap → FL, take_sublist → FM, mem_iff_getElem → FN, getElem?_toArray → FO, set_cons_zero → FP, mem_drop_iff_getElem → FQ, length_eraseIdx_of_lt → FR, findIdx?_eq_some_iff_getElem → FS, findIdx?_eq_none_iff → FT, perm_cons_erase → FU, extract_eq_drop_take → FV, mem_iff_getElem? → FW, filter_cons_of_pos → FX, mem_of_mem_erase → FY, cons_lt_cons_iff → FZ, getElem_range → F0, countP_eq_length_filter → Ga
open Nat renaming ne_of_lt → Gb, le_refl → Gc, zero_le → Gd, le_trans → Ge, lt_of_lt_of_le → Gf, le_succ → Gg, lt_trans → Gh, lt_irrefl → Gi, ne_of_gt → Gj, lt_succ_self → Gk, lt_succ_of_lt → Gm, lt_or_eq_of_le → Gn, le_of_eq → Go, succ_ne_self → Gp, le_of_lt → Gq, pow_le_pow_right → Gr, lt_of_le_of_lt → Gs
open Int renaming toNat_natCast → Gu, zero_add → Gv, mul_le_mul → Gw, sub_sub → Gx, emod_lt_of_pos → Gy
open Bool renaming false_ne_true → Gz, and_eq_true → GB, eq_iff_iff → GD, or_false → GE, not_eq_true' → GF, or_eq_true → GG, not_eq_false' → GH, false_eq_true → GI, and_eq_true_iff → GJ
open Array renaming getElem?_eq_getElem → GK, getElem?_eq_none → GL, getElem?_toList → GM, getD_eq_getD_getElem? → GN, length_toList → GO, toList_inj → GP, toList_push → GQ, perm_iff_toList_perm → GR, toList_append → GS, toList_extract → GT
open Option renaming map_eq_some_iff → GU
open PySem.W renaming nsIn → GV, findIn → GW, mg_of → GX, mg_none_of → GY, topRun → GZ, kia_one → G0, keepIn → Ha, emptyDict → Hb, fnOf → Hc, instObj → Hd, isFn → He, plainGet → Hf, hasDictIn → Hg, lookIn → Hh, plainOver → Hi, makesIn → Hj, kitOne → Hk, callWith_K → Hl, codeIn → Hm, boot_heap → Hn, methodObj → Ho, plainGet_of → Hq, takerIn → Hr, doneF → Hs, handedIn → Ht, kitx_list → Hu, kitx_dict → Hv, cellsFrom_some → Hw, codeRec_of → Hx, methodCall_KW → Hy, boot_o_2 → Hz, topStub → HA, segRun → HE, blockOf → HF, restOf → HG
open PySem.W (Frag)
namespace L2
open PySem PySem.Spec PyProof.Rows
abbrev Key:=Sum Int Str
def xn:Key->Value->Bool
 | .inl k,v=>Value.isInt k v
 | .inr x,v=>Value.isStrOf x v
def Ed (w:World):Key->Int
 | .inl k=>hashInt k
 | .inr x=>hashStr w x
theorem bp:∀{k:Key}{v:Value},xn k v=true->(∃i t,k=Sum.inl i/\v=Value.int i t)\/(∃x t,k=Sum.inr x/\v=Value.str x t)
 | .inl i,v,h=>by obtain ⟨t,e⟩:=Value.isInt_shape (k:=i) (v:=v) h;exact .inl ⟨i,t,rfl,e⟩
 | .inr x,v,h=>by obtain ⟨t,e⟩:=Value.isStrOf_shape (x:=x) (v:=v) h;exact .inr ⟨x,t,rfl,e⟩
theorem yp (a b:Int):decide ((Sum.inl a:Key)=Sum.inl b)=(a == b):=by
 by_cases e:a=b
 ·subst e;simp
 ·have h:¬(Sum.inl a:Key)=Sum.inl b:=λ q=>e (Sum.inl.inj q);rw [decide_eq_false h];exact (beq_eq_false_iff_ne.mpr e).symm
theorem ym (a b:Str):decide ((Sum.inr a:Key)=Sum.inr b)=decide (a=b):=by
 by_cases e:a=b
 ·subst e;simp
 ·have h:¬(Sum.inr a:Key)=Sum.inr b:=λ q=>e (Sum.inr.inj q);rw [decide_eq_false h,decide_eq_false e]
theorem yo (a:Int) (b:Str):decide ((Sum.inl a:Key)=Sum.inr b)=false:=decide_eq_false (λ q=>nomatch q)
theorem yn (a:Str) (b:Int):decide ((Sum.inr a:Key)=Sum.inl b)=false:=decide_eq_false (λ q=>nomatch q)
def n5 (prog:Program) (w:World):PySem.KeyKind prog w Key where
 is:=xn
 hash:=Ed w
 inj:=λ v a b ha hb=>by
  rcases bp ha with ⟨i,t,rfl,rfl⟩ | ⟨x,t,rfl,rfl⟩
  ·rcases bp hb with ⟨j,u,rfl,e⟩ | ⟨y,u,rfl,e⟩
   ·injection e with e1 _;rw [e1]
   ·exact nomatch e
  ·rcases bp hb with ⟨j,u,rfl,e⟩ | ⟨y,u,rfl,e⟩
   ·exact nomatch e
   ·injection e with e1 _;rw [e1]
 byValue:=λ k v h=>by
   rcases bp h with ⟨i,t,rfl,rfl⟩ | ⟨x,t,rfl,rfl⟩<;>rfl
 pyHash:=λ hv h=>by
  rcases bp hv with ⟨i,t,rfl,rfl⟩ | ⟨x,t,rfl,rfl⟩
  ·exact wpAny_pyHash_int h
  ·exact wpAny_pyHash_str h
 eqBool:=λ hu hv h=>by
  rcases bp hu with ⟨i,t,rfl,rfl⟩ | ⟨x,t,rfl,rfl⟩
  ·rcases bp hv with ⟨j,u,rfl,rfl⟩ | ⟨y,u,rfl,rfl⟩
   ·rw [yp] at h;exact wpAny_eqBool_int h
   ·rw [yo] at h;exact SeqAt.EqAt.int_str i t y u _ _ _ _ h
  ·rcases bp hv with ⟨j,u,rfl,rfl⟩ | ⟨y,u,rfl,rfl⟩
   ·rw [yn] at h;exact SeqAt.EqAt.str_int x t j u _ _ _ _ h
   ·rw [ym] at h;exact wpAny_eqBool_str h
 «strs» :=λ k x t v h=>by
  rcases bp h with ⟨i,u,rfl,e⟩ | ⟨y,u,rfl,e⟩
  ·exact nomatch e
  ·injection e with e1 _;subst e1;cases v<;>rfl
end L2
namespace L2
open PySem PySem.Spec PyProof.Rows
inductive V where
 | non | bl (b:Bool) | int (i:Int) | str (x:Str) | byt (b:Array UInt8) | flt (b:UInt64) | ref (a:Addr) | ty (n:String) | tok (x:Str) (t:Nat)
 deriving DecidableEq
def aH:V->Value->Prop
 | .non,u=>u=Value.none
 | .bl b,u=>u=Value.bool b
 | .int i,u=> ∃t,u=Value.int i t
 | .str x,u=> ∃t,u=Value.str x t
 | .byt b,u=> ∃t,u=Value.bytes b t
 | .flt b,u=> ∃t,u=Value.float b t
 | .ref a,u=>u=Value.ref a
 | .ty n,u=>u=Value.type n
 | .tok x t,u=>u=Value.str x t
abbrev aQ:List V->List Value->Prop:=Paired aH
theorem aQ.length {xs:List V}{us:List Value}(r:aQ xs us):xs.length=us.length:=Paired.length r
theorem aQ.get:∀{xs:List V}{us:List Value}{i:Nat}{x:V},aQ xs us->xs[i]? =some x->∃u,us[i]? =some u/\aH x u
 | _,_,_,_,.nil,e=>by simp at e
 | _,_,0,_,.cons r _,e=>by simp at e;subst e;exact ⟨_,rfl,r⟩
 | _,_,i+1,x,.cons _ t,e=>by obtain ⟨u,h1,h2⟩:=aQ.get (i:=i) (x:=x) t (by simpa using e);exact ⟨u,by simpa using h1,h2⟩
theorem aQ.append:∀{xs ys:List V}{us ws:List Value},aQ xs us->aQ ys ws->aQ (xs++ys) (us++ws)
 | _,_,_,_,.nil,s=>s
 | _,_,_,_,.cons r t,s=>.cons r (aQ.append t s)
def jj:Option V->Option Value->Prop
 | some v,some u=>aH v u
 | none,none=>True
 | _,_=>False
def KV {κ:Type}:List (κ×V)->List (κ×Value)->Prop:=Paired λ (p:κ×V) (q:κ×Value)=>p.1=q.1/\aH p.2 q.2
def kV:Key->V
 | .inl i=>.int i
 | .inr x=>.str x
inductive HO where
 | lst (xs:List V)
 | tup (xs:List V)
 | dK (kvs:List (Key×V)) | dT (kvs:List (List Key×V))
 | set (S:Int->Bool) (n:Nat)
 | ins (C dx:Addr) (fs:List (Str×V))
 | own (x:Addr)
 | xd (fs:List (Str×V))
 | met (f x:Addr)
 | rng (lo hi:Int)
 | frz (o:Obj) (u:HO)
 | tbl (ps:Array Value)
 | ext (φ:Heap->Prop)
abbrev Hp:=Addr->Option HO
def upd (H:Hp) (a:Addr) (o:HO):Hp:=λ b=>if b=a then some o else H b
theorem af {H:Hp}{a:Addr}{o:HO}:upd H a o a=some o:=by unfold upd;rw [if_pos rfl]
theorem ah {H:Hp}{a b:Addr}{o:HO}(h:b≠a):upd H a o b=H b:=by unfold upd;rw [if_neg h]
theorem ag {H:Hp}{a b:Addr}{o:HO}(h:H a=some o) (h':H b=none):a≠b:=by intro e;subst e;rw [h] at h';cases h'
section
variable (P:Program) (w:World)
def bg (H:Hp) (h:Heap) (a:Addr):HO->Prop
 | .lst xs=>xs.length<=sizeLine/\∃(its:List Value) (n:Nat),aQ xs its/\h.get? a=some {cls:=.type "list",data:=.seq its.toArray n}
 | .tup xs=>xs.length<=sizeLine/\∃its:List Value,aQ xs its/\IsTup h a its.toArray
 | .dK kvs=>kvs.length<=sizeLine/\(a == sysModules)=false/\∃vs,KV kvs vs/\h.DictOf (n5 P w) a vs
 | .dT kvs=>kvs.length<=sizeLine/\(a == sysModules)=false/\∃xs:List (List Key×Addr×Value),
   Paired (λ (p:List Key×V) (q:List Key×Addr×Value)=>p.1=q.1/\H q.2.1=some (.tup (p.1.map kV))/\aH p.2 q.2.2) kvs xs/\
   ∃o es ep,h.get? a=some o/\o.ExactDict/\o.data=.dict es ep/\es.toList=xs.map (entryOfKey (tupleKind (n5 P w)))/\(xs.map (·.1)).Nodup
 | .set S n=>h.SetOf (intKind P w) a S n
 | .ins C dx fs=>H dx=some (.own a)/\fs.length<=1000/\dx≠a/\h.get? a=some (Hd C dx)/\
   ∃mA,h.Ns1 dx mA/\(∀f,jj (fs.lookup f) (mA f))/\PySem.Within mA (fs.map (·.1))
 | .own _=> ∃o,h.get? a=some o
 | .xd fs=> ∃mA,h.Ns1 a mA/\∀f,jj (fs.lookup f) (mA f)
 | .rng lo hi=> ∃t u v,h.get? a=some {cls:=.type "range",data:=.fields #[.int lo t,.int hi u,.int 1 v]}
 | .frz o u=>h.get? a=some o/\bg H h a u
 | .tbl ps=>h.get? a=some {cls:=.none,data:=.fields ps}
 | .met f x=>h.get? a=some (Ho (.ref f) (.ref x))
 | .ext φ=>φ h/\(∃o,h.get? a=some o)/\∀h1 h2:Heap,φ h1->(∀o,h1.get? a=some o->h2.get? a=some o)->φ h2
def hG (H:Hp) (h:Heap):Prop:= ∀a o,H a=some o->bg P w H h a o
end
section
variable {P:Program}{w:World}{H H':Hp}{h h':Heap}{a:Addr}{o:HO}
theorem bg.lt (x:bg P w H h a o):a<h.objs.size:=by
 cases o with
 | lst xs=>obtain ⟨_,_,_,_,e⟩:=x;exact Heap.lt_size e
 | tup xs=>obtain ⟨_,_,_,p⟩:=x;exact p.lt
 | dK kvs=>obtain ⟨_,_,_,_,o,_,_,e,_⟩:=x;exact Heap.lt_size e
 | dT kvs=>obtain ⟨_,_,_,_,o,_,_,e,_⟩:=x;exact Heap.lt_size e
 | set S n=>obtain ⟨o,_,_,_,e,_⟩:=x;exact Heap.lt_size e
 | ins C dx fs=>obtain ⟨_,_,_,e,_⟩:=x;exact Heap.lt_size e
 | own y=>obtain ⟨_,e⟩:=x;exact Heap.lt_size e
 | xd fs=>obtain ⟨_,⟨_,_,_,e,_⟩,_⟩:=x;exact Heap.lt_size e
 | rng lo hi=>obtain ⟨_,_,_,e⟩:=x;exact Heap.lt_size e
 | frz ob u=>obtain ⟨e,_⟩:=x;exact Heap.lt_size e
 | tbl ps=>exact Heap.lt_size (show h.get? a=some _ from x)
 | met f y=>exact Heap.lt_size (show h.get? a=some _ from x)
 | ext φ=>obtain ⟨_,⟨_,e⟩,_⟩:=x;exact Heap.lt_size e
theorem Paired.mapP {α β:Type}{F G:α->β->Prop}:∀{l₁:List α}{l₂:List β},Paired F l₁ l₂->(∀a b,F a b->G a b)->Paired G l₁ l₂
 | _,_,.nil,_=>.nil
 | _,_,.cons r t,f=>.cons (f _ _ r) (Paired.mapP t f)
theorem bg.stay (x:bg P w H h a o) (k:∀b u,(b=a\/H b=some (.own a))->h.get? b=some u->h'.get? b=some u)
  (ho:∀b,H b=some (.own a)->H' b=some (.own a)) (ht:∀b xs,H b=some (.tup xs)->H' b=some (.tup xs)):bg P w H' h' a o:=by
 induction o with
 | lst xs=>obtain ⟨z,its,n,r,e⟩:=x;exact ⟨z,its,n,r,k _ _ (.inl rfl) e⟩
 | tup xs=>obtain ⟨z,its,r,ob,e,c⟩:=x;exact ⟨z,its,r,ob,k _ _ (.inl rfl) e,c⟩
 | dK kvs=>obtain ⟨z,y,vs,r,ob,es,ep,e,c⟩:=x;exact ⟨z,y,vs,r,ob,es,ep,k _ _ (.inl rfl) e,c⟩
 | dT kvs=>
   obtain ⟨z,y,xs,r,ob,es,ep,e,c⟩:=x;exact ⟨z,y,xs,Paired.mapP r λ p q z=>⟨z.1,ht _ _ z.2.1,z.2.2⟩,ob,es,ep,k _ _ (.inl rfl) e,c⟩
 | set S n=>obtain ⟨ob,es,ep,t,e,c⟩:=x;exact ⟨ob,es,ep,t,k _ _ (.inl rfl) e,c⟩
 | ins C dx fs=>
   obtain ⟨d,z,ne,e,mA,⟨od,es,ep,e2,c⟩,r⟩:=x;exact ⟨ho _ d,z,ne,k _ _ (.inl rfl) e,mA,⟨od,es,ep,k _ _ (.inr d) e2,c⟩,r⟩
 | own y=>obtain ⟨ob,e⟩:=x;exact ⟨ob,k _ _ (.inl rfl) e⟩
 | xd fs=>obtain ⟨mA,⟨od,es,ep,e,c⟩,r⟩:=x;exact ⟨mA,⟨od,es,ep,k _ _ (.inl rfl) e,c⟩,r⟩
 | rng lo hi=>obtain ⟨t,u,v,e⟩:=x;exact ⟨t,u,v,k _ _ (.inl rfl) e⟩
 | frz ob u ih=>obtain ⟨e,q⟩:=x;exact ⟨k _ _ (.inl rfl) e,ih q⟩
 | tbl ps=>
   have e:h.get? a=some {cls:=.none,data:=.fields ps}:=x;show h'.get? a=some {cls:=.none,data:=.fields ps};exact k a _ (.inl rfl) e
 | met f y=>
   have e:h.get? a=some (Ho (.ref f) (.ref y)):=x;show h'.get? a=some (Ho (.ref f) (.ref y));exact k a _ (.inl rfl) e
 | ext φ=>obtain ⟨p,⟨o,e⟩,st⟩:=x;exact ⟨st _ _ p λ o q=>k _ _ (.inl rfl) q,⟨o,k _ _ (.inl rfl) e⟩,st⟩
theorem hG.lt (x:hG P w H h) (e:H a=some o):a<h.objs.size:=(x a o e).lt
theorem hG.fresh (x:hG P w H h) (e:h.objs.size<=a):H a=none:=by
 cases q:H a with
 | none=>rfl
 | some u=>exact absurd (Gf (x.lt q) e) (Gi _)
theorem hG.kept (x:hG P w H h) (k:∀b u,h.get? b=some u->h'.get? b=some u):hG P w H h':=λ a o e=>
 (x a o e).stay (λ b u _ q=>k b u q) (λ _ q=>q) λ _ _ q=>q
theorem hG.laid (x:hG P w H h) (k:∀b u,h.get? b=some u->h'.get? b=some u) (hp:h.objs.size<=a) (new:bg P w (upd H a o) h' a o):hG P w (upd H a o) h':=λ b u e=>by
 have hn:=x.fresh hp
 by_cases hb:b=a
 ·subst hb;rw [af] at e;cases e;exact new
 ·rw [ah hb] at e;exact (x b u e).stay (λ c v _ q=>k c v q) (λ c q=>by rw [ah (ag q hn)];exact q) λ c xs q=>by rw [ah (ag q hn)];exact q
end
def Rd (H:Hp) (a:Addr) (u:HO):Prop:=H a=some u\/∃o,H a=some (.frz o u)
theorem Rd.ok {P:Program}{w:World}{H:Hp}{h:Heap}{a:Addr}{u:HO}(r:Rd H a u) (x:hG P w H h):bg P w H h a u:=by
 rcases r with r | ⟨o,r⟩
 ·exact x a u r
 ·obtain ⟨_,q⟩:=x a _ r;exact q
def DC:Option HO->Prop
 | some (.lst _)=>True
 | some (.dK _)=>True
 | some (.dT _)=>True
 | some (.set _ _)=>True
 | some (.ins _ _ _)=>True
 | some (.ext _)=>True
 | _=>False
section
variable {P:Program}{w:World}{H:Hp}{h h':Heap}{x e:Addr}{o':HO}
theorem hG.write (ok:hG P w H h) (mu:DC (H x)) (he:e=x\/H e=some (.own x)) (k:∀b u,b≠e->h.get? b=some u->h'.get? b=some u) (heo:∃u,h'.get? e=some u)
  (new:bg P w (upd H x o') h' x o'):hG P w (upd H x o') h':=λ b u q=>by
 have nown:∀c y,H c=some (.own y)->c≠x:=λ c y r z=>by subst z;rw [r] at mu;exact mu
 have ntup:∀c xs,H c=some (.tup xs)->c≠x:=λ c xs r z=>by subst z;rw [r] at mu;exact mu
 by_cases hb:b=x
 ·subst hb;rw [af] at q;cases q;exact new
 ·rw [ah hb] at q
  by_cases hbe:b=e
  ·have q':H b=some (.own x):=by
    rcases he with z | z
    ·exact absurd (hbe.trans z) hb
    ·rw [hbe];exact z
   rw [q] at q';cases q';obtain ⟨v,hv⟩:=heo;exact ⟨v,by rw [hbe];exact hv⟩
  ·refine (ok b u q).stay (λ c v hc r=>k c v ?_ r) (λ c r=>by rw [ah (nown c b r)];exact r) λ c xs r=>by rw [ah (ntup c xs r)];exact r
   rcases hc with rfl | hc
   ·exact hbe
   ·rintro rfl
    rcases he with z | z
    ·exact nown c b hc z
    ·rw [hc] at z;cases z;exact hb rfl
end
structure Un (fs ex:List Addr) (H H':Hp) (h h':Heap):Prop where
 keep:∀b o,h.get? b=some o->H b=none->b∉fs->b∉ex->h'.get? b=some o
 slot:∀b o,h.get? b=some o->H b=none->b∈fs->b∉ex->∃sl,h'.get? b=some {o with slots:=sl}
 free:∀b o,h.get? b=some o->H b=none->b∉ex->H' b=none
 there:∀b o,h.get? b=some o->b∉ex->∃o',h'.get? b=some o'
 tups:∀b xs,H b=some (.tup xs)->H' b=some (.tup xs)
 frzs:∀b o u,H b=some (.frz o u)->H' b=some (.frz o u)
 tbls:∀b ps,H b=some (.tbl ps)->∃more,H' b=some (.tbl (ps++more))
section
variable {fs fs' ex ex':List Addr}{H H1 H2:Hp}{h h1 h2 h':Heap}{a x e:Addr}{o:HO}
theorem Un.any (u:Un fs ex H H1 h h1) {b:Addr}{ob:Obj}(q:h.get? b=some ob) (n:H b=none) (hx:b∉ex):∃sl,h1.get? b=some {ob with slots:=sl}:=by
 by_cases hb:b∈fs
 ·exact u.slot b ob q n hb hx
 ·exact ⟨ob.slots,u.keep b ob q n hb hx⟩
theorem Un.kept (k:∀b u,h.get? b=some u->h'.get? b=some u):Un fs ex H H h h':=
 ⟨λ b ob q _ _ _=>k b ob q,λ b ob q _ _ _=>⟨ob.slots,k b ob q⟩,λ _ _ _ n _=>n,λ b ob q _=>⟨ob,k b ob q⟩,λ _ _ q=>q,λ _ _ _ q=>q,λ _ ps q=>⟨#[],by rw [q];simp⟩⟩
theorem Un.refl:Un fs ex H H h h:=Un.kept λ _ _ q=>q
theorem Un.laid (k:∀b u,h.get? b=some u->h'.get? b=some u) (hp:h.objs.size<=a) (hn:H a=none):Un fs ex H (upd H a o) h h' where
 keep:=λ b u q _ _ _=>k b u q
 slot:=λ b u q _ _ _=>⟨u.slots,k b u q⟩
 free:=λ b u q n _=>by rw [ah (Gb (Gf (Heap.lt_size q) hp))];exact n
 there:=λ b u q _=>⟨u,k b u q⟩
 tups:=λ b xs q=>by rw [ah (ag q hn)];exact q
 frzs:=λ b u xs q=>by rw [ah (ag q hn)];exact q
 tbls:=λ b ps q=>⟨#[],by rw [ah (ag q hn),q];simp⟩
theorem Un.write (mu:DC (H x)) (he:e=x\/H e=some (.own x)) (k:∀b u,b≠e->h.get? b=some u->h'.get? b=some u) (heo:∃u,h'.get? e=some u):Un fs ex H (upd H x o) h h':=by
 have hx:∀b,H b=none->b≠x:=λ b n z=>by subst z;rw [n] at mu;exact mu
 have hb:∀b,H b=none->b≠e:=λ b n z=>by
  subst z
  rcases he with r | r
  ·exact hx b n r
  ·rw [n] at r;cases r
 have hm:∀b u,H b=some u->¬DC (some u)->b≠x:=λ b u q nm z=>by subst z;rw [q] at mu;exact nm mu
 refine ⟨λ b u q n _ _=>k b u (hb b n) q,λ b u q n _ _=>⟨u.slots,k b u (hb b n) q⟩,λ b u q n _=>by rw [ah (hx b n)];exact n,λ b u q _=>?_,
  λ b xs q=>by rw [ah (hm b _ q λ z=>z)];exact q,λ b u xs q=>by rw [ah (hm b _ q λ z=>z)];exact q,λ b ps q=>⟨#[],by rw [ah (hm b _ q λ z=>z),q];simp⟩⟩
 by_cases hbe:b=e
 ·subst hbe;exact heo
 ·exact ⟨u,k b u hbe q⟩
end
def Dv (h:Heap) (H:Hp):List Addr:=(List.range h.objs.size).filter λ a=>(H a).isSome
def kz (h:Heap) (H:Hp):Heap:=PySem.W.hideAll h (Dv h H)
theorem pJ (h:Heap) (H:Hp):(kz h H).objs.size=h.objs.size:=PySem.W.hideAll_size _ _
theorem rH {h:Heap}{H:Hp}{b:Addr}{o:Obj}(e:h.get? b=some o) (n:H b=none):(kz h H).get? b=some o:=
 PySem.W.hideAll_get _ e λ hm=>by have q:(H b).isSome=true:=(Ft.mp hm).2;rw [n] at q;simp at q
theorem uc {h:Heap}{H:Hp}{b:Addr}{o:Obj}(e:(kz h H).get? b=some o):h.get? b=some o/\H b=none:=by
 have e':h.get? b=some o:=PySem.W.of_hideAll (Dv h H) e;refine ⟨e',?_⟩;cases q:H b with
 | none=>rfl
 | some x=>
   have hm:b∈Dv h H:=Ft.mpr ⟨ER.mpr (Heap.lt_size e'),by simp [q]⟩;have z:(kz h H).get? b=none:=PySem.W.hideAll_none (Dv h H) hm;rw [z] at e;cases e
def uJ (g h:Heap) (L:Addr):List (Addr×Obj):=(List.range h.objs.size).filterMap λ a=>if a=L\/(g.get? a).isSome=true then none else (h.get? a).map λ o=>(a,o)
def rest (g h:Heap) (L d:Addr):List (Addr×Obj):=(uJ g h L).filter λ p=>decide (p.1≠d)
end L2
namespace L2
open PySem PySem.Spec PyProof.Rows
structure Mod (K:Frag) (mg:Str->Option Value) (base:Heap):Prop where
 kin:K.In base
 glob:base.Ns mainGlobals mg
 blt:∃mb,base.Ns builtinsNs mb/\∀x:Str,x≠"__name__"->mb x=bootBuiltins x
 nolimit:base.NoLimit
structure Cx where
 prog:Program
 w:World
 K:Frag
 mg:Str->Option Value
 base:Heap
 A:Around
 N:List Str
 s₀:Shared
 H₀:Hp
 env:Env
 outer:List Env
 stack:List Env
 ex:List Addr
 fn:Str->Bool
 calm:Bool
 pn:List (Addr×Obj)
 xe:Value->Shared->Prop
def lN (l:List Env):List Addr:=l.filterMap (·.frame)
abbrev Cx.fs (X:Cx):List Addr:=lN X.outer
def Do (sc:Scope) (x:Str):Prop:=sc.names.lookup x=some .local\/sc.names.lookup x=some .cell\/sc.names.lookup x=some .free
def xx (sc:Scope) (x:Str):Prop:=sc.names.lookup x=some .local\/sc.names.lookup x=some .cell
def Es (env:Env) (h:Heap) (m:Str->Option Value) (x:Str) (u:Value):Prop:=
 (env.kindOf x=some .local/\m x=some u)\/((env.kindOf x=some .cell\/env.kindOf x=some .free)/\∃c,env.cells.lookup x=some c/\h.IsCell c (some u))
structure Cx.Ok (X:Cx):Prop where
 mod:Mod X.K X.mg X.base
 kind:X.env.scope.kind=.function
 glob:X.env.globals=mainGlobals
 blt:X.env.builtins=builtinsNs
 above:X.s₀.heap.objs.size<=X.env.locals
 inj:∀x y c,X.env.cells.lookup x=some c->X.env.cells.lookup y=some c->x=y
 has:∀x,(X.env.kindOf x=some .cell\/X.env.kindOf x=some .free)->∃c,X.env.cells.lookup x=some c
 cab:∀x c,X.fn x=true->X.env.cells.lookup x=some c->X.s₀.heap.objs.size<=c
 hd:X.calm=true->X.A.handled=none
 frames:X.A.frames=some X.stack
 stk:X.stack=X.outer\/(X.stack=X.env::X.outer/\X.env.frame=some X.env.locals)
 exf:∀b∈X.ex,b≠X.env.locals/\∀x c,X.env.cells.lookup x=some c->c≠b
 bs:∀b o,X.base.get? b=some o->X.s₀.heap.get? b=some o/\X.H₀ b=none
 bsz:X.base.objs.size<=X.s₀.heap.objs.size
 noex:∀b o,X.base.get? b=some o->b∉X.ex
 exfs:∀b∈X.ex,b∉X.fs
 funs:X.s₀.heap.FunFrames X.base X.outer
 frf:∀b∈X.fs,X.H₀ b=none
structure aq (X:Cx) (pins:List (Addr×Obj)) (σ:List (Option V)) (H:Hp) (s:Shared):Prop where
 ok:X.Ok
 os:s.os=X.s₀.os
 bare:AllBare s.gens
 base:Un X.fs X.ex X.H₀ H X.s₀.heap s.heap
 loc:∃m,s.heap.Ns X.env.locals m/\∀(i:Nat) (x:Str) (v:V),X.N[i]? =some x->σ[i]? =some (some v)->Do X.env.scope x->∃u,aH v u/\Es X.env s.heap m x u
 cell:∀x c,X.env.cells.lookup x=some c->∃v,s.heap.IsCell c v
 free:H X.env.locals=none
 freeC:∀x c,X.env.cells.lookup x=some c->H c=none
 pin:∀p∈X.pn++pins,s.heap.get? p.1=some p.2/\H p.1=none/\p.1≠X.env.locals/\p.1∉X.fs/\∀v,p.2.data≠.cell v
 hok:hG X.prog X.w H s.heap
 len:σ.length=X.N.length
section
variable {X:Cx}{pins:List (Addr×Obj)}{σ:List (Option V)}{H H':Hp}{s:Shared}{h':Heap}
theorem Cx.Ok.nofr (ok:X.Ok) {b:Addr}{o:Obj}(e:X.base.get? b=some o):b∉X.fs:=λ hb=>by have:=(ok.funs.mem hb).1;rw [e] at this;cases this
theorem aq.bs (I:aq X pins σ H s):∀b o,X.base.get? b=some o->s.heap.get? b=some o/\H b=none:=λ b o e=>
 ⟨I.base.keep b o (I.ok.bs b o e).1 (I.ok.bs b o e).2 (I.ok.nofr e) (I.ok.noex b o e),I.base.free b o (I.ok.bs b o e).1 (I.ok.bs b o e).2 (I.ok.noex b o e)⟩
theorem aq.bk (I:aq X pins σ H s):∀b o,X.base.get? b=some o->s.heap.get? b=some o:=λ b o e=>(I.bs b o e).1
theorem aq.mod (I:aq X pins σ H s):Mod X.K X.mg X.base:=I.ok.mod
theorem aq.kIn (I:aq X pins σ H s):X.K.In s.heap:=I.ok.mod.kin.keeps I.bk
theorem aq.lt (I:aq X pins σ H s):X.env.locals<s.heap.objs.size:=let ⟨_,hn,_⟩:=I.loc;hn.lt
theorem aq.sz (I:aq X pins σ H s):X.s₀.heap.objs.size<=s.heap.objs.size:=Ge I.ok.above (Gq I.lt)
theorem aq.nofs (I:aq X pins σ H s) {a:Addr}(h:s.heap.objs.size<=a):a∉X.fs:=λ hb=>by obtain ⟨_,o,ho,_⟩:=I.ok.funs.mem hb;exact absurd (Gf (Heap.lt_size ho) (Ge I.sz h)) (Gi _)
theorem aq.cne (I:aq X pins σ H s):∀x c,X.env.cells.lookup x=some c->c≠X.env.locals:=λ x c e z=>by obtain ⟨v,o,ho,hd⟩:=I.cell x c e;obtain ⟨m,⟨o',es,ep,ho',hd',_⟩,_⟩:=I.loc;rw [z,ho'] at ho;cases ho;rw [hd'] at hd;cases hd
theorem aq.funs (I:aq X pins σ H s):s.heap.FunFrames X.base X.outer:=by
 have all:∀(l:List Env),(∀b∈lN l,b∈X.fs)->X.s₀.heap.FunFrames X.base l->s.heap.FunFrames X.base l:=by
  intro l
  induction l with
  | nil=>intro _ _;trivial
  | cons env r ih=>
    intro hs hl;obtain ⟨hk,⟨L,o,hf,hn,ho,hd⟩,hr⟩:=hl;have hL:L∈X.fs:=hs L (by unfold lN;rw [Fg,hf];exact ED);obtain ⟨sl,e⟩:=I.base.slot L o ho (I.ok.frf L hL) hL λ z=>I.ok.exfs L z hL;exact ⟨hk,⟨L,_,hf,hn,e,hd⟩,ih (λ b hb=>hs b (by unfold lN;rw [Fg,hf];exact Ez _ hb)) hr⟩
 exact all X.outer (λ _ hb=>hb) I.ok.funs
theorem aq.stack (I:aq X pins σ H s):s.heap.FunFrames X.base X.stack:=by
 rcases I.ok.stk with e | ⟨e,hf⟩
 ·rw [e];exact I.funs
 ·rw [e];obtain ⟨m,hn,_⟩:=I.loc;refine .cons (by rw [I.ok.kind];decide) hf hn ?_ I.funs;exact Heap.get?_none_of_le (Ge I.ok.bsz I.ok.above)
theorem aq.stkSub (I:aq X pins σ H s):∀b∈lN X.stack,b∈X.env.locals::X.fs:=λ b hb=>by
 rcases I.ok.stk with e | ⟨e,hf⟩
 ·rw [e] at hb;exact Ez _ hb
 ·rw [e] at hb;unfold lN at hb;rw [Fg,hf] at hb;exact hb
theorem aq.stkFree (I:aq X pins σ H s):∀b∈lN X.stack,H b=none:=λ b hb=>by
 rcases Ew.mp (I.stkSub b hb) with e | hb
 ·rw [e];exact I.free
 ·obtain ⟨_,o,ho,_⟩:=I.ok.funs.mem hb;exact I.base.free b o ho (I.ok.frf b hb) λ z=>I.ok.exfs b z hb
theorem aq.step {g':Array GenState}{t':Nat}{d':Drawn}{ch:List Addr}(I:aq X pins σ H s)
  (hch:∀b∈ch,(b∈X.ex\/X.s₀.heap.objs.size<=b)/\b≠X.env.locals/\(∀x c,X.env.cells.lookup x=some c->c≠b)/\∀p∈X.pn++pins,p.1≠b)
  (keep:∀b o,b≠X.env.locals->b∉X.fs->b∉ch->s.heap.get? b=some o->H b=none->h'.get? b=some o)
  (slot:∀b o,b≠X.env.locals->b∈X.fs->b∉ch->s.heap.get? b=some o->H b=none->∃sl,h'.get? b=some {o with slots:=sl}) (free:∀b o,b∉ch->s.heap.get? b=some o->H b=none->H' b=none)
  (there:∀b o,b∉ch->s.heap.get? b=some o->∃o',h'.get? b=some o')
  (tups:∀b xs,H b=some (.tup xs)->H' b=some (.tup xs)) (frzs:∀b o u,H b=some (.frz o u)->H' b=some (.frz o u)) (tbls:∀b ps,H b=some (.tbl ps)->∃more,H' b=some (.tbl (ps++more)))
  (ns:∀m,s.heap.Ns X.env.locals m->h'.Ns X.env.locals m) (hok:hG X.prog X.w H' h') (hg:AllBare g'):
  aq X pins σ H' {s with heap:=h',gens:=g',drawn:=d',toks:=t'}:=by
 have neL:∀b o,X.s₀.heap.get? b=some o->b≠X.env.locals:=λ b o e=>Gb (Gf (Heap.lt_size e) I.ok.above);have neC:∀b o,X.s₀.heap.get? b=some o->b∉X.ex->b∉ch:=λ b o e hx hb=>by
  rcases (hch b hb).1 with z | z
  ·exact hx z
  ·exact absurd (Gf (Heap.lt_size e) z) (Gi _)
 have cellK:∀x c,X.env.cells.lookup x=some c->∀v,s.heap.IsCell c v->h'.IsCell c v:=λ x c e v ⟨o,ho,hd⟩=>by
  have nch:c∉ch:=λ z=>(hch c z).2.2.1 x c e rfl
  by_cases hc:c∈X.fs
  ·obtain ⟨sl,q⟩:=slot c o (I.cne x c e) hc nch ho (I.freeC x c e);exact ⟨_,q,hd⟩
  ·exact ⟨o,keep c o (I.cne x c e) hc nch ho (I.freeC x c e),hd⟩
 refine ⟨I.ok,I.os,hg,⟨λ b o e n hb hx=>?_,λ b o e n hb hx=>?_,λ b o e n hx=>?_,λ b o e hx=>?_,λ b xs e=>tups b xs (I.base.tups b xs e),λ b o xs e=>frzs b o xs (I.base.frzs b o xs e),λ b ps e=>?_⟩,?_,λ x c e=>?_,?_,λ x c e=>?_,λ p hp=>?_,hok,I.len⟩
 ·exact keep b o (neL b o e) hb (neC b o e hx) (I.base.keep b o e n hb hx) (I.base.free b o e n hx)
 ·obtain ⟨sl,e1⟩:=I.base.slot b o e n hb hx;obtain ⟨sl',e2⟩:=slot b _ (neL b o e) hb (neC b o e hx) e1 (I.base.free b o e n hx);exact ⟨sl',e2⟩
 ·obtain ⟨o',e1⟩:=I.base.there b o e hx;exact free b o' (neC b o e hx) e1 (I.base.free b o e n hx)
 ·obtain ⟨o',e1⟩:=I.base.there b o e hx;exact there b o' (neC b o e hx) e1
 ·obtain ⟨m1,e1⟩:=I.base.tbls b ps e;obtain ⟨m2,e2⟩:=tbls b _ e1;exact ⟨m1++m2,by rw [e2,Array.append_assoc]⟩
 ·obtain ⟨m,hn,hl⟩:=I.loc;refine ⟨m,ns m hn,λ i x v e1 e2 e3=>?_⟩;obtain ⟨u,r,l⟩:=hl i x v e1 e2 e3;refine ⟨u,r,?_⟩
  rcases l with l | ⟨k,c,e,z⟩
  ·exact .inl l
  ·exact .inr ⟨k,c,e,cellK x c e _ z⟩
 ·obtain ⟨v,z⟩:=I.cell x c e;exact ⟨v,cellK x c e v z⟩
 ·obtain ⟨m,⟨o,_,_,ho,_⟩,_⟩:=I.loc;exact free _ o (λ z=>(hch _ z).2.1 rfl) ho I.free
 ·obtain ⟨v,o,ho,hd⟩:=I.cell x c e;exact free c o (λ z=>(hch c z).2.2.1 x c e rfl) ho (I.freeC x c e)
 ·obtain ⟨e,n,ne,nf,d⟩:=I.pin p hp;have nch:p.1∉ch:=λ z=>(hch p.1 z).2.2.2 p hp rfl;exact ⟨keep p.1 p.2 ne nf nch e n,free p.1 p.2 nch e n,ne,nf,d⟩
theorem aq.un {t':Nat}(I:aq X pins σ H s) (u:Un X.fs [] H H' s.heap h') (hok:hG X.prog X.w H' h'):aq X pins σ H' {s with heap:=h',toks:=t'}:=by
 obtain ⟨m,⟨o,es,ep,ho,r⟩,_⟩:=id I.loc;obtain ⟨sl,hL⟩:=u.any ho I.free (by simp);exact I.step (g':=s.gens) (d':=s.drawn) (ch:=[]) (λ _ z=>nomatch z) (λ b o _ hb _ e n=>u.keep b o e n hb (by simp)) (λ b o _ hb _ e n=>u.slot b o e n hb (by simp)) (λ b o _ e n=>u.free b o e n (by simp)) (λ b o _ e=>u.there b o e (by simp)) u.tups u.frzs u.tbls (λ m' hm=>by
  obtain ⟨o',es',ep',ho',r'⟩:=hm;rw [ho] at ho';cases ho';exact ⟨_,es',ep',hL,r'⟩) hok I.bare
theorem aq.call {g':Array GenState}{t':Nat}{d':Drawn}{ch:List Addr}(I:aq X pins σ H s) (u:Un (lN X.stack) ch H H' s.heap h') (hok:hG X.prog X.w H' h') (hg:AllBare g')
  (hch:∀b∈ch,(b∈X.ex\/X.s₀.heap.objs.size<=b)/\b≠X.env.locals/\(∀x c,X.env.cells.lookup x=some c->c≠b)/\∀p∈X.pn++pins,p.1≠b):
  aq X pins σ H' {s with heap:=h',gens:=g',drawn:=d',toks:=t'}:=by
 obtain ⟨m,⟨o,es,ep,ho,r⟩,_⟩:=id I.loc;obtain ⟨sl,hL⟩:=u.any ho I.free λ z=>(hch _ z).2.1 rfl;exact I.step (ch:=ch) hch (λ b o hL hb hc e n=>u.keep b o e n (λ z=>(Ew.mp (I.stkSub b z)).elim hL hb) hc) (λ b o _ _ hc e n=>u.any e n hc) (λ b o hc e n=>u.free b o e n hc) (λ b o hc e=>u.there b o e hc) u.tups u.frzs u.tbls (λ m' hm=>by
  obtain ⟨o',es',ep',ho',r'⟩:=hm;rw [ho] at ho';cases ho';exact ⟨_,es',ep',hL,r'⟩) hok hg
theorem aq.turned {t':Nat}{it:Addr}(I:aq X pins σ H s) (k:∀b o,b≠it->s.heap.get? b=some o->h'.get? b=some o) (hn:H it=none) (hL:it≠X.env.locals)
  (h1:it∈X.ex\/X.s₀.heap.objs.size<=it) (h2:∀x c,X.env.cells.lookup x=some c->c≠it) (h3:∀p∈X.pn++pins,p.1≠it):aq X pins σ H {s with heap:=h',toks:=t'}:=by
 have nit:∀b u,H b=some u->b≠it:=λ b u e z=>by rw [z,hn] at e;cases e
 refine I.step (g':=s.gens) (d':=s.drawn) (ch:=[it]) (λ b hb=>?_) (λ b o _ _ hc e _=>k b o (λ z=>hc (by simp [z])) e) (λ b o _ _ hc e _=>⟨o.slots,k b o (λ z=>hc (by simp [z])) e⟩) (λ _ _ _ _ n=>n)
  (λ b o hc e=>⟨o,k b o (λ z=>hc (by simp [z])) e⟩) (λ _ _ e=>e) (λ _ _ _ e=>e) (λ b ps e=>⟨#[],by rw [e];simp⟩) (λ m hm=>?_) (λ b u e=>?_) I.bare
 ·have e:b=it:=by simpa using hb
  subst e;exact ⟨h1,hL,h2,h3⟩
 ·obtain ⟨o,es,ep,ho,r⟩:=hm;exact ⟨o,es,ep,k _ o (Ne.symm hL) ho,r⟩
 ·refine (I.hok b u e).stay (λ c v hc q=>k c v ?_ q) (λ _ q=>q) λ _ _ q=>q
  rcases hc with z | z
  ·rw [z];exact nit b u e
  ·exact nit c _ z
theorem aq.tok (I:aq X pins σ H s) (t:Nat):aq X pins σ H {s with toks:=t}:=I.un (h':=s.heap) (t':=t) Un.refl I.hok
theorem aq.kept {t':Nat}(I:aq X pins σ H s) (k:∀b u,s.heap.get? b=some u->h'.get? b=some u):aq X pins σ H {s with heap:=h',toks:=t'}:=I.un (Un.kept k) (I.hok.kept k)
theorem aq.laid {a:Addr}{o:HO}{t':Nat}(I:aq X pins σ H s) (k:∀b u,s.heap.get? b=some u->h'.get? b=some u) (hp:s.heap.objs.size<=a) (new:bg X.prog X.w (upd H a o) h' a o):
  aq X pins σ (upd H a o) {s with heap:=h',toks:=t'}:=I.un (Un.laid k hp (I.hok.fresh hp)) (I.hok.laid k hp new)
theorem aq.write {x e:Addr}{o:HO}{t':Nat}(I:aq X pins σ H s) (mu:DC (H x)) (he:e=x\/H e=some (.own x)) (k:∀b u,b≠e->s.heap.get? b=some u->h'.get? b=some u) (heo:∃u,h'.get? e=some u)
  (new:bg X.prog X.w (upd H x o) h' x o):aq X pins σ (upd H x o) {s with heap:=h',toks:=t'}:=I.un (Un.write mu he k heo) (I.hok.write mu he k heo new)
theorem aq.pins_of {pins':List (Addr×Obj)}(I:aq X pins σ H s) (h:∀p∈pins',s.heap.get? p.1=some p.2/\H p.1=none/\p.1≠X.env.locals/\p.1∉X.fs/\∀v,p.2.data≠.cell v):aq X pins' σ H s:=
 ⟨I.ok,I.os,I.bare,I.base,I.loc,I.cell,I.free,I.freeC,λ p hp=>(ES.mp hp).elim (λ z=>I.pin p (FI _ z)) (h p),I.hok,I.len⟩
theorem lD {N:List Str}(hN:N.Nodup) {i j:Nat}{x:Str}(a:N[i]? =some x) (b:N[j]? =some x):i=j:=by obtain ⟨h1,e1⟩:=EH.mp a;obtain ⟨h2,e2⟩:=EH.mp b;exact (List.getElem_inj hN).mp (e1.trans e2.symm)
theorem oO {M:Model}{A:Around}{E:Value->Shared->Prop}{i:Nat}{x:Str}{v:V}{u:Value}{Q:Unit->Shared->Prop}(I:aq X pins σ H s) (hN:X.N.Nodup) (hi:X.N[i]? =some x) (hx:xx X.env.scope x) (r:aH v u)
  (h:∀s',aq X pins (σ.set i (some v)) H s'->(∃a,Heap.SameBut a s.heap s'.heap/\(a=X.env.locals\/X.env.cells.lookup x=some a))->Q () s') (hf:X.fn x=true\/X.env.scope.names.lookup x=some .local:=by first | exact .inl rfl | exact .inr rfl | assumption):wpAny M A (storeName X.env x u) Q E s:=by
 obtain ⟨m,hn,hl⟩:=id I.loc;have hcls:(X.env.scope.kind == .class||(X.env.scope.kind == .module&&X.env.locals != X.env.globals))=false:=by rw [I.ok.kind];rfl
 have hiσ:i<σ.length:=by rw [I.len];exact (EH.mp hi).1
 have cne:=I.cne;have tracked:∀{a:Addr} {h':Heap},(∃o,s.heap.get? a=some o/\H a=none)->Heap.SameBut a s.heap h'->hG X.prog X.w H h':=λ {a h'} ha hs b ob e=>by
  obtain ⟨_,_,hfree⟩:=ha;refine (I.hok b ob e).stay (λ c w' hc q=>(hs.2 c ?_).trans q) (λ _ q=>q) λ _ _ q=>q;rintro rfl
  rcases hc with rfl | hc
  ·rw [hfree] at e;cases e
  ·rw [hfree] at hc;cases hc
 rcases hx with hk | hk
 ·refine wpAny_storeName_local hk hn (λ h' hn' hs=>?_) hcls;obtain ⟨oL,_,_,hoL,_⟩:=id hn;refine h _ ⟨I.ok,I.os,I.bare,⟨λ b o e n hb hx=>?_,λ b o e n hb hx=>?_,I.base.free,λ b o e hx=>?_,I.base.tups,I.base.frzs,I.base.tbls⟩,⟨_,hn',λ j y v' e1 e2 e3=>?_⟩,λ y c e=>?_,I.free,I.freeC,λ p hp=>?_,tracked ⟨oL,hoL,I.free⟩ hs,by simpa using I.len⟩ ⟨_,hs,.inl rfl⟩
  ·exact (hs.2 b (Gb (Gf (Heap.lt_size e) I.ok.above))).trans (I.base.keep b o e n hb hx)
  ·obtain ⟨sl,e1⟩:=I.base.slot b o e n hb hx;exact ⟨sl,(hs.2 b (Gb (Gf (Heap.lt_size e) I.ok.above))).trans e1⟩
  ·obtain ⟨o',e1⟩:=I.base.there b o e hx;exact ⟨o',(hs.2 b (Gb (Gf (Heap.lt_size e) I.ok.above))).trans e1⟩
  ·by_cases hj:j=i
   ·subst hj;rw [hi] at e1;cases e1;rw [FJ hiσ] at e2;cases e2;exact ⟨u,r,.inl ⟨hk,by simp⟩⟩
   ·rw [FK (Ne.symm hj)] at e2;obtain ⟨u',r',q⟩:=hl j y v' e1 e2 e3;refine ⟨u',r',?_⟩
    rcases q with ⟨k,e⟩ | ⟨k,c,e,z⟩
    ·refine .inl ⟨k,?_⟩;have:y≠x:=λ e=>hj (lD hN e1 (e▸hi));simp [this,e]
    ·exact .inr ⟨k,c,e,z.sameBut hs (cne y c e)⟩
  ·obtain ⟨w',z⟩:=I.cell y c e;exact ⟨w',z.sameBut hs (cne y c e)⟩
  ·obtain ⟨e,n,ne,nf,d⟩:=I.pin p hp;exact ⟨(hs.2 p.1 ne).trans e,n,ne,nf,d⟩
 ·have hfn:X.fn x=true:=by
   rcases hf with z | z
   ·exact z
   ·rw [z] at hk;cases hk
  obtain ⟨c,hc⟩:=I.ok.has x (.inl hk);obtain ⟨w',z⟩:=I.cell x c hc;refine wpAny_storeName_cell I.ok.kind hk hc z (λ h' hc' hs=>?_);obtain ⟨oc,hoc,hocd⟩:=id z;refine h {s with heap:=h'} ⟨I.ok,I.os,I.bare,⟨λ b o e n hb hx=>?_,λ b o e n hb hx=>?_,I.base.free,λ b o e hx=>?_,I.base.tups,I.base.frzs,I.base.tbls⟩,⟨m,hn.sameBut hs (Ne.symm (cne x c hc)),λ j y v' e1 e2 e3=>?_⟩,λ y c' e=>?_,I.free,I.freeC,λ p hp=>?_,tracked ⟨oc,hoc,I.freeC x c hc⟩ hs,by simpa using I.len⟩ ⟨c,hs,.inr hc⟩
  ·exact (hs.2 b (Gb (Gf (Heap.lt_size e) (I.ok.cab x c hfn hc)))).trans (I.base.keep b o e n hb hx)
  ·obtain ⟨sl,e1⟩:=I.base.slot b o e n hb hx;exact ⟨sl,(hs.2 b (Gb (Gf (Heap.lt_size e) (I.ok.cab x c hfn hc)))).trans e1⟩
  ·obtain ⟨o',e1⟩:=I.base.there b o e hx;exact ⟨o',(hs.2 b (Gb (Gf (Heap.lt_size e) (I.ok.cab x c hfn hc)))).trans e1⟩
  ·by_cases hj:j=i
   ·subst hj;rw [hi] at e1;cases e1;rw [FJ hiσ] at e2;cases e2;exact ⟨u,r,.inr ⟨.inl hk,c,hc,hc'⟩⟩
   ·rw [FK (Ne.symm hj)] at e2;obtain ⟨u',r',q⟩:=hl j y v' e1 e2 e3;refine ⟨u',r',?_⟩
    rcases q with q | ⟨k,c',e,z'⟩
    ·exact .inl q
    ·refine .inr ⟨k,c',e,z'.sameBut hs ?_⟩;rintro rfl;exact hj (lD hN e1 (I.ok.inj _ _ _ e hc▸hi))
  ·by_cases hcc:c'=c
   ·subst hcc;exact ⟨_,hc'⟩
   ·obtain ⟨w2,z2⟩:=I.cell y c' e;exact ⟨w2,z2.sameBut hs hcc⟩
  ·obtain ⟨e,n,ne,nf,d⟩:=I.pin p hp;refine ⟨(hs.2 p.1 ?_).trans e,n,ne,nf,d⟩;intro q;rw [q,hoc] at e;have q':oc=p.2:=Option.some.inj e;exact d w' (by rw [<-q'];exact hocd)
theorem fb {M:Model}{A:Around}{E:Value->Shared->Prop}{i:Nat}{x:Str}{v:V}{u:Value}{Q:Unit->Shared->Prop}(I:aq X pins σ H s) (hN:X.N.Nodup) (hi:X.N[i]? =some x) (hx:xx X.env.scope x) (r:aH v u)
  (h:∀s',aq X pins (σ.set i (some v)) H s'->Q () s') (hf:X.fn x=true\/X.env.scope.names.lookup x=some .local:=by first | exact .inl rfl | exact .inr rfl | assumption):wpAny M A (storeName X.env x u) Q E s:=
 oO I hN hi hx r (λ s' I' _=>h s' I') hf
theorem aq.call' {s':Shared}{ch:List Addr}(I:aq X pins σ H s) (ho:s'.os=s.os) (u:Un (lN X.stack) ch H H' s.heap s'.heap) (hok:hG X.prog X.w H' s'.heap) (hg:AllBare s'.gens)
  (hch:∀b∈ch,(b∈X.ex\/X.s₀.heap.objs.size<=b)/\b≠X.env.locals/\(∀x c,X.env.cells.lookup x=some c->c≠b)/\∀p∈X.pn++pins,p.1≠b):aq X pins σ H' s':=by
 obtain ⟨h',g',d',t',o'⟩:=s';have e:o'=s.os:=ho;subst e;exact I.call (g':=g') (t':=t') (d':=d') u hok hg hch
end
abbrev XK:=Value->Option Addr->Hp->Prop
abbrev St:=List (Option V)
abbrev oR (a:Addr):Option V:=some (.ref a)
abbrev oJ (a:Int):Option V:=some (.int a)
abbrev oT (a:Str):Option V:=some (.str a)
abbrev VK:=V->Hp->Prop
abbrev TE:=St->Hp->VK->Prop
abbrev TT:=St->Hp->(Bool->Hp->Prop)->Prop
abbrev TA:=St->Hp->(List V->Hp->Prop)->Prop
structure bZ where
 nx:St->Hp->Prop
 rt:VK
 bk:St->Hp->Prop:=λ _ _=>False
 ct:St->Hp->Prop:=λ _ _=>False
abbrev TS:=bZ->St->Hp->Prop
def EP (X:Cx) (pins:List (Addr×Obj)) (σ:St) (Q:VK) (u:Value) (s':Shared):Prop:= ∃v H',aq X pins σ H' s'/\aH v u/\Q v H'
def TP (X:Cx) (pins:List (Addr×Obj)) (σ:St) (Q:Bool->Hp->Prop) (b:Bool) (s':Shared):Prop:= ∃H',aq X pins σ H' s'/\Q b H'
def AP (X:Cx) (pins:List (Addr×Obj)) (σ:St) (Q:List V->Hp->Prop) (us:List Value) (s':Shared):Prop:= ∃vs H',aq X pins σ H' s'/\aQ vs us/\Q vs H'
def SP (X:Cx) (pins:List (Addr×Obj)) (D:bZ) (f:Flow) (s':Shared):Prop:=
 match f with
 | .next=> ∃σ' H',aq X pins σ' H' s'/\D.nx σ' H'
 | .brk=> ∃σ' H',aq X pins σ' H' s'/\D.bk σ' H'
 | .cont=> ∃σ' H',aq X pins σ' H' s'/\D.ct σ' H'
 | .ret u=> ∃v σ' H',aq X pins σ' H' s'/\aH v u/\D.rt v H'
def PE (X:Cx) (e:Expr) (t:TE):Prop:=
 ∀(pins:List (Addr×Obj)) (s:Shared) (σ:St) (H:Hp) (Q:VK),aq X pins σ H s->t σ H Q->wpAny (model X.prog X.w) X.A (eval e X.env) (EP X pins σ Q) X.xe s
def PT (X:Cx) (e:Expr) (t:TT):Prop:=
 ∀(pins:List (Addr×Obj)) (s:Shared) (σ:St) (H:Hp) (Q:Bool->Hp->Prop),aq X pins σ H s->t σ H Q->wpAny (model X.prog X.w) X.A (isTrue e X.env (eval e X.env)) (TP X pins σ Q) X.xe s
def PW (X:Cx) (e:Expr) (t:TT):Prop:=
 ∀(whole:Sem Value) (pins:List (Addr×Obj)) (s:Shared) (σ:St) (H:Hp) (Q:Bool->Hp->Prop),aq X pins σ H s->t σ H Q->wpAny (model X.prog X.w) X.A (isTrue e X.env whole) (TP X pins σ Q) X.xe s
theorem PW.pt {X:Cx}{e:Expr}{t:TT}(h:PW X e t):PT X e t:=h _
def PA (X:Cx) (es:List Expr) (t:TA):Prop:=
 ∀(pos:Pos) (pins:List (Addr×Obj)) (s:Shared) (σ:St) (H:Hp) (Q:List V->Hp->Prop),aq X pins σ H s->t σ H Q->wpAny (model X.prog X.w) X.A (spliced (backTo pos (starEach es X.env))) (AP X pins σ Q) X.xe s
def PS (X:Cx) (st:Stmt) (t:TS):Prop:=
 ∀(pins:List (Addr×Obj)) (s:Shared) (σ:St) (H:Hp) (D:bZ),aq X pins σ H s->t D σ H->wpAny (model X.prog X.w) X.A (exec st X.env) (SP X pins D) X.xe s
def l9 (X:Cx) (st:List Stmt) (t:TS):Prop:=
 ∀(pins:List (Addr×Obj)) (s:Shared) (σ:St) (H:Hp) (D:bZ),aq X pins σ H s->t D σ H->wpAny (model X.prog X.w) X.A (execs st X.env) (SP X pins D) X.xe s
theorem bx {α:Type}{t:Sem α}{Q Q':α->Shared->Prop}{M:Model}{A:Around}{E:Value->Shared->Prop}{s:Shared}(h:wpAny M A t Q E s) (hQ:∀a s,Q a s->Q' a s):wpAny M A t Q' E s:=wpAny_mono h hQ λ _ _ x=>x
end L2
namespace L2
open PySem PySem.Spec PyProof.Rows
section
variable {X:Cx}
def D6 (i:Nat):TE:=λ σ H Q=> ∃v,σ[i]? =some (some v)/\Q v H
def tC (v:V):TE:=λ _ H Q=>Q v H
theorem xT {i:Nat}{x:Str}{pos:Pos}(hN:X.N[i]? =some x) (hv:Do X.env.scope x) (hd:(x == ("__debug__":Str))=false:=by decide) (hcd:(x == ("__classdict__":Str))=false:=by decide):PE X (.Name x pos) (D6 i):=by
 intro pins s σ H Q I h;obtain ⟨v,e,h⟩:=h;obtain ⟨m,hn,hl⟩:=I.loc;obtain ⟨u,r,l⟩:=hl i x v hN e hv;have fin:EP X pins σ Q u s:=⟨v,H,I,r,h⟩
 rcases l with ⟨hk,hm⟩ | ⟨hk,c,hc,hcell⟩
 ·exact wpAny_Name (wpAny_loadName_local I.ok.kind hk hn hm fin) hd
 ·rcases hk with hk | hk
  ·exact wpAny_Name (wpAny_loadName_cell I.ok.kind hk hc hcell fin) hd
  ·exact wpAny_Name (wpAny_loadName_free I.ok.kind hk hc hcell fin hcd) hd
theorem al {i j pos}:PE X (.Constant (.int i) j pos) (tC (.int i)):=λ _ _ _ H _ I h=>wpAny_Constant_int ⟨.int i,H,I.tok _,⟨_,rfl⟩,h⟩
theorem cZ {b j pos}:PE X (.Constant (.bool b) j pos) (tC (.bl b)):=λ _ _ _ H _ I h=>Constant_bool ⟨.bl b,H,I,rfl,h⟩
theorem xV {j pos}:PE X (.Constant .none j pos) (tC .non):=λ _ _ _ H _ I h=>Constant_none ⟨.non,H,I,rfl,h⟩
theorem cA {x j pos}:PE X (.Constant (.str x) j pos) (tC (.str x)):=λ _ _ _ H _ I h=>Calls.Constant_str ⟨.str x,H,I.tok _,⟨_,rfl⟩,h⟩
def Gl (X:Cx) (x:Str):Prop:=X.env.kindOf x=some .globalImplicit
theorem ii {E:Value->Shared->Prop}{pins:List (Addr×Obj)}{s:Shared}{σ:St}{H:Hp}{x:Str}{u:Value}{pos:Pos}{Q:Value->Shared->Prop}(I:aq X pins σ H s) (hg:Gl X x) (hm:X.mg x=some u) (h:Q u s)
  (hd:(x == ("__debug__":Str))=false:=by decide):wpAny (model X.prog X.w) X.A (eval (.Name x pos) X.env) Q E s:=
 Calls.Name_function_global I.ok.kind hg (Calls.loadGlobal_global (by rw [I.ok.glob];exact I.mod.glob.keeps I.bk) hm h) hd
theorem eF {E:Value->Shared->Prop}{pins:List (Addr×Obj)}{s:Shared}{σ:St}{H:Hp}{x:Str}{u:Value}{pos:Pos}{Q:Value->Shared->Prop}(I:aq X pins σ H s) (hg:Gl X x) (hm:X.mg x=none) (hv:bootBuiltins x=some u) (h:Q u s)
  (hn:x≠"__name__":=by decide) (hd:(x == ("__debug__":Str))=false:=by decide):wpAny (model X.prog X.w) X.A (eval (.Name x pos) X.env) Q E s:=by
 obtain ⟨mb,h1,h2⟩:=I.mod.blt;exact Calls.Name_function_global I.ok.kind hg (Calls.loadGlobal_builtin (by rw [I.ok.glob];exact I.mod.glob.keeps I.bk) hm (by rw [I.ok.blt];exact h1.keeps I.bk) ((h2 x hn).trans hv) h) hd
theorem tW {x:Str}{v:V}{u:Value}{pos:Pos}(hg:Gl X x) (hm:X.mg x=some u) (r:aH v u) (hd:(x == ("__debug__":Str))=false:=by decide):PE X (.Name x pos) (tC v):=
 λ _ _ _ H _ I h=>ii I hg hm ⟨v,H,I,r,h⟩ hd
theorem t0 {x:Str}{v:V}{u:Value}{pos:Pos}(hg:Gl X x) (hm:X.mg x=none) (hv:bootBuiltins x=some u) (r:aH v u) (hn:x≠"__name__":=by decide) (hd:(x == ("__debug__":Str))=false:=by decide):PE X (.Name x pos) (tC v):=
 λ _ _ _ H _ I h=>eF I hg hm hv ⟨v,H,I,r,h⟩ hn hd
variable {a b:Expr}{ta tb:TE}{pos:Pos}
def tB (t:TE):TT:=λ σ H Q=>t σ H λ x H1=> ∃c,x=.bl c/\Q c H1
variable {tA tB':TT}{rest:List Expr}
def Ce (t u:TT):TT:=λ σ H Q=>t σ H λ c H1=>if c=true then u σ H1 Q else Q false H1
def Dw (t u:TT):TT:=λ σ H Q=>t σ H λ c H1=>if c=true then Q true H1 else u σ H1 Q
def tD (t:TT):TT:=λ σ H Q=>t σ H λ c H1=>Q (!c) H1
theorem nY (ha:PT X a tA):PW X (.BoolOp .And [a] pos) tA:=by
 intro wh pins s σ H Q I h;refine isTrue_and (bx (ha pins s σ H Q I h) λ c s1 e=>?_);cases c with
 | true=>exact isTrue_and_nil e
 | false=>exact e
theorem eA (ha:PT X a tA):PW X (.BoolOp .Or [a] pos) tA:=by
 intro wh pins s σ H Q I h;refine isTrue_or (bx (ha pins s σ H Q I h) λ c s1 e=>?_);cases c with
 | false=>exact isTrue_or_nil e
 | true=>exact e
theorem qK (ha:PT X a tA) (hb:PW X (.BoolOp .And (b::rest) pos) tB'):PW X (.BoolOp .And (a::b::rest) pos) (Ce tA tB'):=by
 intro wh pins s σ H Q I h;refine isTrue_and (bx (ha pins s σ H _ I h) λ c s1 ⟨H1,I1,q1⟩=>?_);cases c with
 | true=>exact hb wh pins s1 σ H1 Q I1 q1
 | false=>exact ⟨H1,I1,q1⟩
theorem fO (ha:PT X a tA) (hb:PW X (.BoolOp .Or (b::rest) pos) tB'):PW X (.BoolOp .Or (a::b::rest) pos) (Dw tA tB'):=by
 intro wh pins s σ H Q I h;refine isTrue_or (bx (ha pins s σ H _ I h) λ c s1 ⟨H1,I1,q1⟩=>?_);cases c with
 | true=>exact ⟨H1,I1,q1⟩
 | false=>exact hb wh pins s1 σ H1 Q I1 q1
theorem bb (ha:PT X a tA):PT X (.UnaryOp .Not a pos) (tD tA):=by intro pins s σ H Q I h;exact isTrue_not (ha pins s σ H (λ c H1=>Q (!c) H1) I h)
theorem dg {op}{t:TE}(h:PE X a t):PE X (.BoolOp op [a] pos) t:=λ pins s σ H Q I hw=>BoolOp_one (h pins s σ H Q I hw)
def tIf (t:TT) (ta tb:TE):TE:=λ σ H Q=>t σ H λ c H1=>if c=true then ta σ H1 Q else tb σ H1 Q
theorem gj {c:Expr}(hc:PT X c tA) (ha:PE X a ta) (hb:PE X b tb):PE X (.IfExp c a b pos) (tIf tA ta tb):=by
 intro pins s σ H Q I h;refine wpAny_IfExp (bx (hc pins s σ H _ I h) λ d s1 ⟨H1,I1,q1⟩=>?_);cases d with
 | true=>exact ha pins s1 σ H1 Q I1 q1
 | false=>exact hb pins s1 σ H1 Q I1 q1
end
end L2
namespace L2
open PySem PySem.Spec PyProof.Rows
def En:Value->Option V
 | .none=>some .non
 | .bool b=>some (.bl b)
 | .int i _=>some (.int i)
 | .str x _=>some (.str x)
 | .bytes b _=>some (.byt b)
 | .float b _=>some (.flt b)
 | .ref a=>some (.ref a)
 | .type n=>some (.ty n)
 | _=>none
def kJ:V->Value->Prop
 | .tok _ _,_=>False
 | x,u=>aH x u
theorem kJ.v {x:V}{u:Value}(r:kJ x u):aH x u:=by cases x<;>first | exact r | exact r.elim
abbrev eU:List V->List Value->Prop:=Paired kJ
theorem eU.v:∀{xs:List V}{us:List Value},eU xs us->aQ xs us
 | _,_,.nil=>.nil
 | _,_,.cons r t=>.cons r.v (eU.v t)
theorem kJ.abs {x:V}{u:Value}(r:kJ x u):En u=some x:=by
 cases x with
 | non=>cases r;rfl
 | bl _=>cases r;rfl
 | int _=>obtain ⟨t,rfl⟩:=r;rfl
 | str _=>obtain ⟨t,rfl⟩:=r;rfl
 | byt _=>obtain ⟨t,rfl⟩:=r;rfl
 | flt _=>obtain ⟨t,rfl⟩:=r;rfl
 | ref _=>cases r;rfl
 | ty _=>cases r;rfl
 | tok _ _=>exact r.elim
theorem kJ.inj {x y:V}{u:Value}(r:kJ x u) (q:kJ y u):x=y:=Option.some.inj (r.abs.symm.trans q.abs)
def aL (K:Frag) (H:Hp) (a:Addr) (xs:List V):Prop:=
 Rd H a (.lst xs)\/
  ∃(o:Obj) (its:Array Value) (n:Nat),K.lookup a=some o/\o.cls=.type "list"/\o.dict=none/\o.data=.seq its n/\its.size<=sizeLine/\eU xs its.toList
def fF (K:Frag) (H:Hp) (a:Addr) (xs:List V):Prop:=
 Rd H a (.tup xs)\/
  ∃(o:Obj) (its:Array Value) (n:Nat),K.lookup a=some o/\o.cls=.type "tuple"/\o.data=.seq its n/\its.size<=sizeLine/\eU xs its.toList
theorem eU.ints:∀{ns:List Int}{us:List Value},aQ (ns.map V.int) us->eU (ns.map V.int) us
 | [],_,.nil=>.nil
 | _::_,_,.cons r t=>.cons r (eU.ints t)
theorem eU.inj:∀{xs ys:List V}{us:List Value},eU xs us->eU ys us->xs=ys
 | _,_,_,.nil,.nil=>rfl
 | _,_,_,.cons r t,.cons r' t'=>by rw [kJ.inj r r',eU.inj t t']
section
variable {X:Cx}{pins:List (Addr×Obj)}{σ:St}{H:Hp}{s:Shared}{a:Addr}{xs ys:List V}
theorem aL.of {K:Frag}(h:H a=some (.lst xs)):aL K H a xs:=.inl (.inl h)
theorem fF.of {K:Frag}(h:H a=some (.tup xs)):fF K H a xs:=.inl (.inl h)
theorem aq.list (I:aq X pins σ H s) (h:aL X.K H a xs):∃its:List Value,aQ xs its/\PlainL s.heap a its.toArray/\xs.length<=sizeLine:=by
 rcases h with h | ⟨o,its,n,hk,hc,hd,hs,hz,r⟩
 ·obtain ⟨z,its,n,r,e⟩:=h.ok I.hok;exact ⟨its,r,⟨_,n,e,rfl,rfl,rfl⟩,z⟩
 ·refine ⟨its.toList,r.v,⟨o,n,I.kIn a o hk,hc,hd,by simpa using hs⟩,?_⟩;have e:=r.v.length;simp only [GO] at e;omega
theorem aq.tuple (I:aq X pins σ H s) (h:fF X.K H a xs):∃its:List Value,aQ xs its/\IsTup s.heap a its.toArray/\xs.length<=sizeLine:=by
 rcases h with h | ⟨o,its,n,hk,hc,hs,hz,r⟩
 ·obtain ⟨z,its,r,p⟩:=h.ok I.hok;exact ⟨its,r,p,z⟩
 ·refine ⟨its.toList,r.v,⟨o,I.kIn a o hk,hc,n,by simpa using hs⟩,?_⟩;have e:=r.v.length;simp only [GO] at e;omega
theorem aq.list_inj (I:aq X pins σ H s) (h:aL X.K H a xs) (h':aL X.K H a ys):xs=ys:=by
 have kn:∀o,X.K.lookup a=some o->∀u,¬Rd H a u:=λ o hk u r=>by
  have hn:=(I.bs a o (I.ok.mod.kin a o hk)).2
  rcases r with r | ⟨_,r⟩<;>(rw [hn] at r;cases r)
 rcases h with h | ⟨o,its,n,hk,hc,hd,hs,hz,r⟩
 ·rcases h' with h' | ⟨o',its',n',hk',hc',hd',hs',hz',r'⟩
  ·rcases h with h | ⟨_,h⟩<;>rcases h' with h' | ⟨_,h'⟩<;>(rw [h] at h';cases h';try rfl)
  ·exact (kn _ hk' _ h).elim
 ·rcases h' with h' | ⟨o',its',n',hk',hc',hd',hs',hz',r'⟩
  ·exact (kn _ hk _ h').elim
  ·rw [hk] at hk';cases hk';rw [hs] at hs';injection hs' with d1 _;subst d1;exact eU.inj r r'
end
abbrev Cx.wish (X:Cx) (E:Value->Shared->Prop):Cx:={X with xe:=E}
abbrev Cx.nox (X:Cx):Cx:=X.wish λ _ _=>False
theorem Cx.Ok.wish {X:Cx}(ok:X.Ok) (E:Value->Shared->Prop):(X.wish E).Ok:=
 ⟨ok.mod,ok.kind,ok.glob,ok.blt,ok.above,ok.inj,ok.has,ok.cab,ok.hd,ok.frames,ok.stk,ok.exf,ok.bs,ok.bsz,ok.noex,ok.exfs,ok.funs,ok.frf⟩
theorem Cx.Ok.unwish {X:Cx}{E:Value->Shared->Prop}(ok:(X.wish E).Ok):X.Ok:=
 ⟨ok.mod,ok.kind,ok.glob,ok.blt,ok.above,ok.inj,ok.has,ok.cab,ok.hd,ok.frames,ok.stk,ok.exf,ok.bs,ok.bsz,ok.noex,ok.exfs,ok.funs,ok.frf⟩
section
variable {X:Cx}{pins:List (Addr×Obj)}{σ:St}{H:Hp}{s:Shared}{E:Value->Shared->Prop}
theorem aq.wish (I:aq X pins σ H s) (E:Value->Shared->Prop):aq (X.wish E) pins σ H s:=⟨I.ok.wish E,I.os,I.bare,I.base,I.loc,I.cell,I.free,I.freeC,I.pin,I.hok,I.len⟩
theorem aq.unwish (I:aq (X.wish E) pins σ H s):aq X pins σ H s:=⟨I.ok.unwish,I.os,I.bare,I.base,I.loc,I.cell,I.free,I.freeC,I.pin,I.hok,I.len⟩
theorem SP.unwish {D:bZ}{f:Flow}{s':Shared}(h:SP (X.wish E) pins D f s'):SP X pins D f s':=by
 cases f with
 | next=>obtain ⟨σ',H',I,q⟩:=h;exact ⟨σ',H',I.unwish,q⟩
 | brk=>obtain ⟨σ',H',I,q⟩:=h;exact ⟨σ',H',I.unwish,q⟩
 | cont=>obtain ⟨σ',H',I,q⟩:=h;exact ⟨σ',H',I.unwish,q⟩
 | ret u=>obtain ⟨v,σ',H',I,r,q⟩:=h;exact ⟨v,σ',H',I.unwish,r,q⟩
theorem l9.nox {st:List Stmt}{t:TS}(h:l9 X.nox st t):l9 X st t:=λ pins s σ H D I hw=>
 wpAny_mono (h pins s σ H D (I.wish _) hw) (λ _ _ q=>q.unwish) λ _ _ z=>False.elim z
end
section
variable {X:Cx}{st:Stmt}{rest:List Stmt}{t u:TS}{e:Expr}{te:TE}{pos:Pos}
def nB:TS:=λ D σ H=>D.nx σ H
def bV (t u:TS):TS:=λ D σ H=>t {D with nx:=u D} σ H
theorem aM:l9 X [] nB:=λ _ _ σ H _ I h=>wpAny_execs_nil ⟨σ,H,I,h⟩
theorem ac (h1:PS X st t) (h2:l9 X rest u):l9 X (st::rest) (bV t u):=by
 intro pins s σ H D I h;refine wpAny_execs_cons (bx (h1 pins s σ H {D with nx:=u D} I h) λ f s1 q=>?_);cases f with
 | next=>
   obtain ⟨σ',H',I',q⟩:=q;exact h2 pins s1 σ' H' D I' q
 | ret v=>exact q
 | brk=>exact q
 | cont=>exact q
theorem aj (h1:PS X st t):l9 X [st] t:=by
 intro pins s σ H D I h;refine wpAny_execs_cons (bx (h1 pins s σ H D I h) λ f s1 q=>?_);cases f with
 | next=>exact wpAny_execs_nil q
 | ret v=>exact q
 | brk=>exact q
 | cont=>exact q
theorem aq.quiet {pins:List (Addr×Obj)}{σ:St}{H:Hp}{s:Shared}(I:aq X pins σ H s):interactive X.env=false:=by simp [interactive,I.ok.kind]
def kP (te:TE):TS:=λ D σ H=>te σ H λ _ H1=>D.nx σ H1
theorem j5 (he:PE X e te) (hs:swapsWith e none pos.line X.env=pure false:=by rfl):PS X (.Expr e pos) (kP te):=by intro pins s σ H D I h;exact wpAny_Expr_any (bx (he pins s σ H _ I h) λ v s1 ⟨x,H1,I1,r1,q1⟩=>⟨σ,H1,I1,q1⟩) I.quiet hs
def dt (te:TE):TS:=λ D σ H=>te σ H D.rt
theorem av (he:PE X e te):PS X (.Return (some e) pos) (dt te):=by intro pins s σ H D I h;exact wpAny_Return_some (bx (he pins s σ H _ I h) λ v s1 ⟨x,H1,I1,r1,q1⟩=>⟨x,σ,H1,I1,r1,q1⟩)
def tF (c:TT) (t u:TS):TS:=λ D σ H=>c σ H λ b H1=>if b=true then t D σ H1 else u D σ H1
theorem bH {c:Expr}{a b:List Stmt}{tc:TT}(hc:PT X c tc) (ha:l9 X a t) (hb:l9 X b u):PS X (.If c a b pos) (tF tc t u):=by
 intro pins s σ H D I h;refine wpAny_If (bx (hc pins s σ H _ I h) λ d s1 ⟨H1,I1,q1⟩=>?_);cases d with
 | true=>exact ha pins s1 σ H1 D I1 q1
 | false=>exact hb pins s1 σ H1 D I1 q1
def xE:TS:=λ _ _ _=>False
theorem de:PS X st xE:=λ _ _ _ _ _ _ h=>h.elim
end
abbrev TG:=V->St->Hp->(St->Hp->Prop)->Prop
abbrev xw:=List V->St->Hp->(St->Hp->Prop)->Prop
def PG (X:Cx) (target:Expr) (t:TG):Prop:=
 ∀(pins:List (Addr×Obj)) (s:Shared) (σ:St) (H:Hp) (v:V) (u:Value) (Q:St->Hp->Prop),aq X pins σ H s->aH v u->t v σ H Q->
  wpAny (model X.prog X.w) X.A (assign target X.env u) (λ _ s'=> ∃σ' H',aq X pins σ' H' s'/\Q σ' H') X.xe s
def zm (X:Cx) (ts:List Expr) (t:xw):Prop:=
 ∀(pins:List (Addr×Obj)) (s:Shared) (σ:St) (H:Hp) (vs:List V) (us:List Value) (Q:St->Hp->Prop),aq X pins σ H s->aQ vs us->t vs σ H Q->
  wpAny (model X.prog X.w) X.A (assignInOrder ((assignEach ts X.env).map (·.2)) us) (λ _ s'=> ∃σ' H',aq X pins σ' H' s'/\Q σ' H') X.xe s
abbrev Dz:=V->V->Hp->VK->Prop
def PIp (X:Cx) (op:Operator) (t:Dz):Prop:=
 ∀(pins:List (Addr×Obj)) (s:Shared) (σ:St) (H:Hp) (x y:V) (v u:Value) (Q:VK),aq X pins σ H s->aH x v->aH y u->t x y H Q->
  wpAny (model X.prog X.w) X.A (inplaceOp op v u) (EP X pins σ Q) X.xe s
section
variable {X:Cx}{pos:Pos}
def bN (i:Nat):TG:=λ v σ H Q=>Q (σ.set i (some v)) H
theorem bS {i:Nat}{x:Str}(hN:X.N.Nodup) (hi:X.N[i]? =some x) (hx:xx X.env.scope x) (hf:X.fn x=true\/X.env.scope.names.lookup x=some .local:=by first | exact .inl rfl | exact .inr rfl | assumption):PG X (.Name x pos) (bN i):=by intro pins s σ H v u Q I r h;exact wpAny_assign_Name (fb I hN hi hx r (λ s' I'=>⟨_,H,I',h⟩) hf)
def yD:xw:=λ vs σ H Q=>vs=[]/\Q σ H
def lM (t:TG) (u:xw):xw:=λ vs σ H Q=> ∃v r,vs=v::r/\t v σ H λ σ' H'=>u r σ' H' Q
theorem nZ:zm X [] yD:=by intro pins s σ H vs us Q I r h;obtain ⟨e,h⟩:=h;subst e;cases r;exact assignInOrder_nil ⟨σ,H,I,h⟩
theorem gi {e:Expr}{es:List Expr}{t:TG}{u:xw}(h1:PG X e t) (h2:zm X es u)
  (hs:(assignEach (e::es) X.env).map (·.2)=assign e X.env::(assignEach es X.env).map (·.2):=by rfl):zm X (e::es) (lM t u):=by
 intro pins s σ H vs us Q I r h;obtain ⟨v,vr,e1,h⟩:=h;subst e1;cases r with
 | cons r rr=>
   rw [hs];refine assignInOrder_cons (bx (h1 pins s σ H _ _ _ I r h) λ _ s1 ⟨σ1,H1,I1,q1⟩=>?_);exact h2 pins s1 σ1 H1 _ _ Q I1 rr q1
def ut (K:Frag) (n:Nat) (t:xw):TG:=λ v σ H Q=> ∃a xs,v=.ref a/\fF K H a xs/\xs.length=n/\t xs σ H Q
theorem xQ {es:List Expr}{k:Nat}{t:xw}{n:Nat}(hc:X.calm=true) (h:zm X es t)
  (hn:(assignEach es X.env).length=n:=by rfl) (hst:(assignEach es X.env).findIdx? (·.1)=none:=by rfl):PG X (.Tuple es k pos) (ut X.K n t):=by
 intro pins s σ H v u Q I r hw;obtain ⟨a,xs,e1,hq,hl,hw⟩:=hw;subst e1;cases r;obtain ⟨its,rv,ht,hz⟩:=I.tuple hq;refine assign_Tuple_tuple (I.ok.hd hc) ht (by simp [hn,<-hl,rv.length]) hst λ h' hx=>?_;have I1:aq X pins σ H {s with heap:=h'}:=I.kept (t':=s.toks) λ b o e=>hx b o (Gb (Heap.lt_size e)) e;exact h pins _ σ H xs _ Q I1 (by simpa using rv) hw
def oN (te:TE) (g:TG):TS:=λ D σ H=>te σ H λ x H1=>g x σ H1 D.nx
theorem aD {i:Nat}{x:Str}{e:Expr}{te:TE}{pos':Pos}(hN:X.N.Nodup) (hi:X.N[i]? =some x) (hx:xx X.env.scope x) (he:PE X e te) (hs:swapsWith e (some (.Name x pos')) pos.line X.env=pure false:=by rfl) (hf:X.fn x=true\/X.env.scope.names.lookup x=some .local:=by first | exact .inl rfl | exact .inr rfl | assumption):
  PS X (.Assign [.Name x pos'] e pos) (oN te (bN i)):=by
 intro pins s σ H D I h;refine wpAny_Assign_Name (bx (he pins s σ H _ I h) λ v s1 ⟨y,H1,I1,r1,q1⟩=>?_) hs;exact fb I1 hN hi hx r1 (λ s2 I2=>⟨_,H1,I2,q1⟩) hf
def xF (i:Nat) (te:TE) (ti:Dz):TS:=λ D σ H=> ∃x,σ[i]? =some (some x)/\te σ H λ y H1=>ti x y H1 λ z H2=>D.nx (σ.set i (some z)) H2
theorem qN {i:Nat}{x:Str}{e:Expr}{te:TE}{op:Operator}{ti:Dz}{pos':Pos}(hN:X.N.Nodup) (hi:X.N[i]? =some x) (hx:xx X.env.scope x) (he:PE X e te) (ho:PIp X op ti) (hf:X.fn x=true\/X.env.scope.names.lookup x=some .local:=by first | exact .inl rfl | exact .inr rfl | assumption):
  PS X (.AugAssign (.Name x pos') op e pos) (xF i te ti):=by
 intro pins s σ H D I h;obtain ⟨v,e1,h⟩:=h;obtain ⟨m,hn,hl⟩:=I.loc;have vis:Do X.env.scope x:=by rcases hx with k | k;exact .inl k;exact .inr (.inl k)
 obtain ⟨u,r,l⟩:=hl i x v hi e1 vis;refine wpAny_AugAssign_Name ?_;have go:wpAny (model X.prog X.w) X.A (eval e X.env) (λ w s₂=>wpAny (model X.prog X.w) X.A (inplaceOp op u w) (λ r s₃=>wpAny (model X.prog X.w) X.A (storeName X.env x r) (λ _=>SP X pins D .next) X.xe s₃) X.xe s₂) X.xe s:=by refine bx (he pins s σ H _ I h) λ w s1 ⟨y,H1,I1,r1,q1⟩=>?_;refine bx (ho pins s1 σ H1 v y u w _ I1 r r1 q1) λ z s2 ⟨zv,H2,I2,r2,q2⟩=>?_;exact fb I2 hN hi hx r2 (λ s3 I3=>⟨_,H2,I3,q2⟩) hf
 rcases l with ⟨hk,hm⟩ | ⟨hk,c,hc,hcell⟩
 ·exact wpAny_loadName_local I.ok.kind hk hn hm go
 ·rcases hk with hk | hk
  ·exact wpAny_loadName_cell I.ok.kind hk hc hcell go
  ·rcases hx with k | k
   ·have:X.env.scope.names.lookup x=some .free:=hk;rw [k] at this;cases this
   ·have:X.env.scope.names.lookup x=some .free:=hk;rw [k] at this;cases this
def ipI (f:Int->Int->Int):Dz:=λ x y H Q=> ∃i j,x=.int i/\y=.int j/\Q (.int (f i j)) H
theorem rC:PIp X .Sub (ipI λ i j=>i - j):=by intro pins s σ H x y v u Q I r1 r2 h;obtain ⟨i,j,e1,e2,q⟩:=h;subst e1;subst e2;obtain ⟨t,rfl⟩:=r1;obtain ⟨t',rfl⟩:=r2;exact isub_int ⟨.int _,H,I.tok _,⟨_,rfl⟩,q⟩
end
section
variable {X:Cx}{pos:Pos}
def xD (c:TT) (tb:TS):TS:=λ D σ H=> ∃W:Nat->St->Hp->Prop,(∃m,W m σ H)/\∀m σ H,W m σ H->
 c σ H λ b H1=>if b=true then∃N:St->Hp->Prop,(∀σ' H',N σ' H'->∃m',m'<m/\W m' σ' H')/\tb {D with nx:=N,ct:=N,bk:=D.nx} σ H1 else D.nx σ H1
theorem qM {c:Expr}{body:List Stmt}{tc:TT}{tb:TS}(hp:PassesOwn (model X.prog X.w) X.A X.env X.xe) (hc:PT X c tc) (hb:l9 X body tb):PS X (.While c body [] pos) (xD tc tb):=by
 intro pins s σ H D I h;obtain ⟨W,⟨m0,w0⟩,turn⟩:=h;refine wpAny_While (codeAny_whileLoop (λ n s'=> ∃σ' H',aq X pins σ' H' s'/\W n σ' H') ?_ m0 ⟨σ,H,I,w0⟩);rintro n s1 ⟨σ1,H1,I1,w1⟩;refine wpAny_passesOwn hp (bx (hc pins s1 σ1 H1 _ I1 (turn n σ1 H1 w1)) λ b s2 ⟨H2,I2,q2⟩=>?_);cases b with
 | true=>
   obtain ⟨N,hN,q2⟩:=q2;rw [if_pos rfl];refine wpAny_passesOwn hp (bx (hb pins s2 σ1 H2 _ I2 q2) λ f s3 q3=>?_);cases f with
   | next=>
     obtain ⟨σ3,H3,I3,n3⟩:=q3;obtain ⟨m',hm,w3⟩:=hN σ3 H3 n3;exact ⟨m',hm,σ3,H3,I3,w3⟩
   | cont=>
     obtain ⟨σ3,H3,I3,n3⟩:=q3;obtain ⟨m',hm,w3⟩:=hN σ3 H3 n3;exact ⟨m',hm,σ3,H3,I3,w3⟩
   | brk=>exact q3
   | ret v=>exact q3
 | false=>
   rw [if_neg Gz];exact wpAny_execs_nil ⟨σ1,H2,I2,q2⟩
end
structure It where
 go:Nat->Hp->Prop
 yld:Nat->Hp->V->Hp->Prop
 stop:Nat->Hp->Prop
def eV (X:Cx) (pins:List (Addr×Obj)) (H:Hp) (b:Addr):Prop:=
 H b=none/\b≠X.env.locals/\b∉X.fs/\(b∈X.ex\/X.s₀.heap.objs.size<=b)/\(∀x c,X.env.cells.lookup x=some c->c≠b)/\∀p∈X.pn++pins,p.1≠b
theorem aq.fpOk {X:Cx}{pins:List (Addr×Obj)}{σ:St}{H H':Hp}{s:Shared}{b:Addr}(I:aq X pins σ H s) (hb:s.heap.objs.size<=b) (hn:H' b=none):eV X pins H' b:=by
 refine ⟨hn,Gj (Gf I.lt hb),I.nofs hb,.inr (Ge I.sz hb),λ x c e z=>?_,λ p hp z=>?_⟩
 ·obtain ⟨v,q⟩:=I.cell x c e;exact absurd (Gf q.lt (by rw [z];exact hb)) (Gi _)
 ·exact absurd (Gf (Heap.lt_size (I.pin p hp).1) (by rw [z];exact hb)) (Gi _)
structure pZ (P:Program) (w:World) (K:Frag) (tg:Expr) (J:It) (fp:List Addr) (it:Addr) (tn:Nat->Heap->Prop):Prop where
 mem:it∈fp
 obj:∀i h,tn i h->∀b∈fp,∃o,h.get? b=some o/\∀v,o.data≠.cell v
 keep:∀i h h',tn i h->(∀b∈fp,∀o,h.get? b=some o->h'.get? b=some o)->tn i h'
 item:∀(X:Cx),X.prog=P->X.w=w->X.K=K->X.calm=true->∀(i:Nat) (pins:List (Addr×Obj)) (s:Shared) (σ:St) (H:Hp) (E:Value->Shared->Prop),aq X pins σ H s->(∀b∈fp,eV X pins H b)->tn i s.heap->J.go i H->
  wpAny (model P w) X.A (pyNext (.ref it)) (λ r s1=> ∃u,r=some u/\
   wpAny (model P w) X.A (letOwnedTupleGo tg (.ref it) u) (λ _ s2=> ∃x H',aq X pins σ H' s2/\aH x u/\J.yld i H x H'/\tn (i+1) s2.heap/\∀b∈fp,H' b=none) E s1) E s
 done:∀(X:Cx),X.prog=P->X.w=w->X.K=K->X.calm=true->∀(i:Nat) (pins:List (Addr×Obj)) (s:Shared) (σ:St) (H:Hp) (E:Value->Shared->Prop),aq X pins σ H s->(∀b∈fp,eV X pins H b)->tn i s.heap->J.stop i H->
   wpAny (model P w) X.A (pyNext (.ref it)) (λ r s1=>r=none/\aq X pins σ H s1) E s
 self:∀(A:Around) (i:Nat) (s:Shared) (Q:Value->Shared->Prop) (E:Value->Shared->Prop),tn i s.heap->Q (.ref it) s->wpAny (model P w) A (pyIter (.ref it)) Q E s
abbrev TI:=St->Hp->(It->Hp->Prop)->Prop
def DB (X:Cx) (pins:List (Addr×Obj)) (σ:St) (tg:Expr) (R:It->Hp->Prop) (itv:Value) (s2:Shared):Prop:=
 ∃(it:Addr) (fp:List Addr) (tn:Nat->Heap->Prop) (J:It) (H':Hp),itv=.ref it/\aq X pins σ H' s2/\pZ X.prog X.w X.K tg J fp it tn/\tn 0 s2.heap/\(∀b∈fp,eV X pins H' b)/\R J H'
def PI (X:Cx) (tg iter:Expr) (wi:TI):Prop:=
 ∀(pins:List (Addr×Obj)) (s:Shared) (σ:St) (H:Hp) (R:It->Hp->Prop),aq X pins σ H s->wi σ H R->
  wpAny (model X.prog X.w) X.A (eval iter X.env) (λ v s1=>wpAny (model X.prog X.w) X.A (pyIter v) (DB X pins σ tg R) X.xe s1) X.xe s
theorem rK {M:Model}{A:Around}{E:Value->Shared->Prop}{s:Shared}{tg:Expr}{it:Addr}{u:Value}{o:Obj}{n:String}{vs:Array Value}{Q:Unit->Shared->Prop}(ho:s.heap.get? it=some o) (hc:o.cls=.type n) (hd:o.data=.fields vs)
  (hn:["enumerate","zip","dict_itemiterator","dict_reverseitemiterator","odict_iterator","itertools.zip_longest","itertools.pairwise"].contains n=false) (hQ:Q () s):wpAny M A (letOwnedTupleGo tg (.ref it) u) Q E s:=by
 unfold letOwnedTupleGo;cases tg<;>first
  | exact wpAny_pure hQ
  | (cases u<;>first
    | exact wpAny_pure hQ
    | (refine wpAny_bind (wpAny_load ho ?_)
       rw [hc,hd];show wpAny M A (if (["enumerate","zip","dict_itemiterator","dict_reverseitemiterator","odict_iterator","itertools.zip_longest","itertools.pairwise"].contains n&&vs[0]? == some (rawInt _))=true then _ else _) Q E s;rw [if_neg (by intro h;rw [hn,Bool.false_and] at h;cases h)];exact wpAny_pure hQ))
def Dr (K:Frag) (a:Addr):It:=
 ⟨λ i H=> ∃xs x,aL K H a xs/\xs[i]? =some x,λ i H x H'=>H'=H/\∀xs,aL K H a xs->xs[i]? =some x,λ i H=> ∃xs,aL K H a xs/\xs.length<=i⟩
def zd (lo:Int) (n:Nat):It:=⟨λ i _=>i<n,λ i H x H'=>H'=H/\x=.int (lo+i),λ i _=>n<=i⟩
theorem oI {P:Program}{w:World}{K:Frag}{tg:Expr}(a it:Addr):pZ P w K tg (Dr K a) [it] it (λ i h=>h.IsListIter it a i) where
 mem:=by simp
 obj:=λ i h st b hb=>by
  have e:b=it:=by simpa using hb
  subst e;obtain ⟨o,e,c,d⟩:=st;exact ⟨o,e,λ v z=>by rw [d] at z;cases z⟩
 keep:=λ i h h' st k=>st.at λ o e=>k it (by simp) o e
 item:=by intro X hP hw hK hc i pins s σ H E I hf st hg;subst hP hw hK;obtain ⟨xs,x,hq,hx⟩:=hg;obtain ⟨its,rv,p,hz⟩:=I.list hq;obtain ⟨u,hu,ru⟩:=rv.get hx;obtain ⟨f0,f1,f2,f3,f4,f5⟩:=hf it (by simp);refine wpAny_pyNext_list_item st p.isList (x:=u) (by simpa using hu) λ h' st' sb=>?_;have I1:aq X pins σ H {s with heap:=h'}:=I.turned (t':=s.toks) (λ b o hb e=>(sb.2 b hb).trans e) f0 f1 f3 f4 f5;obtain ⟨o,e,c,d⟩:=id st';exact ⟨u,rfl,rK (s:={s with heap:=h'}) e c d (by decide) ⟨x,H,I1,ru,⟨rfl,λ ys hy=>by rw [I.list_inj hy hq];exact hx⟩,st',λ b hb=>(hf b hb).1⟩⟩
 done:=by intro X hP hw hK hc i pins s σ H E I hf st hg;subst hP hw hK;obtain ⟨xs,hq,hx⟩:=hg;obtain ⟨its,rv,p,hz⟩:=I.list hq;obtain ⟨f0,f1,f2,f3,f4,f5⟩:=hf it (by simp);have hl:=rv.length;exact wpAny_pyNext_list_end (I.ok.hd hc) st p.isList (by simp;omega) λ h' eb=>⟨rfl,I.turned (t':=s.toks) (λ b o hb e=>eb b o hb e) f0 f1 f3 f4 f5⟩
 self:=λ _ _ _ _ _ st h=>wpAny_pyIter_listiter st h
theorem ma {P:Program}{w:World}{K:Frag}{tg:Expr}(it:Addr) (lo:Int) (n:Nat):pZ P w K tg (zd lo n) [it] it (λ i h=>IsRangeIter h it (lo+(i:Nat)*1) ((n:Int) - (i:Nat)) 1) where
 mem:=by simp
 obj:=λ i h st b hb=>by
  have e:b=it:=by simpa using hb
  subst e;exact ⟨_,st,λ v z=>by
   have z':Data.fields _=Data.cell v:=z;cases z'⟩
 keep:=λ i h h' st k=>k it (by simp) _ st
 item:=by intro X hP hw hK hc i pins s σ H E I hf st hg;subst hP hw hK;obtain ⟨f0,f1,f2,f3,f4,f5⟩:=hf it (by simp);have W:=Walks.range (prog:=X.prog) (w:=X.w) (I.ok.hd hc) it lo 1 n;refine W.item i s _ _ hg st λ v h' tk hv st' kk=>?_;obtain ⟨t,rfl⟩:=hv;have I1:aq X pins σ H {s with heap:=h',toks:=tk}:=I.turned (λ b o hb e=>kk b o (by simpa using hb) e) f0 f1 f3 f4 f5;refine ⟨_,rfl,rK (s:={s with heap:=h',toks:=tk}) (n:="range_iterator") st' rfl rfl (by decide) ⟨.int (lo+i),H,I1,⟨t,?_⟩,⟨rfl,rfl⟩,st',λ b hb=>(hf b hb).1⟩⟩;rw [Int.mul_one]
 done:=by intro X hP hw hK hc i pins s σ H E I hf st hg;subst hP hw hK;obtain ⟨f0,f1,f2,f3,f4,f5⟩:=hf it (by simp);exact wpAny_pyNext_range_end (I.ok.hd hc) st (by have:n<=i:=hg;omega) λ h' eb=>⟨rfl,I.turned (t':=s.toks) (λ b o hb e=>eb b o hb e) f0 f1 f3 f4 f5⟩
 self:=λ _ _ _ _ _ st h=>wpAny_pyIter_rangeiter st h
end L2
namespace L2
open PySem PySem.Spec PyProof.Rows
section
variable {X:Cx}{tg:Expr}
def fj (K:Frag) (tl:TE):TI:=λ σ H R=>tl σ H λ x H1=> ∃a,x=.ref a/\(∃xs,aL K H1 a xs)/\R (Dr K a) H1
theorem tR {l:Expr}{tl:TE}(hl:PE X l tl):PI X tg l (fj X.K tl):=by
 intro pins s σ H R I h;refine bx (hl pins s σ H _ I h) λ v s1 ⟨x,H1,I1,r1,q1⟩=>?_;obtain ⟨a,e,⟨xs,hq⟩,q⟩:=q1;subst e;cases r1;obtain ⟨its,rv,p,hz⟩:=I1.list hq;refine wpAny_pyIter_list p.isList ?_;refine ⟨s1.heap.objs.size,[s1.heap.objs.size],_,_,H1,rfl,I1.kept (t':=s1.toks) λ b o e=>Heap.get?_push_of_some _ e,oI a _,⟨_,Heap.get?_push_size _ rfl,rfl,rfl⟩,λ b hb=>?_,q⟩;have e:b=s1.heap.objs.size:=by simpa using hb
 subst e;exact I1.fpOk (Gc _) (I1.hok.fresh (Gc _))
theorem ls {pins:List (Addr×Obj)}{σ:St}{H:Hp}{s:Shared}{R:It->Hp->Prop}{E:Value->Shared->Prop}{lo hi:Int}{t u v:Tok}{tk:Nat}(I:aq X pins σ H s) (h1: -(2 ^ 62)<=lo) (h2:lo<2 ^ 62) (h3: -(2 ^ 62)<=hi) (h4:hi<2 ^ 62)
  (q:R (zd lo (hi - lo).toNat) H):wpAny (model X.prog X.w) X.A (pyIter (.ref s.heap.objs.size)) (DB X pins σ tg R) E {s with heap:=s.heap.push {cls:=.type "range",data:=.fields #[.int lo t,.int hi u,.int 1 v]},toks:=tk}:=by
 refine wpAny_pyIter_range (IsRange.new ..) (small_one h1 h2 h3 h4) ?_;have I1:aq X pins σ H {s with heap:=s.heap.push {cls:=.type "range",data:=.fields #[.int lo t,.int hi u,.int 1 v]},toks:=tk}:=I.kept λ b o e=>Heap.get?_push_of_some _ e;refine ⟨(s.heap.push {cls:=.type "range",data:=.fields #[.int lo t,.int hi u,.int 1 v]}).objs.size,[(s.heap.push {cls:=.type "range",data:=.fields #[.int lo t,.int hi u,.int 1 v]}).objs.size],_,_,H,rfl,
  I1.kept (t':=tk) λ b o e=>Heap.get?_push_of_some _ e,ma _ lo (hi - lo).toNat,?_,λ b hb=>?_,q⟩
 ·have e1:lo+((0:Nat):Int)*1=lo:=by simp
  have e2:(((hi - lo).toNat:Nat):Int) - ((0:Nat):Int)=Builtin.Range.rangeSize lo hi 1:=by rw [rangeSize_one];split<;>omega
  show IsRangeIter _ _ (lo+((0:Nat):Int)*1) ((((hi - lo).toNat:Nat):Int) - ((0:Nat):Int)) 1;rw [e1,e2];exact Heap.get?_push_size _ rfl
 ·have e:b=(s.heap.push {cls:=.type "range",data:=.fields #[.int lo t,.int hi u,.int 1 v]}).objs.size:=by simpa using hb
  subst e;exact I1.fpOk (Gc _) (I1.hok.fresh (Gc _))
def n9 (ta:TA):TI:=λ σ H R=>ta σ H λ vs H1=> ∃j:Int,vs=[.int j]/\-(2 ^ 62)<=j/\j<2 ^ 62/\R (zd 0 j.toNat) H1
def rE (ta:TA):TI:=λ σ H R=>ta σ H λ vs H1=> ∃i j:Int,vs=[.int i,.int j]/\(-(2 ^ 62)<=i/\i<2 ^ 62/\-(2 ^ 62)<=j/\j<2 ^ 62)/\R (zd i (j - i).toNat) H1
theorem pc {a:Expr}{ta:TA}{p pos:Pos}(hg:Gl X "range") (hm:X.mg "range"=none) (ha:PA X [a] ta) (hs:starEach [a] X.env=[(false,eval a X.env)]:=by rfl):PI X tg (.Call (.Name "range" p) [a] [] pos) (n9 ta):=by
 intro pins s σ H R I h;refine Call_ (eF I hg hm boot_range (PyProof.Rows.callWith_type1 (bx (ha pos pins s σ H _ I h) λ us s1 ⟨vs,H1,I1,r1,q1⟩=>?_) hs rfl));obtain ⟨j,e,q1,q2,q⟩:=q1;subst e;cases r1 with
 | cons r rr=>
   cases rr;obtain ⟨t,rfl⟩:=r;exact call_range_1 (ls I1 (by omega) (by omega) q1 q2 (by simpa using q))
theorem pb {a b:Expr}{ta:TA}{p pos:Pos}(hg:Gl X "range") (hm:X.mg "range"=none) (ha:PA X [a,b] ta) (hs:starEach [a,b] X.env=[(false,eval a X.env),(false,eval b X.env)]:=by rfl) (hs2:starEach [b] X.env=[(false,eval b X.env)]:=by rfl):
  PI X tg (.Call (.Name "range" p) [a,b] [] pos) (rE ta):=by
 intro pins s σ H R I h;refine Call_ (eF I hg hm boot_range (PyProof.Rows.callWith_type1 (bx (ha pos pins s σ H _ I h) λ us s1 ⟨vs,H1,I1,r1,q1⟩=>?_) (by rw [hs,hs2]) (by rw [hs2];rfl)));obtain ⟨i,j,e,⟨q1,q2,q3,q4⟩,q⟩:=q1;subst e;cases r1 with
 | cons r rr=>
   cases rr with
   | cons r' rr=>
     cases rr;obtain ⟨t,rfl⟩:=r;obtain ⟨t',rfl⟩:=r';exact call_range_2 (ls I1 q1 q2 q3 q4 q)
def tFor (wi:TI) (g:TG) (tb:TS):TS:=λ D σ H=>wi σ H λ J H1=> ∃W:Nat->Nat->St->Hp->Prop,(∃m,W 0 m σ H1)/\∀i m σ H,W i m σ H->
 (J.stop i H/\D.nx σ H)\/(J.go i H/\∃N:St->Hp->Prop,(∀σ' H',N σ' H'->∃m',m'<m/\W (i+1) m' σ' H')/\∀x H',J.yld i H x H'->g x σ H' λ σ2 H2=>tb {D with nx:=N,ct:=N,bk:=D.nx} σ2 H2)
def cS (fp:List Addr) (h:Heap):List (Addr×Obj):=fp.filterMap λ b=>(h.get? b).map λ o=>(b,o)
theorem cI {fp:List Addr}{h:Heap}{b:Addr}{o:Obj}(hb:b∈fp) (e:h.get? b=some o):(b,o)∈cS fp h:=FL.mpr ⟨b,hb,by rw [e];rfl⟩
theorem gN {fp:List Addr}{h:Heap}{p:Addr×Obj}(hp:p∈cS fp h):p.1∈fp/\h.get? p.1=some p.2:=by
 obtain ⟨b,hb,e⟩:=FL.mp hp;cases q:h.get? b with
 | none=>rw [q] at e;cases e
 | some o=>
   rw [q] at e;have e':(b,o)=p:=Option.some.inj e;subst e';exact ⟨hb,q⟩
theorem aq.pinned {pins:List (Addr×Obj)}{σ:St}{H:Hp}{s:Shared}{fp:List Addr}(I:aq X pins σ H s) (hf:∀b∈fp,eV X pins H b) (ho:∀b∈fp,∃o,s.heap.get? b=some o/\∀v,o.data≠.cell v):aq X (pins++cS fp s.heap) σ H s:=
 I.pins_of λ p hp=>(ES.mp hp).elim (λ z=>I.pin p (EG _ z)) λ z=>by obtain ⟨hb,e⟩:=gN z;obtain ⟨f0,f1,f2,_⟩:=hf p.1 hb;obtain ⟨o,e',d⟩:=ho p.1 hb;rw [e] at e';cases e';exact ⟨e,f0,f1,f2,d⟩
theorem aq.unpinned {pins pl:List (Addr×Obj)}{σ:St}{H:Hp}{s:Shared}(I:aq X (pins++pl) σ H s):aq X pins σ H s:=I.pins_of λ p hp=>I.pin p (EG _ (FI _ hp))
theorem df {iter:Expr}{body:List Stmt}{wi:TI}{g:TG}{tb:TS}{pos:Pos}(hp:PassesOwn (model X.prog X.w) X.A X.env X.xe) (hc:X.calm=true) (hi:PI X tg iter wi) (hg:PG X tg g) (hb:l9 X body tb)
  (hs:∀x,foldedSetIterable iter X.env x=pure x:=by intro _;rfl):PS X (.For tg iter body [] pos) (tFor wi g tb):=by
 intro pins s σ H D I h;refine wpAny_For (bx (hi pins s σ H _ I h) λ v s1 h1=>bx h1 λ itv s2 h2=>?_) hs;obtain ⟨it,fp,tn,J,H2,e,I2,T,st2,f2,W,⟨m0,w0⟩,turn⟩:=h2;subst e;have stat:∀{H':Hp},(∀b∈fp,H' b=none)->∀b∈fp,eV X pins H' b:=λ hn b hb=>⟨hn b hb,(f2 b hb).2⟩;refine codeAny_forLoop_any (λ n s'=> ∃i σ' H',aq X pins σ' H' s'/\tn i s'.heap/\(∀b∈fp,H' b=none)/\W i n σ' H') ?_ m0 ⟨0,σ,H2,I2,st2,λ b hb=>(f2 b hb).1,w0⟩;rintro n s3 ⟨i,σ3,H3,I3,st3,fr3,w3⟩
 rcases turn i n σ3 H3 w3 with ⟨stop,qn⟩ | ⟨go,N,hN,step⟩
 ·refine wpAny_passesOwn hp (bx (T.done X rfl rfl rfl hc i pins s3 σ3 H3 X.xe I3 (stat fr3) st3 stop) λ r s4 ⟨hr,I4⟩=>?_);subst hr;exact wpAny_execs_nil ⟨σ3,H3,I4,qn⟩
 ·refine wpAny_passesOwn hp (bx (T.item X rfl rfl rfl hc i pins s3 σ3 H3 X.xe I3 (stat fr3) st3 go) λ r s4 ⟨u,hr,h4⟩=>?_);subst hr;refine wpAny_passesOwn hp (bx h4 λ _ s5 ⟨x,H5,I5,r5,y5,st5,fr5⟩=>?_);have I5':=I5.pinned (stat fr5) (T.obj _ _ st5);refine wpAny_passesOwn hp (bx (hg _ s5 σ3 H5 x u _ I5' r5 (step x H5 y5)) λ _ s6 ⟨σ6,H6,I6,q6⟩=>?_);refine wpAny_passesOwn hp (bx (hb _ s6 σ6 H6 _ I6 q6) λ f s7 q7=>?_);have again:∀{σ7:St} {H7:Hp},aq X (pins++cS fp s5.heap) σ7 H7 s7->N σ7 H7->∃m,m<n/\∃i σ' H',aq X pins σ' H' s7/\tn i s7.heap/\(∀b∈fp,H' b=none)/\W i m σ' H':=λ {σ7 H7} I7 n7=>by obtain ⟨m',hm,w7⟩:=hN σ7 H7 n7;refine ⟨m',hm,i+1,σ7,H7,I7.unpinned,T.keep _ _ _ st5 λ b hb o e=>(I7.pin (b,o) (EG _ (EG _ (cI hb e)))).1,λ b hb=>?_,w7⟩;obtain ⟨o,e,d⟩:=T.obj _ _ st5 b hb;exact (I7.pin (b,o) (EG _ (EG _ (cI hb e)))).2.1
  cases f with
  | next=>obtain ⟨σ7,H7,I7,n7⟩:=q7;exact again I7 n7
  | cont=>obtain ⟨σ7,H7,I7,n7⟩:=q7;exact again I7 n7
  | brk=>obtain ⟨σ7,H7,I7,q7⟩:=q7;exact ⟨σ7,H7,I7.unpinned,q7⟩
  | ret v=>obtain ⟨x7,σ7,H7,I7,r7,q7⟩:=q7;exact ⟨x7,σ7,H7,I7.unpinned,r7,q7⟩
end
theorem rS {K:Frag}{a:Addr}{xs:List V}{g:TG}{tb:TS}{D:bZ}{σ:St}{H:Hp}(Pv:Nat->St->Hp->Prop) (h0:Pv 0 σ H) (hl:∀i σ H,i<=xs.length->Pv i σ H->aL K H a xs)
  (hs:∀i x σ H,xs[i]? =some x->Pv i σ H->g x σ H λ σ2 H2=>tb {D with nx:=Pv (i+1),ct:=Pv (i+1),bk:=D.nx} σ2 H2) (hd:∀σ H,Pv xs.length σ H->D.nx σ H):
  ∃W:Nat->Nat->St->Hp->Prop,(∃m,W 0 m σ H)/\∀i m σ H,W i m σ H->
   ((Dr K a).stop i H/\D.nx σ H)\/((Dr K a).go i H/\∃N:St->Hp->Prop,(∀σ' H',N σ' H'->∃m',m'<m/\W (i+1) m' σ' H')/\∀x H',(Dr K a).yld i H x H'->g x σ H' λ σ2 H2=>tb {D with nx:=N,ct:=N,bk:=D.nx} σ2 H2):=by
 refine ⟨λ i m σ H=>m=xs.length - i/\i<=xs.length/\Pv i σ H,⟨xs.length,by simp,Gd _,h0⟩,?_⟩;rintro i m σ H ⟨rfl,hi,p⟩;have q:=hl i σ H hi p
 by_cases hlt:i<xs.length
 ·refine .inr ⟨⟨xs,xs[i],q,by simp [hlt]⟩,Pv (i+1),λ σ' H' p'=>⟨xs.length - (i+1),by omega,rfl,hlt,p'⟩,λ x H' y=>?_⟩;obtain ⟨e,y⟩:=y;subst e;exact hs i x σ _ (y xs q) p
 ·have e:i=xs.length:=by omega
  subst e;exact .inl ⟨⟨xs,q,Gc _⟩,hd σ H p⟩
theorem jz {lo:Int}{n:Nat}{g:TG}{tb:TS}{D:bZ}{σ:St}{H:Hp}(Pv:Nat->St->Hp->Prop) (h0:Pv 0 σ H)
  (hs:∀i σ H,i<n->Pv i σ H->g (.int (lo+i)) σ H λ σ2 H2=>tb {D with nx:=Pv (i+1),ct:=Pv (i+1),bk:=D.nx} σ2 H2) (hd:∀σ H,Pv n σ H->D.nx σ H):
  ∃W:Nat->Nat->St->Hp->Prop,(∃m,W 0 m σ H)/\∀i m σ H,W i m σ H->
   ((zd lo n).stop i H/\D.nx σ H)\/((zd lo n).go i H/\∃N:St->Hp->Prop,(∀σ' H',N σ' H'->∃m',m'<m/\W (i+1) m' σ' H')/\∀x H',(zd lo n).yld i H x H'->g x σ H' λ σ2 H2=>tb {D with nx:=N,ct:=N,bk:=D.nx} σ2 H2):=by
 refine ⟨λ i m σ H=>m=n - i/\i<=n/\Pv i σ H,⟨n,by simp,Gd _,h0⟩,?_⟩;rintro i m σ H ⟨rfl,hi,p⟩
 by_cases hlt:i<n
 ·refine .inr ⟨hlt,Pv (i+1),λ σ' H' p'=>⟨n - (i+1),by omega,rfl,hlt,p'⟩,λ x H' y=>?_⟩;obtain ⟨e,y⟩:=y;subst e y;exact hs i σ _ hlt p
 ·have e:i=n:=by omega
  subst e;exact .inl ⟨Gc _,hd σ H p⟩
end L2
namespace L2
open PySem PySem.Spec PyProof.Rows
abbrev R2:=V->V->Hp->VK->Prop
def fH (X:Cx) (f:Value->Value->Sem Value) (r:R2):Prop:=
 ∀(pins:List (Addr×Obj)) (s:Shared) (σ:St) (H:Hp) (x y:V) (v u:Value) (Q:VK),aq X pins σ H s->aH x v->aH y u->r x y H Q->
  wpAny (model X.prog X.w) X.A (f v u) (EP X pins σ Q) X.xe s
def Eo (X:Cx) (f:Value->Sem Value) (r:V->Hp->VK->Prop):Prop:=
 ∀(pins:List (Addr×Obj)) (s:Shared) (σ:St) (H:Hp) (x:V) (v:Value) (Q:VK),aq X pins σ H s->aH x v->r x H Q->
  wpAny (model X.prog X.w) X.A (f v) (EP X pins σ Q) X.xe s
def aI (X:Cx) (f:Value) (r:List V->Hp->VK->Prop):Prop:=
 ∀(pins:List (Addr×Obj)) (s:Shared) (σ:St) (H:Hp) (xs:List V) (us:List Value) (Q:VK),aq X pins σ H s->aQ xs us->r xs H Q->
  wpAny (model X.prog X.w) X.A (call f us) (EP X pins σ Q) X.xe s
def D7 (r:R2) (ta tb:TE):TE:=λ σ H Q=>ta σ H λ x H1=>tb σ H1 λ y H2=>r x y H2 Q
def rI (C:Int->Int->Prop) (g:Int->Int->V):R2:=λ x y H Q=> ∃i j,x=.int i/\y=.int j/\C i j/\Q (g i j) H
def xf (g:Int->Int->V):R2:=λ x y H Q=> ∃i j,x=.int i/\y=.int j/\Q (g i j) H
def rU (g:Int->V):V->Hp->VK->Prop:=λ x H Q=> ∃i,x=.int i/\Q (g i) H
section
variable {X:Cx}{a b c:Expr}{ta tb tc:TE}{pos:Pos}
theorem yW (ha:PE X a ta) (hb:PE X b tb) {pins:List (Addr×Obj)}{s:Shared}{σ:St}{H:Hp}{R:V->V->Hp->Prop}(I:aq X pins σ H s)
  (h:ta σ H λ x H1=>tb σ H1 λ y H2=>R x y H2) {Q:Value->Shared->Prop} {f:Value->Value->Sem Value}
  (hf:∀v u s2 x y H2,aq X pins σ H2 s2->aH x v->aH y u->R x y H2->wpAny (model X.prog X.w) X.A (f v u) Q X.xe s2):
  wpAny (model X.prog X.w) X.A (eval a X.env) (λ v s₁=>wpAny (model X.prog X.w) X.A (eval b X.env) (λ u s₂=>wpAny (model X.prog X.w) X.A (f v u) Q X.xe s₂) X.xe s₁) X.xe s:=by
 refine bx (ha pins s σ H _ I h) λ v s1 ⟨x,H1,I1,r1,q1⟩=>?_;refine bx (hb pins s1 σ H1 _ I1 q1) λ u s2 ⟨y,H2,I2,r2,q2⟩=>?_;exact hf v u s2 x y H2 I2 r1 r2 q2
theorem xg {op:Operator}{r:R2}(ho:fH X (binaryOp op) r) (ha:PE X a ta) (hb:PE X b tb):PE X (.BinOp a op b pos) (D7 r ta tb):=by intro pins s σ H Q I h;exact wpAny_BinOp (yW ha hb I h λ v u s2 x y H2 I2 rx ry q=>ho pins s2 σ H2 x y v u Q I2 rx ry q)
theorem Dx {f:Value->Value->Sem Value}{C:Int->Int->Prop}{g:Int->Int->Int}
  (rule:∀(i j:Int) (t u:Tok) (s:Shared) (Q:Value->Shared->Prop) (E:Value->Shared->Prop),C i j->Q (.int (g i j) s.toks) {s with toks:=s.toks+1}->wpAny (model X.prog X.w) X.A (f (.int i t) (.int j u)) Q E s):
  fH X f (rI C λ i j=>.int (g i j)):=by
 intro pins s σ H x y v u Q I rx ry h;obtain ⟨i,j,rfl,rfl,hc,q⟩:=h;obtain ⟨t,rfl⟩:=rx;obtain ⟨t',rfl⟩:=ry;exact rule i j t t' s _ _ hc ⟨.int (g i j),H,I.tok _,⟨_,rfl⟩,q⟩
theorem CD {f:Value->Value->Sem Value}{g:Int->Int->Int}
  (rule:∀(i j:Int) (t u:Tok) (s:Shared) (Q:Value->Shared->Prop) (E:Value->Shared->Prop),Q (.int (g i j) s.toks) {s with toks:=s.toks+1}->wpAny (model X.prog X.w) X.A (f (.int i t) (.int j u)) Q E s):
  fH X f (xf λ i j=>.int (g i j)):=by
 intro pins s σ H x y v u Q I rx ry h;obtain ⟨i,j,rfl,rfl,q⟩:=h;obtain ⟨t,rfl⟩:=rx;obtain ⟨t',rfl⟩:=ry;exact rule i j t t' s _ _ ⟨.int (g i j),H,I.tok _,⟨_,rfl⟩,q⟩
theorem ua {f:Value->Value->Sem Value}{g:Int->Int->Bool}
  (rule:∀(i j:Int) (t u:Tok) (s:Shared) (Q:Value->Shared->Prop) (E:Value->Shared->Prop),Q (.bool (g i j)) s->wpAny (model X.prog X.w) X.A (f (.int i t) (.int j u)) Q E s):
  fH X f (xf λ i j=>.bl (g i j)):=by
 intro pins s σ H x y v u Q I rx ry h;obtain ⟨i,j,rfl,rfl,q⟩:=h;obtain ⟨t,rfl⟩:=rx;obtain ⟨t',rfl⟩:=ry;exact rule i j t t' s _ _ ⟨.bl (g i j),H,I,rfl,q⟩
def zf (i j:Int):Prop:=0<j/\j<1073741824
def Du (i j:Int):Prop:=0<=j/\j<=1000000/\i.natAbs<2 ^ 64
def tj (i j:Int):Prop:=(-(2 ^ 64)<i/\i<2 ^ 64)\/(-(2 ^ 64)<j/\j<2 ^ 64)
theorem tj.ok {i j:Int}(h:tj i j):IntMulOk i j:=by
 rcases h with ⟨h1,h2⟩ | ⟨h1,h2⟩
 ·exact .of_left (intBits_le_64 h1 h2)
 ·exact .of_right (intBits_le_64 h1 h2)
theorem yb:fH X (binaryOp .Add) (xf λ i j=>.int (i+j)):=CD λ _ _ _ _ _ _ _ q=>add_int q
theorem xW:fH X (binaryOp .Sub) (xf λ i j=>.int (i - j)):=CD λ _ _ _ _ _ _ _ q=>sub_int q
theorem xZ:fH X (binaryOp .Mult) (rI tj λ i j=>.int (i*j)):=Dx λ _ _ _ _ _ _ _ hc q=>mul_int q hc.ok
theorem t7:fH X (binaryOp .FloorDiv) (rI zf λ i j=>.int (i / j)):=Dx λ i j _ _ _ _ _ hc q=>by have h1:(0:Int)<j:=hc.1;have h2:j<1073741824:=hc.2;exact floordiv_int (by omega) (by rw [Int.fdiv_eq_ediv_of_nonneg i (by omega)];exact q) (.inl (PyProof.noPylong_small (by omega)))
theorem x2:fH X (binaryOp .Mod) (rI (λ _ j=>0<j) λ i j=>.int (i % j)):=Dx λ i j _ _ _ _ _ hc q=>by have h1:(0:Int)<j:=hc;exact mod_int' (by omega) (by rw [Int.fmod_eq_emod_of_nonneg i (by omega)];exact q)
theorem xX:fH X (binaryOp .Pow) (rI Du λ i j=>.int (i ^ j.toNat)):=Dx λ _ _ _ _ _ _ _ hc q=>pow_int_small hc.1 hc.2.1 hc.2.2 q
theorem unI {f:Value->Sem Value}{g:Int->Int}
  (rule:∀(i:Int) (t:Tok) (s:Shared) (Q:Value->Shared->Prop) (E:Value->Shared->Prop),Q (.int (g i) s.toks) {s with toks:=s.toks+1}->wpAny (model X.prog X.w) X.A (f (.int i t)) Q E s):
  Eo X f (rU λ i=>.int (g i)):=by
 intro pins s σ H x v Q I rx h;obtain ⟨i,rfl,q⟩:=h;obtain ⟨t,rfl⟩:=rx;exact rule i t s _ _ ⟨.int (g i),H,I.tok _,⟨_,rfl⟩,q⟩
theorem xz:Eo X (unaryOp .USub) (rU λ i=>.int (-i)):=unI λ _ _ _ _ _ q=>neg_int q
end
def scal:V->V->Bool
 | .non,.non=>true | .non,.int _=>true | .int _,.non=>true | .non,.bl _=>true | .bl _,.non=>true | .non,.str _=>true | .str _,.non=>true
 | .int _,.int _=>true | .bl _,.bl _=>true | .str _,.str _=>true | .byt _,.byt _=>true
 | .int _,.str _=>true | .str _,.int _=>true | .bl _,.str _=>true | .str _,.bl _=>true
 | _,_=>false
def rEq:R2:=λ x y H Q=>scal x y=true/\Q (.bl (decide (x=y))) H
def rNe:R2:=λ x y H Q=>scal x y=true/\Q (.bl (!decide (x=y))) H
theorem on {i j:Int}:decide (V.int i=V.int j)=(i == j):=by rw [GD];simp
theorem dec_bl {i j:Bool}:decide (V.bl i=V.bl j)=(i == j):=by rw [GD];simp
theorem om {i j:Str}:decide (V.str i=V.str j)=(i == j):=by rw [GD];simp
theorem oo {i j:Array UInt8}:decide (V.byt i=V.byt j)=(i.toList == j.toList):=by rw [GD];cases i;cases j;simp
section
variable {X:Cx}{a b c:Expr}{ta tb tc:TE}{pos:Pos}
theorem fin_bl {pins:List (Addr×Obj)}{σ:St}{H:Hp}{s:Shared}{Q:VK}{k k':Bool}(I:aq X pins σ H s) (q:Q (.bl k) H) (e:k=k'):EP X pins σ Q (.bool k') s:=by subst e;exact ⟨.bl k,H,I,rfl,q⟩
theorem CC:fH X (compareOp .Eq) rEq:=by
 intro pins s σ H x y v u Q I rx ry h;obtain ⟨hs,q⟩:=h;cases x with
 | non=>
   cases rx;cases y with
   | non=>cases ry;exact PySem.EqNone.eq_none_none (fin_bl I q (by simp))
   | bl j=>cases ry;exact PySem.EqNone.eq_none_bool (fin_bl I q (by simp))
   | int j=>obtain ⟨t',rfl⟩:=ry;exact PySem.EqNone.eq_none_int (fin_bl I q (by simp))
   | str j=>obtain ⟨t',rfl⟩:=ry;exact PySem.EqNone.eq_none_str (fin_bl I q (by simp))
   | _=>exact absurd (show false=true from hs) Gz
 | bl i=>
   cases rx;cases y with
   | non=>cases ry;exact PySem.EqNone.eq_bool_none (fin_bl I q (by simp))
   | bl j=>cases ry;exact eq_bool (fin_bl I q dec_bl)
   | str j=>obtain ⟨t',rfl⟩:=ry;exact PySem.EqMixed.eq_bool_str (fin_bl I q (by simp))
   | _=>exact absurd (show false=true from hs) Gz
 | int i=>
   obtain ⟨t,rfl⟩:=rx;cases y with
   | non=>cases ry;exact PySem.EqNone.eq_int_none (fin_bl I q (by simp))
   | int j=>obtain ⟨t',rfl⟩:=ry;exact eq_int (fin_bl I q on)
   | str j=>obtain ⟨t',rfl⟩:=ry;exact PySem.EqMixed.eq_int_str (fin_bl I q (by simp))
   | _=>exact absurd (show false=true from hs) Gz
 | str i=>
   obtain ⟨t,rfl⟩:=rx;cases y with
   | non=>cases ry;exact PySem.EqNone.eq_str_none (fin_bl I q (by simp))
   | bl j=>cases ry;exact PySem.EqMixed.eq_str_bool (fin_bl I q (by simp))
   | int j=>obtain ⟨t',rfl⟩:=ry;exact PySem.EqMixed.eq_str_int (fin_bl I q (by simp))
   | str j=>obtain ⟨t',rfl⟩:=ry;exact eq_str (fin_bl I q om)
   | _=>exact absurd (show false=true from hs) Gz
 | byt i=>
   obtain ⟨t,rfl⟩:=rx;cases y with
   | byt j=>obtain ⟨t',rfl⟩:=ry;exact PySem.W.eq_bytes (fin_bl I q oo)
   | _=>exact absurd (show false=true from hs) Gz
 | _=>cases y<;>exact absurd (show false=true from hs) Gz
theorem Cv:fH X (compareOp .NotEq) rNe:=by
 intro pins s σ H x y v u Q I rx ry h;obtain ⟨hs,q⟩:=h;cases x with
 | non=>
   cases rx;cases y with
   | non=>cases ry;exact PySem.EqNone.ne_none_none (fin_bl I q (by simp))
   | bl j=>cases ry;exact PySem.EqNone.ne_none_bool (fin_bl I q (by simp))
   | int j=>obtain ⟨t',rfl⟩:=ry;exact PySem.EqNone.ne_none_int (fin_bl I q (by simp))
   | str j=>obtain ⟨t',rfl⟩:=ry;exact PySem.EqNone.ne_none_str (fin_bl I q (by simp))
   | _=>exact absurd (show false=true from hs) Gz
 | bl i=>
   cases rx;cases y with
   | non=>cases ry;exact PySem.EqNone.ne_bool_none (fin_bl I q (by simp))
   | bl j=>cases ry;exact ne_bool (fin_bl I q (congrArg not dec_bl))
   | str j=>obtain ⟨t',rfl⟩:=ry;exact PySem.EqMixed.ne_bool_str (fin_bl I q (by simp))
   | _=>exact absurd (show false=true from hs) Gz
 | int i=>
   obtain ⟨t,rfl⟩:=rx;cases y with
   | non=>cases ry;exact PySem.EqNone.ne_int_none (fin_bl I q (by simp))
   | int j=>obtain ⟨t',rfl⟩:=ry;exact ne_int (fin_bl I q (congrArg not on))
   | str j=>obtain ⟨t',rfl⟩:=ry;exact PySem.EqMixed.ne_int_str (fin_bl I q (by simp))
   | _=>exact absurd (show false=true from hs) Gz
 | str i=>
   obtain ⟨t,rfl⟩:=rx;cases y with
   | non=>cases ry;exact PySem.EqNone.ne_str_none (fin_bl I q (by simp))
   | bl j=>cases ry;exact PySem.EqMixed.ne_str_bool (fin_bl I q (by simp))
   | int j=>obtain ⟨t',rfl⟩:=ry;exact PySem.EqMixed.ne_str_int (fin_bl I q (by simp))
   | str j=>obtain ⟨t',rfl⟩:=ry;exact ne_str (fin_bl I q (congrArg not om))
   | _=>exact absurd (show false=true from hs) Gz
 | byt i=>
   obtain ⟨t,rfl⟩:=rx;cases y with
   | byt j=>obtain ⟨t',rfl⟩:=ry;exact PySem.W.ne_bytes (fin_bl I q (congrArg not oo))
   | _=>exact absurd (show false=true from hs) Gz
 | _=>cases y<;>exact absurd (show false=true from hs) Gz
theorem Cw:fH X (compareOp .Lt) (xf λ i j=>.bl (decide (i<j))):=ua λ _ _ _ _ _ _ _ q=>lt_int q
theorem Cy:fH X (compareOp .LtE) (xf λ i j=>.bl (decide (i<=j))):=ua λ _ _ _ _ _ _ _ q=>le_int q
theorem Cz:fH X (compareOp .Gt) (xf λ i j=>.bl (decide (j<i))):=ua λ _ _ _ _ _ _ _ q=>gt_int q
theorem CB:fH X (compareOp .GtE) (xf λ i j=>.bl (decide (j<=i))):=ua λ _ _ _ _ _ _ _ q=>ge_int q
theorem pr:fH X (compareOp .Lt) (λ x y H Q=> ∃i j,x=.str i/\y=.str j/\Q (.bl (decide (i.cps.toList<j.cps.toList))) H):=by intro pins s σ H x y v u Q I rx ry h;obtain ⟨i,j,rfl,rfl,q⟩:=h;obtain ⟨t,rfl⟩:=rx;obtain ⟨t',rfl⟩:=ry;exact lt_str (fin_bl I q rfl)
theorem px:fH X (compareOp .In) (λ x y H Q=> ∃i j,x=.str i/\y=.str j/\Q (.bl (!(Builtin.Str.occurrences j i 0 j.length 1).isEmpty)) H):=by intro pins s σ H x y v u Q I rx ry h;obtain ⟨i,j,rfl,rfl,q⟩:=h;obtain ⟨t,rfl⟩:=rx;obtain ⟨t',rfl⟩:=ry;exact in_str (fin_bl I q rfl)
theorem x4:fH X (compareOp .Is) (λ x y H Q=>y=.non/\Q (.bl (decide (x=.non))) H):=by
 intro pins s σ H x y v u Q I rx ry h;obtain ⟨rfl,q⟩:=h;cases ry;refine is_none_gen (fin_bl I q ?_);cases x<;>first
  | (cases rx;rfl)
  | (obtain ⟨t,rfl⟩:=rx;rfl)
theorem t6:fH X (compareOp .IsNot) (λ x y H Q=>y=.non/\Q (.bl (!decide (x=.non))) H):=by
 intro pins s σ H x y v u Q I rx ry h;obtain ⟨rfl,q⟩:=h;cases ry;refine isnot_none_gen (fin_bl I q ?_);cases x<;>first
  | (cases rx;rfl)
  | (obtain ⟨t,rfl⟩:=rx;rfl)
theorem j7:fH X (compareOp .NotIn) (λ x y H Q=> ∃i j,x=.str i/\y=.str j/\Q (.bl (!(!(Builtin.Str.occurrences j i 0 j.length 1).isEmpty))) H):=by intro pins s σ H x y v u Q I rx ry h;obtain ⟨i,j,rfl,rfl,q⟩:=h;obtain ⟨t,rfl⟩:=rx;obtain ⟨t',rfl⟩:=ry;exact notIn_str (fin_bl I q rfl)
theorem ko (b:Expr) {op:CmpOp}(h:op≠.In:=by decide) (h2:op≠.NotIn:=by decide):behindInMarks op b=false:=by
 have e1:(op == CmpOp.In)=false:=by cases op<;>first | rfl | exact absurd rfl h
 have e2:(op == CmpOp.NotIn)=false:=by cases op<;>first | rfl | exact absurd rfl h2
 cases b<;>simp [behindInMarks,e1,e2]
theorem tY {op:CmpOp}{r:R2}(ho:fH X (compareOp op) r) (ha:PE X a ta) (hb:PE X b tb) (hm:behindInMarks op b=false):PE X (.Compare a [op] [b] pos) (D7 r ta tb):=by intro pins s σ H Q I h;exact wpAny_Compare1 (yW ha hb I h λ v u s2 x y H2 I2 rx ry q=>ho pins s2 σ H2 x y v u Q I2 rx ry q) hm
theorem iN:(sizeLine:Nat)<2 ^ 63:=by rw [sizeLine_eq];decide
theorem mH:fH X (binaryOp .Add) (λ x y H Q=> ∃i j,x=.str i/\y=.str j/\i.length+j.length<=sizeLine/\Q (.str (i++j)) H):=by intro pins s σ H x y v u Q I rx ry h;obtain ⟨i,j,rfl,rfl,hz,q⟩:=h;obtain ⟨t,rfl⟩:=rx;obtain ⟨t',rfl⟩:=ry;exact add_str (λ t' tk=>⟨.str (i++j),H,I.tok _,⟨_,rfl⟩,q⟩) hz
theorem cr {x:V}{us:List Value}(r:aQ [x] us):∃u,us=[u]/\aH x u:=by
 cases r with
 | cons r1 r2=>cases r2;exact ⟨_,rfl,r1⟩
theorem w9 {x y:V}{us:List Value}(r:aQ [x,y] us):∃u w',us=[u,w']/\aH x u/\aH y w':=by
 cases r with
 | cons r1 r2=>
   cases r2 with
   | cons r3 r4=>cases r4;exact ⟨_,_,rfl,r1,r3⟩
theorem pS (hc:X.calm=true):aI X (.builtin "max") (λ xs H Q=> ∃i j,xs=[.int i,.int j]/\Q (.int (if j > i then j else i)) H):=by
 intro pins s σ H xs us Q I r h;obtain ⟨i,j,rfl,q⟩:=h;obtain ⟨u,w',rfl,⟨t,rfl⟩,⟨t',rfl⟩⟩:=w9 r;refine max_two_ints (I.ok.hd hc) λ h' tk k=>⟨_,H,I.kept k,?_,q⟩
 by_cases hj:j > i
 ·rw [if_pos hj,if_pos hj];exact ⟨_,rfl⟩
 ·rw [if_neg hj,if_neg hj];exact ⟨_,rfl⟩
theorem pV:aI X (.type "int") (λ xs H Q=>(∃i,xs=[.int i]/\Q (.int i) H)\/∃k,xs=[.bl k]/\Q (.int (if k then 1 else 0)) H):=by
 intro pins s σ H xs us Q I r h
 rcases h with ⟨i,rfl,q⟩ | ⟨k,rfl,q⟩
 ·obtain ⟨u,rfl,t,rfl⟩:=cr r;exact call_int_int ⟨.int i,H,I,⟨_,rfl⟩,q⟩
 ·obtain ⟨u,rfl,r1⟩:=cr r;cases r1;exact call_int_bool ⟨.int (if k then 1 else 0),H,I.tok _,⟨_,rfl⟩,q⟩
end
end L2
namespace L2
open PySem PySem.Spec PyProof.Rows
structure nw (h:Heap) (x dx C:Addr) (mA:Str->Option Value):Prop where
 obj:h.get? x=some (Hd C dx)
 ns:h.Ns1 dx mA
 ne:dx≠x
theorem pF {h:Heap}{dx:Addr}{mA:Str->Option Value}(n:h.Ns1 dx mA):∃od,h.get? dx=some od/\∀name,Hh name od=some (mA name):=by
 obtain ⟨o,es,ep,ho,hd,hk,_,hm⟩:=n;refine ⟨o,ho,λ name=>?_⟩;have e:=hm name;unfold nsFind findBy at e;rw [<-Array.find?_toList] at e;unfold Hh;rw [hd];dsimp only;split
 ·rename_i y q;rw [q] at e;exact congrArg some e
 ·rename_i q;rw [q] at e;have a:es.toList.any (·.refKey)=false:=by rw [Fu];intro y hy;obtain ⟨z,t,hkey⟩:=hk y (Array.mem_toList_iff.mp hy);simp [DictEntry.refKey,hkey]
  have a':¬es.toList.any (·.refKey)=true:=by rw [a];exact Gz
  rw [if_neg a'];exact congrArg some e
theorem nw.look {h:Heap}{x dx C:Addr}{mA:Str->Option Value}(I:nw h x dx C mA):∃od,PySem.W.InstAt h x (Hd C dx) C (some od)/\∀name,Hh name od=some (mA name):=
 let ⟨od,ho,hl⟩:=pF I.ns
 ⟨od,⟨I.obj,rfl,rfl,ho⟩,hl⟩
section
variable {prog:Program}{w:World}{A:Around}{E:Value->Shared->Prop}{s:Shared}{K:Frag}{x dx C f:Addr}{mA:Str->Option Value}{name:Str}{v:Value}
theorem ur {expr:Bool}{Q:Value->Shared->Prop}(X:K.In s.heap) (I:nw s.heap x dx C mA) (hg:Hf K C name=true) (hh:Hg K C=true)
  (ha:GW K (.ref C) name=some none) (hv:mA name=some v) (hv':Ht v=true) (h:Q v {s with toks:=s.toks+1}):
  wpAny (model prog w) A (getAttr (.ref x) name expr) Q E s:=by
 obtain ⟨od,J,hl⟩:=I.look;exact PySem.W.get_value X J (Hq hg).1 (PySem.W.findObj_own hh ha rfl (by rw [hl,hv])) hv' h
theorem rO {pl:Sem Bool}{Q:Value×List Value->Shared->Prop}(X:K.In s.heap) (I:nw s.heap x dx C mA) (hg:Hf K C name=true)
  (hf:GW K (.ref C) name=some (some (.ref f))) (ht:He K (.ref f)=true) (hv:mA name=none) (h:Q (.ref f,[.ref x]) s):
  wpAny (model prog w) A (getMethod (.ref x) name pl) Q E s:=by
 obtain ⟨od,J,hl⟩:=I.look;exact PySem.W.method_fn X J (Hq hg).1 (Hq hg).2 hf (beq_iff_eq.mp ht) (by show (Hh name od).map (·.isSome)=some false;rw [hl,hv];rfl) h
theorem tN {ns:List Str}{Q:Unit->Shared->Prop}(X:K.In s.heap) (I:nw s.heap x dx C mA)
  (hs:GW K (.ref C) "__setattr__"=some (some (.builtin "object.__setattr__"))) (hp:Hi K C=true) (ht:Hr K C name=some none) (hh:Hg K C=true)
  (hw:PySem.Within mA ns) (hsz:ns.length<=sizeLine)
  (h:∀h',nw h' x dx C (λ y=>if y=name then some v else mA y)->Heap.SameBut dx s.heap h'->Q () {s with heap:=h',toks:=s.toks+2}):
  wpAny (model prog w) A (setAttr (.ref x) name v) Q E s:=by
 obtain ⟨od,J,hl⟩:=I.look;refine PySem.W.set_plain X J hs (PySem.W.osa_open (s:={s with toks:=s.toks+1}) (r:=none) X J hp ht λ b=>?_);obtain ⟨cd,hc,hd'⟩:=PySem.W.any_some hh;have hx:s.heap.get? x=some ⟨.ref C,some dx,.plain,#[]⟩:=I.obj;refine wpAny_bind (wpAny_pure (wpAny_bind (wpAny_bind (wpAny_loadPart hx (wpAny_bind (PySem.W.Looks.here (s:={s with toks:=s.toks+1}) (PySem.W.looks_clsIn X hc) ?_))))));rw [hd'];refine wpAny_pure (a:=some dx) (wpAny_bind (wpAny_pure (wpAny_bind ?_)));refine wpAny_nsSet1 (s:={s with toks:=s.toks+1}) I.ns λ h' hn2 hs2=>?_;obtain ⟨oD,esD,epD,hoD,hdD,hcD⟩:=hn2.count (PySem.Within.cons name v hw);refine wpAny_bind (wpAny_lookBehind hoD (by rw [hdD];exact pastItsLine_dict (Ge hcD (by rw [EA];omega))) ?_);exact wpAny_pure (h _ ⟨(hs2.2 _ (Ne.symm I.ne)).trans I.obj,hn2,I.ne⟩ hs2)
theorem q9 {R:Result->Shared->Prop}{vs:List Value}{kw:List (Str×Value)}(X:K.In s.heap) (hm:Hj K C=true)
  (hi:GW K (.ref C) "__init__"=some (some (.ref f))) (hf:PySem.W.typeIn K (.ref f)=some (.type "function"))
  (h:codeAny (model prog w) (A.under (.builtin "type.__call__" ⟨.ref C::vs,kw⟩)) (.call (.ref f) ⟨.ref (s.heap.objs.size+1)::vs,kw⟩) (PySem.W.InitBack (s.heap.objs.size+1) R)
   {s with heap:=(s.heap.push Hb).push (Hd C s.heap.objs.size)}):
  codeAny (model prog w) A (.call (.ref C) ⟨vs,kw⟩) R s:=by
 obtain ⟨hh,g,d,t,os⟩:=s;exact PySem.W.make_core (PySem.W.makes_of X hm) (PySem.W.looks_findIn X hi) (λ self=>PySem.W.bind_fn X self hf) (.inl rfl) h
end
def putF (f:Str) (v:V):List (Str×V)->List (Str×V)
 | []=>[(f,v)]
 | (g,x)::r=>if g=f then (g,v)::r else (g,x)::putF f v r
theorem am (f g:Str) (v:V):∀fs:List (Str×V),(putF f v fs).lookup g=if g=f then some v else fs.lookup g
 | []=>by
   show List.lookup g [(f,v)]=_
   by_cases h:g=f
   ·have hb:(g == f)=true:=beq_iff_eq.mpr h;simp only [List.lookup,hb,if_pos h]
   ·have hb:(g == f)=false:=beq_eq_false_iff_ne.mpr h;simp only [List.lookup,hb,if_neg h]
 | (k,x)::r=>by
   have ih:=am f g v r;rw [show putF f v ((k,x)::r)=(if k=f then (k,v)::r else (k,x)::putF f v r) from rfl]
   by_cases hk:k=f
   ·rw [if_pos hk]
    by_cases h:g=k
    ·have hb:(g == k)=true:=beq_iff_eq.mpr h;simp only [List.lookup,hb,if_pos (h.trans hk)]
    ·have hb:(g == k)=false:=beq_eq_false_iff_ne.mpr h;simp only [List.lookup,hb,if_neg (λ e:g=f=>h (e.trans hk.symm))]
   ·rw [if_neg hk]
    by_cases h:g=k
    ·have hb:(g == k)=true:=beq_iff_eq.mpr h;simp only [List.lookup,hb,if_neg (λ e:g=f=>hk (h.symm.trans e))]
    ·have hb:(g == k)=false:=beq_eq_false_iff_ne.mpr h;simp only [List.lookup,hb];exact ih
theorem gP (f:Str) (v:V):∀fs:List (Str×V),f∈(putF f v fs).map (·.1)/\∀g,g∈fs.map (·.1)->g∈(putF f v fs).map (·.1)
 | []=>⟨by simp [putF],λ g h=>by simp at h⟩
 | (k,x)::r=>by
   obtain ⟨i1,i2⟩:=gP f v r;rw [show putF f v ((k,x)::r)=(if k=f then (k,v)::r else (k,x)::putF f v r) from rfl]
   by_cases hk:k=f
   ·rw [if_pos hk];subst hk;exact ⟨by simp,λ g h=>by simpa using h⟩
   ·rw [if_neg hk];refine ⟨?_,λ g h=>?_⟩
    ·rw [EJ];exact Ez _ i1
    ·rw [EJ] at h ⊢
     rcases Ew.mp h with e | e
     ·exact Ew.mpr (.inl e)
     ·exact Ez _ (i2 g e)
theorem bf (f:Str) (v:V):∀fs:List (Str×V),(putF f v fs).length<=fs.length+1
 | []=>by simp [putF]
 | (k,x)::r=>by
   have ih:=bf f v r;rw [show putF f v ((k,x)::r)=(if k=f then (k,v)::r else (k,x)::putF f v r) from rfl]
   by_cases hk:k=f
   ·rw [if_pos hk,EA,EA];omega
   ·rw [if_neg hk,EA,EA];omega
theorem jj.some_of {v:V}{o:Option Value}(r:jj (some v) o):∃u,o=some u/\aH v u:=by
 cases o with
 | none=>exact (show False from r).elim
 | some u=>exact ⟨u,rfl,r⟩
theorem jj.none_of {o:Option Value}(r:jj none o):o=none:=by
 cases o with
 | none=>rfl
 | some u=>exact (show False from r).elim
theorem pK {v:V}{u:Value}(r:aH v u):Ht u=true:=by
 cases v with
 | non=>cases (show u=Value.none from r);rfl
 | bl b=>cases (show u=Value.bool b from r);rfl
 | int i=>obtain ⟨t,e⟩:=(show∃t,u=Value.int i t from r);cases e;rfl
 | str x=>obtain ⟨t,e⟩:=(show∃t,u=Value.str x t from r);cases e;rfl
 | byt b=>obtain ⟨t,e⟩:=(show∃t,u=Value.bytes b t from r);cases e;rfl
 | flt b=>obtain ⟨t,e⟩:=(show∃t,u=Value.float b t from r);cases e;rfl
 | ref a=>cases (show u=Value.ref a from r);rfl
 | ty n=>cases (show u=Value.type n from r);rfl
 | tok x t=>cases (show u=Value.str x t from r);rfl
section
variable {P:Program}{w:World}{H H':Hp}{h h':Heap}{a C dx:Addr}{fs fs':List (Str×V)}
theorem ij (hok:hG P w H h) (e:H a=some (.ins C dx fs)):∃mA,nw h a dx C mA/\(∀f,jj (fs.lookup f) (mA f))/\PySem.Within mA (fs.map (·.1))/\fs.length<=1000/\H dx=some (.own a):=by obtain ⟨d,z,ne,ob,mA,n,r,q⟩:=(show bg P w H h a (.ins C dx fs) from hok a _ e);exact ⟨mA,⟨ob,n,ne⟩,r,q,z,d⟩
end
structure l8 (K:Frag) (C:Addr):Prop where
 pg:Hf K C Str.empty=true
 hd:Hg K C=true
 po:Hi K C=true
 sa:GW K (.ref C) "__setattr__"=some (some (.builtin "object.__setattr__"))
theorem l8.get {K:Frag}{C:Addr}(c:l8 K C) (f:Str):Hf K C f=true:=c.pg
def bB (K:Frag) (C:Addr) (f:Str):Prop:=GW K (.ref C) f=some none
theorem bB.taker {K:Frag}{C:Addr}{f:Str}(n:bB K C f):Hr K C f=some none:=by unfold Hr;rw [show GW K (.ref C) f=some none from n];rfl
structure Dp (K:Frag) (C:Addr) (m:Str) (f:Addr):Prop where
 at_:GW K (.ref C) m=some (some (.ref f))
 fn:He K (.ref f)=true
 kp:Ha K (.ref f)=true
section
variable {X:Cx}{pins:List (Addr×Obj)}{σ:St}{H:Hp}{s:Shared}{a C dx:Addr}{fs:List (Str×V)}{f:Str}{v:V}{A:Around}{E:Value->Shared->Prop}
theorem mW {b:Bool}{Q:Value->Shared->Prop}(I:aq X pins σ H s) (e:H a=some (.ins C dx fs)) (c:l8 X.K C) (n:bB X.K C f) (l:fs.lookup f=some v)
  (h:∀u s',aq X pins σ H s'->aH v u->Q u s'):wpAny (model X.prog X.w) A (getAttr (.ref a) f b) Q E s:=by
 obtain ⟨mA,O,r,_,_,_⟩:=ij I.hok e;obtain ⟨u,hu,ru⟩:=jj.some_of (v:=v) (o:=mA f) (by rw [<-l];exact r f);exact ur I.kIn O (c.get f) c.hd n hu (pK ru) (h u _ (I.tok _) ru)
theorem iR {m:Str}{g:Addr}{pl:Sem Bool}{Q:Value×List Value->Shared->Prop}(I:aq X pins σ H s) (e:H a=some (.ins C dx fs)) (c:l8 X.K C) (k:Dp X.K C m g) (l:fs.lookup m=none)
  (h:Q (.ref g,[.ref a]) s):wpAny (model X.prog X.w) A (getMethod (.ref a) m pl) Q E s:=by
 obtain ⟨mA,O,r,_,_,_⟩:=ij I.hok e;have hn:mA m=none:=jj.none_of (by rw [<-l];exact r m);exact rO I.kIn O (c.get m) k.at_ k.fn hn h
theorem mn {y:V}{u:Value}{Q:Unit->Shared->Prop}(I:aq X pins σ H s) (e:H a=some (.ins C dx fs)) (c:l8 X.K C) (n:bB X.K C f) (hl:fs.length<1000) (ry:aH y u)
  (h:∀s',aq X pins σ (upd H a (.ins C dx (putF f y fs))) s'->Q () s'):wpAny (model X.prog X.w) A (setAttr (.ref a) f u) Q E s:=by
 obtain ⟨mA,O,r,wi,_,ho⟩:=ij I.hok e;have hz:(fs.map (·.1)).length<=sizeLine:=by rw [Eu,sizeLine_eq];omega
 refine tN I.kIn O c.sa c.po n.taker c.hd wi hz λ h' O' sb=>h _ ?_;have hd:∃o,h'.get? dx=some o:=let ⟨o,_,_,e',_⟩:=O'.ns;⟨o,e'⟩;refine I.write (x:=a) (e:=dx) (by rw [e];exact True.intro) (.inr ho) (λ b q hb z=>(sb.2 b hb).trans z) hd ?_;refine ⟨by rw [ah O.ne];exact ho,?_,O.ne,O'.obj,_,O'.ns,λ g=>?_,λ g hg=>?_⟩
 ·have:=bf f y fs;omega
 ·show jj ((putF f y fs).lookup g) (if g=f then some u else mA g);rw [am]
  by_cases q:g=f
  ·rw [if_pos q,if_pos q];exact ry
  ·rw [if_neg q,if_neg q];exact r g
 ·by_cases q:g=f
  ·rw [q];exact (gP f y fs).1
  ·refine (gP f y fs).2 g (wi g λ z=>hg ?_);show (if g=f then some u else mA g)=none;rw [if_neg q];exact z
theorem aq.made (I:aq X pins σ H s):aq X pins σ (upd (upd H s.heap.objs.size (.own (s.heap.objs.size+1))) (s.heap.objs.size+1) (.ins C s.heap.objs.size []))
  {s with heap:=(s.heap.push Hb).push (Hd C s.heap.objs.size)}:=by
 have e1:(s.heap.push Hb).get? s.heap.objs.size=some Hb:=Heap.get?_push_size s.heap rfl;have e2:((s.heap.push Hb).push (Hd C s.heap.objs.size)).get? (s.heap.objs.size+1)=some (Hd C s.heap.objs.size):=by
  have:=Heap.get?_push_size (s.heap.push Hb) (o:=Hd C s.heap.objs.size) rfl
  rwa [Heap.size_push] at this
 have e3:(s.heap.push Hb).Ns s.heap.objs.size (λ _=>none):=⟨Hb,#[],_,e1,rfl,(λ e he=>absurd he (by simp)),λ _=>rfl⟩;have I1:=I.laid (a:=s.heap.objs.size) (o:=.own (s.heap.objs.size+1)) (h':=s.heap.push Hb) (t':=s.toks) (λ b u q=>Heap.get?_push_of_some _ q) (Gc _) ⟨_,e1⟩;refine I1.laid (a:=s.heap.objs.size+1) (o:=.ins C s.heap.objs.size []) (t':=s.toks) (λ b u q=>Heap.get?_push_of_some _ q) (Go (Heap.size_push _ _)) ?_;have ne:s.heap.objs.size≠s.heap.objs.size+1:=Gb (Gk _);refine ⟨by rw [ah ne,af],Gd _,ne,e2,λ _=>none,(Heap.Ns1.of_empty e3).at λ o q=>Heap.get?_push_of_some _ q,λ _=>True.intro,λ y hy=>absurd rfl hy⟩
theorem uI {prog:Program}{w:World}{env:Env}{e:Expr}{f:Str}{pos:Pos}{s:Shared}{Q:Value->Shared->Prop}(hb:attributeBase e f env (eval e env)=eval e env)
  (h:wpAny (model prog w) A (eval e env) (λ o s₁=>wpAny (model prog w) A (getAttr o f true) Q E s₁) E s):wpAny (model prog w) A (eval (.Attribute e f pos) env) Q E s:=
 Attribute_any_ h (by rw [arm_eval_Attribute,hb])
end
def oX (K:Frag) (ta tv:TE) (f:Str):TS:=λ D σ H=>tv σ H λ y H1=>ta σ H1 λ x H2=> ∃a C dx fs,x=.ref a/\H2 a=some (.ins C dx fs)/\l8 K C/\bB K C f/\fs.length<1000/\
 D.nx σ (upd H2 a (.ins C dx (putF f y fs)))
section
variable {X:Cx}{o e value:Expr}{f:Str}{pos pos' tpos:Pos}{ta tv:TE}
theorem xM (ha:PE X o ta) (hv:PE X value tv) (hs:swapsWith value (some (.Attribute o f pos')) pos.line X.env=pure false):PS X (.Assign [.Attribute o f pos'] value pos) (oX X.K ta tv f):=by intro pins s σ H D I h;refine plainObj_wpAny_Assign_Attribute (bx (hv pins s σ H _ I h) λ u s1 ⟨y,H1,I1,ry,q⟩=>bx (ha pins s1 σ H1 _ I1 q) λ ov s2 ⟨x,H2,I2,rx,a,C,dx,fs,ex,ea,c,n,l,q2⟩=>?_) hs;subst ex;obtain rfl:ov=Value.ref a:=rx;exact mn I2 ea c n l ry λ s3 I3=>⟨σ,_,I3,q2⟩
end
section
variable {X:Cx}{pins:List (Addr×Obj)}{σ:St}{H:Hp}{s:Shared}{A:Around}{E:Value->Shared->Prop}{Q:Value->Shared->Prop}{c:Value}{b:Bool}
inductive gW (K:Frag) (H:Hp):V->Value->Prop where
 | non:gW K H .non (.type "NoneType")
 | bl (x:Bool):gW K H (.bl x) (.type "bool")
 | int (i:Int):gW K H (.int i) (.type "int")
 | str (x:Str):gW K H (.str x) (.type "str")
 | flt (x:UInt64):gW K H (.flt x) (.type "float")
 | lst {a:Addr} {xs:List V} (e:H a=some (.lst xs)):gW K H (.ref a) (.type "list")
 | frz {a:Addr} {o:Obj} {xs:List V} (e:H a=some (.frz o (.lst xs))):gW K H (.ref a) (.type "list")
 | tup {a:Addr} {xs:List V} (e:H a=some (.tup xs)):gW K H (.ref a) (.type "tuple")
 | dK {a:Addr} {kvs:List (Key×V)} (e:H a=some (.dK kvs)):gW K H (.ref a) (.type "dict")
 | dT {a:Addr} {kvs:List (List Key×V)} (e:H a=some (.dT kvs)):gW K H (.ref a) (.type "dict")
 | ins {a C dx:Addr} {fs:List (Str×V)} (e:H a=some (.ins C dx fs)) (cl:l8 K C) (ha:GW K (.ref C) "__class__"=some (some (.builtin "object.__class__")))
   (hn:PySem.W.specialIn K (.builtin "object.__class__") "__get__"=some (some (.builtin "getset_descriptor.__get__"))) (htk:PySem.W.takesIn K (.builtin "object.__class__")=some true)
   (hm:PySem.W.mroIn K C (.type "object")=some true):gW K H (.ref a) (.ref C)
theorem pI {x:V}{u t:Value}(I:aq X pins σ H s) (rx:aH x u) (ty:gW X.K H x t) (e:Hk X.K t c=some b) (h:∀tk,Q (.bool b) {s with toks:=tk}):
  wpAny (model X.prog X.w) A (call (.builtin "isinstance") [u,c]) Q E s:=by
 cases ty with
 | non=>cases (show u=Value.none from rx);exact G0 PySem.W.kitx_none I.kIn True.intro e (λ z=>nomatch z) h
 | bl y=>cases (show u=Value.bool y from rx);exact G0 PySem.W.kitx_bool I.kIn True.intro e (λ z=>nomatch z) h
 | int i=>obtain ⟨t,q⟩:=(show∃t,u=Value.int i t from rx);cases q;exact G0 PySem.W.kitx_int I.kIn True.intro e (λ z=>nomatch z) h
 | str y=>obtain ⟨t,q⟩:=(show∃t,u=Value.str y t from rx);cases q;exact G0 PySem.W.kitx_str I.kIn True.intro e (λ z=>nomatch z) h
 | flt y=>obtain ⟨t,q⟩:=(show∃t,u=Value.float y t from rx);cases q;exact G0 PySem.W.kitx_float I.kIn True.intro e (λ z=>nomatch z) h
 | @lst a xs ea=>
   cases (show u=Value.ref a from rx);obtain ⟨_,_,n,_,h1⟩:=(show bg X.prog X.w H s.heap a (.lst xs) from I.hok a _ ea);exact G0 Hu I.kIn ⟨_,h1,rfl⟩ e (λ z=>nomatch z) h
 | @frz a ob xs ea=>
   cases (show u=Value.ref a from rx);obtain ⟨_,_,_,n,_,h1⟩:=(show bg X.prog X.w H s.heap a (.frz ob (.lst xs)) from I.hok a _ ea);exact G0 Hu I.kIn ⟨_,h1,rfl⟩ e (λ z=>nomatch z) h
 | @tup a xs ea=>
   cases (show u=Value.ref a from rx);obtain ⟨_,_,_,p⟩:=(show bg X.prog X.w H s.heap a (.tup xs) from I.hok a _ ea);obtain ⟨o,h1,h2,_⟩:=p;exact G0 PySem.W.kitx_tuple I.kIn ⟨o,h1,h2⟩ e (λ z=>nomatch z) h
 | @dK a kvs ea=>
   cases (show u=Value.ref a from rx);obtain ⟨_,_,vs,_,p⟩:=(show bg X.prog X.w H s.heap a (.dK kvs) from I.hok a _ ea);obtain ⟨o,es,ep,h1,h2,_⟩:=p;exact G0 Hv I.kIn ⟨o,h1,h2.1⟩ e (λ z=>nomatch z) h
 | @dT a kvs ea=>
   cases (show u=Value.ref a from rx);obtain ⟨_,_,xs,_,o,es,ep,h1,h2,_⟩:=(show bg X.prog X.w H s.heap a (.dT kvs) from I.hok a _ ea);exact G0 Hv I.kIn ⟨o,h1,h2.1⟩ e (λ z=>nomatch z) h
 | @ins a C dx fs ea cl ha hn htk hm=>
   cases (show u=Value.ref a from rx);obtain ⟨mA,O,_⟩:=ij I.hok ea;obtain ⟨od,J,_⟩:=O.look;exact G0 (PySem.W.kitx_own (cl.get _) cl.hd ha hn htk hm) I.kIn J e (λ z=>nomatch z) h
end
end L2
namespace L2
open PySem PySem.Spec PyProof.Rows
structure bQ (k:Nat) (A:Around):Prop where
 hd:A.handled=none
 dp:A.depth+3*k+5<recursionLimit
 un:A.units+16*k+200<cLine
theorem bQ.mono {j k:Nat}{A:Around}(r:bQ k A) (h:j<=k):bQ j A:=⟨r.hd,by have:=r.dp;omega,by have:=r.un;omega⟩
theorem bQ.deeper {k:Nat}{A:Around}(r:bQ (k+1) A) (env:Env):bQ k (A.deeper env):=
 ⟨r.hd,by have:=r.dp;show A.depth+1+3*k+5<_;omega,by have:=r.un;show A.units+3+16*k+200<_;omega⟩
theorem mS {A:Around}{C:Addr}{us:List Value}{kw:List (Str×Value)}:(A.under (.builtin "type.__call__" ⟨.ref C::us,kw⟩)).depth=A.depth+1:=by
 first | rfl | simp [Around.under,Code.weight,Code.isCreation,Code.isGuard,Code.isCaller,Code.frames,Code.isFrame,guardIds]
theorem mR {A:Around}{C:Addr}{us:List Value}{kw:List (Str×Value)}:(A.under (.builtin "type.__call__" ⟨.ref C::us,kw⟩)).units=A.units+1:=by
 first | rfl | simp [Around.under,Code.cUnits,Code.frames,Code.isFrame]
theorem bQ.make {k:Nat}{A:Around}(r:bQ (k+1) A) (C:Addr) (us:List Value) (kw:List (Str×Value)):bQ k (A.under (.builtin "type.__call__" ⟨.ref C::us,kw⟩)):=
 ⟨r.hd,by have:=r.dp;rw [mS];omega,by have:=r.un;rw [mR];omega⟩
theorem bQ.depth {k:Nat}{A:Around}(r:bQ k A):A.depth<recursionLimit:=by have:=r.dp;omega
theorem bQ.units {k:Nat}{A:Around}(r:bQ k A):A.units+64<cLine:=by have:=r.un;omega
def bu:TA:=λ _ H Q=>Q [] H
def aC (ta:TE) (tr:TA):TA:=λ σ H Q=>ta σ H λ x H1=>tr σ H1 λ xs H2=>Q (x::xs) H2
section
variable {X:Cx}{e:Expr}{es:List Expr}{te:TE}{t:TA}{pos:Pos}
theorem pa_nil:PA X [] bu:=λ _ _ _ _ H Q I h=>Calls.spliced_nil ⟨[],H,I,.nil,h⟩
theorem pa_cons (ha:PE X e te) (hr:PA X es t) (hs:starEach (e::es) X.env=(false,eval e X.env)::starEach es X.env:=by rfl):PA X (e::es) (aC te t):=by intro pos pins s σ H Q I h;rw [hs];show wpAny _ _ (spliced ((false,eval e X.env)::backTo pos (starEach es X.env))) _ _ s;refine Calls.spliced_cons (bx (ha pins s σ H _ I h) λ u s1 ⟨x,H1,I1,r1,q1⟩=>?_);exact bx (hr pos pins s1 σ H1 _ I1 q1) λ us s2 ⟨xs,H2,I2,r2,q2⟩=>⟨x::xs,H2,I2,.cons r1 r2,q2⟩
def kO (t:TA):TE:=λ σ H Q=>t σ H λ xs H1=>xs.length<=sizeLine/\∀p,H1 p=none->Q (.ref p) (upd H1 p (.tup xs))
def oM (t:TA):TE:=λ σ H Q=>t σ H λ xs H1=>xs.length<=sizeLine/\∀p,H1 p=none->Q (.ref p) (upd H1 p (.lst xs))
theorem xU {x1}(h:PA X es t):PE X (.Tuple es x1 pos) (kO t):=by intro pins s σ H Q I hq;refine wpAny_Tuple_spliced (bx (h pos pins s σ H _ I hq) λ us s1 ⟨xs,H1,I1,r,z,q⟩=>⟨by rw [<-r.length];exact z,?_⟩);have hf:H1 s1.heap.objs.size=none:=I1.hok.fresh (Gc _);refine ⟨.ref s1.heap.objs.size,upd H1 s1.heap.objs.size (.tup xs),I1.laid (t':=s1.toks) (λ b u e=>Heap.get?_push_of_some _ e) (Gc _) ?_,rfl,q _ hf⟩;exact ⟨z,us,r,⟨_,Heap.get?_push_size _ rfl,rfl,_,rfl⟩⟩
theorem cT (h:PA X es t):PE X (.List es pos) (oM t):=by intro pins s σ H Q I hq;refine wpAny_List_spliced (bx (h pos pins s σ H _ I hq) λ us s1 ⟨xs,H1,I1,r,z,q⟩=>⟨by rw [<-r.length];exact z,?_⟩);have hf:H1 s1.heap.objs.size=none:=I1.hok.fresh (Gc _);refine ⟨.ref s1.heap.objs.size,upd H1 s1.heap.objs.size (.lst xs),I1.laid (t':=s1.toks) (λ b u e=>Heap.get?_push_of_some _ e) (Gc _) ?_,rfl,q _ hf⟩;exact ⟨z,us,0,r,Heap.get?_push_size _ rfl⟩
end
abbrev Sp:=List V->Hp->VK->XK->Prop
abbrev qf:=List Env->Hp->Shared->XK->Value->Shared->Prop
structure l7 (P:Program) (w:World) (K:Frag) (mg:Str->Option Value) (base:Heap) (A:Around) (outer:List Env) (s:Shared) (H:Hp):Prop where
 frames:A.frames=some outer
 mod:Mod K mg base
 bs:∀b o,base.get? b=some o->s.heap.get? b=some o/\H b=none
 bsz:base.objs.size<=s.heap.objs.size
 funs:s.heap.FunFrames base outer
 frf:∀b∈lN outer,H b=none
 hok:hG P w H s.heap
 bare:AllBare s.gens
def CE (outer:List Env) (P:Program) (w:World) (H:Hp) (s:Shared) (Q:VK) (u:Value) (s':Shared):Prop:=
 ∃v H',s'.os=s.os/\AllBare s'.gens/\Un (lN outer) [] H H' s.heap s'.heap/\hG P w H' s'.heap/\aH v u/\Q v H'
def CR (CX:qf) (outer:List Env) (P:Program) (w:World) (H:Hp) (s:Shared) (Q:VK) (E:XK) (r:Result) (s':Shared):Prop:=
 match r with
 | .ok (.ret u)=>CE outer P w H s Q u s'
 | .ok _=>False
 | .error e=>CX outer H s E e s'
structure bi (P:Program) (w:World) (K:Frag) (mg:Str->Option Value) (base:Heap) (CX:qf) (k:Nat) (f:Addr) (fd:FuncData) (ps:List Str) (sp:Sp):Prop where
 len:∀vs H Q E,sp vs H Q E->vs.length=ps.length
 run:∀(A:Around) (outer:List Env) (s:Shared) (H:Hp) (args:Args) (us:List Value) (vs:List V) (Q:VK) (E:XK),bQ k A->l7 P w K mg base A outer s H->BindsTo s fd args (ps.zip us)->aQ vs us->sp vs H Q E->
  codeAny (model P w) A (.call (.ref f) args) (CR CX outer P w H s Q E) s
theorem bi.imp {P:Program}{w:World}{K:Frag}{mg:Str->Option Value}{base:Heap}{CX:qf}{k:Nat}{f:Addr}{fd:FuncData}{ps:List Str}{sp sp':Sp}(F:bi P w K mg base CX k f fd ps sp)
  (h:∀vs H Q E,sp' vs H Q E->sp vs H Q E):bi P w K mg base CX k f fd ps sp':=
 ⟨λ vs H Q E q=>F.len vs H Q E (h _ _ _ _ q),λ A outer s H args us vs Q E hr he hb hv hs=>F.run A outer s H args us vs Q E hr he hb hv (h _ _ _ _ hs)⟩
theorem l7.make {P:Program}{w:World}{K:Frag}{mg:Str->Option Value}{base:Heap}{A:Around}{outer:List Env}{s:Shared}{H:Hp}(e:l7 P w K mg base A outer s H) (C:Addr) (us:List Value) (kw:List (Str×Value)):
  l7 P w K mg base (A.under (.builtin "type.__call__" ⟨.ref C::us,kw⟩)) outer s H:=⟨by first | exact e.frames | (simpa [Around.under,Code.envs,Code.isFrame,pushEnvs] using e.frames),e.mod,e.bs,e.bsz,e.funs,e.frf,e.hok,e.bare⟩
section
variable {X:Cx}{pins:List (Addr×Obj)}{σ:St}{H:Hp}{s s':Shared}
theorem aq.env0 (I:aq X pins σ H s):l7 X.prog X.w X.K X.mg X.base X.A X.stack s H:=
 ⟨I.ok.frames,I.ok.mod,I.bs,Ge I.ok.bsz I.sz,I.stack,I.stkFree,I.hok,I.bare⟩
theorem aq.after {Q:VK}{u:Value}(I:aq X pins σ H s) (h:CE X.stack X.prog X.w H s Q u s'):EP X pins σ Q u s':=by obtain ⟨v,H',os,bare,un,hok,r,q⟩:=h;obtain ⟨hh,g,d,t,os'⟩:=s';obtain rfl:os'=s.os:=os;exact ⟨v,H',I.call (h':=hh) (g':=g) (d':=d) (t':=t) (ch:=[]) un hok bare (λ b z=>absurd z (by simp)),r,q⟩
end
def qo (sp:Sp) (dvs:List V) (E:XK) (t:TA):TE:=λ σ H Q=>t σ H λ vs H1=>sp (vs++dvs) H1 Q E
def qm (C:Addr) (sp:Sp) (dvs:List V) (E:XK) (t:TA):TE:=λ σ H Q=>t σ H λ vs H1=> ∀x dx,H1 x=none->H1 dx=none->dx≠x->
 sp (.ref x::(vs++dvs)) (upd (upd H1 dx (.own x)) x (.ins C dx [])) (λ v H2=>v=.non/\Q (.ref x) H2) E
def eQ (K:Frag) (fd:FuncData) (ps:List Str) (ds:List Value):Prop:=
 ∀(s:Shared) (us:List Value),K.In s.heap->(us++ds).length=ps.length->BindsTo s fd ⟨us,[]⟩ (ps.zip (us++ds))
theorem eQ.all {K:Frag}{fd:FuncData}{ps:List Str}(h:∀us:List Value,us.length=ps.length->bindArgs fd ⟨us,[]⟩=pure (ps.zip us)):eQ K fd ps []:=λ s us _ hl=>by rw [ET] at hl ⊢;exact .of_eq (h us hl)
def i7 (CX:qf) (X:Cx) (E:XK):Prop:= ∀(pins:List (Addr×Obj)) (σ:St) (H:Hp) (s:Shared) (e:Value) (s':Shared),aq X pins σ H s->CX X.stack H s E e s'->X.xe e s'
section
variable {X:Cx}{CX:qf}{k:Nat}{f C:Addr}{fd:FuncData}{ps:List Str}{sp:Sp}{dvs:List V}{ds:List Value}{E:XK}{x m:Str}{p pos apos:Pos}{e o:Expr}{es:List Expr}{ta:TE}{t:TA}
theorem mw {pins:List (Addr×Obj)}{σ:St}{H:Hp}{s:Shared}{Q:VK}{us:List Value}{vs:List V}(F:bi X.prog X.w X.K X.mg X.base CX k f fd ps sp) (hr:bQ k X.A) (hb:eQ X.K fd ps ds) (hd:aQ dvs ds) (hx:i7 CX X E)
  (I:aq X pins σ H s) (r:aQ vs us) (h:sp (vs++dvs) H Q E):wpAny (model X.prog X.w) X.A (call (.ref f) us) (EP X pins σ Q) X.xe s:=by
 have r2:aQ (vs++dvs) (us++ds):=r.append hd;have hl:(us++ds).length=ps.length:=by rw [<-r2.length];exact F.len _ _ _ _ h
 refine wpAny_call (codeAny_mono (F.run X.A X.stack s H ⟨us,[]⟩ (us++ds) (vs++dvs) Q E hr I.env0 (hb s us I.kIn hl) r2 h) λ r s' hq=>?_);cases r with
 | error e=>exact hx pins σ H s e s' I hq
 | ok fl=>
   cases fl with
   | ret u=>exact I.after hq
   | next=>exact False.elim hq
   | brk=>exact False.elim hq
   | cont=>exact False.elim hq
theorem tZ (F:bi X.prog X.w X.K X.mg X.base CX k f fd ps sp) (hr:bQ k X.A) (hg:Gl X x) (hm:X.mg x=some (.ref f)) (hk:Ha X.K (.ref f)=true) (hb:eQ X.K fd ps ds) (hd:aQ dvs ds) (hx:i7 CX X E)
  (ha:PA X (e::es) t) (hdb:(x == ("__debug__":Str))=false:=by decide) (he:starEach (e::es) X.env=(false,eval e X.env)::starEach es X.env:=by rfl) (hpl:(backTo pos (starEach es X.env)).any (·.1)=false:=by rfl):
  PE X (.Call (.Name x p) (e::es) [] pos) (qo sp dvs E t):=by
 intro pins s σ H Q I h;refine wpAny_Call_Name_kw (ii I hg hm ?_ hdb);refine Hl (h₀:=X.base) I.ok.mod.kin hk (bx (ha pos pins s σ H _ I h) λ us s1 ⟨vs,H1,I1,r,q⟩=>⟨I1.kIn,?_⟩) he hpl;exact mw F hr hb hd hx I1 r q
structure Mk (K:Frag) (C f:Addr):Prop where
 makes:Hj K C=true
 init:GW K (.ref C) "__init__"=some (some (.ref f))
 fn:He K (.ref f)=true
 kp:Ha K (.ref C)=true
theorem qH {pins:List (Addr×Obj)}{σ:St}{H:Hp}{s:Shared}{Q:VK}{us:List Value}{vs:List V}(M:Mk X.K C f) (F:bi X.prog X.w X.K X.mg X.base CX k f fd ps sp) (hr:bQ (k+1) X.A) (hb:eQ X.K fd ps ds) (hd:aQ dvs ds)
  (hx:i7 CX X E) (I:aq X pins σ H s) (r:aQ vs us)
  (h:∀x dx,H x=none->H dx=none->dx≠x->sp (.ref x::(vs++dvs)) (upd (upd H dx (.own x)) x (.ins C dx [])) (λ v H2=>v=.non/\Q (.ref x) H2) E):
  wpAny (model X.prog X.w) X.A (call (.ref C) us) (EP X pins σ Q) X.xe s:=by
 have hq:=h (s.heap.objs.size+1) s.heap.objs.size (I.hok.fresh (Gg _)) (I.hok.fresh (Gc _)) (Gb (Gk _));have I2:=aq.made (C:=C) I;have r2:aQ (V.ref (s.heap.objs.size+1)::(vs++dvs)) (Value.ref (s.heap.objs.size+1)::(us++ds)):=.cons rfl (r.append hd);have hl:(Value.ref (s.heap.objs.size+1)::us++ds).length=ps.length:=by have e:=r2.length;rw [F.len _ _ _ _ hq] at e;exact e.symm
 refine wpAny_call (q9 (f:=f) I.kIn M.makes M.init (beq_iff_eq.mp M.fn) (codeAny_mono (F.run _ X.stack _ _ ⟨Value.ref (s.heap.objs.size+1)::us,[]⟩ (Value.ref (s.heap.objs.size+1)::(us++ds)) _ _ E (hr.make C us [])
  (I2.env0.make C us []) (hb _ (Value.ref (s.heap.objs.size+1)::us) I2.kIn hl) r2 hq) λ r s' hq'=>?_))
 cases r with
 | error e=>exact hx pins σ _ _ e s' I2 hq'
 | ok fl=>
   cases fl with
   | ret u=>
     obtain ⟨v,H',I3,rv,ev,q3⟩:=I2.after hq';subst ev;exact ⟨rv,⟨V.ref (s.heap.objs.size+1),H',I3,rfl,q3⟩⟩
   | next=>exact False.elim hq'
   | brk=>exact False.elim hq'
   | cont=>exact False.elim hq'
theorem tV (M:Mk X.K C f) (F:bi X.prog X.w X.K X.mg X.base CX k f fd ps sp) (hr:bQ (k+1) X.A) (hg:Gl X x) (hm:X.mg x=some (.ref C)) (hb:eQ X.K fd ps ds) (hd:aQ dvs ds) (hx:i7 CX X E)
  (ha:PA X (e::es) t) (hdb:(x == ("__debug__":Str))=false:=by decide) (he:starEach (e::es) X.env=(false,eval e X.env)::starEach es X.env:=by rfl) (hpl:(backTo pos (starEach es X.env)).any (·.1)=false:=by rfl):
  PE X (.Call (.Name x p) (e::es) [] pos) (qm C sp dvs E t):=by
 intro pins s σ H Q I h;refine wpAny_Call_Name_kw (ii I hg hm ?_ hdb);refine Hl (h₀:=X.base) I.ok.mod.kin M.kp (bx (ha pos pins s σ H _ I h) λ us s1 ⟨vs,H1,I1,r,q⟩=>⟨I1.kIn,?_⟩) he hpl;exact qH M F hr hb hd hx I1 r q
end
section
variable {X:Cx}{CX:qf}{k:Nat}{f C:Addr}{fd:FuncData}{ps ks:List Str}{sp:Sp}{E:XK}{x m:Str}{p pos apos kpos:Pos}{e o:Expr}{es:List Expr}{kws:List Keyword}{te ta:TE}{t tk:TA}{nm:Option Str}
variable {g:List Value->List Value->List Value}{gV:List V->List V->List V}
end
structure ay (N P:List Str) (sc:Scope):Prop where
 kind:sc.kind=.function
 co:sc.isCoroutine=false
 gen:sc.isGenerator=false
 nd:N.Nodup
 pre:N.take P.length=P
 par:∀x∈P,sc.names.lookup x=some .local\/sc.names.lookup x=some .cell
 nofree:∀y∈sc.names,y.2≠.free
theorem jH {kindOf:Str->Option NameKind}{x:Str}:∀{binds:List (Str×Value)}{m:Str->Option Value},(∀v,(x,v)∉binds)->bindL kindOf binds m x=m x
 | [],_,_=>rfl
 | (n,v)::r,m,h=>by
   unfold bindL;rw [jH λ w hw=>h w (Ez _ hw)];split
   ·have:x≠n:=by rintro rfl;exact h v ED
    simp [this]
   ·rfl
theorem jJ {kindOf:Str->Option NameKind}{x:Str}:∀{binds:List (Str×Value)}{m:Str->Option Value},(∀v,(x,v)∉binds)->bindC kindOf binds m x=m x
 | [],_,_=>rfl
 | (n,v)::r,m,h=>by
   unfold bindC;rw [jJ λ w hw=>h w (Ez _ hw)];split
   ·rfl
   ·have:x≠n:=by rintro rfl;exact h v ED
    simp [this]
theorem jI {kindOf:Str->Option NameKind}{x:Str}{v:Value}:∀{P:List Str}{vs:List Value}{i:Nat}{m:Str->Option Value},P.Nodup->P[i]? =some x->vs[i]? =some v->kindOf x=some .local->
  bindL kindOf (P.zip vs) m x=some v
 | [],_,_,_,_,h,_,_=>by simp at h
 | _::_,[],_,_,_,_,h,_=>by simp at h
 | p::P,w::vs,0,m,nd,h1,h2,hk=>by simp at h1 h2;subst h1;subst h2;show bindL kindOf ((p,w)::P.zip vs) m p=_;unfold bindL;rw [jH λ v hv=>(E9.mp nd).1 (Fh hv).1,if_pos hk];simp
 | p::P,w::vs,i+1,m,nd,h1,h2,hk=>by show bindL kindOf ((p,w)::P.zip vs) m x=_;unfold bindL;exact jI (i:=i) (E9.mp nd).2 (by simpa using h1) (by simpa using h2) hk
theorem jK {kindOf:Str->Option NameKind}{x:Str}{v:Value}:∀{P:List Str}{vs:List Value}{i:Nat}{m:Str->Option Value},P.Nodup->P[i]? =some x->vs[i]? =some v->kindOf x≠some .local->
  bindC kindOf (P.zip vs) m x=some v
 | [],_,_,_,_,h,_,_=>by simp at h
 | _::_,[],_,_,_,_,h,_=>by simp at h
 | p::P,w::vs,0,m,nd,h1,h2,hk=>by simp at h1 h2;subst h1;subst h2;show bindC kindOf ((p,w)::P.zip vs) m p=_;unfold bindC;rw [jJ λ v hv=>(E9.mp nd).1 (Fh hv).1,if_neg hk];simp
 | p::P,w::vs,i+1,m,nd,h1,h2,hk=>by show bindC kindOf ((p,w)::P.zip vs) m x=_;unfold bindC;exact jK (i:=i) (E9.mp nd).2 (by simpa using h1) (by simpa using h2) hk
def fI (N:List Str) (vs:List V):St:=vs.map some++List.replicate (N.length - vs.length) none
def iU (CX:qf) (P:Program) (w:World) (K:Frag) (mg:Str->Option Value) (base:Heap) (N:List Str) (qual:Str) (scope:Scope) (f:Addr) (cd:Value) (A:Around) (outer:List Env) (s:Shared) (H:Hp) (E:XK):Cx where
 prog:=P
 w:=w
 K:=K
 mg:=mg
 base:=base
 A:=A.deeper (envOfC qual scope s.heap.objs.size f cd)
 N:=N
 s₀:=s
 H₀:=H
 env:=envOfC qual scope s.heap.objs.size f cd
 outer:=outer
 stack:=envOfC qual scope s.heap.objs.size f cd::outer
 ex:=[]
 calm:=true
 fn:=λ _=>true
 pn:=[]
 xe:=λ e s'=>wpAny (model P w) (A.deeper (envOfC qual scope s.heap.objs.size f cd)) (leaving (envOfC qual scope s.heap.objs.size f cd) e) (λ _ s''=>CX outer H s E e s'') (λ e' s''=>CX outer H s E e' s'') s'
theorem lV {sc:Scope}{n:Nat}{x:Str}(h:sc.names.lookup x=some .cell):∃c,(cellsFrom n sc.names []).lookup x=some c:=by have q:=Hw sc.names n [] (.inl h);exact Option.isSome_iff_exists.mp q
theorem jx {CX:qf}{P:Program}{w:World}{K:Frag}{mg:Str->Option Value}{base:Heap}{N ps:List Str}{qual:Str}{scope:Scope}{f:Addr}{cd:Value}{A:Around}{outer:List Env}{s s1:Shared}{H:Hp}{E:XK}{us:List Value}{vs:List V}
  (S:ay N ps scope) (hd:A.handled=none) (e0:l7 P w K mg base A outer s H) (hl:vs.length=ps.length) (r:aQ vs us)
  (x:InCallC s s.heap.objs.size (bindL (envOfC qual scope s.heap.objs.size f cd).kindOf (ps.zip us) λ _=>none) (cellsFrom (s.heap.objs.size+1) scope.names []) (bindC (envOfC qual scope s.heap.objs.size f cd).kindOf (ps.zip us) λ _=>none) s1):
  aq (iU CX P w K mg base N qual scope f cd A outer s H E) [] (fI N vs) H s1:=by
 have hpl:ps.length<=N.length:=by have:=congrArg List.length S.pre;rw [Fa] at this;omega
 obtain ⟨h1,tk,rfl,hk⟩:=x.done;have noA:∀b:Addr,b∉(iU CX P w K mg base N qual scope f cd A outer s H E).ex:=λ b z=>absurd (show b∈([]:List Addr) from z) (by simp);refine ⟨⟨e0.mod,S.kind,rfl,rfl,Gc _,λ y z c h1 h2=>?_,λ y hy=>?_,λ y c _ h=>?_,λ _=>hd,Around.frames_deeper e0.frames,.inr ⟨rfl,rfl⟩,λ b z=>absurd z (noA b),e0.bs,e0.bsz,λ b _ _=>noA b,λ b z=>absurd z (noA b),e0.funs,e0.frf⟩,
  rfl,e0.bare,Un.kept hk,⟨_,x.toInCall.ns,λ i y v h1 h2 h3=>?_⟩,λ y c h=>⟨_,x.cell y c h⟩,e0.hok.fresh (Gc _),λ y c h=>?_,λ p hp=>absurd (show p∈([]:List (Addr×Obj)) from hp) (by simp),e0.hok.kept hk,?_⟩
 ·exact name_of_addr x.apart (PySem.mem_of_lookup h1) (PySem.mem_of_lookup h2)
 ·have hy:scope.names.lookup y=some .cell\/scope.names.lookup y=some .free:=hy
  rcases hy with hy | hy
  ·exact lV hy
  ·exact absurd rfl (S.nofree _ (PySem.mem_of_lookup hy))
 ·exact Gq (x.above y c (PySem.mem_of_lookup h))
 ·have hi:i<vs.length:=by
   unfold fI at h2
   by_cases hi:i<vs.length
   ·exact hi
   ·rw [Fv (by simpa using hi)] at h2;rw [List.getElem?_replicate] at h2;split at h2<;>cases h2
  have ha:vs[i]? =some v:=by
   unfold fI at h2;rw [Fi (by simpa using hi),EB] at h2;cases e:vs[i]? with
   | none=>rw [e] at h2;cases h2
   | some a=>rw [e] at h2;cases h2;rfl
  obtain ⟨u,hu,rv⟩:=r.get ha;have hp:ps[i]? =some y:=by rw [<-S.pre,List.getElem?_take_of_lt (by omega)];exact h1
  have ndP:ps.Nodup:=by rw [<-S.pre];exact S.nd.sublist (FM _ _)
  refine ⟨u,rv,?_⟩
  rcases S.par y (EX hp) with k | k
  ·exact .inl ⟨k,jI ndP hp hu k⟩
  ·obtain ⟨c,e⟩:=lV (n:=s.heap.objs.size+1) k;refine .inr ⟨.inl k,c,e,?_⟩;have q:=x.cell y c e;rw [jK ndP hp hu (by show scope.names.lookup y≠_;rw [k];decide)] at q;exact q
 ·exact e0.hok.fresh (Gq (x.above y c (PySem.mem_of_lookup h)))
 ·unfold fI;show _=N.length;rw [EF,Eu,List.length_replicate];omega
theorem CV {CX:qf}{P:Program}{w:World}{K:Frag}{mg:Str->Option Value}{base:Heap}{k:Nat}{f:Addr}{name qual:Str}{params:Arguments}{body:List Stmt}{scope:Scope}{dV kV doc pm cdv ct oc:Value}{an od:Option Addr}
  {osl:Array (Option Value)} {N ps:List Str} {sp:Sp} (lk:K.lookup f=some ⟨oc,od,.func (Hc name qual params body scope dV kV doc pm an cdv ct),osl⟩) (hcd:Hm K cdv qual=true) (S:ay N ps scope)
  (len:∀vs H Q E,sp vs H Q E->vs.length=ps.length)
  (hbody:∀(A:Around) (outer:List Env) (s:Shared) (H:Hp) (vs:List V) (Q:VK) (E:XK),bQ k (A.deeper (envOfC qual scope s.heap.objs.size f cdv))->sp vs H Q E->
   ∃t,l9 (iU CX P w K mg base N qual scope f cdv A outer s H E) body t/\t {nx:=λ _ H'=>Q .non H',rt:=Q} (fI N vs) H):
  bi P w K mg base CX (k+1) f (Hc name qual params body scope dV kV doc pm an cdv ct) ps sp:=by
 refine ⟨len,λ A outer s H args us vs Q E hr e0 hb r hsp=>?_⟩;have hl:=len _ _ _ _ hsp;have KX:K.In s.heap:=e0.mod.kin.keeps λ b o e=>(e0.bs b o e).1;have lim:s.heap.NoLimit:=e0.mod.nolimit.keeps λ b o e=>(e0.bs b o e).1;have hkind:∀y∈ps.zip us,scope.names.lookup y.1=some .local\/(scope.names.lookup y.1=some .cell/\((cellsFrom (s.heap.objs.size+1) scope.names []).lookup y.1).isSome=true):=λ ⟨n,v⟩ hy=>by
  rcases S.par n (Fh hy).1 with q | q
  ·exact .inl q
  ·exact .inr ⟨q,Hw _ _ _ (.inl q)⟩
 refine codeAny_call_function hr.depth (KX _ _ lk) rfl S.co S.gen rfl (Hx KX hcd) (hb _ _ _ _ ?_);refine wpAny_newFunctionEnv_cells S.kind hkind λ env he s1 x=>?_;subst he;refine ⟨lim.keeps x.toInCall.keep,codeAny_func ?_⟩;obtain ⟨t,ht,hq⟩:=hbody A outer s H vs Q E (hr.deeper _) hsp;have I:aq (iU CX P w K mg base N qual scope f cdv A outer s H E) [] (fI N vs) H s1:=jx S hr.hd e0 hl r x;refine wpAny_mono (ht [] s1 (fI N vs) H _ I hq) (λ fl s' hs=>?_) λ e s' hs=>hs;have fin:∀{σ':St} {H':Hp} {v:V} {u:Value},aq (iU CX P w K mg base N qual scope f cdv A outer s H E) [] σ' H' s'->aH v u->Q v H'->CE outer P w H s Q u s':=
  λ {σ' H' v u} J rv q=>⟨v,H',J.os,J.bare,J.base,J.hok,rv,q⟩
 cases fl with
 | ret u=>
   obtain ⟨v,σ',H',J,rv,q⟩:=hs;exact fin J rv q
 | next=>
   obtain ⟨σ',H',J,q⟩:=hs;exact fin (v:=V.non) (u:=Value.none) J rfl q
 | brk=>
   obtain ⟨_,_,_,q⟩:=hs;exact False.elim q
 | cont=>
   obtain ⟨_,_,_,q⟩:=hs;exact False.elim q
end L2
namespace L2
open PySem PySem.Spec PyProof.Rows
section
variable {X:Cx}{x:Str}{p pos:Pos}{e:Expr}{es:List Expr}{t:TA}{id T:String}{r:List V->Hp->VK->Prop}
def tCB (r:List V->Hp->VK->Prop) (t:TA):TE:=λ σ H Q=>t σ H λ vs H1=>r vs H1 Q
theorem qS (hc:aI X (.builtin id) r) (hg:Gl X x) (hm:X.mg x=none) (hv:bootBuiltins x=some (.builtin id)) (ha:PA X (e::es) t) (hn:x≠"__name__":=by decide) (hdb:(x == ("__debug__":Str))=false:=by decide)
  (he:starEach (e::es) X.env=(false,eval e X.env)::starEach es X.env:=by rfl) (hpl:(backTo pos (starEach es X.env)).any (·.1)=false:=by rfl):PE X (.Call (.Name x p) (e::es) [] pos) (tCB r t):=by
 intro pins s σ H Q I h;refine wpAny_Call_Name_kw (eF I hg hm hv ?_ hn hdb);exact PyProof.Rows.callWith_builtin1 (bx (ha pos pins s σ H _ I h) λ us s1 ⟨vs,H1,I1,r1,q1⟩=>hc pins s1 σ H1 vs us Q I1 r1 q1) he hpl
theorem pe (hc:aI X (.type T) r) (hg:Gl X x) (hm:X.mg x=none) (hv:bootBuiltins x=some (.type T)) (ha:PA X (e::es) t) (hn:x≠"__name__":=by decide) (hdb:(x == ("__debug__":Str))=false:=by decide)
  (he:starEach (e::es) X.env=(false,eval e X.env)::starEach es X.env:=by rfl) (hpl:(backTo pos (starEach es X.env)).any (·.1)=false:=by rfl):PE X (.Call (.Name x p) (e::es) [] pos) (tCB r t):=by
 intro pins s σ H Q I h;refine wpAny_Call_Name_kw (eF I hg hm hv ?_ hn hdb);exact PyProof.Rows.callWith_type1 (bx (ha pos pins s σ H _ I h) λ us s1 ⟨vs,H1,I1,r1,q1⟩=>hc pins s1 σ H1 vs us Q I1 r1 q1) he hpl
end
end L2
namespace HT
open PySem PyProof.Rows
section
open PySem.SeqAt
open PySem.AutoSeq1 (wpAny_loadPart')
open PySem.MeetsSeq PySem.MeetsSeq2 PySem.MeetsSeq3
end
section
variable {prog:Program}{w:World}{A:Around}{E:Value->Shared->Prop}{s:Shared}
end
end HT
namespace L2
open PySem PySem.Spec PyProof.Rows
abbrev TO:=St->Hp->(Option Int->Hp->Prop)->Prop
def PO (X:Cx) (e:Option Expr) (t:TO):Prop:=
 ∀(pins:List (Addr×Obj)) (s:Shared) (σ:St) (H:Hp) (Q:Option Int->Hp->Prop),aq X pins σ H s->t σ H Q->
  wpAny (model X.prog X.w) X.A (evalPart e X.env) (λ u s'=> ∃o H',aq X pins σ H' s'/\IsPart u o/\Q o H') X.xe s
theorem iQ {ns:List Int}:∀{us:List Value},aQ (ns.map V.int) us->IntsAre us ns:=by
 induction ns with
 | nil=>intro us r;rw [Fb] at r;cases r;exact .nil
 | cons n ns ih=>
   intro us r;rw [EJ] at r;cases r with
   | cons r1 r2=>
     obtain ⟨t,e⟩:=r1;subst e;exact .cons n t (ih r2)
section
variable {X:Cx}{e:Expr}{te:TE}{lo hi:Option Expr}{tl th:TO}{pos p2:Pos}
def SlR (X:Cx) (r:V->Option Int->Option Int->Hp->VK->Prop):Prop:=
 ∀(pins:List (Addr×Obj)) (s:Shared) (σ:St) (H:Hp) (x:V) (v vl vu:Value) (lo hi:Option Int) (sl:Addr) (Q:VK),aq X pins σ H s->aH x v->s.heap.IsSliceOf sl vl vu .none->IsPart vl lo->IsPart vu hi->r x lo hi H Q->
  ∃T id,typeLookup (.type T) "__getitem__"=pure (some (.builtin id))/\s.TypeIs v T/\wpAny (model X.prog X.w) X.A (getItem v (.ref sl)) (EP X pins σ Q) X.xe s
end
end L2
namespace L2
open PySem PySem.Spec PyProof.Rows
def ixN (n:Nat) (i:Int):Option Nat:=if 0<=i then (if i<n then some i.toNat else none) else if -(n:Int)<=i then some (i+n).toNat else none
def atI {α:Type}(xs:List α) (i:Int):Option α:=(ixN xs.length i).bind λ j=>xs[j]?
theorem ui {n:Nat}{i:Int}{j:Nat}(h:ixN n i=some j):seqIndex? i n=some j/\j<n/\-(n:Int)<=i/\i<n:=by
 unfold ixN at h
 by_cases h0:0<=i
 ·rw [if_pos h0] at h
  by_cases h1:i<n
  ·rw [if_pos h1] at h;have e:i.toNat=j:=Option.some.inj h;exact ⟨by rw [seqIndex_of h0 h1,e],by omega,by omega,h1⟩
  ·rw [if_neg h1] at h;cases h
 ·rw [if_neg h0] at h
  by_cases h1: -(n:Int)<=i
  ·rw [if_pos h1] at h;have e:(i+n).toNat=j:=Option.some.inj h;exact ⟨by rw [seqIndex_neg (by omega) h1,e],by omega,h1,by omega⟩
  ·rw [if_neg h1] at h;cases h
theorem kI {α:Type}{xs:List α}{i:Int}{v:α}(h:atI xs i=some v):∃j,seqIndex? i xs.length=some j/\xs[j]? =some v/\j<xs.length/\-(xs.length:Int)<=i/\i<xs.length:=by
 unfold atI at h;cases e:ixN xs.length i with
 | none=>rw [e] at h;cases h
 | some j=>
   rw [e] at h;obtain ⟨h1,h2,h3,h4⟩:=ui e;exact ⟨j,h1,h,h2,h3,h4⟩
theorem bq {α:Type}{xs:List α}{j:Nat}{v:α}(h:xs[j]? =some v):atI xs (j:Int)=some v:=by
 have hj:j<xs.length:=(EH.mp h).1;have e:ixN xs.length (j:Int)=some j:=by unfold ixN;rw [if_pos (by omega),if_pos (by omega)];simp
 unfold atI;rw [e];exact h
def kK (b:Expr):Prop:= ∀o i,subscripted b false o i=operate [o,i] (getItem o i)
def oy (X:Cx) (r:R2):Prop:=
 ∀(value slice:Expr) (pins:List (Addr×Obj)) (s:Shared) (σ:St) (H:Hp) (x y:V) (v u:Value) (Q:VK),aq X pins σ H s->aH x v->aH y u->r x y H Q->
  subscripted slice false v u=operate [v,u] (getItem v u)->wpAny (model X.prog X.w) X.A (subscriptTail value slice v u) (EP X pins σ Q) X.xe s
def qb (X:Cx) (id:String) (r:V->List V->Hp->VK->Prop):Prop:=
 ∀(pins:List (Addr×Obj)) (s:Shared) (σ:St) (H:Hp) (x:V) (xs:List V) (v:Value) (us:List Value) (Q:VK),aq X pins σ H s->aH x v->aQ xs us->r x xs H Q->
  wpAny (model X.prog X.w) X.A (call (.builtin id) (v::us)) (EP X pins σ Q) X.xe s
section
variable {X:Cx}{a b:Expr}{ta tb:TE}{pos:Pos}
theorem oy.or {r r':R2}(h:oy X r) (h':oy X r'):oy X (λ x y H Q=>r x y H Q\/r' x y H Q):=by
 intro value slice pins s σ H x y v u Q I rx ry q hs
 rcases q with q | q
 ·exact h value slice pins s σ H x y v u Q I rx ry q hs
 ·exact h' value slice pins s σ H x y v u Q I rx ry q hs
theorem Cu {r:R2}(hr:oy X r) (ha:PE X a ta) (hb:PE X b tb) (hs:kK b):PE X (.Subscript a b pos) (D7 r ta tb):=by intro pins s σ H Q I h;exact Subscript_ (yW ha hb I h λ v u s2 x y H2 I2 rx ry q=>hr a b pins s2 σ H2 x y v u Q I2 rx ry q (hs _ _))
def Cr (K:Frag):R2:=λ x y H Q=> ∃p xs i v,x=.ref p/\y=.int i/\aL K H p xs/\atI xs i=some v/\Q v H
def Cp (K:Frag):R2:=λ x y H Q=> ∃p xs i v,x=.ref p/\y=.int i/\fF K H p xs/\atI xs i=some v/\Q v H
def Cq:R2:=λ x y H Q=> ∃z i c,x=.str z/\y=.int i/\z.length<=sizeLine/\atI z.cps.toList i=some c/\Q (.str ⟨#[c]⟩) H
theorem uh:oy X (Cr X.K):=by
 intro value slice pins s σ H x y v u Q I rx ry h hs;obtain ⟨p,xs,i,z,rfl,rfl,hq,he,q⟩:=h;cases rx;obtain ⟨t,rfl⟩:=ry;obtain ⟨its,r,pl,hz⟩:=I.list hq;obtain ⟨j,h1,h2,h3,h4,h5⟩:=kI he;obtain ⟨w,ew,rw'⟩:=r.get h2;have hl:=r.length;have hn:=iN;have fin:EP X pins σ Q w s:=⟨z,H,I,rw',q⟩
 by_cases h0:0<=i
 ·have hj:i.toNat=j:=by rw [seqIndex_of h0 h5] at h1;exact Option.some.inj h1
  exact item_listR pl.isList h0 (by omega) (by rw [hj];simpa using ew) fin hs
 ·have hj:(i+(its.toArray.size:Int)).toNat=j:=by rw [seqIndex_neg (by omega) h4] at h1;rw [Ey,<-hl];exact Option.some.inj h1
  exact subscriptTail_builtinR (x:=w) pl.isList.typeIs slot_list_getitem.lookup
   (wpAny_getItem_list_neg (Q:=λ r s'=>r=w/\EP X pins σ Q r s') pl.isList (by omega) (by rw [Ey]<;>omega) (by omega) (by rw [hj];simpa using ew) ⟨rfl,fin⟩) hs
theorem yr:oy X (Cp X.K):=by
 intro value slice pins s σ H x y v u Q I rx ry h hs;obtain ⟨p,xs,i,z,rfl,rfl,hq,he,q⟩:=h;cases rx;obtain ⟨t,rfl⟩:=ry;obtain ⟨its,r,pl,hz⟩:=I.tuple hq;obtain ⟨j,h1,h2,h3,h4,h5⟩:=kI he;obtain ⟨w,ew,rw'⟩:=r.get h2;have hl:=r.length;have hn:=iN;have fin:EP X pins σ Q w s:=⟨z,H,I,rw',q⟩;exact subscriptTail_builtinR (x:=w) pl.typeIs slot_tuple_getitem.lookup
  (getItem_tuple (j:=j) (Q:=λ r s'=>r=w/\EP X pins σ Q r s') pl (by omega) (by omega) (by rw [Ey,<-hl];exact h1) (by simpa using ew) ⟨rfl,fin⟩) hs
theorem yt:oy X Cq:=by
 intro value slice pins s σ H x y v u Q I rx ry h hs;obtain ⟨z,i,c,rfl,rfl,hz,he,q⟩:=h;obtain ⟨t,rfl⟩:=rx;obtain ⟨t',rfl⟩:=ry;obtain ⟨j,h1,h2,h3,h4,h5⟩:=kI he;have hl:z.cps.toList.length=z.length:=by simp [Str.length]
 rw [hl] at h1 h4 h5;have hn:=iN;exact tail_any (typeIs_str s z t) slot_str_getitem.lookup (getItem_str (c:=c) (by
  have e1:decide (i< -(2 ^ 63:Int))=false:=decide_eq_false (by omega);have e2:decide (i≥2 ^ 63)=false:=decide_eq_false (by omega);rw [e1,e2,GE]) (by rw [h1];simpa using h2) ⟨.str ⟨#[c]⟩,H,I.tok _,⟨_,rfl⟩,q⟩) hs
def rIx (K:Frag):R2:=λ x y H Q=>Cr K x y H Q\/Cp K x y H Q\/Cq x y H Q
theorem yu:oy X (rIx X.K):=uh.or (yr.or yt)
def flatV:V->Bool
 | .non=>true
 | .bl _=>true
 | .int _=>true
 | .str _=>true
 | _=>false
def eqV:V->V->Bool
 | .non,.non=>true
 | .bl a,.bl b=>a == b
 | .bl a,.int b=>(if a then 1 else 0) == b
 | .int a,.bl b=>a == (if b then 1 else 0)
 | .int a,.int b=>a == b
 | .str a,.str b=>a == b
 | _,_=>false
theorem su {A:Around}{s:Shared}{y x:V}{u v:Value}(ry:aH y u) (rx:aH x v) (fy:flatV y=true) (fx:flatV x=true):SeqAt.EqAt A s u v (eqV y x):=by
 cases y with
 | non=>
   cases ry;cases x with
   | non=>cases rx;exact SeqAt.EqAt.same _
   | bl b=>cases rx;exact SeqAt.EqAt.none_bool b
   | int b=>obtain ⟨t,rfl⟩:=rx;exact SeqAt.EqAt.none_int b t
   | str b=>obtain ⟨t,rfl⟩:=rx;exact SeqAt.EqAt.none_str b t
   | _=>exact absurd (show false=true from fx) Gz
 | bl a=>
   cases ry;cases x with
   | non=>cases rx;exact SeqAt.EqAt.bool_none a
   | bl b=>cases rx;exact SeqAt.EqAt.bool_bool a b
   | int b=>obtain ⟨t,rfl⟩:=rx;exact SeqAt.EqAt.bool_int a b t
   | str b=>obtain ⟨t,rfl⟩:=rx;exact SeqAt.EqAt.bool_str a b t
   | _=>exact absurd (show false=true from fx) Gz
 | int a=>
   obtain ⟨t',rfl⟩:=ry;cases x with
   | non=>cases rx;exact SeqAt.EqAt.int_none a t'
   | bl b=>cases rx;exact SeqAt.EqAt.int_bool a t' b
   | int b=>obtain ⟨t,rfl⟩:=rx;exact SeqAt.EqAt.int_int a t' b t
   | str b=>obtain ⟨t,rfl⟩:=rx;exact SeqAt.EqAt.int_str a t' b t
   | _=>exact absurd (show false=true from fx) Gz
 | str a=>
   obtain ⟨t',rfl⟩:=ry;cases x with
   | non=>cases rx;exact SeqAt.EqAt.str_none a t'
   | bl b=>cases rx;exact SeqAt.EqAt.str_bool a t' b
   | int b=>obtain ⟨t,rfl⟩:=rx;exact SeqAt.EqAt.str_int a t' b t
   | str b=>obtain ⟨t,rfl⟩:=rx;exact SeqAt.EqAt.str_str a t' b t
   | _=>exact absurd (show false=true from fx) Gz
 | _=>exact absurd (show false=true from fy) Gz
def mY (x:V) (u:Value):Bool:=match u with
 | .none=>eqV .non x
 | .bool b=>eqV (.bl b) x
 | .int i _=>eqV (.int i) x
 | .str z _=>eqV (.str z) x
 | _=>false
theorem sj {x y:V}{u:Value}(r:aH y u) (f:flatV y=true):mY x u=eqV y x:=by
 cases y with
 | non=>cases r;rfl
 | bl b=>cases r;rfl
 | int i=>obtain ⟨t,rfl⟩:=r;rfl
 | str z=>obtain ⟨t,rfl⟩:=r;rfl
 | _=>exact absurd (show false=true from f) Gz
theorem gy {x:V}:∀{xs:List V}{us:List Value},aQ xs us->xs.all flatV=true->us.any (mY x)=xs.any λ y=>eqV y x
 | _,_,.nil,_=>rfl
 | y::xs,u::us,.cons r t,f=>by rw [EO,GB] at f;rw [Fj,Fj,sj r f.1,gy t f.2]
theorem fg {A:Around}{s:Shared}{x:V}{v:Value}(rx:aH x v) (fx:flatV x=true):∀{xs:List V}{us:List Value},aQ xs us->xs.all flatV=true->∀u∈us,SeqAt.EqAt A s u v (mY x u)
 | _,_,.nil,_=>λ u hu=>by cases hu
 | y::xs,u::us,.cons r t,f=>λ u' hu=>by
   rw [EO,GB] at f
   rcases Ew.mp hu with rfl | hu
   ·rw [sj r f.1];exact su r rx f.1 fx
   ·exact fg rx fx t f.2 u' hu
def zh (x:V) (xs:List V):Bool:=xs.any λ y=>eqV y x
def xK (K:Frag) (neg:Bool):R2:=λ x y H Q=> ∃p xs,y=.ref p/\(aL K H p xs\/fF K H p xs)/\flatV x=true/\xs.all flatV=true/\Q (.bl (if neg then !zh x xs else zh x xs)) H
theorem pz:fH X (compareOp .In) (xK X.K false):=by
 intro pins s σ H x y v u Q I rx ry h;obtain ⟨p,xs,rfl,hq,fx,fs,q⟩:=h;cases ry
 rcases hq with hq | hq
 ·obtain ⟨its,r,pl,hz⟩:=I.list hq;refine SeqAt.in_listAt (mY x) pl.isList (λ w hw=>fg rx fx r fs w (by simpa using hw)) ⟨.bl _,H,I,rfl,?_⟩;rw [show its.toArray.any (mY x)=its.any (mY x) by simp,gy r fs];exact q
 ·obtain ⟨its,r,pl,hz⟩:=I.tuple hq;refine SeqAt.in_tupleAt (mY x) pl (λ w hw=>fg rx fx r fs w (by simpa using hw)) ⟨.bl _,H,I,rfl,?_⟩;rw [show its.toArray.any (mY x)=its.any (mY x) by simp,gy r fs];exact q
theorem j8:fH X (compareOp .NotIn) (xK X.K true):=by
 intro pins s σ H x y v u Q I rx ry h;obtain ⟨p,xs,rfl,hq,fx,fs,q⟩:=h;cases ry
 rcases hq with hq | hq
 ·obtain ⟨its,r,pl,hz⟩:=I.list hq;refine SeqAt.notIn_listAt (mY x) pl.isList (λ w hw=>fg rx fx r fs w (by simpa using hw)) ⟨.bl _,H,I,rfl,?_⟩;rw [show its.toArray.any (mY x)=its.any (mY x) by simp,gy r fs];exact q
 ·obtain ⟨its,r,pl,hz⟩:=I.tuple hq;refine SeqAt.notIn_tupleAt (mY x) pl (λ w hw=>fg rx fx r fs w (by simpa using hw)) ⟨.bl _,H,I,rfl,?_⟩;rw [show its.toArray.any (mY x)=its.any (mY x) by simp,gy r fs];exact q
theorem kF:aI X (.builtin "len") (λ xs H Q=> ∃p ys,xs=[.ref p]/\(aL X.K H p ys\/fF X.K H p ys)/\Q (.int ys.length) H):=by
 intro pins s σ H xs us Q I r h;obtain ⟨p,ys,rfl,hq,q⟩:=h;obtain ⟨u,rfl,rx⟩:=cr r;cases rx;have hn:=iN
 rcases hq with hq | hq
 ·obtain ⟨its,r',pl,hz⟩:=I.list hq;have hlen:=r'.length;exact Calls.call_len_list pl.isList (by simp only [Ey]<;>omega) ⟨.int ys.length,H,I.tok _,⟨s.toks+1,by rw [Ey,hlen]⟩,q⟩
 ·obtain ⟨its,r',pl,hz⟩:=I.tuple hq;have hlen:=r'.length;exact len_tuple pl (by simp only [Ey]<;>omega) ⟨.int ys.length,H,I.tok _,⟨s.toks+1,by rw [Ey,hlen]⟩,q⟩
theorem kE:aI X (.builtin "len") (λ xs H Q=> ∃z,xs=[.str z]/\z.length<=sizeLine/\Q (.int z.length) H):=by intro pins s σ H xs us Q I r h;obtain ⟨z,rfl,hz,q⟩:=h;obtain ⟨u,rfl,t,rfl⟩:=cr r;have hn:=iN;exact len_str (by omega) ⟨.int z.length,H,I.tok _,⟨_,rfl⟩,q⟩
theorem aI.or {f:Value}{r r':List V->Hp->VK->Prop}(h:aI X f r) (h':aI X f r'):aI X f (λ xs H Q=>r xs H Q\/r' xs H Q):=by
 intro pins s σ H xs us Q I rs q
 rcases q with q | q
 ·exact h pins s σ H xs us Q I rs q
 ·exact h' pins s σ H xs us Q I rs q
theorem kD:aI X (.type "list") (λ xs H Q=> ∃p ys,xs=[.ref p]/\(aL X.K H p ys\/fF X.K H p ys)/\∀l,H l=none->Q (.ref l) (upd H l (.lst ys))):=by
 intro pins s σ H xs us Q I r h;obtain ⟨p,ys,rfl,hq,q⟩:=h;obtain ⟨u,rfl,rx⟩:=cr r;cases rx;have fin:∀(its:List Value),aQ ys its->ys.length<=sizeLine->∀(h':Heap) (c':Nat),(∀b o',s.heap.get? b=some o'->h'.get? b=some o')->
   h'.get? s.heap.objs.size=some {cls:=.type "list",dict:=none,data:=.seq its.toArray c',slots:= #[]}->EP X pins σ Q (.ref s.heap.objs.size) {s with heap:=h'}:=λ its r' hz h' c' kp e=>
  ⟨.ref s.heap.objs.size,_,I.laid (t':=s.toks) kp (Gc _) (show bg X.prog X.w _ h' _ (.lst ys) from ⟨hz,its,c',r',e⟩),rfl,q _ (I.hok.fresh (Gc _))⟩
 rcases hq with hq | hq
 ·obtain ⟨its,r',pl,hz⟩:=I.list hq;have hlen:=r'.length;obtain ⟨o,ho,hc,n,hd⟩:=pl.isList;exact call_list_seq p (.inl rfl) ho hc hd (λ h' c' kp e=>fin its r' hz h' c' kp e) (by simp only [Ey]<;>omega)
 ·obtain ⟨its,r',pl,hz⟩:=I.tuple hq;have hlen:=r'.length;obtain ⟨o,ho,hc,n,hd⟩:=pl;exact call_list_seq p (.inr rfl) ho hc hd (λ h' c' kp e=>fin its r' hz h' c' kp e) (by simp only [Ey]<;>omega)
def xA (K:Frag) (T:String) (x:V) (H:Hp):Prop:=match x with
 | .str _=>T="str"
 | .int _=>T="int"
 | .ref p=>(T="list"/\∃xs,aL K H p xs)\/(T="tuple"/\∃o,K.lookup p=some o/\o.cls=.type "tuple"/\o.dict=none)\/
   (T="dict"/\((∃kvs,H p=some (.dK kvs))\/∃kvs,H p=some (.dT kvs)))\/(T="set"/\∃S n,H p=some (.set S n))
 | _=>False
theorem gD {pins:List (Addr×Obj)}{σ:St}{H:Hp}{s:Shared}{T:String}{x:V}{v:Value}(I:aq X pins σ H s) (r:aH x v) (ty:xA X.K T x H):
  s.TypeIs v T/\∀a,v=.ref a->∃ob,s.heap.get? a=some ob/\ob.dict=none:=by
 cases x with
 | str z=>
   obtain ⟨t,rfl⟩:=r;cases (show T="str" from ty);exact ⟨typeIs_str s z t,λ _ e=>nomatch e⟩
 | int i=>
   obtain ⟨t,rfl⟩:=r;cases (show T="int" from ty);exact ⟨typeIs_int s i t,λ _ e=>nomatch e⟩
 | ref p=>
   cases r
   rcases ty with ⟨rfl,xs,hq⟩ | ⟨rfl,o,hk,hc,hd⟩ | ⟨rfl,hk⟩ | ⟨rfl,S,n,hk⟩
   ·obtain ⟨its,_,pl,_⟩:=I.list hq;refine ⟨pl.isList.typeIs,λ a e=>?_⟩;cases e;obtain ⟨o,n,e,c,hd,_⟩:=pl;exact ⟨o,e,hd⟩
   ·refine ⟨⟨o,I.kIn p o hk,hc⟩,λ a e=>?_⟩;cases e;exact ⟨o,I.kIn _ o hk,hd⟩
   ·have z:∃o,s.heap.get? p=some o/\o.ExactDict:=by
     rcases hk with ⟨kvs,hk⟩ | ⟨kvs,hk⟩
     ·obtain ⟨_,_,_,_,o,_,_,e,ex,_⟩:=I.hok p _ hk;exact ⟨o,e,ex⟩
     ·obtain ⟨_,_,_,_,o,_,_,e,ex,_⟩:=I.hok p _ hk;exact ⟨o,e,ex⟩
    obtain ⟨o,e,ex⟩:=z;refine ⟨⟨o,e,ex.1⟩,λ a e2=>?_⟩;cases e2;exact ⟨o,e,ex.2.1⟩
   ·obtain ⟨o,_,_,_,e,ex,_⟩:=I.hok p _ hk;refine ⟨⟨o,e,ex.1⟩,λ a e2=>?_⟩;cases e2;exact ⟨o,e,ex.2.1⟩
 | _=>exact False.elim ty
variable {o e:Expr}{es:List Expr}{to:TE}{t:TA}{name:Str}{apos cpos:Pos}{T id:String}{r:V->List V->Hp->VK->Prop}
end
end L2
namespace L2
open PySem PySem.Spec PyProof.Rows
def Er (X:Cx) (id:String) (r:V->List V->Hp->VK->Prop):Prop:=
 ∀(pins:List (Addr×Obj)) (s:Shared) (σ:St) (H:Hp) (x:V) (xs:List V) (v:Value) (us:List Value) (Q:VK),aq X pins σ H s->aH x v->aQ xs us->r x xs H Q->
  wpAny (model X.prog X.w) X.A (call (.builtin id) (v::us)) (EP X pins σ Q) X.xe s
theorem aQ.one:∀{x:V}{us:List Value},aQ [x] us->∃u,us=[u]/\aH x u
 | _,_,.cons r .nil=>⟨_,rfl,r⟩
theorem aQ.zero:∀{us:List Value},aQ [] us->us=[]
 | _,.nil=>rfl
section
variable {X:Cx}{pins:List (Addr×Obj)}{σ:St}{H:Hp}{s:Shared}{l b:Addr}{xs ys zs:List V}
theorem aq.lset {its its':List Value}{n:Nat}{f:Array Value->Array Value}{t':Nat}(I:aq X pins σ H s) (hH:H l=some (.lst xs))
  (e:s.heap.get? l=some {cls:=.type "list",data:=.seq its.toArray n}) (hf:f its.toArray=its'.toArray) (hv:aQ ys its') (hz:ys.length<=sizeLine):
  aq X pins σ (upd H l (.lst ys)) {s with heap:=s.heap.update l (Obj.mapSeq f),toks:=t'}:=by
 have q:=PySem.IsL.update e f;rw [hf] at q;refine I.write (x:=l) (e:=l) (by rw [hH];exact trivial) (.inl rfl) (λ b' u hb hu=>(Heap.get?_update_other s.heap (Obj.mapSeq f) (Ne.symm hb)).trans hu) ⟨_,q⟩ ?_;exact ⟨hz,its',_,hv,q⟩
theorem aq.lnew {its:List Value}{t':Nat}(I:aq X pins σ H s) (hv:aQ ys its) (hz:ys.length<=sizeLine):
  aq X pins σ (upd H s.heap.objs.size (.lst ys)) {s with heap:=s.heap.push {cls:=.type "list",data:=.seq its.toArray},toks:=t'}:=
 I.laid (λ _ _ q=>Heap.get?_push_of_some _ q) (Gc _) ⟨hz,its,0,hv,Heap.get?_push_size _ rfl⟩
theorem aq.fresh (I:aq X pins σ H s):H s.heap.objs.size=none:=I.hok.fresh (Gc _)
theorem aq.lstM (I:aq X pins σ H s) (hH:H l=some (.lst xs)):xs.length<=sizeLine/\∃(its:List Value) (n:Nat),aQ xs its/\xs.length=its.length/\s.heap.get? l=some {cls:=.type "list",data:=.seq its.toArray n}:=by obtain ⟨z,its,n,r,e⟩:=I.hok l _ hH;exact ⟨z,its,n,r,r.length,e⟩
theorem iI {n:Nat}(h:n<=sizeLine):Builtin.List.listTooLong n=false:=by unfold Builtin.List.listTooLong;exact decide_eq_false (by omega)
end
section
variable {X:Cx}
def tQ:V->List V->Hp->VK->Prop:=λ x vs H Q=> ∃l xs y,x=.ref l/\vs=[y]/\H l=some (.lst xs)/\xs.length<sizeLine/\Q .non (upd H l (.lst (xs++[y])))
theorem pD:Er X "list.append" tQ:=by intro pins s σ H x vs v us Q I rx rv h;obtain ⟨l,xs,y,rfl,rfl,hH,hz,q⟩:=h;cases rx;obtain ⟨u,rfl,ru⟩:=rv.one;obtain ⟨z,its,n,r,hl,e⟩:=I.lstM hH;refine call_meets F.slot_list_append ⟨_,e,rfl⟩ F.entry_list_append (F.args_list_append_2 _ _) (PySem.list_append l its.toArray n u (by rw [Ey];omega)) ⟨e,?_⟩;refine ⟨.non,_,I.lset (its':=its++[u]) hH e (by simp) (r.append (.cons ru .nil)) ?_,rfl,q⟩;rw [EF,Fk];omega
def tP:V->List V->Hp->VK->Prop:=λ x vs H Q=> ∃l b xs zs,x=.ref l/\vs=[.ref b]/\H l=some (.lst xs)/\H b=some (.lst zs)/\xs.length+zs.length<=sizeLine/\Q .non (upd H l (.lst (xs++zs)))
theorem pC:Er X "list.extend" tP:=by
 intro pins s σ H x vs v us Q I rx rv h;obtain ⟨l,b,xs,zs,rfl,rfl,hH,hB,hz,q⟩:=h;cases rx;obtain ⟨u,rfl,ru⟩:=rv.one;cases ru;obtain ⟨z,its,n,r,hl,e⟩:=I.lstM hH;obtain ⟨z2,its2,n2,r2,hl2,e2⟩:=I.lstM hB;have hsz:its.toArray.size+its2.toArray.size<=sizeLine:=by rw [Ey,Ey];omega
 have hlong:¬(!its.toArray.isEmpty&&Builtin.List.listTooLong (its.toArray.size+its2.toArray.size))=true:=by rw [iI hsz,Bool.and_false];exact Gz
 refine call_meets F.slot_list_extend ⟨_,e,rfl⟩ F.entry_list_extend (F.args_list_extend_2 _ _)
  (AutoSeq1.list_extend_list_list_0 l its.toArray n b its2.toArray n2 hlong (by rw [Ey];omega) (by omega)) ⟨e,e2,?_⟩
 refine ⟨.non,_,I.lset (its':=its++its2) hH e (by simp) (r.append r2) ?_,rfl,q⟩;rw [EF];omega
def qJ:V->List V->Hp->VK->Prop:=λ x vs H Q=> ∃l xs,x=.ref l/\vs=[]/\H l=some (.lst xs)/\Q .non (upd H l (.lst []))
theorem qY:Er X "list.clear" qJ:=by intro pins s σ H x vs v us Q I rx rv h;obtain ⟨l,xs,rfl,rfl,hH,q⟩:=h;cases rx;have hus:=rv.zero;subst hus;obtain ⟨z,its,n,r,hl,e⟩:=I.lstM hH;refine call_meets F.slot_list_clear ⟨_,e,rfl⟩ F.entry_list_clear (F.args_list_clear_1 _) (AutoSeq1.list_clear_list_0 l its.toArray n (by rw [Ey];omega)) ⟨e,?_⟩;exact ⟨.non,_,I.lset (its':=[]) (ys:=[]) hH e rfl .nil (Gd _),rfl,q⟩
def xL:R2:=λ x y H Q=> ∃l b xs zs,x=.ref l/\y=.ref b/\H l=some (.lst xs)/\H b=some (.lst zs)/\xs.length+zs.length<=sizeLine/\∀p,H p=none->Q (.ref p) (upd H p (.lst (xs++zs)))
theorem x9:fH X (binaryOp .Add) xL:=by
 intro pins s σ H x y v u Q I rx ry h;obtain ⟨l,b,xs,zs,rfl,rfl,hH,hB,hz,q⟩:=h;cases rx;cases ry;obtain ⟨z,its,n,r,hl,e⟩:=I.lstM hH;obtain ⟨z2,its2,n2,r2,hl2,e2⟩:=I.lstM hB;refine PySem.P.add_list e e2 ?_ (by rw [Ey,Ey];omega);have ea:its.toArray++its2.toArray=(its++its2).toArray:=by simp
 rw [ea];exact ⟨.ref _,_,I.lnew (t':=s.toks) (r.append r2) (by rw [EF];omega),rfl,q _ I.fresh⟩
end
section
variable {prog:Program}{w:World}{A:Around}{E:Value->Shared->Prop}{s:Shared}
theorem nc {a c n:Nat}(hac:a<=c) (hc:c<=n):sliceBounds (some (a:Int)) (some (c:Int)) none n=((a:Int),(c:Int),1):=by
 simp only [sliceBounds,Option.getD_none];have h1:¬((a:Int)<0):=by omega
 have h2:¬((c:Int)<0):=by omega
 simp only [h1,h2,if_false,show (1:Int) > 0 by decide,if_true];congr 1
 ·omega
 ·congr 1;omega
set_option maxRecDepth 100000 in
theorem tm {l b sl:Addr}{items new:Array Value}{n n2:Nat}{vl vu:Value}{a c:Nat}{Q:Unit->Shared->Prop}
  (e:s.heap.get? l=some {cls:=.type "list",data:=.seq items n}) (e2:s.heap.get? b=some {cls:=.type "list",data:=.seq new n2}) (hne:l≠b)
  (hs:s.heap.IsSliceOf sl vl vu .none) (pl:IsPart vl (some (a:Int))) (pu:IsPart vu (some (c:Int))) (hac:a<=c) (hc:c<=items.size)
  (hsz:items.size+new.size<=sizeLine) (h:Q () {s with heap:=s.heap.update l (Obj.mapSeq λ xs=>xs.extract 0 a++new++xs.extract c xs.size)}):
  wpAny (model prog w) A (setItem (.ref l) (.ref sl) (.ref b)) Q E s:=by
 have hl:s.heap.IsList l items:=PySem.IsL.isList e;have hb:s.heap.IsList b new:=PySem.IsL.isList e2;obtain ⟨os,hos,hcs,hds⟩:=id hs;have hTs:s.TypeIs (.ref sl) "slice":=⟨os,hos,hcs⟩;have hstep:¬((rawPart none == rawInt 0)=true):=Gz;have hsame:Builtin.List.listSameRef (.ref l) (.ref b)=false:=by unfold Builtin.List.listSameRef;exact beq_eq_false_iff_ne.mpr hne
 have hmax:(max (a:Int) (c:Int)).toNat=c:=by omega
 have hz':((λ xs:Array Value=>xs.extract 0 a++new++xs.extract c xs.size) items).size<=sizeLine+1:=by simp only [Array.size_append,Array.size_extract];omega
 unfold setItem
 try with_reducible refine wpAny_holding ?_
 first | refine wpAny_bind (wpAny_pure ?_) | skip
 refine wpAny_bind (wpAny_sequenceKey hl.typeIs (by decide) ?_);refine wpAny_bind (wpAny_callSpecial?_slot (name:=Str.ofString "__setitem__") hl.typeIs slot_list_setitem
  (wpAny_call_entry slot_list_setitem hl.typeIs entry_list_setitem ?_ (args_list_setitem _ _ _)))
 show wpAny _ _ (Builtin.List.listSubscript? (.ref sl) >>= _) _ _ s;refine wpAny_bind ?_;unfold Builtin.List.listSubscript?;refine wpAny_bind (wpAny_specialOf hTs slice_no_index ?_);simp only [Option.isNone_none,if_true];refine wpAny_pure ?_;show wpAny _ _ (typeOf (.ref sl) >>= _) _ _ s;refine wpAny_bind (wpAny_typeOf hTs ?_)
 first
  | rw [if_neg (by decide)]
  | refine PySem.W.KFB.if_not (by decide) ?_
 rw [listSliceParts_eq];refine wpAny_bind (wpAny_bind (wpAny_field hos hds (x:=.none) rfl (wpAny_bind (wpAny_listPart .none ?_))));rw [if_neg hstep];refine wpAny_bind (wpAny_field hos hds (x:=vl) rfl (wpAny_bind (wpAny_listPart pl ?_)));refine wpAny_bind (wpAny_field hos hds (x:=vu) rfl (wpAny_bind (wpAny_listPart pu (wpAny_pure ?_))))
 first
  | simp only [hsame,GI,if_false]
  | refine PySem.W.KFB.if_not hsame ?_
  | (dsimp only
     rw [if_neg (by rw [hsame];exact Gz)])
 refine wpAny_bind (m:=Builtin.List.listAllItems (.ref b) "must assign iterable to extended slice") ?_;unfold Builtin.List.listAllItems;refine wpAny_bind (wpAny_typeOf hb.typeIs ?_)
 first
  | refine PySem.W.KFB.if_so (by decide) ?_
  | rw [if_pos (by decide)]
  | simp only [beq_self_eq_true,Bool.true_or,if_true]
 unfold Builtin.List.listItems;refine wpAny_bind (wpAny_seqItems e2 rfl (wpAny_pure ?_));refine wpAny_bind (wpAny_bind (wpAny_seqItems e rfl (wpAny_pure ?_)));refine wpAny_bind (wpAny_of_eq ((sliceIndices_raw (some (a:Int)) (some (c:Int)) none items.size (by simp)).trans (congrArg (pure:Int×Int×Int->Sem (Int×Int×Int)) (nc hac hc))) ?_);show wpAny _ _ (if ((1:Int) == 1)=true then _ else _) _ _ s;rw [if_pos (by decide)];refine wpAny_bind (wpAny_rule ?_)
 first
  | simp only [iI hsz,GI,if_false]
  | refine PySem.W.KFB.if_not (iI hsz) ?_
 first | refine wpAny_bind (wpAny_pure ?_) | skip
 show wpAny _ _ (updateSeq l (λ xs=>xs.extract 0 ((a:Int)).toNat++new++xs.extract (max (a:Int) (c:Int)).toNat xs.size) >>= _) _ _ s;rw [hmax,Gu];refine wpAny_bind (wpAny_updateSeq (hz:=Ge (Nat.le_add_right _ _) hsz) (_hz':=hz') e rfl ?_);refine wpAny_bind (wpAny_letGo ?_)
 first
  | exact wpAny_bind (wpAny_pure (wpAny_pure ⟨.none,rfl,wpAny_pure h⟩))
  | exact wpAny_pure ⟨.none,rfl,wpAny_pure h⟩
end
section
variable {X:Cx}
end
end L2
namespace L2
open PySem PySem.Spec PyProof.Rows
section
variable {κ:Type} [DecidableEq κ]
end
section
variable {P:Program}{w:World}{H:Hp}{h:Heap}{a:Addr}
end
section
variable {X:Cx}{pins:List (Addr×Obj)}{σ:St}{H:Hp}{s:Shared}{a:Addr}{y v:V}{u r:Value}{o:Option V}{A:Around}{E:Value->Shared->Prop}
end
section
variable {X:Cx}{pins:List (Addr×Obj)}{σ:St}{H:Hp}{s:Shared}{a:Addr}{kvs:List (Key×V)}{k:Key}{u:Value}{A:Around}{E:Value->Shared->Prop}
end
section
variable {X:Cx}{o i e value:Expr}{pos pos' tpos:Pos}{td ty tv:TE}
end
section
variable {X:Cx}{pos:Pos}
end
section
variable {X:Cx}{pins:List (Addr×Obj)}{σ:St}{H:Hp}{s:Shared}{a:Addr}{y d:V}{u r:Value}{o:Option V}{A:Around}{E:Value->Shared->Prop}
end
section
variable {X:Cx}{o e f:Expr}{apos cpos:Pos}{td ty tx:TE}
end
section
variable {X:Cx}{pins:List (Addr×Obj)}{σ:St}{H:Hp}{s:Shared}{a:Addr}{kvs:List (Key×V)}{A:Around}{E:Value->Shared->Prop}
end
section
variable {X:Cx}{pins:List (Addr×Obj)}{σ:St}{H:Hp}{s:Shared}{a:Addr}{y:V}{u:Value}{A:Around}{E:Value->Shared->Prop}
end
end L2
namespace Att
open PySem PySem.W PySem.Calls PyProof.Rows
theorem h9 {P:Params}{h:Heap}:∀(ns:List Int) (vs:List Value),WellAll P h vs (ns.map WData.int)->IntsAre vs ns:=by
 intro ns
 induction ns with
 | nil=>
   intro vs w;rw [Fb] at w;cases w;exact .nil
 | cons n ns ih=>
   intro vs w;rw [EJ] at w;cases w with
   | cons a b=>
     cases a;exact .cons _ _ (ih _ b)
theorem oW {l:OpenLaw}{n:Nat}(hn:l.most=some n) {P:Params}{h:Heap}{args:List WData}{vals:List Value}
  (hpre:l.row.toRowW.claim.pre args=true) (hwl:WellAll P h vals args):
  ∃a vs ns,vals=[Value.ref a]/\args=[WData.list (ns.map WData.int)]/\h.get? a=some {cls:=.type "list",data:=.seq vs.toArray}/\IntsAre vs ns/\ns.length<=n:=by
 have hsh:WShape.hasAll [] args [.list .int]=true:=(pre_splitW hpre).1;have hc:l.pre.holds [] {args:=args}=true:=(pre_splitW hpre).2;obtain ⟨d,r,rfl,h1,h2⟩:=hasAllW_cons hsh;obtain rfl:=hasAllW_nil h2;obtain ⟨xs,rfl,h3⟩:=hasW_list h1;obtain ⟨ns,rfl⟩:=items_int h3;have hlen:ns.length<=n:=by
  unfold OpenLaw.pre at hc;have h4:(WTm.not (.lt (.lit (.int (n:Int))) (.len (.arg 0)))).holds [] {args:=[.list (ns.map .int)]}=true:=by have h4:=(holds_andW hc).1;rw [hn] at h4;exact h4
  have h5:=condW_of h4 (w_not (w_lt w_lit (w_len_list (w_arg rfl))));rw [Eu] at h5;refine Nat.le_of_not_lt λ q=>?_;have q':(n:Int)<((ns.length:Nat):Int):=by omega
  first
   | (rw [decide_eq_true q'] at h5;exact absurd h5 (by decide))
   | (simp at h5;omega)
 cases hwl with
 | cons w1 w2=>
   cases w2;cases w1 with
   | list ho hall=>exact ⟨_,_,ns,rfl,rfl,ho,h9 ns _ hall,hlen⟩
theorem o9 (l:OpenLaw) (args:List WData):l.row.toRowW.claim.post args (.bool true) args=true:=
 postW_of (r:=l.row.toRowW) (X:=(true == true))
  (show WShape.has [] (.bool true) .bool=true by first | rfl | decide | simp [WShape.has,WShape.arms,WShape.armsAll])
  (show (WTm.eq .res (.lit (.bool true))).value [] {args:=args,res:=some (.bool true),after:=args}=some (.bool (true == true)) from w_eq_bool (w_res rfl) w_lit) rfl
theorem attach_call {l:OpenLaw}{n:Nat}{q:Program}{loose:List Str}{XP:(Str->Option Value)->Heap->Prop}{YP:World->Heap->Prop}{d:DefRec}
  (hn:l.most=some n) (hdf:d.params.defaults=[])
  (call:∀(w:World) (s₀ s₁:Shared) (mg mb:Str->Option Value) (fa:Addr) (o:Obj) (pm cd doc:Value) (a:Addr) (vs:List Value) (ns:List Int),
   Ground q loose [] XP w s₀ mg mb s₁.heap->YP w s₁.heap->
   s₁.heap.get? fa=some o->o.data=.func (docDef d.name d.params d.body d.scope pm cd doc)->s₁.heap.CodeRec cd d.name->mg d.name=some (.ref fa)->
   s₁.heap.get? a=some {cls:=.type "list",data:=.seq vs.toArray}->IntsAre vs ns->ns.length<=n->s₁.gens= #[]->
   codeAny (model l.prog w) callerA (.call (.ref fa) ⟨[.ref a],[]⟩) (λ r s'=>r=.ok (.ret (.bool true))/\OldK s₁.heap s'.heap/\s'.os=s₁.os/\AllBare s'.gens) s₁):
  WalkO q loose XP YP l.row.toRowW d [] (λ f vs=>PySem.call f vs):=by
 intro w s₀ s₁ mg mb G Y fa o pm cd doc dV kV ho hd hcd hD hmg hg args vals as hpre hlay hrd hwl hlo;obtain rfl:dV=.none:=Dflts.none hD hdf;obtain rfl:kV=.none:=Dflts.noKw hD;obtain ⟨a,vs,ns,rfl,rfl,hobj,hints,hlen⟩:=oW hn hpre hwl;refine enter_call (codeAny_mono (call w s₀ s₁ mg mb fa o pm cd doc a vs ns G Y ho (fd_plain hd) hcd hmg hobj hints hlen hg) λ r s' hq=>?_);obtain ⟨rfl,h2,h3,h4⟩:=hq;exact ⟨.inl ⟨.bool true,.bool true,[],rfl,λ _=>rfl,.bool true,o9 l _,λ _=>⟨List.Pairwise.nil,λ _ hm=>(nomatch hm)⟩⟩,h2,h3,h4⟩
section
variable {prog:Program}{w:World}{A:Around}{E:Value->Shared->Prop}{s:Shared}{K:Frag}
end
end Att
namespace L2
open PySem PySem.Spec PyProof.Rows
theorem gC:∀{vs:List Value}{ns:List Int},IntsAre vs ns->aQ (ns.map V.int) vs
 | _,_,.nil=>.nil
 | _,_,.cons n t h=>.cons ⟨t,rfl⟩ (gC h)
def zc (H:Hp):Prop:= ∀b,H b=none\/∃o xs,H b=some (.frz o (.lst xs))
theorem rh {P:Program}{w:World}{K:Frag}{mg mb:Str->Option Value}{CX:qf}{k:Nat}{fa a:Addr}{fd:FuncData}{x:Str}{sp:Sp}{s₁:Shared}{vs:List Value}{ns:List Int}
  (KX:K.In s₁.heap) (hns:s₁.heap.Ns mainGlobals mg) (hb:s₁.heap.Ns builtinsNs mb) (hbb:∀x:Str,x≠"__name__"->mb x=bootBuiltins x) (hlim:s₁.heap.NoLimit) (hg:s₁.gens= #[])
  (ha:s₁.heap.get? a=some {cls:=.type "list",data:=.seq vs.toArray}) (hi:IntsAre vs ns) (hl:ns.length<=sizeLine) (hr:bQ k callerA)
  (F:∀base:Heap,K.In base->base.Ns mainGlobals mg->bi P w K mg base CX k fa fd [x] sp) (hbind:∀(s:Shared) (u:Value),BindsTo s fd ⟨[u],[]⟩ [(x,u)])
  (hsp:∀H:Hp,zc H->aL K H a (ns.map V.int)->sp [.ref a] H (λ v _=>v=.bl true) λ _ _ _=>False)
  (hCX:∀H e s',CX [] H s₁ (λ _ _ _=>False) e s'->False):
  codeAny (model P w) callerA (.call (.ref fa) ⟨[.ref a],[]⟩) (λ r s'=>r=.ok (.ret (.bool true))/\OldK s₁.heap s'.heap/\s'.os=s₁.os/\AllBare s'.gens) s₁:=by
 have rv:=gC hi;have lenV:=hi.length;have core:∀H:Hp,zc H->aL K H a (ns.map V.int)->hG P w H s₁.heap->(∀b,H b≠none->b=a)->(H a≠none->K.lookup a=none)->
   codeAny (model P w) callerA (.call (.ref fa) ⟨[.ref a],[]⟩) (λ r s'=>r=.ok (.ret (.bool true))/\OldK s₁.heap s'.heap/\s'.os=s₁.os/\AllBare s'.gens) s₁:=by
  intro H hO hS hok hA hK;have base_of:∀{b:Addr} {o:Obj},s₁.heap.get? b=some o->H b=none->(kz s₁.heap H).get? b=some o:=λ e n=>rH e n;have noA:∀{b:Addr} {o:Obj} {es:Array DictEntry} {ep:Nat},s₁.heap.get? b=some o->o.data=.dict es ep->H b=none:=λ {b o es ep} e d=>by
   cases q:H b with
   | none=>rfl
   | some u=>
     have e':b=a:=hA b (by rw [q];simp);subst e';rw [ha] at e;cases e;have d':Data.seq vs.toArray _=Data.dict es ep:=d;cases d'
  have nsK:∀{b:Addr} {m:Str->Option Value},s₁.heap.Ns b m->(kz s₁.heap H).Ns b m:=λ {b m} ⟨o,es,ep,e,d,r⟩=>⟨o,es,ep,base_of e (noA e d),d,r⟩;have hKb:K.In (kz s₁.heap H):=λ b o e=>base_of (KX b o e) (by
   cases q:H b with
   | none=>rfl
   | some u=>
     have e':b=a:=hA b (by rw [q];simp);subst e';rw [hK (by rw [q];simp)] at e;cases e)
  have hM:Mod K mg (kz s₁.heap H):=⟨hKb,nsK hns,⟨mb,nsK hb,hbb⟩,let ⟨mc,h1,h2⟩:=hlim;⟨mc,nsK h1,h2⟩⟩;have e0:l7 P w K mg (kz s₁.heap H) callerA [] s₁ H:=⟨rfl,hM,λ b o e=>uc e,Go (pJ _ _),trivial,λ b hb=>absurd (show b∈([]:List Addr) from hb) (by simp),hok,.of_eq hg⟩;refine codeAny_mono ((F _ hKb (nsK hns)).run callerA [] s₁ H ⟨[.ref a],[]⟩ [.ref a] [.ref a] _ _ hr e0 (hbind s₁ (.ref a)) (.cons rfl .nil) (hsp H hO hS)) λ r s' h=>?_;cases r with
  | error e=>exact (hCX H e s' h).elim
  | ok fl=>
    cases fl with
    | next=>exact False.elim h
    | brk=>exact False.elim h
    | cont=>exact False.elim h
    | ret u=>
      obtain ⟨v,H',os,bare,un,hok',r',q⟩:=h;have q':v=.bl true:=q;subst q';obtain rfl:u=Value.bool true:=r';refine ⟨rfl,OldK.of_keep λ b o e=>?_,os,bare⟩;cases q:H b with
      | none=>exact un.keep b o e q (by intro z;exact absurd (show b∈([]:List Addr) from z) (by simp)) (by simp)
      | some u=>
        rcases hO b with z | ⟨ob,xs,z⟩
        ·rw [q] at z;cases z
        ·have z2:=un.frzs b ob _ z;obtain ⟨e1,_⟩:=hok b _ z;obtain ⟨e2,_⟩:=hok' b _ z2;rw [e] at e1;cases e1;exact e2
 cases hk:K.lookup a with
 | some o=>
   have e:=KX a o hk;rw [ha] at e;cases e;refine core (λ _=>none) (λ _=>.inl rfl) (.inr ⟨_,vs.toArray,_,hk,rfl,rfl,rfl,by rw [Ey,lenV];exact hl,by simpa using eU.ints rv⟩) (λ b u z=>by have z':(none:Option HO)=some u:=z;cases z') (λ b z=>absurd rfl z) λ z=>absurd rfl z
 | none=>
   refine core (λ b=>if b=a then some (.frz {cls:=.type "list",data:=.seq vs.toArray} (.lst (ns.map V.int))) else none) (λ b=>?_) (.inl (.inr ⟨{cls:=.type "list",data:=.seq vs.toArray},if_pos rfl⟩)) (λ b u z=>?_) (λ b z=>?_) λ _=>hk
   ·by_cases hb:b=a
    ·exact .inr ⟨_,_,if_pos hb⟩
    ·exact .inl (if_neg hb)
   ·by_cases hb:b=a
    ·have z':=(if_pos hb).symm.trans z;cases z';subst hb;exact ⟨ha,by rw [Eu];exact hl,vs,_,rv,ha⟩
    ·have z':=(if_neg hb).symm.trans z;cases z'
   ·by_cases hb:b=a
    ·exact hb
    ·exact absurd (if_neg hb) z
end L2
namespace L2
open PySem PySem.Spec PyProof.Rows
theorem tu {l:PySem.W.OpenLaw}{n k:Nat}{q:Program}{loose:List Str}{XP:(Str->Option Value)->Heap->Prop}{YP:World->Heap->Prop}{d:DefRec}{K:Params->Frag}{CX:World->qf}{sp:World->Sp}{x:Str}
  (hn:l.most=some n) (hn2:n<=sizeLine) (hdf:d.params.defaults=[]) (hr:bQ k callerA)
  (hY:∀(w:World) (h:Heap),YP w h->(K w.params).In h)
  (F:∀(w:World) (mg:Str->Option Value) (fa:Addr) (h:Heap),(K w.params).In h->h.Ns mainGlobals mg->mg d.name=some (.ref fa)->
   ∃fd:FuncData,(∀(s:Shared) (u:Value),BindsTo s fd ⟨[u],[]⟩ [(x,u)])/\
    ∀base:Heap,(K w.params).In base->base.Ns mainGlobals mg->bi l.prog w (K w.params) mg base (CX w) k fa fd [x] (sp w))
  (hsp:∀(w:World) (H:Hp) (a:Addr) (ns:List Int),ns.length<=n->zc H->aL (K w.params) H a (ns.map V.int)->sp w [.ref a] H (λ v _=>v=.bl true) λ _ _ _=>False)
  (hCX:∀(w:World) (H:Hp) (s:Shared) (e:Value) (s':Shared),CX w [] H s (λ _ _ _=>False) e s'->False):
  PySem.W.WalkO q loose XP YP l.row.toRowW d [] (λ f vs=>PySem.call f vs):=by
 refine Att.attach_call hn hdf λ w s₀ s₁ mg mb fa o pm cd doc a vs ns G Y ho hd hcd hmg hobj hints hlen hg=>?_;have KX:=hY w _ Y;obtain ⟨fd,hb,hF⟩:=F w mg fa _ KX G.T.g hmg;exact rh KX G.T.g G.T.b G.T.builtins G.T.nolimit hg hobj hints (Ge hlen hn2) hr hF hb (λ H hO hS=>hsp w H a ns hlen hO hS) λ H e s'=>hCX w H s₁ e s'
end L2
namespace L2
open PySem PySem.Spec PyProof.Rows
def dA (s:Stmt) (j:Nat):Stmt:=match s with
 | .ClassDef _ _ _ body _ _ _ _ _ _ _=>body.getD j (.Pass ⟨0,0,0,0⟩)
 | _=>.Pass ⟨0,0,0,0⟩
def dB (s:Stmt):Arguments:=match s with
 | .FunctionDef _ a _ _ _ _ _ _ _ _=>a
 | _=>{posonlyargs:=[],args:=[],vararg:=none,kwonlyargs:=[],kw_defaults:=[],kwarg:=none,defaults:=[]}
def cN (s:Stmt):List Stmt:=match s with
 | .FunctionDef _ _ b _ _ _ _ _ _ _=>b
 | _=>[]
def ae (s:Stmt):Scope:=match s with
 | .FunctionDef _ _ _ _ _ _ sc _ _ _=>sc
 | _=>{kind:=.function,names:=[],isGenerator:=false,isCoroutine:=false}
abbrev dv:qf:=λ _ _ _ _ _ _=>False
abbrev E0:XK:=λ _ _ _=>False
theorem n4 {X:Cx}:i7 dv X E0:=λ _ _ _ _ _ _ _ h=>h.elim
structure bU (K:Frag) (x qual:Str) (st:Stmt) (f:Addr) (fd:FuncData):Prop where
 ex:∃(oc:Value) (od:Option Addr) (kV doc pm:Value) (an:Option Addr) (cdv ct:Value) (osl:Array (Option Value)),
  fd=Hc x qual (dB st) (cN st) (ae st) .none kV doc pm an cdv ct/\K.lookup f=some ⟨oc,od,.func fd,osl⟩/\Hm K cdv qual=true
 kp:Ha K (.ref f)=true
section
variable {P:Program}{w:World}{K:Frag}{mg:Str->Option Value}{base:Heap}
theorem bU.ok {x qual:Str}{st:Stmt}{f:Addr}{fd:FuncData}{N ps:List Str}{k:Nat}{sp:Sp}(F:bU K x qual st f fd) (S:ay N ps (ae st)) (len:∀vs H Q E,sp vs H Q E->vs.length=ps.length)
  (hbody:∀(cdv:Value) (A:Around) (outer:List Env) (s:Shared) (H:Hp) (vs:List V) (Q:VK) (E:XK),bQ k (A.deeper (envOfC qual (ae st) s.heap.objs.size f cdv))->sp vs H Q E->
   ∃t,l9 (iU dv P w K mg base N qual (ae st) f cdv A outer s H E).nox (cN st) t/\t {nx:=λ _ H'=>Q .non H',rt:=Q} (fI N vs) H):bi P w K mg base dv (k+1) f fd ps sp:=by
 obtain ⟨oc,od,kV,doc,pm,an,cdv,ct,osl,rfl,lk,hcd⟩:=F.ex;refine CV lk hcd S len λ A outer s H vs Q E hr hsp=>?_;obtain ⟨t,h,q⟩:=hbody cdv A outer s H vs Q E hr hsp;exact ⟨t,h.nox,q⟩
theorem bU.binds {x qual:Str}{st:Stmt}{f:Addr}{fd:FuncData}{ps:List Str}(F:bU K x qual st f fd)
  (h:∀(kV doc pm:Value) (an:Option Addr) (cdv ct:Value) (us:List Value),us.length=ps.length->bindArgs (Hc x qual (dB st) (cN st) (ae st) .none kV doc pm an cdv ct) ⟨us,[]⟩=pure (ps.zip us)):eQ K fd ps []:=by
 obtain ⟨oc,od,kV,doc,pm,an,cdv,ct,osl,rfl,lk,hcd⟩:=F.ex;exact .all (h kV doc pm an cdv ct)
theorem aP {x qual:Str}{st:Stmt}{f:Addr}{oc:Value}{od an:Option Addr}{osl:Array (Option Value)}{kV doc pm cdv ct:Value}(l:K.lookup f=some ⟨oc,od,.func (Hc x qual (dB st) (cN st) (ae st) .none kV doc pm an cdv ct),osl⟩)
  (c:Hm K cdv qual=true) (k:Ha K (.ref f)=true):bU K x qual st f (Hc x qual (dB st) (cN st) (ae st) .none kV doc pm an cdv ct):=⟨⟨oc,od,kV,doc,pm,an,cdv,ct,osl,rfl,l,c⟩,k⟩
end
section
variable {X:Cx}
end
theorem hV {A B:Prop}(h:B):if false=true then A else B:=by rw [if_neg Gz];exact h
theorem hU {A B:Prop}(h:A):if true=true then A else B:=by rw [if_pos rfl];exact h
def ak (H H':Hp):Prop:= ∀b o,H b=some o->H' b=some o
theorem ak.refl (H:Hp):ak H H:=λ _ _ h=>h
theorem ak.trans {H H1 H2:Hp}(a:ak H H1) (b:ak H1 H2):ak H H2:=λ c o h=>b c o (a c o h)
theorem ak.free {H H':Hp}(e:ak H H') {l:Addr}(h:H' l=Option.none):H l=Option.none:=by
 cases q:H l with
 | none=>rfl
 | some o=>
   rw [e l o q] at h;cases h
theorem ak.seq {K:Frag}{H H':Hp}{a:Addr}{xs:List V}(e:ak H H') (h:aL K H a xs):aL K H' a xs:=by
 rcases h with (h | ⟨o,h⟩) | h
 ·exact .inl (.inl (e _ _ h))
 ·exact .inl (.inr ⟨o,e _ _ h⟩)
 ·exact .inr h
section
variable {κ:Type} [DecidableEq κ]
end
end L2
namespace L2
open PySem PySem.Spec PyProof.Rows
def fG (env:Env):List (Str×NameKind)->List (Str×Addr)->List (Str×Addr)
 | [],cs=>cs
 | (n,k)::r,cs=>fG env r (if k == .free then (match env.cells.lookup n with | some a=>(n,a)::cs | none=>cs) else cs)
theorem dM (env:Env):∀(l:List (Str×NameKind)) (cs:List (Str×Addr)),(∀x∈l,x.2=.free->∃c,env.cells.lookup x.1=some c)->
  (forIn l cs λ (x:Str×NameKind) r=>if (x.2 == NameKind.free)=true then do let a<-cellOf env x.1;pure (ForInStep.yield ((x.1,a)::r)) else pure (ForInStep.yield r):Sem (List (Str×Addr)))=pure (fG env l cs)
 | [],cs,_=>rfl
 | (n,k)::r,cs,h=>by
   have hr:∀x∈r,x.2=.free->∃c,env.cells.lookup x.1=some c:=λ x hx=>h x (Ez _ hx);rw [List.forIn_cons,fG]
   by_cases hk:(k == NameKind.free)=true
   ·obtain ⟨c,hc⟩:=h (n,k) ED (by simpa using hk);have hc':env.cells.lookup n=some c:=hc;have e:cellOf env n=pure c:=by unfold cellOf;rw [hc']
    simp only [hk,if_true,e,pure_bind,hc'];exact dM env r _ hr
   ·simp only [hk,if_false,pure_bind];exact dM env r _ hr
theorem fR {scope:Scope}{env:Env}(h:∀x∈scope.names,x.2=.free->∃c,env.cells.lookup x.1=some c):closureFor scope env=pure (fG env scope.names []):=by have e:=dM env scope.names [] h;unfold closureFor;show (forIn scope.names ([]:List (Str×Addr)) _ >>= λ r=>pure r:Sem (List (Str×Addr)))=_;rw [bind_pure];exact e
theorem lU (env:Env):∀(l:List (Str×NameKind)) (cs:List (Str×Addr)) (x:Str) (c:Addr),cs.lookup x=some c->env.cells.lookup x=some c->(fG env l cs).lookup x=some c
 | [],_,_,_,h,_=>h
 | (n,k)::r,cs,x,c,h,e=>by
   rw [fG];refine lU env r _ x c ?_ e;split
   ·cases q:env.cells.lookup n with
    | none=>exact h
    | some a=>
      show List.lookup x ((n,a)::cs)=some c;rw [EY];cases hx:x == n with
      | false=>exact h
      | true=>
        have:x=n:=by simpa using hx
        subst this;rw [q] at e;exact e
   ·exact h
theorem gu (env:Env):∀(l:List (Str×NameKind)) (cs:List (Str×Addr)) (x:Str) (c:Addr),(∀y d,cs.lookup y=some d->env.cells.lookup y=some d)->(fG env l cs).lookup x=some c->env.cells.lookup x=some c
 | [],cs,x,c,h,e=>h x c e
 | (n,k)::r,cs,x,c,h,e=>by
   rw [fG] at e;refine gu env r _ x c ?_ e;intro y d q;split at q
   ·cases z:env.cells.lookup n with
    | none=>rw [z] at q;exact h y d q
    | some a=>
      rw [z] at q;have q2:List.lookup y ((n,a)::cs)=some d:=q;rw [EY] at q2;cases hx:y == n with
      | false=>rw [hx] at q2;exact h y d q2
      | true=>
        rw [hx] at q2;have hyn:y=n:=by simpa using hx
        rw [hyn,z];exact q2
   ·exact h y d q
theorem iW (env:Env):∀(l:List (Str×NameKind)) (cs:List (Str×Addr)) (x:Str) (c:Addr),(x,NameKind.free)∈l->env.cells.lookup x=some c->(fG env l cs).lookup x=some c
 | [],_,_,_,h,_=>by simp at h
 | (n,k)::r,cs,x,c,h,e=>by
   rw [fG]
   rcases Ew.mp h with h | h
   ·have h1:n=x:=(congrArg Prod.fst h).symm;have h2:k=NameKind.free:=(congrArg Prod.snd h).symm;subst h1 h2;refine lU env r _ n c ?_ e;rw [e];show List.lookup n (if (NameKind.free == NameKind.free)=true then (n,c)::cs else cs)=some c;rw [if_pos (by decide),EY];simp
   ·exact iW env r _ x c h e
theorem gh (scope:Scope) (env:Env) (x:Str):(relabel scope env).names.lookup x=
  (scope.names.lookup x).map λ k=>if (k == .free&&env.scope.kind == .function&&env.kindOf x == some .cell)=true then NameKind.cell else k:=by
 show (scope.names.map λ (p:Str×NameKind)=>if (p.2 == .free&&env.scope.kind == .function&&env.kindOf p.1 == some .cell)=true then (p.1,NameKind.cell) else (p.1,p.2)).lookup x=_
 induction scope.names with
 | nil=>rfl
 | cons p r ih=>
   obtain ⟨n,k⟩:=p;rw [EJ];show List.lookup x ((if (k == .free&&env.scope.kind == .function&&env.kindOf n == some .cell)=true then (n,NameKind.cell) else (n,k))::_)=_;cases hx:x == n with
   | false=>
     have e1:List.lookup x ((n,k)::r)=List.lookup x r:=by rw [EY,hx]
     rw [e1];split<;>(rw [EY,hx];exact ih)
   | true=>
     have:x=n:=by simpa using hx
     subst this;have e1:List.lookup x ((x,k)::r)=some k:=by rw [EY,hx]
     rw [e1];show _=some _;split
     ·rename_i hc;rw [EY,hx];show some NameKind.cell=some (if _ then _ else _);rw [if_pos hc]
     ·rename_i hc;rw [EY,hx];show some k=some (if _ then _ else _);rw [if_neg hc]
structure bn (X:Cx) (N:List Str) (src:List (Option Nat)) (scope:Scope):Prop where
 kind:scope.kind=.function
 nocell:∀y∈scope.names,y.2≠.cell
 names:∀y∈scope.names,y.2=.local->scope.names.lookup y.1=some .local
 fre:∀y∈scope.names,y.2=.free->X.env.kindOf y.1=some .cell\/X.env.kindOf y.1=some .free
 len:src.length=N.length
 nd:N.Nodup
 src:∀(j i:Nat) (x:Str),N[j]? =some x->src[j]? =some (some i)->X.N[i]? =some x/\scope.names.lookup x=some .free
def m3 (dsc:Scope) (XN N:List Str) (src:List (Option Nat)) (scope:Scope):Bool:=
 decide (scope.kind=.function)&&scope.names.all (λ y=>decide (y.2≠.cell))&&scope.names.all (λ y=> !decide (y.2=.local)||decide (scope.names.lookup y.1=some .local))&&
 scope.names.all (λ y=> !decide (y.2=.free)||decide (dsc.names.lookup y.1=some .cell)||decide (dsc.names.lookup y.1=some .free))&&decide (src.length=N.length)&&decide N.Nodup&&
 (N.zip src).all λ p=>match p.2 with
  | none=>true
  | some i=>decide (XN[i]? =some p.1)&&decide (scope.names.lookup p.1=some .free)
theorem bn.of {X:Cx}{dsc:Scope}{XN N:List Str}{src:List (Option Nat)}{scope:Scope}(he:X.env.scope=dsc) (hN:X.N=XN) (h:m3 dsc XN N src scope=true):bn X N src scope:=by
 subst he hN;unfold m3 at h;simp only [GB,decide_eq_true_eq,EV,GG,GF,decide_eq_false_iff_not] at h;obtain ⟨⟨⟨⟨⟨⟨h1,h2⟩,h3⟩,h4⟩,h5⟩,h6⟩,h7⟩:=h;refine ⟨h1,h2,λ y hy e=>?_,λ y hy e=>?_,h5,h6,λ j i x e1 e2=>?_⟩
 ·rcases h3 y hy with q | q
  ·exact absurd e q
  ·exact q
 ·rcases h4 y hy with (q | q) | q
  ·exact absurd e q
  ·exact .inl q
  ·exact .inr q
 ·have hm:(x,some i)∈N.zip src:=by
   have:(N.zip src)[j]? =some (x,some i):=by rw [List.getElem?_zip_eq_some];exact ⟨e1,e2⟩
   exact EX this
  have q:=h7 _ hm;simpa using q
def cxC (X:Cx) (scope:Scope) (N:List Str) (s:Shared) (H:Hp) (ex:List Addr):Cx:=
 {X with
  N:=N
  s₀:=s
  H₀:=H
  env:=compEnvC scope (fG X.env scope.names []) s.heap.objs.size X.env
  outer:=X.stack
  ex:=ex
  fn:=λ _=>false
  pn:=[]
  xe:=λ _ _=>False}
def cY (src:List (Option Nat)) (σ:St):St:=src.map λ o=>match o with | none=>none | some i=>(σ[i]?).join
section
variable {X:Cx}{pins:List (Addr×Obj)}{σ:St}{H:Hp}{s:Shared}{N:List Str}{src:List (Option Nat)}{scope:Scope}{ex:List Addr}
theorem bn.cells (S:bn X N src scope) (ok:X.Ok):∀x∈scope.names,x.2=.free->∃c,X.env.cells.lookup x.1=some c:=λ x hx e=>ok.has _ (S.fre x hx e)
theorem aq.enterC (I:aq X pins σ H s) (S:bn X N src scope) (hf:∀b∈ex,eV X pins H b) (hlt:∀b∈ex,b<s.heap.objs.size) {h1:Heap}{m:Str->Option Value}{tk:Nat}
  (hns:h1.Ns s.heap.objs.size m) (hk:∀b o,s.heap.get? b=some o->h1.get? b=some o):aq (cxC X scope N s H ex) [] (cY src σ) H {s with heap:=h1,toks:=tk}:=by
 have neC:∀b o,s.heap.get? b=some o->b≠s.heap.objs.size:=λ b o e=>Gb (Heap.lt_size e);have sub:∀x c,(fG X.env scope.names []).lookup x=some c->X.env.cells.lookup x=some c:=λ x c e=>gu X.env _ _ x c (λ y d z=>by simp at z) e;refine ⟨⟨I.ok.mod,S.kind,I.ok.glob,I.ok.blt,Gc _,λ x y c e1 e2=>I.ok.inj x y c (sub x c e1) (sub y c e2),λ x hx=>?_,λ x c z=>absurd z (by simp [cxC]),I.ok.hd,I.ok.frames,.inl rfl,λ b hb=>?_,I.bs,Ge I.ok.bsz I.sz,λ b o e hb=>?_,λ b hb hz=>?_,I.stack,I.stkFree⟩,
  rfl,I.bare,Un.kept hk,⟨m,hns,λ j x v e1 e2 e3=>?_⟩,λ x c e=>?_,I.hok.fresh (Gc _),λ x c e=>I.freeC x c (sub x c e),λ p hp=>absurd (show p∈([]:List (Addr×Obj)) from hp) (by simp),I.hok.kept hk,?_⟩
 ·have hx:(relabel scope X.env).names.lookup x=some .cell\/(relabel scope X.env).names.lookup x=some .free:=hx;have hm:(x,NameKind.free)∈scope.names:=by
   rw [gh] at hx;cases q:scope.names.lookup x with
   | none=>rw [q] at hx;simp at hx
   | some k=>
     have hm:=PySem.mem_of_lookup q;cases k with
     | free=>exact hm
     | cell=>exact absurd rfl (S.nocell _ hm)
     | _=>rw [q] at hx;simp at hx
  obtain ⟨c,hc⟩:=S.cells I.ok _ hm rfl;exact ⟨c,iW X.env _ _ x c hm hc⟩
 ·obtain ⟨f0,f1,f2,f3,f4,f5⟩:=hf b hb;exact ⟨Gb (hlt b hb),λ x c e=>f4 x c (sub x c e)⟩
 ·obtain ⟨f0,f1,f2,f3,f4,f5⟩:=hf b hb
  rcases f3 with z | z
  ·exact I.ok.noex b o e z
  ·exact absurd (Gf (Heap.lt_size (I.ok.bs b o e).1) z) (Gi _)
 ·obtain ⟨f0,f1,f2,f3,f4,f5⟩:=hf b hb
  rcases Ew.mp (I.stkSub b hz) with z | z
  ·exact f1 z
  ·exact f2 z
 ·have e2:(cY src σ)[j]? =some (some v):=e2;unfold cY at e2;rw [EB] at e2;cases q:src[j]? with
  | none=>rw [q] at e2;simp at e2
  | some o=>
    rw [q] at e2;cases o with
    | none=>simp at e2
    | some i=>
      have e2:(σ[i]?).join=some v:=by simpa using e2
      have e2:σ[i]? =some (some v):=by
       cases z:σ[i]? with
       | none=>rw [z] at e2;simp at e2
       | some w=>rw [z] at e2;simp at e2;rw [e2]
      obtain ⟨hX,hfr⟩:=S.src j i x e1 q;have hm:=PySem.mem_of_lookup hfr;have hk2:=S.fre _ hm rfl;obtain ⟨mX,hnX,hl⟩:=I.loc;have hvis:Do X.env.scope x:=.inr hk2;obtain ⟨u,r,l⟩:=hl i x v hX e2 hvis;refine ⟨u,r,?_⟩
      rcases l with ⟨l1,_⟩ | ⟨_,c,hc,hcell⟩
      ·rcases hk2 with z | z
       ·have:X.env.kindOf x=some .cell:=z;rw [l1] at this;cases this
       ·have:X.env.kindOf x=some .free:=z;rw [l1] at this;cases this
      ·refine .inr ⟨?_,c,iW X.env _ _ x c hm hc,?_⟩
       ·show (relabel scope X.env).names.lookup x=some .cell\/(relabel scope X.env).names.lookup x=some .free;rw [gh,hfr]
        by_cases hcc:(NameKind.free == .free&&X.env.scope.kind == .function&&X.env.kindOf x == some .cell)=true
        ·left
         show some (if _ then _ else _)=_;rw [if_pos hcc]
        ·right
         show some (if _ then _ else _)=_;rw [if_neg hcc]
       ·exact hcell.keeps hk
 ·obtain ⟨v,z⟩:=I.cell x c (sub x c e);exact ⟨v,z.keeps hk⟩
 ·show (cY src σ).length=N.length;unfold cY;rw [Eu];exact S.len
end
def jk (X:Cx) (ifs:List Expr) (t:TT):Prop:=
 ∀(pins:List (Addr×Obj)) (s:Shared) (σ:St) (H:Hp) (Q:Bool->Hp->Prop),aq X pins σ H s->t σ H Q->
  wpAny (model X.prog X.w) X.A (forIn ifs true λ c r=>if r=true then do let ok<-isTrue c X.env (eval c X.env);pure (ForInStep.yield ok) else pure (ForInStep.yield r)) (TP X pins σ Q) X.xe s
def ga:TT:=λ _ H Q=>Q true H
theorem bI {X:Cx}:jk X [] ga:=λ _ _ _ H _ I h=>wpAny_tests_nil ⟨H,I,h⟩
theorem iE {X:Cx}{c:Expr}{t:TT}(h:PT X c t):jk X [c] t:=λ pins s σ H Q I hw=>wpAny_tests_one (h pins s σ H Q I hw)
def dZ (g:TG) (tt:TT) (te:TE) (src:List (Option Nat)) (σ:St) (Q:VK) (J:It) (H1:Hp):Prop:=
 ∃W:Nat->Nat->List V->St->Hp->Prop,(∃m,W 0 m [] (cY src σ) H1)/\∀i m ys σ' H',W i m ys σ' H'->
  (J.stop i H'/\∀p,H' p=none->Q (.ref p) (upd H' p (.lst ys)))\/
  (J.go i H'/\ys.length<sizeLine/\∀x H2,J.yld i H' x H2->g x σ' H2 λ σ3 H3=>tt σ3 H3 λ b H4=>
   if b=true then te σ3 H4 λ v H5=> ∃m',m'<m/\W (i+1) m' (ys++[v]) σ3 H5 else∃m',m'<m/\W (i+1) m' ys σ3 H4)
def tComp (wi:TI) (g:TG) (tt:TT) (te:TE) (src:List (Option Nat)):TE:=λ σ H Q=>wi σ H (dZ g tt te src σ Q)
def ip (X:Cx) (pins:List (Addr×Obj)) (σ:St) (Q:VK) (acc:Value) (C:Addr) (r:Result) (s':Shared):Prop:=
 (∃f,r=.ok f)/\∃D H',acc=.ref D/\aq X pins σ H' s'/\(∃m,s'.heap.Ns C m)/\eV X pins H' C/\Q (.ref D) H'
theorem gt {prog:Program}{w:World}{A:Around}{R:Result->Shared->Prop}{s:Shared}{elt target iter:Expr}{ifs:List Expr}{scope:Scope}{pos:Pos}{it acc:Value}{env:Env}(I:Nat->Shared->Prop)
  (turn:∀n s,I n s->wpAny (model prog w) A (pyNext it) (λ r s₁=>match r with
   | none=>R (.ok .next) s₁
   | some v=>wpAny (model prog w) A (letOwnedTupleGo target it v) (λ _ s₂=>wpAny (model prog w) A (assign target env v) (λ _ s₃=>
     wpAny (model prog w) A (forIn ifs true λ c r=>if r=true then do let ok<-isTrue c env (eval c env);pure (ForInStep.yield ok) else pure (ForInStep.yield r)) (λ ok s₄=>
      if ok=true then wpAny (model prog w) A (eval elt env) (λ x s₅=>wpAny (model prog w) A (call (.builtin "list.append") [acc,x]) (λ _ s₆=> ∃m,m<n/\I m s₆) (λ _ _=>False) s₅) (λ _ _=>False) s₄
      else∃m,m<n/\I m s₄) (λ _ _=>False) s₃) (λ _ _=>False) s₂) (λ _ _=>False) s₁) (λ _ _=>False) s)
  (n:Nat) (h:I n s):codeAny (model prog w) A (.compLoop (.ListComp elt [⟨target,iter,ifs,0⟩] scope pos) 0 it acc env) R s:=by
 refine codeAny_loop rfl I (λ n s hI=>?_) n h;show wpAny _ A ((compTurn (.ListComp elt [⟨target,iter,ifs,0⟩] scope pos) 0 it acc env).onRaise (λ x=>do noteFrame x env;theTreesLotGoes x)) _ _ s;refine wpAny_noted ?_;rw [compTurn_list];refine wpAny_bind (wpAny_standAt (wpAny_bind (wpAny_mono (turn n s hI) (λ r s₁ h₁=>?_) λ _ _ f=>f.elim)));cases r with
 | none=>exact wpAny_pure h₁
 | some v=>
   refine wpAny_bind (wpAny_mono h₁ (λ _ s₂ h₂=>?_) λ _ _ f=>f.elim);refine wpAny_bind (wpAny_mono h₂ (λ _ s₃ h₃=>wpAny_bind (wpAny_mono h₃ (λ ok s₄ h₄=>?_) λ _ _ f=>f.elim)) λ _ _ f=>f.elim);cases ok with
   | false=>exact wpAny_pure ⟨rfl,h₄⟩
   | true=>
     exact wpAny_bind (wpAny_bind (wpAny_mono h₄ (λ x s₅ h₅=>wpAny_bind (wpAny_mono h₅ (λ _ s₆ h₆=>wpAny_pure (wpAny_pure ⟨rfl,h₆⟩)) λ _ _ f=>f.elim)) λ _ _ f=>f.elim))
abbrev bY (us:List Value) (k:Nat):Obj:={cls:=.type "list",data:=.seq us.toArray k}
section
variable {X:Cx}{N:List Str}{src:List (Option Nat)}{scope:Scope}{elt tg iter:Expr}{ifs:List Expr}{pos:Pos}{wi:TI}{g:TG}{tt:TT}{te:TE}
theorem sA (hc:X.calm=true) (S:bn X N src scope) (hg:∀s H ex,PG (cxC X scope N s H ex) tg g) (ht:∀s H ex,jk (cxC X scope N s H ex) ifs tt) (he:∀s H ex,PE (cxC X scope N s H ex) elt te)
  {pins:List (Addr×Obj)} {σ:St} {Q:VK} {itv:Value} {s2:Shared} {E:Value->Shared->Prop} (h:DB X pins σ tg (dZ g tt te src σ Q) itv s2):
  wpAny (model X.prog X.w) X.A (newList []) (λ acc s₃=>wpAny (model X.prog X.w) X.A (newFunctionEnv scope X.env.globals (fG X.env scope.names []) [] X.env.qual none .none (some X.env)) (λ cenv s₄=>
   codeAny (model X.prog X.w) X.A (.compStart (.ListComp elt [⟨tg,iter,ifs,0⟩] scope pos) 0 itv acc {cenv with scope:=relabel scope X.env}) (ip X pins σ Q acc cenv.locals) s₄) E s₃) E s2:=by
 obtain ⟨it,fp,tn,J,H1,e,I2,T,st2,f2,W,⟨m0,w0⟩,turn⟩:=h;subst e;refine wpAny_newObj_type (wpAny_newFunctionEnv S.nocell (by intro y hy;simp at hy) (λ h₁ hns₁ hsb₁=>?_) S.kind);dsimp only at hns₁ hsb₁ ⊢;generalize hH2:s2.heap.push {cls:=.type "list",dict:=none,data:=.seq ([]:List Value).toArray}=H2 at hns₁ hsb₁ ⊢;have hC:H2.objs.size=s2.heap.objs.size+1:=by rw [<-hH2,Heap.size_push]
 have push:∀b o,s2.heap.get? b=some o->H2.get? b=some o:=λ b o e=>hH2▸Heap.get?_push_of_some _ e;have hD2:H2.get? s2.heap.objs.size=some (bY [] 0):=hH2▸Heap.get?_push_size _ rfl;have hk:∀b o,H2.get? b=some o->h₁.get? b=some o:=λ b o e=>hsb₁.extBut b o (Gb (Heap.lt_size e)) (Heap.get?_push_of_some _ e);generalize hD:s2.heap.objs.size=D at*;have I3:aq X pins σ H1 {s2 with heap:=H2}:=I2.kept (t':=s2.toks) push;have fD:eV X pins H1 D:=I2.fpOk (Go hD) (I2.hok.fresh (Go hD));have fpl:∀b∈fp,b<D:=λ b hb=>by obtain ⟨o,e,_⟩:=T.obj _ _ st2 b hb;rw [<-hD];exact Heap.lt_size e
 have fex:∀b∈D::fp,eV X pins H1 b:=λ b hb=>by
  rcases Ew.mp hb with z | z
  ·rw [z];exact fD
  ·exact f2 b z
 have lex:∀b∈D::fp,b<({s2 with heap:=H2}:Shared).heap.objs.size:=λ b hb=>by
  show b<H2.objs.size
  rcases Ew.mp hb with z | z
  ·rw [z,hC];exact Gk _
  ·rw [hC];exact Gm (fpl b z)
 have I4:=I3.enterC (N:=N) S fex lex (h1:=h₁) (tk:=s2.toks+([]:List (Str×Value)).length) hns₁ hk;generalize hY:cxC X scope N {s2 with heap:=H2} H1 (D::fp)=Y at*;have yP:Y.prog=X.prog:=by rw [<-hY];rfl
 have yw:Y.w=X.w:=by rw [<-hY];rfl
 have yA:Y.A=X.A:=by rw [<-hY];rfl
 have yC:Y.env.locals=H2.objs.size:=by rw [<-hY];rfl
 have yK:Y.K=X.K:=by rw [<-hY];rfl
 have yc:Y.calm=true:=by rw [<-hY];exact hc
 have yfs:Y.fs=lN X.stack:=by rw [<-hY];rfl
 have yex:Y.ex=D::fp:=by rw [<-hY];rfl
 have ypn:Y.pn=[]:=by rw [<-hY];rfl
 have yxe:Y.xe=λ _ _=>False:=by rw [<-hY];rfl
 have ycl:∀x c,Y.env.cells.lookup x=some c->X.env.cells.lookup x=some c:=by rw [<-hY];exact λ x c e=>gu X.env _ _ x c (λ y d z=>by simp at z) e
 have ye:Y.env=compEnvC scope (fG X.env scope.names []) H2.objs.size X.env:=by rw [<-hY];rfl
 have ys0:Y.s₀={s2 with heap:=H2}:=by rw [<-hY];rfl
 have yH0:Y.H₀=H1:=by rw [<-hY];rfl
 have hgY:PG Y tg g:=by rw [<-hY];exact hg _ _ _
 have htY:jk Y ifs tt:=by rw [<-hY];exact ht _ _ _
 have heY:PE Y elt te:=by rw [<-hY];exact he _ _ _
 have nfs:∀b∈D::fp,b∉Y.fs:=λ b hb z=>by
  rw [yfs] at z;obtain ⟨f0,f1,f2',_⟩:=fex b hb
  rcases Ew.mp (I2.stkSub b z) with q | q
  ·exact f1 q
  ·exact f2' q
 have ncl:∀b∈D::fp,∀x c,Y.env.cells.lookup x=some c->c≠b:=λ b hb x c e=>(fex b hb).2.2.2.2.1 x c (ycl x c e);have nC:∀b∈D::fp,b≠Y.env.locals:=λ b hb=>by rw [yC];exact Gb (lex b hb)
 have stat:∀{H':Hp} {us:List Value} {k:Nat},(∀b∈fp,H' b=none)->∀b∈fp,eV Y [(D,bY us k)] H' b:=λ {H' us k} hn b hb=>
  ⟨hn b hb,nC b (Ez _ hb),nfs b (Ez _ hb),.inl (by rw [yex];exact Ez _ hb),ncl b (Ez _ hb),λ p hp=>by
   rw [ypn] at hp;have hp1:p=(D,bY us k):=by simpa using hp
   rw [hp1];exact Gj (fpl b hb)⟩
 have pinD:∀{σ':St} {H':Hp} {s':Shared} {pl:List (Addr×Obj)} {us:List Value} {k:Nat},aq Y pl σ' H' s'->s'.heap.get? D=some (bY us k)->H' D=none->aq Y [(D,bY us k)] σ' H' s':=λ {σ' H' s' pl us k} I' e n=>
  I'.pins_of λ p hp=>by
   have hp1:p=(D,bY us k):=by simpa using hp
   subst hp1;exact ⟨e,n,nC D ED,nfs D ED,λ v z=>by cases z⟩
 have I4':aq Y [(D,bY [] 0)] (cY src σ) H1 {s2 with heap:=h₁,toks:=s2.toks+([]:List (Str×Value)).length}:=pinD I4 (hk _ _ hD2) fD.1;have loop:codeAny (model X.prog X.w) X.A (.compLoop (.ListComp elt [⟨tg,iter,ifs,0⟩] scope pos) 0 (.ref it) (.ref D) Y.env) (ip X pins σ Q (.ref D) H2.objs.size) {s2 with heap:=h₁,toks:=s2.toks+([]:List (Str×Value)).length}:=by
  refine gt (λ n s'=> ∃i ys us k σ' H',aq Y [(D,bY us k)] σ' H' s'/\tn i s'.heap/\(∀b∈fp,H' b=none)/\aQ ys us/\ys.length<=sizeLine/\W i n ys σ' H') ?_ m0
   ⟨0,[],[],0,_,H1,I4',T.keep _ _ _ st2 λ b hb o e=>hk _ _ (push b o e),λ b hb=>(f2 b hb).1,.nil,Gd _,w0⟩
  rintro n s3 ⟨i,ys,us,k,σ3,H3,I3',st3,fr3,rv,hz,w3⟩
  rcases turn i n ys σ3 H3 w3 with ⟨stop,q⟩ | ⟨go,hlen,step⟩
  ·have hd:=T.done Y yP yw yK yc i _ s3 σ3 H3 (λ _ _=>False) I3' (stat fr3) st3 stop;rw [yA] at hd;refine bx hd λ r s4 ⟨hr,I4⟩=>?_;subst hr;obtain ⟨eD,nD,_⟩:=I4.pin (D,bY us k) (by simp);have eD:s4.heap.get? D=some (bY us k):=eD;have nD:H3 D=none:=nD;have base:Un (lN X.stack) (D::fp) H1 H3 H2 s4.heap:=by have b:=I4.base;rw [yex,yH0,ys0,yfs] at b;exact b
   have hnD:∀b o,s2.heap.get? b=some o->b≠D:=λ b o e=>by rw [<-hD];exact Gb (Heap.lt_size e)
   have nx:∀b o,s2.heap.get? b=some o->b∉fp->b∉D::fp:=λ b o e hb z=>(Ew.mp z).elim (hnD b o e) hb;have un:Un (lN X.stack) fp H1 (upd H3 D (.lst ys)) s2.heap s4.heap:=
    ⟨λ b o e n hb hx=>base.keep b o (push b o e) n hb (nx b o e hx),λ b o e n hb hx=>base.slot b o (push b o e) n hb (nx b o e hx),λ b o e n hx=>by rw [ah (hnD b o e)];exact base.free b o (push b o e) n (nx b o e hx),
     λ b o e hx=>base.there b o (push b o e) (nx b o e hx),λ b xs e=>by rw [ah (ag e fD.1)];exact base.tups b xs e,λ b o u e=>by rw [ah (ag e fD.1)];exact base.frzs b o u e,
     λ b ps e=>by rw [ah (ag e fD.1)];exact base.tbls b ps e⟩
   have hok:hG X.prog X.w (upd H3 D (.lst ys)) s4.heap:=λ b u e=>by
    by_cases hb:b=D
    ·subst hb;rw [af] at e;cases e;exact ⟨hz,us,k,rv,eD⟩
    ·rw [ah hb] at e;have x:=I4.hok b u e;rw [yP,yw] at x;exact x.stay (λ c v _ z=>z) (λ c z=>by rw [ah (ag z nD)];exact z) λ c xs z=>by rw [ah (ag z nD)];exact z
   have ho:s4.os=s2.os:=by rw [I4.os,ys0]
   have J':aq X pins σ (upd H3 D (.lst ys)) s4:=I2.call' (ch:=fp) ho un hok I4.bare λ b hb=>⟨(f2 b hb).2.2.2.1,(f2 b hb).2.1,(f2 b hb).2.2.2.2.1,(f2 b hb).2.2.2.2.2⟩;refine ⟨⟨_,rfl⟩,D,_,rfl,J',?_,?_,q D nD⟩
   ·obtain ⟨m,hm,_⟩:=I4.loc;rw [yC] at hm;exact ⟨m,hm⟩
   ·refine I2.fpOk (by rw [hC,hD];exact Gg _) ?_;rw [ah (by rw [hC];exact Gp D)];have z:=I4.free;rw [yC] at z;exact z
  ·have hd:=T.item Y yP yw yK yc i _ s3 σ3 H3 (λ _ _=>False) I3' (stat fr3) st3 go;rw [yA] at hd;refine bx hd λ r s4 ⟨u,hr,h4⟩=>?_;subst hr;refine bx h4 λ _ s5 ⟨x,H5,I5,r5,y5,st5,fr5⟩=>?_;have I5':=I5.pinned (stat fr5) (T.obj _ _ st5);have hg':=hgY _ s5 σ3 H5 x u _ I5' r5 (step x H5 y5);rw [yP,yw,yA,yxe] at hg';refine bx hg' λ _ s6 ⟨σ6,H6,I6,q6⟩=>?_;have ht':=htY _ s6 σ6 H6 _ I6 q6;rw [yP,yw,yA,yxe] at ht';refine bx ht' λ ok s7 ⟨H7,I7,q7⟩=>?_;have again:∀{σ8:St} {H8:Hp} {s8:Shared} {ys':List V} {us':List Value} {k' m':Nat},aq Y ([(D,bY us' k')]++cS fp s5.heap) σ8 H8 s8->aQ ys' us'->ys'.length<=sizeLine->m'<n->W (i+1) m' ys' σ8 H8->
     ∃m,m<n/\∃i ys us k σ' H',aq Y [(D,bY us k)] σ' H' s8/\tn i s8.heap/\(∀b∈fp,H' b=none)/\aQ ys us/\ys.length<=sizeLine/\W i m ys σ' H':=λ {σ8 H8 s8 ys' us' k' m'} I8 rv' hz' hm w8=>by
    refine ⟨m',hm,i+1,ys',us',k',σ8,H8,I8.unpinned,T.keep _ _ _ st5 λ b hb o e=>(I8.pin (b,o) (EG _ (EG _ (cI hb e)))).1,λ b hb=>?_,rv',hz',w8⟩;obtain ⟨o,e,d⟩:=T.obj _ _ st5 b hb;exact (I8.pin (b,o) (EG _ (EG _ (cI hb e)))).2.1
   cases ok with
   | false=>
     obtain ⟨m',hm,w8⟩:=q7;exact again I7 rv hz hm w8
   | true=>
     rw [if_pos rfl];have he':=heY _ s7 σ6 H7 _ I7 q7;rw [yP,yw,yA,yxe] at he';refine bx he' λ u8 s8 ⟨v,H8,I8,r8,m',hm,w8⟩=>?_;obtain ⟨eD,nD,_⟩:=I8.pin (D,bY us k) (by simp);have eD:s8.heap.get? D=some (bY us k):=eD;have nD:H8 D=none:=nD;have hl:=rv.length;refine call_meets F.slot_list_append ⟨_,eD,rfl⟩ F.entry_list_append (F.args_list_append_2 _ _) (PySem.list_append D us.toArray k u8 (by rw [Ey];omega)) ⟨eD,?_⟩;have q:=PySem.IsL.update eD (λ a=>a.push u8);have eu:us.toArray.push u8=(us++[u8]).toArray:=by simp
     rw [eu] at q;obtain ⟨k',q⟩:∃k',(s8.heap.update D (Obj.mapSeq λ a=>a.push u8)).get? D=some (bY (us++[u8]) k'):=⟨_,q⟩;have I8':aq Y (cS fp s5.heap) σ6 H8 s8:=I8.pins_of λ p hp=>I8.pin p (EG _ (EG _ hp));have I9:aq Y (cS fp s5.heap) σ6 H8 {s8 with heap:=s8.heap.update D (Obj.mapSeq λ a=>a.push u8)}:=I8'.turned (it:=D) (t':=s8.toks) (λ b o hb e=>(Heap.get?_update_other s8.heap _ (Ne.symm hb)).trans e) nD (nC D ED)
      (.inl (by rw [yex];exact ED)) (ncl D ED) λ p hp=>by
       rw [ypn] at hp;have hp:p∈cS fp s5.heap:=by simpa using hp
       exact Gb (fpl _ (gN hp).1)
     refine again (us':=us++[u8]) (ys':=ys++[v]) (m':=m') (k':=k') (I9.pins_of λ p hp=>?_) (rv.append (.cons r8 .nil)) (by rw [EF,Fk];omega) hm w8
     rcases ES.mp hp with z | z
     ·have hp1:p=(D,bY (us++[u8]) k'):=by simpa using z
      subst hp1;exact ⟨q,nD,nC D ED,nfs D ED,λ v z=>by cases z⟩
     ·exact I9.pin p (EG _ z)
 rw [ye] at loop;exact codeAny_compStart_list loop (T.self _ 0 _ _ _ (T.keep _ _ _ st2 λ b hb o e=>hk _ _ (push b o e)) loop)
theorem tX (hc:X.calm=true) (S:bn X N src scope) (hi:PI X tg iter wi) (hg:∀s H ex,PG (cxC X scope N s H ex) tg g) (ht:∀s H ex,jk (cxC X scope N s H ex) ifs tt) (he:∀s H ex,PE (cxC X scope N s H ex) elt te)
  (hs:∀x,foldedSetIterable iter X.env x=pure x:=by intro _;rfl):PE X (.ListComp elt [⟨tg,iter,ifs,0⟩] scope pos) (tComp wi g tt te src):=by
 intro pins s σ H Q I h;rw [eval_ListComp];refine wpAny_comprehension_free (use:=none) rfl hs (fR (S.cells I.ok)) S.kind S.names (bx (hi pins s σ H _ I h) λ v s1 h1=>bx h1 λ it s2 h2=>?_);refine bx (sA hc S hg ht he h2) λ acc s3 h3=>bx h3 λ cenv s4 h4=>codeAny_mono h4 λ r s' hr=>?_;obtain ⟨⟨f,rfl⟩,D,H',rfl,J,⟨m,hm⟩,hf,q⟩:=hr;refine ⟨m,hm,λ h' sb=>?_⟩;exact ⟨.ref D,H',J.turned (t':=s'.toks) (λ b o hb e=>(sb.2 b hb).trans e) hf.1 hf.2.1 hf.2.2.2.1 hf.2.2.2.2.1 hf.2.2.2.2.2,rfl,q⟩
end
end L2
namespace L2
open PySem PySem.Spec PyProof.Rows
section
variable {X:Cx}
theorem PE.imp {e:Expr}{t t':TE}(h:PE X e t) (i:∀σ H Q,t' σ H Q->t σ H Q):PE X e t':=λ pins s σ H Q I q=>h pins s σ H Q I (i σ H Q q)
theorem aI.imp {f:Value}{r r':List V->Hp->VK->Prop}(h:aI X f r) (i:∀xs H Q,r' xs H Q->r xs H Q):aI X f r':=λ pins s σ H xs us Q I r q=>h pins s σ H xs us Q I r (i xs H Q q)
theorem qb.imp {id:String}{r r':V->List V->Hp->VK->Prop}(h:qb X id r) (i:∀x xs H Q,r' x xs H Q->r x xs H Q):qb X id r':=λ pins s σ H x xs v us Q I rx r q=>h pins s σ H x xs v us Q I rx r (i x xs H Q q)
abbrev Str.tl (x:Str):List Nat:=x.cps.toList
theorem nF {x y:Str}(h:x.cps.toList=y.cps.toList):x=y:=by obtain ⟨a⟩:=x;obtain ⟨b⟩:=y;have:a=b:=GP.mp h;rw [this]
theorem tI (x:Str):x.length=x.cps.toList.length:=by simp [Str.length]
theorem pw:fH X (compareOp .LtE) (λ x y H Q=> ∃i j,x=.str i/\y=.str j/\Q (.bl (!decide (j.cps.toList<i.cps.toList))) H):=by intro pins s σ H x y v u Q I rx ry h;obtain ⟨i,j,rfl,rfl,q⟩:=h;obtain ⟨t,rfl⟩:=rx;obtain ⟨t',rfl⟩:=ry;exact PySem.P.le_str (fin_bl I q rfl)
theorem qW:qb X "str.upper" (λ x vs H Q=> ∃a,x=.str a/\vs=[]/\a.length<=sizeLine/\(∀c∈a.cps.toList,c<128)/\Q (.str ⟨a.cps.map up1⟩) H):=by
 intro pins s σ H x xs v us Q I rx r h;obtain ⟨a,rfl,rfl,hz,ha,q⟩:=h;obtain ⟨t,rfl⟩:=rx;cases r;have e:placed a (λ _ c=>Unicode.upperOf c)=a.cps.map up1:=placed_single a _ up1 λ i c hc=>upperOf_ascii c (ha c (EX hc));have hfit:Builtin.Str.tooLong (placed a λ _ c=>Unicode.upperOf c).size=false:=by rw [e,Array.size_map];unfold Builtin.Str.tooLong;exact decide_eq_false (by show¬a.cps.size > sizeLine;have:a.length=a.cps.size:=rfl;omega)
 refine call_gives F.slot_str_upper (typeIs_str _ _ _) F.entry_str_upper (F.args_str_upper_1 _) (gives_str_upper a t hfit) ?_;rw [e];exact ⟨by show (a.cps.map up1).size<=sizeLine;rw [Array.size_map];exact hz,⟨.str _,H,I.tok _,⟨_,rfl⟩,q⟩⟩
theorem jh:aI X (.type "int") (λ xs H Q=> ∃x n,xs=[.str x]/\PySem.intText? x=some n/\x.length<=640/\Q (.int n) H):=by intro pins s σ H xs us Q I r h;obtain ⟨x,n,rfl,hn,hl,q⟩:=h;obtain ⟨u,rfl,t,rfl⟩:=cr r;exact PySem.W.KIN.call_text hn hl ⟨.int n,H,I.tok _,⟨_,rfl⟩,q⟩
theorem iw:∀{ys:List Str}{us:List Value},aQ (ys.map V.str) us->StrsAre us ys
 | [],us,r=>by rw [Fb] at r;cases r;exact .nil
 | y::ys,us,r=>by
   rw [EJ] at r;cases r with
   | cons r1 r2=>
     obtain ⟨t,e⟩:=r1;subst e;exact .cons y t (iw r2)
theorem ud:qb X "str.join" (λ x vs H Q=> ∃sep p ys,x=.str sep/\vs=[.ref p]/\aL X.K H p (ys.map V.str)/\(ys.map (·.length)).sum+ys.length*sep.length<=16777216/\Q (.str (Txt.join sep ys)) H):=by intro pins s σ H x xs v us Q I rx r h;obtain ⟨sep,p,ys,rfl,rfl,hp,hz,q⟩:=h;obtain ⟨t,rfl⟩:=rx;obtain ⟨u,rfl,ru⟩:=cr r;cases ru;obtain ⟨its,rv,pl,hl⟩:=I.list hp;exact join_list pl.isList (by simpa using iw rv) hz λ t' k=>⟨.str _,H,I.tok _,⟨t',rfl⟩,q⟩
theorem kN {P:Program}{w:World}{A:Around}{its:List Value}{ks:List Bool}(r:aQ (ks.map V.bl) its):TruthOf P w A (λ i v=>its.toArray[i]? =some v) (λ i=>ks.getD i false):=by
 intro i v s Q E hv hq;have hv:its[i]? =some v:=by simpa using hv
 have hlen:=r.length;rw [Eu] at hlen;have hi:i<its.length:=(EH.mp hv).1;have hk:(ks.map V.bl)[i]? =some (V.bl (ks.getD i false)):=by rw [EB,Ex (by omega),EQ,Ex (by omega)];rfl
 obtain ⟨u,hu,ru⟩:=r.get hk;rw [hv] at hu;cases hu;cases ru;exact wpAny_truthy_bool hq
theorem oZ (ks:List Bool):(List.range ks.length).all (λ i=>ks.getD i false)=ks.all id:=by
 rw [GD,EV,EV]
 constructor
 ·intro h b hb;obtain ⟨i,hi,e⟩:=FN.mp hb;have:=h i (ER.mpr hi);rw [EQ,Ex hi] at this;rw [<-e];exact this
 ·intro h i hi;have hi:=ER.mp hi;rw [EQ,Ex hi];exact h _ (EZ hi)
theorem sN (hc:X.calm=true):aI X (.builtin "all") (λ xs H Q=> ∃(p:Addr) (ks:List Bool),xs=[.ref p]/\aL X.K H p (ks.map V.bl)/\Q (.bl (ks.all id)) H):=by
 intro pins s σ H xs us Q I r h;obtain ⟨p,ks,rfl,hp,q⟩:=h;obtain ⟨u,rfl,ru⟩:=cr r;cases ru;obtain ⟨its,rv,pl,hl⟩:=I.list hp;have hlen:=rv.length;rw [Eu] at hlen;refine call_all_walk (wpAny_pyIter_list pl.isList ?_);have hne:p≠s.heap.objs.size:=by obtain ⟨o,ho,_⟩:=pl.isList;exact Gb (Heap.lt_size ho)
 have W:=Walks.list (prog:=X.prog) (w:=X.w) (A:=X.A.in1) (show X.A.in1.handled=none from I.ok.hd hc) s.heap.objs.size p hne its.toArray;have hpush:∀o b ob,s.heap.get? b=some ob->(s.heap.push o).get? b=some ob:=λ o b ob e=>Heap.get?_push_of_some _ e;refine ⟨_,_,_,_,_,_,λ i=>ks.getD i false,rfl,W,⟨⟨_,Heap.get?_push_size _ rfl,rfl,rfl⟩,pl.isList.at λ o e=>hpush _ _ o e⟩,kN rv,λ h' tk k=>?_⟩;have e:(List.range its.toArray.size).all (λ i=>ks.getD i false)=ks.all id:=by rw [<-oZ,Ey,<-hlen]
 rw [e];refine ⟨.bl _,H,I.kept (t':=tk) (h':=h') λ b ob e=>k b ob ?_ (hpush _ b ob e),rfl,q⟩;intro hb;have:b=s.heap.objs.size:=by simpa using hb
 subst this;exact absurd (Heap.lt_size e) (Gi _)
end
end L2
namespace L2
open PySem PySem.Spec PyProof.Rows
inductive oA (K:Frag) (H:Hp):Nat->V->V->Bool->Prop
 | flat {n:Nat} {x y:V} (hx:flatV x=true) (hy:flatV y=true):oA K H n x y (eqV x y)
 | same {n:Nat} {a:Addr}:oA K H n (.ref a) (.ref a) true
 | len {n:Nat} {a b:Addr} {xs ys:List V} (ha:aL K H a xs) (hb:aL K H b ys) (hab:a≠b) (hl:xs.length≠ys.length):oA K H (n+1) (.ref a) (.ref b) false
 | lst {n:Nat} {a b:Addr} {xs ys:List V} {es:Nat->Bool} (ha:aL K H a xs) (hb:aL K H b ys) (hab:a≠b) (hl:xs.length=ys.length)
   (he:∀i x y,xs[i]? =some x->ys[i]? =some y->oA K H n x y (es i)):oA K H (n+1) (.ref a) (.ref b) ((List.range xs.length).all es)
 | tup {n:Nat} {a b:Addr} {xs ys:List V} {es:Nat->Bool} (ha:fF K H a xs) (hb:fF K H b ys) (hab:a≠b)
   (he:∀i x y,xs[i]? =some x->ys[i]? =some y->oA K H n x y (es i)):oA K H (n+1) (.ref a) (.ref b) ((List.range (min xs.length ys.length)).all es&&xs.length == ys.length)
 | nref {n:Nat} {x:V} {a:Addr} {xs:List V} (hx:flatV x=true) (ha:aL K H a xs\/fF K H a xs):oA K H n x (.ref a) false
 | refn {n:Nat} {x:V} {a:Addr} {xs:List V} (hx:flatV x=true) (ha:aL K H a xs\/fF K H a xs):oA K H n (.ref a) x false
section
variable {X:Cx}{pins:List (Addr×Obj)}{σ:St}{H:Hp}{s:Shared}
theorem cU {xs:List V}{its:List Value}(r:aQ xs its) {j:Nat}(h:j<its.toArray.size):∃x,xs[j]? =some x/\aH x its.toArray[j]:=by
 have hl:=r.length;have hj:j<its.length:=by simpa using h
 have hx:xs[j]? =some (xs[j]'(by omega)):=Ex (by omega);obtain ⟨u,hu,ru⟩:=r.get hx;refine ⟨_,hx,?_⟩;have e:its.toArray[j]=u:=by rw [Ex hj] at hu;simpa using Option.some.inj hu
 rw [e];exact ru
theorem kA (I:aq X pins σ H s):∀{n:Nat}{x y:V}{k:Bool},oA X.K H n x y k->∀(A:Around),A.units+n<cLine->∀{u v:Value},aH x u->aH y v->SeqAt.EqAt A s u v k:=by
 intro n x y k h
 induction h with
 | flat hx hy=>exact λ A _ u v ru rv=>su ru rv hx hy
 | same=>
   intro A _ u v ru rv;cases ru;cases rv;exact SeqAt.EqAt.same _
 | len ha hb hab hl=>
   intro A hu u v ru rv;cases ru;cases rv;obtain ⟨its,r1,p1,_⟩:=I.list ha;obtain ⟨its2,r2,p2,_⟩:=I.list hb;have l1:=r1.length;have l2:=r2.length;refine .of_refs hab (.lists_lengths p1.isList p2.isList (by simp;omega) (by omega))
 | @lst n a b xs ys es ha hb hab hl he ih=>
   intro A hu u v ru rv;cases ru;cases rv;obtain ⟨its,r1,p1,_⟩:=I.list ha;obtain ⟨its2,r2,p2,_⟩:=I.list hb;have l1:=r1.length;have l2:=r2.length;have e:(List.range xs.length).all es=(List.range its.toArray.size).all es:=by rw [Ey,l1]
   rw [e];refine .of_refs hab (.lists p1.isList p2.isList (by simp;omega) (by omega) λ j h1 h2=>?_);obtain ⟨x,hx,rx⟩:=cU r1 h1;obtain ⟨y,hy,ry⟩:=cU r2 h2;exact ih j x y hx hy A.in1 (by show A.units+1+n<cLine;omega) rx ry
 | @tup n a b xs ys es ha hb hab he ih=>
   intro A hu u v ru rv;cases ru;cases rv;obtain ⟨its,r1,p1,_⟩:=I.tuple ha;obtain ⟨its2,r2,p2,_⟩:=I.tuple hb;have l1:=r1.length;have l2:=r2.length;have e:((List.range (min xs.length ys.length)).all es&&xs.length == ys.length)=((List.range (min its.toArray.size its2.toArray.size)).all es&&its.toArray.size == its2.toArray.size):=by rw [Ey,Ey,l1,l2]
   rw [e];refine .of_refs hab (.tuples (show s.heap.IsTuple a its.toArray from p1) (show s.heap.IsTuple b its2.toArray from p2) (by omega) λ j h1 h2=>?_);obtain ⟨x,hx,rx⟩:=cU r1 h1;obtain ⟨y,hy,ry⟩:=cU r2 h2;exact ih j x y hx hy A.in1 (by show A.units+1+n<cLine;omega) rx ry
 | @nref n x a xs hx ha=>
   intro A hu u v ru rv;cases rv
   rcases ha with ha | ha
   ·obtain ⟨its,r1,p1,_⟩:=I.list ha;have hl:=p1.isList;cases x with
    | non=>cases ru;exact .none_list hl (by omega)
    | bl b=>cases ru;exact .bool_list b hl (by omega)
    | int b=>obtain ⟨t,rfl⟩:=ru;exact .int_list b t hl (by omega)
    | str b=>obtain ⟨t,rfl⟩:=ru;exact .str_list b t hl (by omega)
    | _=>simp [flatV] at hx
   ·obtain ⟨its,r1,p1,_⟩:=I.tuple ha;have hl:s.heap.IsTuple a its.toArray:=p1;cases x with
    | non=>cases ru;exact .none_tuple hl (by omega)
    | bl b=>cases ru;exact .bool_tuple b hl (by omega)
    | int b=>obtain ⟨t,rfl⟩:=ru;exact .int_tuple b t hl (by omega)
    | str b=>obtain ⟨t,rfl⟩:=ru;exact .str_tuple b t hl (by omega)
    | _=>simp [flatV] at hx
 | @refn n x a xs hx ha=>
   intro A hu u v ru rv;cases ru
   rcases ha with ha | ha
   ·obtain ⟨its,r1,p1,_⟩:=I.list ha;have hl:=p1.isList;cases x with
    | non=>cases rv;exact .list_none hl (by omega)
    | bl b=>cases rv;exact .list_bool b hl (by omega)
    | int b=>obtain ⟨t,rfl⟩:=rv;exact .list_int b t hl (by omega)
    | str b=>obtain ⟨t,rfl⟩:=rv;exact .list_str b t hl (by omega)
    | _=>simp [flatV] at hx
   ·obtain ⟨its,r1,p1,_⟩:=I.tuple ha;have hl:s.heap.IsTuple a its.toArray:=p1;cases x with
    | non=>cases rv;exact .tuple_none hl (by omega)
    | bl b=>cases rv;exact .tuple_bool b hl (by omega)
    | int b=>obtain ⟨t,rfl⟩:=rv;exact .tuple_int b t hl (by omega)
    | str b=>obtain ⟨t,rfl⟩:=rv;exact .tuple_str b t hl (by omega)
    | _=>simp [flatV] at hx
end
inductive uK (K:Frag) (H:Hp):Nat->V->V->Bool->Prop
 | len {n:Nat} {a b:Addr} {xs ys:List V} (ha:aL K H a xs) (hb:aL K H b ys) (hl:xs.length≠ys.length):uK K H (n+1) (.ref a) (.ref b) false
 | lst {n:Nat} {a b:Addr} {xs ys:List V} {es:Nat->Bool} (ha:aL K H a xs) (hb:aL K H b ys) (hl:xs.length=ys.length)
   (he:∀i x y,xs[i]? =some x->ys[i]? =some y->oA K H n x y (es i)):uK K H (n+1) (.ref a) (.ref b) ((List.range xs.length).all es)
 | tup {n:Nat} {a b:Addr} {xs ys:List V} {es:Nat->Bool} (ha:fF K H a xs) (hb:fF K H b ys)
   (he:∀i x y,xs[i]? =some x->ys[i]? =some y->oA K H n x y (es i)):uK K H (n+1) (.ref a) (.ref b) ((List.range (min xs.length ys.length)).all es&&xs.length == ys.length)
section
variable {X:Cx}
theorem x5 {n:Nat}(hu:X.A.units+n<cLine):fH X (compareOp .Eq) (λ x y H Q=> ∃k,uK X.K H n x y k/\Q (.bl k) H):=by
 intro pins s σ H x y v u Q I rx ry h;obtain ⟨k,h,q⟩:=h;cases h with
 | @len n a b xs ys ha hb hl=>
   cases rx;cases ry;obtain ⟨its,r1,p1,_⟩:=I.list ha;obtain ⟨its2,r2,p2,_⟩:=I.list hb;have l1:=r1.length;have l2:=r2.length;exact SeqAt.eq_list_lengthsAt p1.isList p2.isList (by simp;omega) (by omega) (fin_bl I q rfl)
 | @lst n a b xs ys es ha hb hl he=>
   cases rx;cases ry;obtain ⟨its,r1,p1,_⟩:=I.list ha;obtain ⟨its2,r2,p2,_⟩:=I.list hb;have l1:=r1.length;have l2:=r2.length;refine SeqAt.eq_listAt (e:=es) p1.isList p2.isList (by simp;omega) (by omega) (λ j h1 h2=>?_) (fin_bl I q (by rw [Ey,l1]));obtain ⟨x,hx,rx⟩:=cU r1 h1;obtain ⟨y,hy,ry⟩:=cU r2 h2;exact kA I (he j x y hx hy) X.A.in1 (by show X.A.units+1+n<cLine;omega) rx ry
 | @tup n a b xs ys es ha hb he=>
   cases rx;cases ry;obtain ⟨its,r1,p1,_⟩:=I.tuple ha;obtain ⟨its2,r2,p2,_⟩:=I.tuple hb;have l1:=r1.length;have l2:=r2.length;refine SeqAt.eq_tupleAt (e:=es) (show s.heap.IsTuple a its.toArray from p1) (show s.heap.IsTuple b its2.toArray from p2) (by omega) (λ j h1 h2=>?_) (fin_bl I q (by rw [Ey,Ey,l1,l2]));obtain ⟨x,hx,rx⟩:=cU r1 h1;obtain ⟨y,hy,ry⟩:=cU r2 h2;exact kA I (he j x y hx hy) X.A.in1 (by show X.A.units+1+n<cLine;omega) rx ry
theorem xY {n:Nat}(hu:X.A.units+n<cLine):fH X (compareOp .NotEq) (λ x y H Q=> ∃k,uK X.K H n x y k/\Q (.bl (!k)) H):=by
 intro pins s σ H x y v u Q I rx ry h;obtain ⟨k,h,q⟩:=h;cases h with
 | @len n a b xs ys ha hb hl=>
   cases rx;cases ry;obtain ⟨its,r1,p1,_⟩:=I.list ha;obtain ⟨its2,r2,p2,_⟩:=I.list hb;have l1:=r1.length;have l2:=r2.length;exact EqBoolInt.of_rcne (SeqAt.RcNeAt.lists_lengths p1.isList p2.isList (by simp;omega) (by omega)) (fin_bl I q rfl)
 | @lst n a b xs ys es ha hb hl he=>
   cases rx;cases ry;obtain ⟨its,r1,p1,_⟩:=I.list ha;obtain ⟨its2,r2,p2,_⟩:=I.list hb;have l1:=r1.length;have l2:=r2.length;refine EqBoolInt.of_rcne (SeqAt.RcNeAt.lists (e:=es) p1.isList p2.isList (by simp;omega) (by omega) (λ j h1 h2=>?_)) (fin_bl I q (by rw [Ey,l1]));obtain ⟨x,hx,rx⟩:=cU r1 h1;obtain ⟨y,hy,ry⟩:=cU r2 h2;exact kA I (he j x y hx hy) X.A.in1 (by show X.A.units+1+n<cLine;omega) rx ry
 | @tup n a b xs ys es ha hb he=>
   cases rx;cases ry;obtain ⟨its,r1,p1,_⟩:=I.tuple ha;obtain ⟨its2,r2,p2,_⟩:=I.tuple hb;have l1:=r1.length;have l2:=r2.length;refine EqBoolInt.of_rcne (SeqAt.RcNeAt.tuples (e:=es) (show s.heap.IsTuple a its.toArray from p1) (show s.heap.IsTuple b its2.toArray from p2) (by omega) (λ j h1 h2=>?_)) (fin_bl I q (by rw [Ey,Ey,l1,l2]));obtain ⟨x,hx,rx⟩:=cU r1 h1;obtain ⟨y,hy,ry⟩:=cU r2 h2;exact kA I (he j x y hx hy) X.A.in1 (by show X.A.units+1+n<cLine;omega) rx ry
end
def nj (op:Operator) (x y:V) (H:Hp) (Q:VK):Prop:=match op,x,y with
 | .Add,.int i,.int j=>Q (.int (i+j)) H
 | .Add,.str i,.str j=>i.length+j.length<=sizeLine/\Q (.str (i++j)) H
 | .Add,.ref a,.ref b=>xL (.ref a) (.ref b) H Q
 | .Sub,.int i,.int j=>Q (.int (i - j)) H
 | .Mult,.int i,.int j=>tj i j/\Q (.int (i*j)) H
 | .FloorDiv,.int i,.int j=>zf i j/\Q (.int (i / j)) H
 | .Mod,.int i,.int j=>0<j/\Q (.int (i % j)) H
 | .Pow,.int i,.int j=>Du i j/\Q (.int (i ^ j.toNat)) H
 | _,_,_=>False
section
variable {X:Cx}{a b c:Expr}{ta tb tc:TE}{pos:Pos}
theorem ya (op:Operator):fH X (binaryOp op) (nj op):=by
 intro pins s σ H x y v u Q I rx ry h;unfold nj at h;split at h
 ·exact yb pins s σ H _ _ v u Q I rx ry ⟨_,_,rfl,rfl,h⟩
 ·exact mH pins s σ H _ _ v u Q I rx ry ⟨_,_,rfl,rfl,h.1,h.2⟩
 ·exact x9 pins s σ H _ _ v u Q I rx ry h
 ·exact xW pins s σ H _ _ v u Q I rx ry ⟨_,_,rfl,rfl,h⟩
 ·exact xZ pins s σ H _ _ v u Q I rx ry ⟨_,_,rfl,rfl,h.1,h.2⟩
 ·exact t7 pins s σ H _ _ v u Q I rx ry ⟨_,_,rfl,rfl,h.1,h.2⟩
 ·exact x2 pins s σ H _ _ v u Q I rx ry ⟨_,_,rfl,rfl,h.1,h.2⟩
 ·exact xX pins s σ H _ _ v u Q I rx ry ⟨_,_,rfl,rfl,h.1,h.2⟩
 ·exact h.elim
def eqB:V->V->Option Bool
 | .non,.non=>some true
 | .int i,.int j=>some (decide (i=j))
 | .bl i,.bl j=>some (decide (i=j))
 | .str i,.str j=>some (decide (i=j))
 | .non,.int _=>some false | .int _,.non=>some false | .non,.bl _=>some false | .bl _,.non=>some false | .non,.str _=>some false | .str _,.non=>some false
 | .int _,.str _=>some false | .str _,.int _=>some false | .bl _,.str _=>some false | .str _,.bl _=>some false
 | _,_=>none
theorem lQ {x y:V}{k:Bool}(h:eqB x y=some k):scal x y=true/\decide (x=y)=k:=by
 cases x<;>cases y<;>simp [eqB,scal] at h ⊢ <;>first | exact h | (subst h;rfl)
def fY (K:Frag) (op:CmpOp) (x y:V) (H:Hp) (Q:VK):Prop:=match op,x,y with
 | .Eq,.ref a,.ref b=> ∃k,uK K H 20 (.ref a) (.ref b) k/\Q (.bl k) H
 | .NotEq,.ref a,.ref b=> ∃k,uK K H 20 (.ref a) (.ref b) k/\Q (.bl (!k)) H
 | .Eq,x,y=>match eqB x y with | some k=>Q (.bl k) H | none=>False
 | .NotEq,x,y=>match eqB x y with | some k=>Q (.bl (!k)) H | none=>False
 | .Lt,.int i,.int j=>Q (.bl (decide (i<j))) H
 | .LtE,.int i,.int j=>Q (.bl (decide (i<=j))) H
 | .Gt,.int i,.int j=>Q (.bl (decide (j<i))) H
 | .GtE,.int i,.int j=>Q (.bl (decide (j<=i))) H
 | .Lt,.str i,.str j=>Q (.bl (decide (i.cps.toList<j.cps.toList))) H
 | .LtE,.str i,.str j=>Q (.bl (!decide (j.cps.toList<i.cps.toList))) H
 | .In,.str i,.str j=>Q (.bl (!(Builtin.Str.occurrences j i 0 j.length 1).isEmpty)) H
 | .NotIn,.str i,.str j=>Q (.bl (!(!(Builtin.Str.occurrences j i 0 j.length 1).isEmpty))) H
 | .In,x,.ref p=>xK K false x (.ref p) H Q
 | .NotIn,x,.ref p=>xK K true x (.ref p) H Q
 | .Is,x,.non=>Q (.bl (decide (x=.non))) H
 | .IsNot,x,.non=>Q (.bl (!decide (x=.non))) H
 | _,_,_=>False
theorem j9 (op:CmpOp) (hu:X.A.units+20<cLine):fH X (compareOp op) (fY X.K op):=by
 intro pins s σ H x y v u Q I rx ry h;unfold fY at h;split at h
 ·exact x5 hu pins s σ H _ _ v u Q I rx ry h
 ·exact xY hu pins s σ H _ _ v u Q I rx ry h
 ·split at h
  ·rename_i k e;obtain ⟨h1,h2⟩:=lQ e;exact CC pins s σ H _ _ v u Q I rx ry ⟨h1,by rw [h2];exact h⟩
  ·exact h.elim
 ·split at h
  ·rename_i k e;obtain ⟨h1,h2⟩:=lQ e;exact Cv pins s σ H _ _ v u Q I rx ry ⟨h1,by rw [h2];exact h⟩
  ·exact h.elim
 ·exact Cw pins s σ H _ _ v u Q I rx ry ⟨_,_,rfl,rfl,h⟩
 ·exact Cy pins s σ H _ _ v u Q I rx ry ⟨_,_,rfl,rfl,h⟩
 ·exact Cz pins s σ H _ _ v u Q I rx ry ⟨_,_,rfl,rfl,h⟩
 ·exact CB pins s σ H _ _ v u Q I rx ry ⟨_,_,rfl,rfl,h⟩
 ·exact pr pins s σ H _ _ v u Q I rx ry ⟨_,_,rfl,rfl,h⟩
 ·exact pw pins s σ H _ _ v u Q I rx ry ⟨_,_,rfl,rfl,h⟩
 ·exact px pins s σ H _ _ v u Q I rx ry ⟨_,_,rfl,rfl,h⟩
 ·exact j7 pins s σ H _ _ v u Q I rx ry ⟨_,_,rfl,rfl,h⟩
 ·exact pz pins s σ H _ _ v u Q I rx ry h
 ·exact j8 pins s σ H _ _ v u Q I rx ry h
 ·exact x4 pins s σ H _ _ v u Q I rx ry ⟨rfl,h⟩
 ·exact t6 pins s σ H _ _ v u Q I rx ry ⟨rfl,h⟩
 ·exact h.elim
def aR (i:Nat):TE:=λ σ H Q=>match σ[i]? with | some (some v)=>Q v H | _=>False
theorem cv (i:Nat) {x:Str}{pos:Pos}(hN:X.N[i]? =some x:=by rfl) (hv:Do X.env.scope x:=by first | exact Or.inl rfl | exact Or.inr (Or.inl rfl) | exact Or.inr (Or.inr rfl)) (hd:(x == ("__debug__":Str))=false:=by decide)
  (hcd:(x == ("__classdict__":Str))=false:=by decide):PE X (.Name x pos) (aR i):=(xT hN hv hd hcd).imp λ σ H Q h=>by
 unfold aR at h;split at h
 ·rename_i v e;exact ⟨v,e,h⟩
 ·exact h.elim
def ia (op:Operator) (ta tb:TE):TE:=λ σ H Q=>ta σ H λ x H1=>tb σ H1 λ y H2=>nj op x y H2 Q
theorem ao {op:Operator}(ha:PE X a ta) (hb:PE X b tb):PE X (.BinOp a op b pos) (ia op ta tb):=xg (ya op) ha hb
def cK (K:Frag) (op:CmpOp) (ta tb:TE):TE:=λ σ H Q=>ta σ H λ x H1=>tb σ H1 λ y H2=>fY K op x y H2 Q
def fv (Q:Bool->Hp->Prop):VK:=λ x H=>match x with | .bl k=>Q k H | _=>False
theorem ee {Q:Bool->Hp->Prop}{x:V}{H:Hp}(h:fv Q x H):∃k,x=.bl k/\Q k H:=by
 unfold fv at h;split at h
 ·exact ⟨_,rfl,h⟩
 ·exact h.elim
theorem yS {op:CmpOp}(hu:X.A.units+20<cLine) (ha:PE X a ta) (hb:PE X b tb) (hm:behindInMarks op b=false:=by first | exact ko _ | with_unfolding_all rfl):PE X (.Compare a [op] [b] pos) (cK X.K op ta tb):=tY (j9 op hu) ha hb hm
def dn (t:TE):TT:=λ σ H Q=>t σ H (fv Q)
theorem yM {op:CmpOp}(hu:X.A.units+20<cLine) (ha:PE X a ta) (hb:PE X b tb) (hm:behindInMarks op b=false:=by first | exact ko _ | with_unfolding_all rfl):PT X (.Compare a [op] [b] pos) (dn (cK X.K op ta tb)):=by
 intro pins s σ H Q I h;refine wpAny_isTrue_Compare1 (bx (ha pins s σ H _ I h) λ v s1 ⟨x,H1,I1,r1,q1⟩=>bx (hb pins s1 σ H1 _ I1 q1) λ u s2 ⟨y,H2,I2,r2,q2⟩=>
  bx (j9 op hu pins s2 σ H2 x y v u _ I2 r1 r2 q2) λ c s3 ⟨z,H3,I3,r3,q3⟩=>?_) hm
 obtain ⟨k,e,q3⟩:=ee q3;subst e;cases r3;exact wpAny_truthy_bool ⟨H3,I3,q3⟩
def kG (K:Frag) (op op':CmpOp) (ta tb tc:TE):TE:=λ σ H Q=>ta σ H λ x H1=>tb σ H1 λ y H2=>fY K op x y H2 (fv λ k H3=>if k=true then tc σ H3 λ w' H4=>fY K op' y w' H4 Q else Q (.bl false) H3)
theorem sK {op op':CmpOp}(hu:X.A.units+20<cLine) (ha:PE X a ta) (hb:PE X b tb) (hc:PE X c tc) (hm:lastMarks [op,op'] [b,c]=false:=by with_unfolding_all rfl):PE X (.Compare a [op,op'] [b,c] pos) (kG X.K op op' ta tb tc):=by
 intro pins s σ H Q I h;refine Compare_chain (bx (ha pins s σ H _ I h) λ v s1 ⟨x,H1,I1,r1,q1⟩=>chain_link (bx (hb pins s1 σ H1 _ I1 q1) λ u s2 ⟨y,H2,I2,r2,q2⟩=>
  bx (j9 op hu pins s2 σ H2 x y v u _ I2 r1 r2 q2) λ d s3 ⟨z,H3,I3,r3,q3⟩=>?_)) hm
 obtain ⟨k,e,q3⟩:=ee q3;subst e;cases r3;refine wpAny_truthy_bool ?_;cases k with
 | false=>exact ite_ff ⟨.bl false,H3,I3,rfl,q3⟩
 | true=>exact ite_tt (chain_last (bx (hc pins s3 σ H3 _ I3 q3) λ w' s4 ⟨z',H4,I4,r4,q4⟩=>j9 op' hu pins s4 σ H4 y z' u w' Q I4 r2 r4 q4))
theorem aV {e:Expr}{t:TE}(h:PE X e t) (he:∀whole,isTrue e X.env whole=(do let v<-whole;standAt e.pos;holding [v] (truthy v)):=by intro _;rfl):PT X e (dn t):=by intro pins s σ H Q I hw;refine isTrue_plain (bx (h pins s σ H _ I hw) λ v s1 ⟨x,H1,I1,r1,q1⟩=>?_) (he _);obtain ⟨d,rfl,q⟩:=ee q1;cases r1;exact wpAny_truthy_bool ⟨H1,I1,q⟩
variable {rest:List Expr}
def sP (ta tb:TE):TE:=λ σ H Q=>ta σ H (fv λ c H1=>if c=true then tb σ H1 Q else Q (.bl false) H1)
def De (ta tb:TE):TE:=λ σ H Q=>ta σ H (fv λ c H1=>if c=true then Q (.bl true) H1 else tb σ H1 Q)
def xv (ta:TE):TE:=λ σ H Q=>ta σ H (fv λ c H1=>Q (.bl (!c)) H1)
theorem cW (ha:PE X a ta) (hb:PE X (.BoolOp .And (b::rest) pos) tb):PE X (.BoolOp .And (a::b::rest) pos) (sP ta tb):=by
 intro pins s σ H Q I h;refine BoolOp_and (bx (ha pins s σ H _ I h) λ v s1 ⟨x,H1,I1,r1,q1⟩=>?_);obtain ⟨c,rfl,q1⟩:=ee q1;cases r1;refine wpAny_truthy_bool ?_;cases c with
 | true=>exact hb pins s1 σ H1 Q I1 q1
 | false=>exact ⟨.bl false,H1,I1,rfl,q1⟩
theorem C7 (ha:PE X a ta) (hb:PE X (.BoolOp .Or (b::rest) pos) tb):PE X (.BoolOp .Or (a::b::rest) pos) (De ta tb):=by
 intro pins s σ H Q I h;refine BoolOp_or (bx (ha pins s σ H _ I h) λ v s1 ⟨x,H1,I1,r1,q1⟩=>?_);obtain ⟨c,rfl,q1⟩:=ee q1;cases r1;refine wpAny_truthy_bool ?_;cases c with
 | false=>exact hb pins s1 σ H1 Q I1 q1
 | true=>exact ⟨.bl true,H1,I1,rfl,q1⟩
theorem yR (ha:PE X a ta):PE X (.UnaryOp .Not a pos) (xv ta):=by intro pins s σ H Q I h;refine UnaryOp_ (bx (ha pins s σ H _ I h) λ v s1 ⟨x,H1,I1,r1,q1⟩=>?_);obtain ⟨c,rfl,q1⟩:=ee q1;cases r1;exact not_of (wpAny_truthy_bool ⟨.bl (!c),H1,I1,rfl,q1⟩)
def Df (ta:TE):TE:=λ σ H Q=>ta σ H λ x H1=>match x with | .int i=>Q (.int (-i)) H1 | _=>False
theorem sI (ha:PE X a ta):PE X (.UnaryOp .USub a pos) (Df ta):=by
 intro pins s σ H Q I h;refine UnaryOp_ (bx (ha pins s σ H _ I h) λ v s1 ⟨x,H1,I1,r1,q1⟩=>?_);cases x with
 | int i=>exact xz pins s1 σ H1 _ v Q I1 r1 ⟨i,rfl,q1⟩
 | _=>exact q1.elim
end
end L2
namespace L2
open PySem PySem.Spec PyProof.Rows
theorem aX:bootBuiltins "len"=some (.builtin "len"):=by decide+kernel
theorem yU:bootBuiltins "max"=some (.builtin "max"):=by decide+kernel
theorem iZ:bootBuiltins "all"=some (.builtin "all"):=by decide+kernel
theorem yV:bootBuiltins "any"=some (.builtin "any"):=by decide+kernel
theorem ji:bootBuiltins "isinstance"=some (.builtin "isinstance"):=by decide+kernel
theorem c7:bootBuiltins "sorted"=some (.builtin "sorted"):=by decide+kernel
theorem ni:bootBuiltins "int"=some (.type "int"):=by decide+kernel
theorem ow:bootBuiltins "bool"=some (.type "bool"):=by decide+kernel
theorem nh:bootBuiltins "str"=some (.type "str"):=by decide+kernel
theorem dC:bootBuiltins "list"=some (.type "list"):=by decide+kernel
theorem sQ:bootBuiltins "tuple"=some (.type "tuple"):=by decide+kernel
theorem gT:bootBuiltins "set"=some (.type "set"):=by decide+kernel
theorem kH:bootBuiltins "enumerate"=some (.type "enumerate"):=by decide+kernel
inductive BT | int | bool | str | list | tuple | dict
 deriving DecidableEq
def BT.s:BT->String
 | .int=>"int" | .bool=>"bool" | .str=>"str" | .list=>"list" | .tuple=>"tuple" | .dict=>"dict"
def cF:BT->BT->Bool
 | .bool,.int=>true
 | .int,.int=>true | .bool,.bool=>true | .str,.str=>true | .list,.list=>true | .tuple,.tuple=>true | .dict,.dict=>true
 | _,_=>false
theorem kit_bt (K:Frag) (a T:BT):Hk K (.type a.s) (.type T.s)=some (cF a T):=by cases a<;>cases T<;>kernel_rfl
theorem ug (K:Frag) (T:BT):Hk K (.type "NoneType") (.type T.s)=some false:=by cases T<;>kernel_rfl
def ul (T:BT) (x:V) (H:Hp) (Q:VK):Prop:=match x with
 | .non=>Q (.bl false) H
 | .bl _=>Q (.bl (cF .bool T)) H
 | .int _=>Q (.bl (cF .int T)) H
 | .str _=>Q (.bl (cF .str T)) H
 | .ref a=>match H a with
   | some (.lst _)=>Q (.bl (cF .list T)) H
   | some (.frz _ (.lst _))=>Q (.bl (cF .list T)) H
   | some (.tup _)=>Q (.bl (cF .tuple T)) H
   | some (.dK _)=>Q (.bl (cF .dict T)) H
   | _=>False
 | _=>False
section
variable {X:Cx}{a b c e o:Expr}{ta tb tc te to:TE}{p p2 pos:Pos}{es:List Expr}{t:TA}
theorem CN (T:BT) {pins:List (Addr×Obj)}{s:Shared}{σ:St}{H:Hp}{x:V}{u:Value}{Q:VK}(I:aq X pins σ H s) (rx:aH x u) (h:ul T x H Q):wpAny (model X.prog X.w) X.A (call (.builtin "isinstance") [u,.type T.s]) (EP X pins σ Q) X.xe s:=by
 have fin:∀{k:Bool} {tv:Value},gW X.K H x tv->Hk X.K tv (.type T.s)=some k->Q (.bl k) H->wpAny (model X.prog X.w) X.A (call (.builtin "isinstance") [u,.type T.s]) (EP X pins σ Q) X.xe s:=λ ty e q=>
  pI I rx ty e λ tk=>⟨.bl _,H,I.tok tk,rfl,q⟩
 unfold ul at h;cases x with
 | non=>exact fin .non (ug _ T) h
 | bl y=>exact fin (.bl y) (kit_bt _ .bool T) h
 | int y=>exact fin (.int y) (kit_bt _ .int T) h
 | str y=>exact fin (.str y) (kit_bt _ .str T) h
 | ref d=>
   dsimp only at h;split at h
   ·rename_i e;exact fin (.lst e) (kit_bt _ .list T) h
   ·rename_i e;exact fin (.frz e) (kit_bt _ .list T) h
   ·rename_i e;exact fin (.tup e) (kit_bt _ .tuple T) h
   ·rename_i e;exact fin (.dK e) (kit_bt _ .dict T) h
   ·exact h.elim
 | _=>exact h.elim
def zi (T:BT) (ta:TE):TE:=λ σ H Q=>ta σ H λ x H1=>ul T x H1 Q
theorem C9 (T:BT) {n:Str}(ha:PE X a ta) (hg:Gl X "isinstance") (hm:X.mg "isinstance"=none) (hgT:Gl X n) (hmT:X.mg n=none) (hv:bootBuiltins n=some (.type T.s)) (hn:n≠"__name__":=by decide) (hdb:(n == ("__debug__":Str))=false:=by decide)
  (he:starEach [a,.Name n p2] X.env=(false,eval a X.env)::starEach [.Name n p2] X.env:=by rfl) (he2:starEach [.Name n p2] X.env=(false,eval (.Name n p2) X.env)::starEach [] X.env:=by rfl) (hpl:(backTo pos (starEach [.Name n p2] X.env)).any (·.1)=false:=by rfl):
  PE X (.Call (.Name "isinstance" p) [a,.Name n p2] [] pos) (zi T ta):=by
 intro pins s σ H Q I h;refine wpAny_Call_Name_kw (eF I hg hm ji ?_ (by decide) (by decide));have hA:PA X [a,.Name n p2] (aC ta (aC (tC (.ty T.s)) bu)):=pa_cons ha (pa_cons (t0 hgT hmT hv rfl hn hdb) pa_nil he2) he;refine PyProof.Rows.callWith_builtin1 (bx (hA pos pins s σ H (λ vs H1=> ∃x,vs=[x,.ty T.s]/\ul T x H1 Q) I ?_) λ us s1 ⟨vs,H1,I1,r1,x,e,q1⟩=>?_) he hpl
 ·have mono:(λ (x:V) H1=>ul T x H1 Q)=λ x H1=>(aC (tC (.ty T.s)) bu) σ H1 λ xs H2=> ∃y,x::xs=[y,.ty T.s]/\ul T y H2 Q:=by
   funext x H1;apply propext
   constructor
   ·intro q;exact ⟨x,rfl,q⟩
   ·rintro ⟨y,e,q⟩;have:x=y:=by injection e
    subst this;exact q
  show ta σ H _;rw [<-mono];exact h
 ·subst e;obtain ⟨u,w',rfl,ru,rt⟩:=w9 r1;cases rt;exact CN T I1 ru q1
theorem oy.imp {r r':R2}(h:oy X r) (i:∀x y H Q,r' x y H Q->r x y H Q):oy X r':=λ va sl pins s σ H x y v u Q I rx ry q hs=>h va sl pins s σ H x y v u Q I rx ry (i x y H Q q) hs
def Eg (K:Frag) (x y:V) (H:Hp) (Q:VK):Prop:=match x,y with
 | .str z,.int i=>z.length<=sizeLine/\∃c,atI z.cps.toList i=some c/\Q (.str ⟨#[c]⟩) H
 | .ref q,.int i=> ∃xs v,(aL K H q xs\/fF K H q xs)/\atI xs i=some v/\Q v H
 | _,_=>False
theorem Ef:oy X (Eg X.K):=(yu (X:=X)).imp λ x y H Q h=>by
 unfold Eg at h;split at h
 ·obtain ⟨h1,c,h2,q⟩:=h;exact .inr (.inr ⟨_,_,c,rfl,rfl,h1,h2,q⟩)
 ·obtain ⟨xs,v,h1,h2,q⟩:=h
  rcases h1 with h1 | h1
  ·exact .inl ⟨_,xs,_,v,rfl,rfl,h1,h2,q⟩
  ·exact .inr (.inl ⟨_,xs,_,v,rfl,rfl,h1,h2,q⟩)
 ·exact h.elim
def Dg (K:Frag) (ta tb:TE):TE:=λ σ H Q=>ta σ H λ x H1=>tb σ H1 λ y H2=>Eg K x y H2 Q
theorem C8 (ha:PE X a ta) (hb:PE X b tb) (hs:kK b:=by exact λ _ _=>rfl):PE X (.Subscript a b pos) (Dg X.K ta tb):=Cu Ef ha hb hs
def cB (r:List V->Hp->VK->Prop) (t:TA):TE:=λ σ H Q=>t σ H λ vs H1=>r vs H1 Q
def ku (K:Frag) (xs:List V) (H:Hp) (Q:VK):Prop:=match xs with
 | [.str z]=>z.length<=sizeLine/\Q (.int z.length) H
 | [.ref d]=> ∃ys,(aL K H d ys\/fF K H d ys)/\Q (.int ys.length) H
 | _=>False
theorem pT:aI X (.builtin "len") (ku X.K):=((kF (X:=X)).or kE).imp λ xs H Q h=>by
 unfold ku at h;split at h
 ·exact .inr ⟨_,rfl,h.1,h.2⟩
 ·obtain ⟨ys,h1,h2⟩:=h;exact .inl ⟨_,ys,rfl,h1,h2⟩
 ·exact h.elim
def um (xs:List V) (H:Hp) (Q:VK):Prop:=match xs with
 | [.str x]=> ∃n,PySem.intText? x=some n/\x.length<=640/\Q (.int n) H
 | [.bl k]=>Q (.int (if k then 1 else 0)) H
 | _=>False
theorem pU:aI X (.type "int") um:=((jh (X:=X)).or pV).imp λ xs H Q h=>by
 unfold um at h;split at h
 ·obtain ⟨n,h1,h2,q⟩:=h;exact .inl ⟨_,n,rfl,h1,h2,q⟩
 ·exact .inr (.inr ⟨_,rfl,h⟩)
 ·exact h.elim
def y0 (K:Frag) (xs:List V) (H:Hp) (Q:VK):Prop:=match xs with
 | [.ref d]=> ∃ks:List Bool,aL K H d (ks.map V.bl)/\Q (.bl (ks.all id)) H
 | _=>False
theorem pX (hc:X.calm=true):aI X (.builtin "all") (y0 X.K):=(sN hc).imp λ xs H Q h=>by
 unfold y0 at h;split at h
 ·obtain ⟨ks,h1,q⟩:=h;exact ⟨_,ks,rfl,h1,q⟩
 ·exact h.elim
theorem Em {id:String}{x:Str}{r:List V->Hp->VK->Prop}(hc:aI X (.builtin id) r) (hv:bootBuiltins x=some (.builtin id)) (hm:X.mg x=none) (ha:PA X (e::es) t) (hg:Gl X x:=by rfl) (hn:x≠"__name__":=by decide) (hdb:(x == ("__debug__":Str))=false:=by decide)
  (he:starEach (e::es) X.env=(false,eval e X.env)::starEach es X.env:=by rfl) (hpl:(backTo pos (starEach es X.env)).any (·.1)=false:=by rfl):PE X (.Call (.Name x p) (e::es) [] pos) (cB r t):=qS hc hg hm hv ha hn hdb he hpl
theorem Da {T:String}{x:Str}{r:List V->Hp->VK->Prop}(hc:aI X (.type T) r) (hv:bootBuiltins x=some (.type T)) (hm:X.mg x=none) (ha:PA X (e::es) t) (hg:Gl X x:=by rfl) (hn:x≠"__name__":=by decide) (hdb:(x == ("__debug__":Str))=false:=by decide)
  (he:starEach (e::es) X.env=(false,eval e X.env)::starEach es X.env:=by rfl) (hpl:(backTo pos (starEach es X.env)).any (·.1)=false:=by rfl):PE X (.Call (.Name x p) (e::es) [] pos) (cB r t):=pe hc hg hm hv ha hn hdb he hpl
def Dd (r:V->List V->Hp->VK->Prop) (to:TE) (t:TA):TE:=λ σ H Q=>to σ H λ x H1=>match x with | .str z=>t σ H1 λ xs H2=>r (.str z) xs H2 Q | _=>False
theorem C6 {name:Str}{apos cpos:Pos}{id:String}{r:V->List V->Hp->VK->Prop}(slot:Slot "str" name id) (hty:typeOf (.builtin id)=pure (.type "method_descriptor")) (hm:qb X id r) (ho:PE X o to) (ha:PA X (e::es) t)
  (hbase:attributeBase o name X.env (eval o X.env)=eval o X.env:=by rfl)
  (hfew:((backTo cpos (starEach (e::es) X.env)).all (λ x=> !x.1)&&(backToKw cpos (keywordEach [] X.env)).all (λ x=>x.1.isSome)
   &&decide ((e::es).length+([]:List Keyword).length+(if ([]:List Keyword).isEmpty then 0 else 1)<30))=true:=by rfl)
  (hline:(apos.endLine == cpos.line)=true:=by rfl) (hs:starEach (e::es) X.env=(false,eval e X.env)::starEach es X.env:=by rfl) (hplain:(backTo cpos (starEach es X.env)).any (·.1)=false:=by rfl):
  PE X (.Call (.Attribute o name apos) (e::es) [] cpos) (Dd r to t):=by
 intro pins s σ H Q I h;refine wpAny_Call_method_late hbase hfew hline rfl (bx (ho pins s σ H _ I h) λ v s1 ⟨x,H1,I1,r1,q1⟩=>?_);cases x with
 | str z=>
   have ty:xA X.K "str" (.str z) H1:=rfl;obtain ⟨h1,h2⟩:=gD I1 r1 ty;refine ⟨"str",id,PySem.F.plainAttrs_str,slot,hty,h1,h2,?_⟩;have hA:=ha cpos pins s1 σ H1 _ I1 q1;rw [hs] at hA ⊢;refine Calls.callWith_builtin (by show (false||(backTo cpos (starEach es X.env)).any (·.1))=false;rw [hplain]<;>rfl) (Calls.evalArgs_plain ?_)
   exact bx hA λ us s2 ⟨vs,H2,I2,r2,q2⟩=>hm pins s2 σ H2 _ vs v us Q I2 r1 r2 q2
 | _=>exact q1.elim
def Dc (r:V->List V->Hp->VK->Prop) (to:TE):TE:=λ σ H Q=>to σ H λ x H1=>match x with | .str z=>r (.str z) [] H1 Q | _=>False
theorem yQ {name:Str}{apos cpos:Pos}{id:String}{r:V->List V->Hp->VK->Prop}(slot:Slot "str" name id) (hty:typeOf (.builtin id)=pure (.type "method_descriptor")) (hm:qb X id r) (ho:PE X o to)
  (hbase:attributeBase o name X.env (eval o X.env)=eval o X.env:=by rfl) (hline:(apos.endLine == cpos.line)=true:=by rfl):PE X (.Call (.Attribute o name apos) [] [] cpos) (Dc r to):=by
 intro pins s σ H Q I h;refine wpAny_Call_method0_late hbase hline (bx (ho pins s σ H _ I h) λ v s1 ⟨x,H1,I1,r1,q1⟩=>?_);cases x with
 | str z=>
   have ty:xA X.K "str" (.str z) H1:=rfl;obtain ⟨h1,h2⟩:=gD I1 r1 ty;exact ⟨"str",id,PySem.F.plainAttrs_str,slot,hty,h1,h2,Calls.callWith_builtin rfl (PySem.evalArgs_none (hm pins s1 σ H1 _ [] v [] Q I1 r1 .nil q1))⟩
 | _=>exact q1.elim
def fQ (K:Frag) (x:V) (vs:List V) (H:Hp) (Q:VK):Prop:=match x,vs with
 | .str sep,[.ref d]=> ∃ys:List Str,aL K H d (ys.map V.str)/\(ys.map (·.length)).sum+ys.length*sep.length<=16777216/\Q (.str (Txt.join sep ys)) H
 | _,_=>False
theorem qX:qb X "str.join" (fQ X.K):=(ud (X:=X)).imp λ x vs H Q h=>by
 unfold fQ at h;split at h
 ·obtain ⟨ys,h1,h2,q⟩:=h;exact ⟨_,_,ys,rfl,rfl,h1,h2,q⟩
 ·exact h.elim
def B9 (x:V) (vs:List V) (H:Hp) (Q:VK):Prop:=match x,vs with
 | .str a,[]=>a.length<=sizeLine/\(∀c∈a.cps.toList,c<128)/\Q (.str ⟨a.cps.map up1⟩) H
 | _,_=>False
theorem yg:qb X "str.upper" B9:=(qW (X:=X)).imp λ x vs H Q h=>by
 unfold B9 at h;split at h
 ·exact ⟨_,rfl,rfl,h.1,h.2.1,h.2.2⟩
 ·exact h.elim
def uE (to te:TE):TE:=λ σ H Q=>to σ H λ x H1=>match x with
 | .ref l=>(∃xs,H1 l=some (.lst xs))/\te σ H1 λ y H2=> ∃xs,H2 l=some (.lst xs)/\xs.length<sizeLine/\Q .non (upd H2 l (.lst (xs++[y])))
 | _=>False
theorem sM {apos cpos:Pos}(ho:PE X o to) (he:PE X e te) (hbase:attributeBase o "append" X.env (eval o X.env)=eval o X.env:=by rfl)
  (hfew:((backTo cpos (starEach [e] X.env)).all (λ x=> !x.1)&&(backToKw cpos (keywordEach [] X.env)).all (λ x=>x.1.isSome)
   &&decide ([e].length+([]:List Keyword).length+(if ([]:List Keyword).isEmpty then 0 else 1)<30))=true:=by rfl)
  (hline:(apos.endLine == cpos.line)=true:=by rfl) (hs:starEach [e] X.env=(false,eval e X.env)::starEach [] X.env:=by rfl) (hplain:(backTo cpos (starEach [] X.env)).any (·.1)=false:=by rfl):
  PE X (.Call (.Attribute o "append" apos) [e] [] cpos) (uE to te):=by
 intro pins s σ H Q I h;refine wpAny_Call_method_late hbase hfew hline rfl (bx (ho pins s σ H _ I h) λ v s1 ⟨x,H1,I1,r1,q1⟩=>?_);cases x with
 | ref l=>
   obtain ⟨⟨xs0,e0⟩,q1⟩:=q1;have ty:xA X.K "list" (.ref l) H1:=.inl ⟨rfl,xs0,aL.of e0⟩;obtain ⟨h1,h2⟩:=gD I1 r1 ty;refine ⟨"list","list.append",PySem.F.plainAttrs_list,PySem.F.slot_list_append,PySem.F.type_list_append,h1,h2,?_⟩;have hA:=(pa_cons he pa_nil hs:PA X [e] (aC te bu)) cpos pins s1 σ H1 (λ vs H2=> ∃y,vs=[y]/\∃xs,H2 l=some (.lst xs)/\xs.length<sizeLine/\Q .non (upd H2 l (.lst (xs++[y])))) I1 (by
    show te σ H1 λ y H2=> ∃y',[y]=[y']/\_;have:(λ (y:V) (H2:Hp)=> ∃xs,H2 l=some (.lst xs)/\xs.length<sizeLine/\Q .non (upd H2 l (.lst (xs++[y]))))=λ y H2=> ∃y',[y]=[y']/\∃xs,H2 l=some (.lst xs)/\xs.length<sizeLine/\Q .non (upd H2 l (.lst (xs++[y']))):=by
     funext y H2;apply propext
     constructor
     ·intro z;exact ⟨y,rfl,z⟩
     ·rintro ⟨y',e,z⟩;have:y=y':=by injection e
      subst this;exact z
    rw [<-this];exact q1)
   rw [hs] at hA ⊢;refine Calls.callWith_builtin (by show (false||(backTo cpos (starEach [] X.env)).any (·.1))=false;rw [hplain]<;>rfl) (Calls.evalArgs_plain ?_)
   exact bx hA λ us s2 ⟨vs,H2,I2,r2,y,e,xs,q3,q4,q5⟩=>pD pins s2 σ H2 _ vs v us Q I2 r1 r2 ⟨l,xs,y,rfl,e,q3,q4,q5⟩
 | _=>exact q1.elim
structure eW (P:Program) (w:World) (K:Frag) (mg:Str->Option Value) (base:Heap) (name:Str) (ps:List Str) (k:Nat) (sp:Sp):Prop where
 ex:∃f fd,bi P w K mg base dv k f fd ps sp/\mg name=some (.ref f)/\Ha K (.ref f)=true/\eQ K fd ps []
def iY (sp:Sp) (t:TA):TE:=λ σ H Q=>t σ H λ vs H1=>sp vs H1 Q E0
theorem uC {name:Str}{ps:List Str}{k j:Nat}{sp:Sp}(C:eW X.prog X.w X.K X.mg X.base name ps k sp) (hr:bQ j X.A) (hkj:k<=j) (ha:PA X (e::es) t) (hg:Gl X name:=by rfl) (hdb:(name == ("__debug__":Str))=false:=by decide)
  (he:starEach (e::es) X.env=(false,eval e X.env)::starEach es X.env:=by rfl) (hpl:(backTo pos (starEach es X.env)).any (·.1)=false:=by rfl):PE X (.Call (.Name name p) (e::es) [] pos) (iY sp t):=by
 obtain ⟨f,fd,F,hm,hk,hb⟩:=C.ex;refine (tZ F (hr.mono hkj) hg hm hk hb .nil n4 ha hdb he hpl:PE X _ (qo sp [] E0 t)).imp λ σ H Q h=>?_;unfold qo;simp only [ET];exact h
end
end L2
namespace PySem
namespace F
end F
end PySem
namespace L2
open PySem PySem.Spec PyProof.Rows
section
variable {prog:Program}{w:World}{A:Around}{E:Value->Shared->Prop}{s:Shared}
end
section
variable {X:Cx}{o e:Expr}{to te:TE}
end
end L2
namespace L2
open PySem PySem.Spec PyProof.Rows
def DD (x:Str):It:=⟨λ i _=>i<x.length,λ i H v H'=>H'=H/\∃c,x.cps.toList[i]? =some c/\v=.str ⟨#[c]⟩,λ i _=>x.length<=i⟩
def jn (ty:String):Prop:=ty="str_ascii_iterator"\/ty="str_iterator"
theorem ql {P:Program}{w:World}{K:Frag}{tg:Expr}(it:Addr) {ty:String}(hty:jn ty) (x:Str) (t:Tok):pZ P w K tg (DD x) [it] it (λ i h=>h.IsStrIter it ty x t i) where
 mem:=by simp
 obj:=λ i h st b hb=>by
  have e:b=it:=by simpa using hb
  subst e;obtain ⟨o,e,c,d⟩:=st;exact ⟨o,e,λ v z=>by rw [d] at z;cases z⟩
 keep:=λ i h h' st k=>by obtain ⟨o,e,r⟩:=st;exact ⟨o,k it (by simp) o e,r⟩
 item:=by
  intro X hP hw hK hc i pins s σ H E I hf st hg;subst hP hw hK;obtain ⟨f0,f1,f2,f3,f4,f5⟩:=hf it (by simp);have hi:i<x.cps.size:=hg;have hx:x.cps[i]? =some x.cps[i]:=GK hi;have hx':x.cps.toList[i]? =some x.cps[i]:=by simpa using hx
  have go:∀(h':Heap) (tk:Nat),h'.IsStrIter it ty x t (i+1)->Heap.SameBut it s.heap h'->∀u,(∃tt,u=Value.str ⟨#[x.cps[i]]⟩ tt)->wpAny (model X.prog X.w) X.A (letOwnedTupleGo tg (.ref it) u) (λ _ s2=> ∃x_1 H',aq X pins σ H' s2/\aH x_1 u/\(DD x).yld i H x_1 H'/\s2.heap.IsStrIter it ty x t (i+1)/\∀b∈[it],H' b=none) E {s with heap:=h',toks:=tk}:=by
   intro h' tk st' sb u hu;have I1:aq X pins σ H {s with heap:=h',toks:=tk}:=I.turned (t':=tk) (λ b o hb e=>(sb.2 b hb).trans e) f0 f1 f3 f4 f5;obtain ⟨o,e,c,d⟩:=id st';refine rK (s:={s with heap:=h',toks:=tk}) e c d (by rcases hty with z | z<;>(rw [z];decide)) ?_
   obtain ⟨tt,rfl⟩:=hu;exact ⟨.str ⟨#[x.cps[i]]⟩,H,I1,⟨tt,rfl⟩,⟨rfl,_,hx',rfl⟩,st',λ b hb=>(hf b hb).1⟩
  rcases hty with rfl | rfl
  ·exact wpAny_pyNext_ascii_item st hx λ h' st' sb=>⟨_,rfl,go h' _ st' sb _ ⟨_,rfl⟩⟩
  ·exact wpAny_pyNext_wide_item st hx λ h' st' sb=>⟨_,rfl,go h' _ st' sb _ ⟨_,rfl⟩⟩
 done:=by
   intro X hP hw hK hc i pins s σ H E I hf st hg;subst hP hw hK;obtain ⟨f0,f1,f2,f3,f4,f5⟩:=hf it (by simp);have hi:x.cps.size<=i:=hg;have hx:x.cps[i]? =none:=GL hi
   rcases hty with rfl | rfl
   ·exact wpAny_pyNext_ascii_end (I.ok.hd hc) st hx λ h' eb=>⟨rfl,I.turned (t':=s.toks) (λ b o hb e=>eb b o hb e) f0 f1 f3 f4 f5⟩
   ·exact wpAny_pyNext_wide_end (I.ok.hd hc) st hx λ h' eb=>⟨rfl,I.turned (t':=s.toks) (λ b o hb e=>eb b o hb e) f0 f1 f3 f4 f5⟩
 self:=λ _ _ _ _ _ st h=>by
  rcases hty with rfl | rfl
  ·exact wpAny_pyIter_striter_ascii st h
  ·exact wpAny_pyIter_striter_wide st h
section
variable {X:Cx}{tg:Expr}
def yv (tl:TE):TI:=λ σ H R=>tl σ H λ v H1=>match v with | .str x=>R (DD x) H1 | _=>False
theorem mF {l:Expr}{tl:TE}(hl:PE X l tl):PI X tg l (yv tl):=by
 intro pins s σ H R I h;refine bx (hl pins s σ H _ I h) λ v s1 ⟨x,H1,I1,r1,q1⟩=>?_;cases x with
 | str z=>
   obtain ⟨t,rfl⟩:=r1;refine wpAny_pyIter_strU ?_;have hty:jn (strIterType z):=by
    unfold strIterType;split
    ·exact .inl rfl
    ·exact .inr rfl
   refine ⟨s1.heap.objs.size,[s1.heap.objs.size],_,_,H1,rfl,I1.kept (t':=s1.toks) λ b o e=>Heap.get?_push_of_some _ e,ql _ hty z t,⟨_,Heap.get?_push_size _ rfl,rfl,rfl⟩,λ b hb=>?_,q1⟩;have e:b=s1.heap.objs.size:=by simpa using hb
   subst e;exact I1.fpOk (Gc _) (I1.hok.fresh (Gc _))
 | _=>exact q1.elim
end
end L2
namespace L2
open PySem PySem.Spec PyProof.Rows
section
variable {X:Cx}
theorem qR {x:Str}{v:V}{pos:Pos}(hg:Gl X x) (h:∃u,X.mg x=some u/\aH v u) (hd:(x == ("__debug__":Str))=false:=by decide):PE X (.Name x pos) (tC v):=by obtain ⟨u,hm,r⟩:=h;exact tW hg hm r hd
end
theorem cD {A:Around}{k:Nat}(hr:bQ k A):A.units+20<cLine:=by have:=hr.units;omega
theorem ak.upd {H H':Hp}{d:Addr}{o:HO}(h:ak H H') (hd:H' d=none):ak H (upd H' d o):=λ b ob e=>by have e':=h b ob e;rw [ah (ag e' hd)];exact e'
theorem ak.get {H H':Hp}(h:ak H H') {b:Addr}{o:HO}(e:H b=some o):H' b=some o:=h b o e
end L2
namespace L2
open PySem PySem.Spec PyProof.Rows
section
variable {X:Cx}{a b c e o:Expr}{ta tb tc te to:TE}{p p2 pos:Pos}{es:List Expr}{t:TA}
theorem fW (K:Frag) {op:CmpOp}(hu:X.A.units+20<cLine) (ha:PE X a ta) (hb:PE X b tb) (hm:behindInMarks op b=false:=by first | exact ko _ | with_unfolding_all rfl) (hK:X.K=K:=by rfl):PE X (.Compare a [op] [b] pos) (cK K op ta tb):=by subst hK;exact yS hu ha hb hm
theorem cC (K:Frag) {op:CmpOp}(hu:X.A.units+20<cLine) (ha:PE X a ta) (hb:PE X b tb) (hm:behindInMarks op b=false:=by first | exact ko _ | with_unfolding_all rfl) (hK:X.K=K:=by rfl):PT X (.Compare a [op] [b] pos) (dn (cK K op ta tb)):=by subst hK;exact yM hu ha hb hm
theorem mV (K:Frag) {op op':CmpOp}(hu:X.A.units+20<cLine) (ha:PE X a ta) (hb:PE X b tb) (hc:PE X c tc) (hm:lastMarks [op,op'] [b,c]=false:=by with_unfolding_all rfl) (hK:X.K=K:=by rfl):PE X (.Compare a [op,op'] [b,c] pos) (kG K op op' ta tb tc):=by subst hK;exact sK hu ha hb hc hm
theorem kx (K:Frag) (ha:PE X a ta) (hb:PE X b tb) (hs:kK b:=by exact λ _ _=>rfl) (hK:X.K=K:=by rfl):PE X (.Subscript a b pos) (Dg K ta tb):=by subst hK;exact C8 ha hb hs
theorem du (K:Frag) (hK:X.K=K:=by rfl):aI X (.builtin "len") (ku K):=by subst hK;exact pT
theorem ro (K:Frag) (hc:X.calm=true:=by rfl) (hK:X.K=K:=by rfl):aI X (.builtin "all") (y0 K):=by subst hK;exact pX hc
theorem rm (K:Frag) (hK:X.K=K:=by rfl):qb X "str.join" (fQ K):=by subst hK;exact qX
theorem qd (K:Frag) {tg l:Expr}{tl:TE}(hl:PE X l tl) (hK:X.K=K:=by rfl):PI X tg l (fj K tl):=by subst hK;exact tR hl
theorem kgt (K:Frag) {n:Nat}{k:Nat}{t:xw}(h:zm X es t) (hc:X.calm=true:=by rfl) (hn:(assignEach es X.env).length=n:=by rfl) (hst:List.findIdx? (λ x=>x.1) (assignEach es X.env)=none:=by rfl) (hK:X.K=K:=by rfl):PG X (.Tuple es k pos) (ut K n t):=by subst hK;exact xQ hc h hn hst
theorem kg {x:Str}{v:V}(h:∃u,X.mg x=some u/\aH v u) (hg:Gl X x:=by rfl) (hd:(x == ("__debug__":Str))=false:=by decide):PE X (.Name x pos) (tC v):=qR hg h hd
theorem rn (T:BT) {n:Str}(hm:X.mg "isinstance"=none) (hmT:X.mg n=none) (hv:bootBuiltins n=some (.type T.s)) (ha:PE X a ta) (hg:Gl X "isinstance":=by rfl) (hgT:Gl X n:=by rfl) (hn:n≠"__name__":=by decide) (hdb:(n == ("__debug__":Str))=false:=by decide)
  (he:starEach [a,.Name n p2] X.env=(false,eval a X.env)::starEach [.Name n p2] X.env:=by rfl) (he2:starEach [.Name n p2] X.env=(false,eval (.Name n p2) X.env)::starEach [] X.env:=by rfl) (hpl:(backTo pos (starEach [.Name n p2] X.env)).any (·.1)=false:=by rfl):
  PE X (.Call (.Name "isinstance" p) [a,.Name n p2] [] pos) (zi T ta):=C9 T ha hg hm hgT hmT hv hn hdb he he2 hpl
theorem uf {tg:Expr}{ta:TA}(hm:X.mg "range"=none) (ha:PA X [a] ta) (hg:Gl X "range":=by rfl) (hs:starEach [a] X.env=[(false,eval a X.env)]:=by rfl):PI X tg (.Call (.Name "range" p) [a] [] pos) (n9 ta):=pc hg hm ha hs
theorem kr2 {tg:Expr}{ta:TA}(hm:X.mg "range"=none) (ha:PA X [a,b] ta) (hg:Gl X "range":=by rfl) (hs:starEach [a,b] X.env=[(false,eval a X.env),(false,eval b X.env)]:=by rfl) (hs2:starEach [b] X.env=[(false,eval b X.env)]:=by rfl):PI X tg (.Call (.Name "range" p) [a,b] [] pos) (rE ta):=pb hg hm ha hs hs2
theorem cg {N:List Str}{src:List (Option Nat)}{scope:Scope}(dsc:Scope) (XN:List Str) (h:m3 dsc XN N src scope=true:=by decide+kernel) (he:X.env.scope=dsc:=by rfl) (hN:X.N=XN:=by rfl):bn X N src scope:=bn.of he hN h
theorem ba {i:Nat}{x:Str}(N:List Str) (hN:N.Nodup:=by decide+kernel) (hi:X.N[i]? =some x:=by rfl) (hx:xx X.env.scope x:=by first | exact Or.inl rfl | exact Or.inr rfl) (hf:X.fn x=true\/X.env.scope.names.lookup x=some .local:=by first | exact .inl rfl | exact .inr rfl) (hNX:X.N=N:=by rfl):PG X (.Name x pos) (bN i):=
 bS (hNX▸hN) hi hx hf
theorem dz {N:List Str}{src:List (Option Nat)}{scope:Scope}{tg iter:Expr}{ifs:List Expr}{wi:TI}{g:TG}{tt:TT}(S:bn X N src scope) (hi:PI X tg iter wi) (hg:∀s H ex,PG (cxC X scope N s H ex) tg g) (ht:∀s H ex,jk (cxC X scope N s H ex) ifs tt) (he:∀s H ex,PE (cxC X scope N s H ex) e te)
  (hc:X.calm=true:=by rfl) (hs:∀x,foldedSetIterable iter X.env x=pure x:=by intro _;rfl):PE X (.ListComp e [⟨tg,iter,ifs,0⟩] scope pos) (tComp wi g tt te src):=tX hc S hi hg ht he hs
end
end L2
namespace L2
open PySem PySem.Spec PyProof.Rows
theorem o7 {K:Frag}{i j:Int}{H:Hp}{Q:VK}:(fY K .LtE (.int i) (.int j) H Q)=(Q (.bl (decide (i<=j))) H):=rfl
theorem o4 {K:Frag}{i j:Str}{H:Hp}{Q:VK}:(fY K .LtE (.str i) (.str j) H Q)=(Q (.bl (!decide (j.cps.toList<i.cps.toList))) H):=rfl
theorem j3 {K:Frag}{i:Int}{d:Addr}{H:Hp}{Q:VK}:(fY K .In (.int i) (.ref d) H Q)=(xK K false (.int i) (.ref d) H Q):=rfl
theorem hJ {K:Frag}{i:Int}{d:Addr}{H:Hp}{Q:VK}:(fY K .NotIn (.int i) (.ref d) H Q)=(xK K true (.int i) (.ref d) H Q):=rfl
theorem j0 {K:Frag}{i:Str}{d:Addr}{H:Hp}{Q:VK}:(fY K .In (.str i) (.ref d) H Q)=(xK K false (.str i) (.ref d) H Q):=rfl
theorem xJ {a b:Addr}{H:Hp}{Q:VK}:(nj .Add (.ref a) (.ref b) H Q)=(xL (.ref a) (.ref b) H Q):=rfl
theorem qI {K:Frag}{a:Str}{d:Addr}{H:Hp}{Q:VK}:(fQ K (.str a) [.ref d] H Q)=(∃ys:List Str,aL K H d (ys.map V.str)/\(ys.map (·.length)).sum+ys.length*a.length<=16777216/\Q (.str (Txt.join a ys)) H):=rfl
theorem D8 {a:Str}{H:Hp}{Q:VK}:(B9 (.str a) [] H Q)=(a.length<=sizeLine/\(∀c∈a.cps.toList,c<128)/\Q (.str ⟨a.cps.map up1⟩) H):=rfl
theorem r_b {k:Bool}{Q:Bool->Hp->Prop}{H:Hp}:fv Q (.bl k) H=Q k H:=rfl
end L2
namespace L2
open PySem PySem.Spec PyProof.Rows
def dH:Expr->Bool
 | .Starred _ _=>false
 | _=>true
theorem c6 {e:Expr}{es:List Expr}{env:Env}(h:dH e=true):starEach (e::es) env=(false,eval e env)::starEach es env:=by
 cases e<;>first | rfl | cases h
theorem eK {pos:Pos}{env:Env}:∀{es:List Expr},es.all dH=true->(backTo pos (starEach es env)).any (·.1)=false
 | [],_=>rfl
 | e::es,h=>by
   rw [EO,GB] at h;rw [c6 h.1];show (false||(backTo pos (starEach es env)).any (·.1))=false
   rw [eK h.2];rfl
theorem sV {pos:Pos}{env:Env}:∀{es:List Expr},es.all dH=true->(backTo pos (starEach es env)).all (λ x=> !x.1)=true
 | [],_=>rfl
 | e::es,h=>by rw [EO,GB] at h;rw [c6 h.1];show (!false&&(backTo pos (starEach es env)).all (λ x=> !x.1))=true;rw [sV h.2];rfl
section
variable {X:Cx}{a b c e o:Expr}{ta tb tc te to:TE}{p p2 pos:Pos}{es:List Expr}{t:TA}
theorem aw (ha:PE X e te) (hr:PA X es t) (h:dH e=true:=by rfl):PA X (e::es) (aC te t):=pa_cons ha hr (c6 h)
theorem aJ {name:Str}{ps:List Str}{k j:Nat}{sp:Sp}(C:eW X.prog X.w X.K X.mg X.base name ps k sp) (hr:bQ j X.A) (ha:PA X (e::es) t) (hkj:k<=j:=by decide) (hp:(e::es).all dH=true:=by rfl) (hg:Gl X name:=by rfl) (hdb:(name == ("__debug__":Str))=false:=by decide):PE X (.Call (.Name name p) (e::es) [] pos) (iY sp t):=by have hp':=hp;rw [EO,GB] at hp';exact uC C hr hkj ha hg hdb (c6 hp'.1) (eK hp'.2)
theorem kB {id:String}{x:Str}{r:List V->Hp->VK->Prop}(hc:aI X (.builtin id) r) (hv:bootBuiltins x=some (.builtin id)) (hm:X.mg x=none) (ha:PA X (e::es) t) (hp:(e::es).all dH=true:=by rfl) (hg:Gl X x:=by rfl) (hn:x≠"__name__":=by decide) (hdb:(x == ("__debug__":Str))=false:=by decide):PE X (.Call (.Name x p) (e::es) [] pos) (cB r t):=by have hp':=hp;rw [EO,GB] at hp';exact Em hc hv hm ha hg hn hdb (c6 hp'.1) (eK hp'.2)
theorem rp {T:String}{x:Str}{r:List V->Hp->VK->Prop}(hc:aI X (.type T) r) (hv:bootBuiltins x=some (.type T)) (hm:X.mg x=none) (ha:PA X (e::es) t) (hp:(e::es).all dH=true:=by rfl) (hg:Gl X x:=by rfl) (hn:x≠"__name__":=by decide) (hdb:(x == ("__debug__":Str))=false:=by decide):PE X (.Call (.Name x p) (e::es) [] pos) (cB r t):=by have hp':=hp;rw [EO,GB] at hp';exact Da hc hv hm ha hg hn hdb (c6 hp'.1) (eK hp'.2)
theorem Dy {name:Str}{apos cpos:Pos}{id:String}{r:V->List V->Hp->VK->Prop}(slot:Slot "str" name id) (hty:typeOf (.builtin id)=pure (.type "method_descriptor")) (hm:qb X id r) (ho:PE X o to) (ha:PA X (e::es) t) (hp:(e::es).all dH=true:=by rfl) (hl:(e::es).length<20:=by decide)
  (hbase:attributeBase o name X.env (eval o X.env)=eval o X.env:=by rfl) (hline:(apos.endLine == cpos.line)=true:=by rfl):PE X (.Call (.Attribute o name apos) (e::es) [] cpos) (Dd r to t):=by
 have hp':=hp;rw [EO,GB] at hp';refine C6 slot hty hm ho ha hbase ?_ hline (c6 hp'.1) (eK hp'.2);rw [sV hp];show (true&&true&&decide ((e::es).length+0+0<30))=true;rw [decide_eq_true (by omega)];rfl
end
end L2
namespace L2
open PySem
theorem b0 {t u:TS}{D:bZ}{σ:St}{H:Hp}(P:St->Hp->Prop) (h:∀K:St->Hp->Prop,(∀σ' H',P σ' H'->K σ' H')->t {D with nx:=K} σ H) (h2:∀σ' H',P σ' H'->u D σ' H'):bV t u D σ H:=h (u D) h2
theorem ca {te:TE}{i:Nat}{u:TS}{D:bZ}{σ:St}{H:Hp}(P:V->Hp->Prop) (h:∀Q:VK,(∀v H',P v H'->Q v H')->te σ H Q) (h2:∀v H',P v H'->u D (σ.set i (some v)) H'):bV (oN te (bN i)) u D σ H:=h _ h2
theorem c9 {c:TT}{t u:TS}{D:bZ}{σ:St}{H:Hp}(P:Bool->Hp->Prop) (hc:∀Q:Bool->Hp->Prop,(∀b H',P b H'->Q b H')->c σ H Q) (h1:∀H',P true H'->t {D with nx:=u D} σ H') (h2:∀H',P false H'->u D σ H'):bV (tF c t nB) u D σ H:=by
 refine hc _ λ b H' p=>?_;cases b with
 | true=>exact hU (h1 H' p)
 | false=>exact hV (h2 H' p)
end L2
namespace L2
open PySem
def fE:List Expr->Option (List V)
 | []=>some []
 | .Constant (.int i) _ _::r=>(fE r).map (V.int i:: ·)
 | .Constant (.str x) _ _::r=>(fE r).map (V.str x:: ·)
 | .Constant (.bool b) _ _::r=>(fE r).map (V.bl b:: ·)
 | .Constant .none _ _::r=>(fE r).map (V.non:: ·)
 | _=>none
def cCs (vs:List V):TA:=λ _ H Q=>Q vs H
theorem pp {X:Cx}:∀{es:List Expr}{vs:List V},fE es=some vs->PA X es (cCs vs):=by
 intro es
 induction es with
 | nil=>intro vs h;cases h;exact pa_nil
 | cons e r ih=>
   intro vs h;unfold fE at h;split at h
   ·rename_i e1;cases e1
   ·rename_i e1;cases e1;obtain ⟨ws,h1,h2⟩:=GU.mp h;subst h2;exact aw al (ih h1)
   ·rename_i e1;cases e1;obtain ⟨ws,h1,h2⟩:=GU.mp h;subst h2;exact aw cA (ih h1)
   ·rename_i e1;cases e1;obtain ⟨ws,h1,h2⟩:=GU.mp h;subst h2;exact aw cZ (ih h1)
   ·rename_i e1;cases e1;obtain ⟨ws,h1,h2⟩:=GU.mp h;subst h2;exact aw xV (ih h1)
   ·cases h
end L2
namespace L2
open PySem
theorem gr {g:TG}{tt:TT}{te:TE}{src:List (Option Nat)}{σ:St}{Q:VK}{J:It}{H1:Hp}(n:Nat) (N:Nat->List V->St->Hp->Prop) (hn:n<=sizeLine) (hlen:∀i ys σ H,N i ys σ H->ys.length<=i)
  (hgo:∀i ys σ H,N i ys σ H->i<n->J.go i H) (hstop:∀ys σ H,N n ys σ H->J.stop n H) (h0:N 0 [] (cY src σ) H1)
  (hturn:∀i ys σ' H' x H2,i<n->N i ys σ' H'->J.yld i H' x H2->∀(Kt:V->St->Hp->Prop) (Kf:St->Hp->Prop),(∀v σ3 H5,N (i+1) (ys++[v]) σ3 H5->Kt v σ3 H5)->(∀σ3 H4,N (i+1) ys σ3 H4->Kf σ3 H4)->
   g x σ' H2 λ σ3 H3=>tt σ3 H3 λ b H4=>if b=true then te σ3 H4 λ v H5=>Kt v σ3 H5 else Kf σ3 H4)
  (hQ:∀ys σ' H' d,N n ys σ' H'->H' d=none->Q (.ref d) (upd H' d (.lst ys))):dZ g tt te src σ Q J H1:=by
 refine ⟨λ i m ys σ' H'=>m=n - i/\i<=n/\N i ys σ' H',⟨n,by simp,Gd _,h0⟩,?_⟩;rintro i m ys σ' H' ⟨rfl,hi,hN⟩
 by_cases hlt:i<n
 ·refine .inr ⟨hgo i ys σ' H' hN hlt,?_,λ x H2 y=>?_⟩
  ·have:=hlen i ys σ' H' hN;omega
  ·exact hturn i ys σ' H' x H2 hlt hN y _ _ (λ v σ3 H5 h=>⟨n - (i+1),by omega,rfl,hlt,h⟩) (λ σ3 H4 h=>⟨n - (i+1),by omega,rfl,hlt,h⟩)
 ·have e:i=n:=by omega
  subst e;exact .inl ⟨hstop ys σ' H' hN,λ d hd=>hQ ys σ' H' d hN hd⟩
end L2
namespace L2
open PySem
theorem dY {ta:TA}{g:TG}{tb:TS}{D:bZ}{σ:St}{H:Hp}(n:Int) (hta:∀Q:List V->Hp->Prop,Q [.int n] H->ta σ H Q) (h0: -(2 ^ 62)<=n) (h1:n<2 ^ 62) (Pv:Nat->St->Hp->Prop) (hp0:Pv 0 σ H)
  (hs:∀i σ H,i<n.toNat->Pv i σ H->g (.int (0+i)) σ H λ σ2 H2=>tb {D with nx:=Pv (i+1),ct:=Pv (i+1),bk:=D.nx} σ2 H2) (hd:∀σ H,Pv n.toNat σ H->D.nx σ H):tFor (n9 ta) g tb D σ H:=
 hta _ ⟨n,rfl,h0,h1,jz Pv hp0 hs hd⟩
theorem lO {K:Frag}{tl:TE}{g:TG}{tb:TS}{D:bZ}{σ:St}{H:Hp}(P:V->Hp->Prop) (htl:∀Q:VK,(∀v H',P v H'->Q v H')->tl σ H Q)
  (h:∀v H',P v H'->∃d xs,v=.ref d/\aL K H' d xs/\∃Pv:Nat->St->Hp->Prop,Pv 0 σ H'/\(∀i σ H,i<=xs.length->Pv i σ H->aL K H d xs)/\
   (∀(i:Nat) x σ H,xs[i]? =some x->Pv i σ H->g x σ H λ σ2 H2=>tb {D with nx:=Pv (i+1),ct:=Pv (i+1),bk:=D.nx} σ2 H2)/\(∀σ H,Pv xs.length σ H->D.nx σ H)):tFor (fj K tl) g tb D σ H:=
 htl _ λ v H' p=>by obtain ⟨d,xs,rfl,hq,Pv,a,b,c,e⟩:=h v H' p;exact ⟨d,rfl,⟨xs,hq⟩,rS Pv a b c e⟩
end L2
namespace L2
open PySem PySem.Spec PyProof.Rows
def oH (ns:List Int):List Int:=firstMet (λ i=>ns.getD i 0) ns.length
theorem mE (ns:List Int):(List.range ns.length).map (λ i=>ns.getD i 0)=ns:=by
 apply Fc;intro i;rw [EB]
 by_cases h:i<ns.length
 ·rw [E3 h,Ex h];show some (ns.getD i 0)=_;rw [EQ,Ex h];rfl
 ·rw [E1 (by rw [EK];omega),E1 (by omega)];rfl
theorem fk (val:Nat->Int):∀i,(firstMet val i).length=i<->((List.range i).map val).Nodup
 | 0=>by simp [firstMet_zero]
 | i+1=>by
   have ih:=fk val i;have hle:=firstMet_length_le val i;have ha:=firstMet_any val i (val i);rw [firstMet_succ,Fm,EM,Fn];unfold step_dedup
   by_cases h:(firstMet val i).any (· == val i)=true
   ·rw [if_pos h]
    constructor
    ·intro e;omega
    ·intro e;rw [ha,E6] at h;obtain ⟨x,hx,e2⟩:=h;have:x=val i:=beq_iff_eq.mp e2;exact absurd this (e.2.2 x hx (val i) (by simp))
   ·rw [if_neg h,EF,Fk]
    constructor
    ·intro e;refine ⟨ih.mp (by omega),by simp,λ x hx y hy=>?_⟩;have hy':y=val i:=by simpa using hy
     subst hy';intro e3;apply h;rw [ha,E6];exact ⟨x,hx,beq_iff_eq.mpr e3⟩
    ·intro e;rw [ih.mpr e.1]
theorem qj (ns:List Int):(oH ns).length=ns.length<->ns.Nodup:=by unfold oH;rw [fk,mE]
section
variable {X:Cx}
def xH (K:Frag) (xs:List V) (H:Hp) (Q:VK):Prop:=match xs with
 | [.ref d]=> ∃ns:List Int,aL K H d (ns.map V.int)/\ns.length+1<scanBound/\∀q,H q=none->Q (.ref q) (upd H q (.set (λ k=>(oH ns).any (· == k)) (oH ns).length))
 | _=>False
theorem pQ (hh:X.A.handled=none):aI X (.type "set") (xH X.K):=by
 intro pins s σ H xs us Q I r h;unfold xH at h;split at h
 ·rename_i d;obtain ⟨ns,hq,hb,q⟩:=h;obtain ⟨u,rfl,rx⟩:=cr r;cases rx;obtain ⟨its,r',pl,hz⟩:=I.list hq;have hlen:=r'.length;rw [Eu] at hlen;have hi:IntsAre its.toArray.toList ns:=iQ r';have hs:its.toArray.size=ns.length:=by rw [Ey,<-hlen]
  refine call_set_list hh pl.isList hi (by rw [hs];exact hb) λ h' tk hS kp=>?_;rw [hs] at hS;have k2:∀b u,s.heap.get? b=some u->h'.get? b=some u:=λ b u e=>kp b u (Heap.lt_size e) e;exact ⟨.ref s.heap.objs.size,_,I.laid (t':=tk) k2 (Gc _) (show bg X.prog X.w _ h' _ (.set _ _) from hS),rfl,q _ (I.hok.fresh (Gc _))⟩
 ·exact h.elim
def xj (xs:List V) (H:Hp) (Q:VK):Prop:=match xs with
 | [.ref d]=> ∃S n,H d=some (.set S n)/\Q (.int n) H
 | _=>False
theorem na:aI X (.builtin "len") xj:=by
 intro pins s σ H xs us Q I r h;unfold xj at h;split at h
 ·rename_i d;obtain ⟨S,n,hd,q⟩:=h;obtain ⟨u,rfl,rx⟩:=cr r;cases rx;obtain ⟨o,es,ep,t,h1,h2,h3,_,_,h6,h7,h8⟩:=(show bg X.prog X.w H s.heap d (.set S n) from I.hok d _ hd);subst h8;have hb:es.size<4096:=h6;exact PySem.call_len_set h1 h2 h3 h7 (by omega) ⟨.int es.size,H,I.tok _,⟨_,rfl⟩,q⟩
 ·exact h.elim
def qA (K:Frag) (xs:List V) (H:Hp) (Q:VK):Prop:=match xs with
 | [.ref d]=> ∃ns:List Int,aL K H d (ns.map V.int)/\ns.length<64/\∀(ns':List Int) q,ns'.Perm ns->ns'.Pairwise (·<=·)->H q=none->Q (.ref q) (upd H q (.lst (ns'.map V.int)))
 | _=>False
theorem m5:aI X (.builtin "sorted") (qA X.K):=by
 intro pins s σ H xs us Q I r h;unfold qA at h;split at h
 ·rename_i d;obtain ⟨ns,hq,hb,q⟩:=h;obtain ⟨u,rfl,rx⟩:=cr r;cases rx;obtain ⟨its,r',pl,hz⟩:=I.list hq;have hlen:=r'.length;rw [Eu] at hlen;refine sorted_ints pl.isList (iQ r') (by omega) λ out ns' a1 a2 a3=>?_;obtain ⟨e,he⟩:=sortedAll_at s.heap its out;have hl:=a2.length_eq;have hz':(ns'.map V.int).length<=sizeLine:=by rw [Eu,hl,sizeLine_eq];omega
  exact ⟨.ref (s.heap.objs.size+1),_,I.laid (t':=s.toks) (λ _ _=>sortedAll_old) (Gg _) (show bg X.prog X.w _ _ _ (.lst (ns'.map V.int)) from ⟨hz',out.toList,e,gC a1,by simpa [seqObj] using he⟩),rfl,q ns' _ a2 a3 (I.hok.fresh (Gg _))⟩
 ·exact h.elim
def lF (K:Frag) (xs:List V) (H:Hp) (Q:VK):Prop:=match xs with
 | [.ref d]=> ∃ys,(aL K H d ys\/fF K H d ys)/\∀l,H l=none->Q (.ref l) (upd H l (.lst ys))
 | _=>False
theorem m9:aI X (.type "list") (lF X.K):=(kD (X:=X)).imp λ xs H Q h=>by
 unfold lF at h;split at h
 ·obtain ⟨ys,h1,q⟩:=h;exact ⟨_,ys,rfl,h1,q⟩
 ·exact h.elim
theorem Ec (K:Frag) {j:Nat}(hr:bQ j X.A) (hK:X.K=K:=by rfl):aI X (.type "set") (xH K):=by subst hK;exact pQ hr.hd
theorem CI (K:Frag) (hK:X.K=K:=by rfl):aI X (.builtin "sorted") (qA K):=by subst hK;exact m5
theorem lI (K:Frag) (hK:X.K=K:=by rfl):aI X (.type "list") (lF K):=by subst hK;exact m9
theorem uk {T:BT}{a:Addr}{xs:List V}{H:Hp}{Q:VK}(h:H a=some (.lst xs)) (q:Q (.bl (cF .list T)) H):ul T (.ref a) H Q:=by simp only [ul,h];exact q
end
theorem si {x:V}(h:flatV x=true):eqV x x=true:=by cases x<;>simp_all [flatV,eqV]
theorem jA (zs:List Int):(zs.map V.int).all flatV=true:=EV.mpr λ x hx=>by obtain ⟨z,_,rfl⟩:=EE.mp hx;rfl
def Fl (K:Frag) (H:Hp) (p:Addr) (f:Str) (v:V):Prop:= ∃C dx fs,H p=some (.ins C dx fs)/\l8 K C/\bB K C f/\fs.lookup f=some v
def Ek (K:Frag) (x:V) (f:Str) (H:Hp) (Q:VK):Prop:=match x with
 | .ref a=> ∃v,Fl K H a f v/\Q v H
 | _=>False
def yT (K:Frag) (to:TE) (f:Str):TE:=λ σ H Q=>to σ H λ x H1=>Ek K x f H1 Q
def oz (C:Addr) (m:Str) (H:Hp) (a:Addr):Prop:= ∃dx fs,H a=some (.ins C dx fs)/\fs.lookup m=none
structure ny (P:Program) (w:World) (K:Frag) (mg:Str->Option Value) (base:Heap) (C:Addr) (m:Str) (ps:List Str) (k:Nat) (sp:Sp):Prop where
 ex:∃f fd,bi P w K mg base dv k f fd ps sp/\Dp K C m f/\eQ K fd ps []
 cl:l8 K C
structure l5 (P:Program) (w:World) (K:Frag) (mg:Str->Option Value) (base:Heap) (name:Str) (C:Addr) (ps:List Str) (k:Nat) (sp:Sp):Prop where
 ex:∃f fd,Mk K C f/\bi P w K mg base dv k f fd ps sp/\mg name=some (.ref C)/\eQ K fd ps []
def CF (C:Addr) (m:Str) (x:V) (H:Hp) (R:Addr->Prop):Prop:=match x with
 | .ref a=>oz C m H a/\R a
 | _=>False
def oq (C:Addr) (m:Str) (sp:Sp) (to:TE) (t:TA):TE:=λ σ H Q=>to σ H λ x H1=>CF C m x H1 λ a=>t σ H1 λ vs H2=>sp (.ref a::vs) H2 Q E0
def ou (C:Addr) (sp:Sp) (t:TA):TE:=λ σ H Q=>t σ H λ vs H1=> ∀x dx,H1 x=none->H1 dx=none->dx≠x->sp (.ref x::vs) (upd (upd H1 dx (.own x)) x (.ins C dx [])) (λ v H2=>v=.non/\Q (.ref x) H2) E0
section
variable {X:Cx}{e o value:Expr}{te to tv:TE}{p pos pos' apos:Pos}{es:List Expr}{t:TA}{f m:Str}
theorem fV (K:Frag) (ho:PE X o to) (hb:attributeBase o f X.env (eval o X.env)=eval o X.env:=by rfl) (hK:X.K=K:=by rfl):PE X (.Attribute o f pos) (yT K to f):=by
 subst hK;intro pins s σ H Q I h;refine uI hb (bx (ho pins s σ H _ I h) λ u s1 ⟨x,H1,I1,rx,q1⟩=>?_);cases x with
 | ref a=>
   obtain ⟨v,⟨C,dx,fs,ea,c,n,l⟩,q⟩:=q1;obtain rfl:u=Value.ref a:=rx;exact mW I1 ea c n l λ u' s2 I2 ru=>⟨v,H1,I2,ru,q⟩
 | _=>exact q1.elim
theorem fP (K:Frag) (ho:PE X o to) (hv:PE X value tv) (hs:swapsWith value (some (.Attribute o f pos')) pos.line X.env=pure false:=by rfl) (hK:X.K=K:=by rfl):PS X (.Assign [.Attribute o f pos'] value pos) (oX K to tv f):=by subst hK;exact xM ho hv hs
theorem CJ {C:Addr}{ps:List Str}{k j:Nat}{sp:Sp}{pl:Sem Bool}(M:ny X.prog X.w X.K X.mg X.base C m ps k sp) (hr:bQ j X.A) (ho:PE X o to) (ha:PA X (e::es) t) (hkj:k<=j:=by decide) (hp:(e::es).all dH=true:=by rfl)
  (ht:eval (.Call (.Attribute o m apos) (e::es) [] pos) X.env=(do
   let ov<-eval o X.env
   standAt apos.atName
   let (f,first)<-holding [ov] (getMethod ov m pl)
   callWith pos f first (backTo pos (starEach (e::es) X.env)) (backToKw pos (keywordEach [] X.env))):=by rfl):PE X (.Call (.Attribute o m apos) (e::es) [] pos) (oq C m sp to t):=by
 obtain ⟨f,fd,F,hm,hb⟩:=M.ex;have hp':=hp;rw [EO,GB] at hp';intro pins s σ H Q I h;refine Hy (pl:=pl) (bx (ho pins s σ H _ I h) λ u s1 ⟨x,H1,I1,rx,q⟩=>?_) ht;cases x with
 | ref a=>
   obtain ⟨⟨dx,fs,ea,l⟩,q⟩:=q;obtain rfl:u=Value.ref a:=rx;refine iR I1 ea M.cl hm l ?_;refine Hl (first:=[.ref a]) (h₀:=X.base) I.ok.mod.kin hm.kp (bx (ha pos pins s1 σ H1 _ I1 q) λ us s2 ⟨vs,H2,I2,r,q2⟩=>⟨I2.kIn,?_⟩) (c6 hp'.1) (eK hp'.2);refine mw (us:=.ref a::us) (vs:=.ref a::vs) (dvs:=[]) (ds:=[]) F (hr.mono hkj) hb .nil n4 I2 (.cons rfl r) ?_;rw [ET];exact q2
 | _=>exact q.elim
theorem rk {C:Addr}{ps:List Str}{k j:Nat}{sp:Sp}{pl:Sem Bool}(M:ny X.prog X.w X.K X.mg X.base C m ps k sp) (hr:bQ j X.A) (ho:PE X o to) (hkj:k<=j:=by decide)
  (ht:eval (.Call (.Attribute o m apos) [] [] pos) X.env=(do
   let ov<-eval o X.env
   standAt apos.atName
   let (f,first)<-holding [ov] (getMethod ov m pl)
   callWith pos f first (backTo pos (starEach [] X.env)) (backToKw pos (keywordEach [] X.env))):=by rfl):PE X (.Call (.Attribute o m apos) [] [] pos) (oq C m sp to bu):=by
 obtain ⟨f,fd,F,hm,hb⟩:=M.ex;intro pins s σ H Q I h;refine Hy (pl:=pl) (bx (ho pins s σ H _ I h) λ u s1 ⟨x,H1,I1,rx,q⟩=>?_) ht;cases x with
 | ref a=>
   obtain ⟨⟨dx,fs,ea,l⟩,q⟩:=q;obtain rfl:u=Value.ref a:=rx;refine iR I1 ea M.cl hm l ?_;refine PySem.W.callWith_K0 (first:=[.ref a]) I1.kIn hm.kp (mw (us:=[.ref a]) (vs:=[.ref a]) (dvs:=[]) (ds:=[]) F (hr.mono hkj) hb .nil n4 I1 (.cons rfl .nil) ?_);exact q
 | _=>exact q.elim
theorem xm {name:Str}{C:Addr}{ps:List Str}{k j:Nat}{sp:Sp}(M:l5 X.prog X.w X.K X.mg X.base name C ps k sp) (hr:bQ j X.A) (ha:PA X (e::es) t) (hkj:k+1<=j:=by decide) (hp:(e::es).all dH=true:=by rfl) (hg:Gl X name:=by rfl) (hdb:(name == ("__debug__":Str))=false:=by decide):
  PE X (.Call (.Name name p) (e::es) [] pos) (ou C sp t):=by
 obtain ⟨f,fd,MK,F,hm,hb⟩:=M.ex;have hp':=hp;rw [EO,GB] at hp';refine (tV MK F (hr.mono hkj) hg hm hb .nil n4 ha hdb (c6 hp'.1) (eK hp'.2):PE X _ (qm C sp [] E0 t)).imp λ σ H Q h=>?_;unfold qm;simp only [ET];exact h
end
def SameBut (k:Addr) (H H':Hp):Prop:= ∀b o,H b=some o->b≠k->H' b=some o
theorem ak.but {k:Addr}{H H':Hp}(h:ak H H'):SameBut k H H':=λ b o e _=>h b o e
theorem SameBut.self {k:Addr}{H H':Hp}{o:HO}(a:SameBut k H H'):SameBut k H (upd H' k o):=λ c ob e n=>by rw [ah n];exact a c ob e n
theorem SameBut.new {k d:Addr}{H H':Hp}{o:HO}(a:SameBut k H H') (hd:H d=none):SameBut k H (upd H' d o):=λ c ob e n=>by rw [ah (ag e hd)];exact a c ob e n
theorem ak.put {d:Addr}{H H':Hp}{o:HO}(a:ak H H') (hd:H d=none):ak H (L2.upd H' d o):=λ c ob e=>by rw [ah (ag e hd)];exact a c ob e
theorem dX {H:Hp}{a b:Addr}{o o':HO}(ha:H a=some o) (hb:H b=some o') (h:o≠o'):a≠b:=λ e=>by subst e;rw [ha] at hb;exact h (Option.some.inj hb)
theorem tK {to tv:TE}{f:Str}{K:Frag}{u:TS}{D:bZ}{σ:St}{H:Hp}(P:V->Hp->Prop) (h:∀Q:VK,(∀v H',P v H'->Q v H')->tv σ H Q) (p C dx:Addr) (hto:∀H' (Q:VK),Q (.ref p) H'->to σ H' Q) (hc:l8 K C) (hn:bB K C f)
  (h2:∀v H',P v H'->∃fs,H' p=some (.ins C dx fs)/\fs.length<1000/\u D σ (upd H' p (.ins C dx (putF f v fs)))):bV (oX K to tv f) u D σ H:=
 h _ λ v H' q=>by obtain ⟨fs,e,l,r⟩:=h2 v H' q;exact hto _ _ ⟨p,C,dx,fs,rfl,e,hc,hn,l,r⟩
theorem nG {to tv:TE}{f:Str}{K:Frag}{D:bZ}{σ:St}{H:Hp}(P:V->Hp->Prop) (h:∀Q:VK,(∀v H',P v H'->Q v H')->tv σ H Q) (p C dx:Addr) (hto:∀H' (Q:VK),Q (.ref p) H'->to σ H' Q) (hc:l8 K C) (hn:bB K C f)
  (h2:∀v H',P v H'->∃fs,H' p=some (.ins C dx fs)/\fs.length<1000/\D.nx σ (upd H' p (.ins C dx (putF f v fs)))):oX K to tv f D σ H:=
 h _ λ v H' q=>by obtain ⟨fs,e,l,r⟩:=h2 v H' q;exact hto _ _ ⟨p,C,dx,fs,rfl,e,hc,hn,l,r⟩
theorem rR {ta:TA}{g:TG}{tb:TS}{D:bZ}{σ:St}{H:Hp}(m n:Int) (hta:∀Q:List V->Hp->Prop,Q [.int m,.int n] H->ta σ H Q) (h0: -(2 ^ 62)<=m/\m<2 ^ 62/\-(2 ^ 62)<=n/\n<2 ^ 62) (Pv:Nat->St->Hp->Prop) (hp0:Pv 0 σ H)
  (hs:∀i σ H,i<(n - m).toNat->Pv i σ H->g (.int (m+i)) σ H λ σ2 H2=>tb {D with nx:=Pv (i+1),ct:=Pv (i+1),bk:=D.nx} σ2 H2) (hd:∀σ H,Pv (n - m).toNat σ H->D.nx σ H):tFor (rE ta) g tb D σ H:=
 hta _ ⟨m,n,rfl,h0,jz Pv hp0 hs hd⟩
end L2
namespace L2
open PySem PySem.Spec PyProof.Rows
def Ev (t:TE) (σ:St) (H:Hp) (v:V):Prop:= ∀Q:VK,Q v H->t σ H Q
def Tv (t:TT) (σ:St) (H:Hp) (b:Bool):Prop:= ∀Q:Bool->Hp->Prop,Q b H->t σ H Q
def Av (t:TA) (σ:St) (H:Hp) (vs:List V):Prop:= ∀Q:List V->Hp->Prop,Q vs H->t σ H Q
section
variable {K:Frag}{σ:St}{H:Hp}{ta tb tc te to:TE}{t u:TT}{x y:V}{i j k:Int}{a b:Bool}{z z':Str}
theorem au:Ev (tC x) σ H x:=λ Q q=>q
theorem ev_v {n:Nat}(h:σ[n]? =some (some x)):Ev (aR n) σ H x:=λ Q q=>by unfold aR;rw [h];exact q
theorem dL (ha:Ev ta σ H (.int i)) (hb:Ev tb σ H (.int j)):Ev (ia .Add ta tb) σ H (.int (i+j)):=λ Q q=>ha _ (hb _ q)
theorem fo (ha:Ev ta σ H (.int i)) (hb:Ev tb σ H (.int j)):Ev (ia .Sub ta tb) σ H (.int (i - j)):=λ Q q=>ha _ (hb _ q)
theorem cJ (ha:Ev ta σ H (.int i)) (hb:Ev tb σ H (.int j)) (h:tj i j):Ev (ia .Mult ta tb) σ H (.int (i*j)):=λ Q q=>ha _ (hb _ ⟨h,q⟩)
theorem dJ (ha:Ev ta σ H (.int i)) (hb:Ev tb σ H (.int j)) (h:zf i j):Ev (ia .FloorDiv ta tb) σ H (.int (i / j)):=λ Q q=>ha _ (hb _ ⟨h,q⟩)
theorem dI (ha:Ev ta σ H (.int i)) (hb:Ev tb σ H (.int j)) (h:0<j):Ev (ia .Mod ta tb) σ H (.int (i % j)):=λ Q q=>ha _ (hb _ ⟨h,q⟩)
theorem rW (ha:Ev ta σ H (.int i)):Ev (Df ta) σ H (.int (-i)):=λ Q q=>ha _ q
theorem ce {p:Addr}{f:Str}(ho:Ev to σ H (.ref p)) (h:Fl K H p f x):Ev (yT K to f) σ H x:=λ Q q=>ho _ ⟨x,h,q⟩
theorem di {p:Addr}{xs:List V}(ho:Ev to σ H (.ref p)) (hi:Ev ta σ H (.int i)) (h:aL K H p xs\/fF K H p xs) (e:atI xs i=some x):Ev (Dg K to ta) σ H x:=λ Q q=>ho _ (hi _ ⟨xs,x,h,e,q⟩)
theorem rZ {c:Nat}(ho:Ev to σ H (.str z)) (hi:Ev ta σ H (.int i)) (h:z.length<=sizeLine) (e:atI z.cps.toList i=some c):Ev (Dg K to ta) σ H (.str ⟨#[c]⟩):=λ Q q=>ho _ (hi _ ⟨h,c,e,q⟩)
theorem cV {p:Addr}{xs:List V}(ho:Ev to σ H (.ref p)) (h:aL K H p xs\/fF K H p xs):Ev (cB (ku K) (aC to bu)) σ H (.int xs.length):=λ Q q=>ho _ ⟨xs,h,q⟩
theorem im (ho:Ev to σ H (.str z)) (h:z.length<=sizeLine):Ev (cB (ku K) (aC to bu)) σ H (.int z.length):=λ Q q=>ho _ ⟨h,q⟩
theorem r0 {p:Addr}{xs:List V}{T:BT}(ho:Ev to σ H (.ref p)) (h:H p=some (.lst xs)):Ev (zi T to) σ H (.bl (cF .list T)):=λ Q q=>ho _ (uk h q)
theorem r6 {T:BT}(ho:Ev to σ H (.int i)):Ev (zi T to) σ H (.bl (cF .int T)):=λ Q q=>ho _ q
theorem yI {T:BT}(ho:Ev to σ H (.str z)):Ev (zi T to) σ H (.bl (cF .str T)):=λ Q q=>ho _ q
theorem yE (ha:Ev ta σ H (.bl a)):Ev (xv ta) σ H (.bl (!a)):=λ Q q=>ha _ q
theorem bO (ha:Ev ta σ H (.bl a)) (hb:a=true->Ev tb σ H (.bl b)):Ev (sP ta tb) σ H (.bl (a&&b)):=λ Q q=>ha _ (by
 cases a with
 | true=>exact hb rfl Q q
 | false=>exact q)
theorem C1 (ha:Ev ta σ H (.bl a)) (hb:a=false->Ev tb σ H (.bl b)):Ev (De ta tb) σ H (.bl (a||b)):=λ Q q=>ha _ (by
 cases a with
 | true=>exact q
 | false=>exact hb rfl Q q)
theorem xr (ht:Tv t σ H b) (h1:b=true->Ev ta σ H x) (h2:b=false->Ev tb σ H y):Ev (tIf t ta tb) σ H (if b=true then x else y):=λ Q q=>ht _ (by
 cases b with
 | true=>exact hU (h1 rfl _ q)
 | false=>exact hV (h2 rfl _ q))
theorem xu (ha:Ev ta σ H (.int i)) (hb:Ev tb σ H (.int j)):Ev (cK K .Eq ta tb) σ H (.bl (decide (i=j))):=λ Q q=>ha _ (hb _ q)
theorem oi (ha:Ev ta σ H (.int i)) (hb:Ev tb σ H (.int j)):Ev (cK K .NotEq ta tb) σ H (.bl (!decide (i=j))):=λ Q q=>ha _ (hb _ q)
theorem rX (ha:Ev ta σ H (.int i)) (hb:Ev tb σ H (.int j)):Ev (cK K .Lt ta tb) σ H (.bl (decide (i<j))):=λ Q q=>ha _ (hb _ q)
theorem C2 (ha:Ev ta σ H (.int i)) (hb:Ev tb σ H (.int j)):Ev (cK K .LtE ta tb) σ H (.bl (decide (i<=j))):=λ Q q=>ha _ (hb _ q)
theorem xt (ha:Ev ta σ H (.int i)) (hb:Ev tb σ H (.int j)):Ev (cK K .Gt ta tb) σ H (.bl (decide (j<i))):=λ Q q=>ha _ (hb _ q)
theorem C4 (ha:Ev ta σ H (.int i)) (hb:Ev tb σ H (.int j)):Ev (cK K .GtE ta tb) σ H (.bl (decide (j<=i))):=λ Q q=>ha _ (hb _ q)
theorem gQ (ha:Ev ta σ H (.str z)) (hb:Ev tb σ H (.str z')):Ev (cK K .Eq ta tb) σ H (.bl (decide (z=z'))):=λ Q q=>ha _ (hb _ q)
theorem yF (ha:Ev ta σ H (.str z)) (hb:Ev tb σ H (.str z')):Ev (cK K .NotEq ta tb) σ H (.bl (!decide (z=z'))):=λ Q q=>ha _ (hb _ q)
theorem lL (i:Int) (ns:List Int):zh (.int i) (ns.map V.int)=decide (i∈ns):=by
 unfold zh;rw [Fw]
 by_cases h:i∈ns
 ·rw [decide_eq_true h];exact E6.mpr ⟨i,h,by simp [eqV]⟩
 ·rw [decide_eq_false h];apply Fu.mpr;intro y hy;have:y≠i:=λ e=>h (e▸hy);simp [eqV,this]
theorem C3 {p:Addr}{ns:List Int}(ha:Ev ta σ H (.int i)) (hb:Ev tb σ H (.ref p)) (h:aL K H p (ns.map V.int)\/fF K H p (ns.map V.int)):Ev (cK K .In ta tb) σ H (.bl (decide (i∈ns))):=λ Q q=>ha _ (hb _ (by
 rw [j3];refine ⟨p,_,rfl,h,rfl,jA ns,?_⟩;rw [lL];exact q))
theorem rV {p:Addr}{ns:List Int}(ha:Ev ta σ H (.int i)) (hb:Ev tb σ H (.ref p)) (h:aL K H p (ns.map V.int)\/fF K H p (ns.map V.int)):Ev (cK K .NotIn ta tb) σ H (.bl (!decide (i∈ns))):=λ Q q=>ha _ (hb _ (by
 rw [hJ];refine ⟨p,_,rfl,h,rfl,jA ns,?_⟩;rw [lL];exact q))
theorem oj (ha:Ev ta σ H (.int i)) (hb:Ev tb σ H (.int j)) (hc:i<=j->Ev tc σ H (.int k)):Ev (kG K .LtE .LtE ta tb tc) σ H (.bl (decide (i<=j/\j<=k))):=λ Q q=>ha _ (hb _ (by
 rw [o7]
 by_cases h:i<=j
 ·rw [decide_eq_true h];refine hc h _ ?_;have e:decide (i<=j/\j<=k)=decide (j<=k):=by simp [h]
  rw [e] at q;exact q
 ·rw [decide_eq_false h];have e:decide (i<=j/\j<=k)=false:=by simp [h]
  rw [e] at q;exact q))
theorem aG {sp:Sp}{t:TA}{vs:List V}(ht:Av t σ H vs) (h:∀Q:VK,Q x H->sp vs H Q E0):Ev (iY sp t) σ H x:=λ Q q=>ht _ (h Q q)
theorem ap:Av bu σ H []:=λ Q q=>q
theorem aa {t:TA}{vs:List V}(ha:Ev ta σ H x) (ht:Av t σ H vs):Av (aC ta t) σ H (x::vs):=λ Q q=>ha _ (ht _ q)
theorem Dk {vs:List V}:Av (cCs vs) σ H vs:=λ Q q=>q
theorem bD (h:Ev te σ H (.bl b)):Tv (dn te) σ H b:=λ Q q=>h _ q
theorem bK (h:Tv t σ H b):Tv (tD t) σ H (!b):=λ Q q=>h _ q
theorem qk (ha:Tv t σ H a) (hb:a=true->Tv u σ H b):Tv (Ce t u) σ H (a&&b):=λ Q q=>ha _ (by
 cases a with
 | true=>exact hU (hb rfl _ q)
 | false=>exact hV q)
theorem fZ (ha:Tv t σ H a) (hb:a=false->Tv u σ H b):Tv (Dw t u) σ H (a||b):=λ Q q=>ha _ (by
 cases a with
 | true=>exact hU q
 | false=>exact hV (hb rfl _ q))
end
section
variable {te:TE}{c:TT}{t u:TS}{D:bZ}{σ:St}{H:Hp}{v:V}{b:Bool}
theorem bM {i:Nat}(h:Ev te σ H v) (h2:u D (σ.set i (some v)) H):bV (oN te (bN i)) u D σ H:=h _ h2
theorem ib {i:Nat}(h:Ev te σ H v) (h2:D.nx (σ.set i (some v)) H):oN te (bN i) D σ H:=h _ h2
theorem aK (h:Ev te σ H v) (h2:D.rt v H):dt te D σ H:=h _ h2
theorem cu (hc:Tv c σ H b) (h1:b=true->t {D with nx:=u D} σ H) (h2:b=false->u D σ H):bV (tF c t nB) u D σ H:=hc _ (by
 cases b with
 | true=>exact hU (h1 rfl)
 | false=>exact hV (h2 rfl))
theorem jN (hc:Tv c σ H b) (h1:b=true->t D σ H) (h2:b=false->D.nx σ H):tF c t nB D σ H:=hc _ (by
 cases b with
 | true=>exact hU (h1 rfl)
 | false=>exact hV (h2 rfl))
end
section
variable {K:Frag}{σ rest:St}{H:Hp}{tl te:TE}{tt:TT}{src:List (Option Nat)}{Q:VK}
theorem cL:Tv ga σ H true:=λ Q q=>q
theorem lT {J:It}{xs:List V}(hz:xs.length<=sizeLine) (hs:cY src σ=none::rest) (p:V->Bool) (f:V->V) (hgo:∀i,i<xs.length->J.go i H) (hstop:J.stop xs.length H) (hyld:∀i v H',i<xs.length->J.yld i H v H'->H'=H/\xs[i]? =some v)
  (ht:∀x∈xs,Tv tt (some x::rest) H (p x)) (he:∀x∈xs,p x=true->Ev te (some x::rest) H (f x)) (q:∀d',H d'=none->Q (.ref d') (upd H d' (.lst ((xs.filter p).map f)))):dZ (bN 0) tt te src σ Q J H:=by
 refine ⟨λ i m ys σ' H'=>m=xs.length - i/\i<=xs.length/\ys=((xs.take i).filter p).map f/\(∃o,σ'=o::rest)/\H'=H,⟨xs.length,by simp,Gd _,by simp,⟨none,hs⟩,rfl⟩,?_⟩;rintro i m ys σ' H' ⟨rfl,hi,rfl,⟨o,rfl⟩,rfl⟩
 by_cases hlt:i<xs.length
 ·refine .inr ⟨hgo i hlt,?_,λ x H2 y=>?_⟩
  ·rw [Eu];have h1:=Fd p (xs.take i);rw [Fa] at h1;omega
  ·obtain ⟨rfl,hx⟩:=hyld i x H2 hlt y;have tk:(xs.take (i+1)).filter p=(xs.take i).filter p++(if p x then [x] else []):=take_succ_filter p xs i x hx;have hm:x∈xs:=EX hx;show tt (some x::rest) H2 _;refine ht x hm _ ?_;cases hp:p x with
   | true=>
     refine hU (he x hm hp _ ?_);refine ⟨xs.length - (i+1),by omega,rfl,hlt,?_,⟨_,rfl⟩,rfl⟩;rw [tk,hp,if_pos rfl,EM];rfl
   | false=>
     refine hV ?_;refine ⟨xs.length - (i+1),by omega,rfl,hlt,?_,⟨_,rfl⟩,rfl⟩;rw [tk,hp,if_neg (by simp),ET]
 ·have e:i=xs.length:=by omega
  subst e;refine .inl ⟨hstop,λ d hd=>?_⟩;rw [E7];exact q d hd
theorem eI {d:Addr}{xs:List V}(hl:Ev tl σ H (.ref d)) (hx:aL K H d xs) (hz:xs.length<=sizeLine) (hs:cY src σ=none::rest) (p:V->Bool) (f:V->V)
  (ht:∀x∈xs,Tv tt (some x::rest) H (p x)) (he:∀x∈xs,p x=true->Ev te (some x::rest) H (f x)) (q:∀d',H d'=none->Q (.ref d') (upd H d' (.lst ((xs.filter p).map f)))):tComp (fj K tl) (bN 0) tt te src σ H Q:=
 hl _ ⟨d,rfl,⟨xs,hx⟩,lT hz hs p f (λ i hi=>⟨xs,xs[i],hx,Ex hi⟩) ⟨xs,hx,Gc _⟩ (λ i v H' _ y=>⟨y.1,y.2 xs hx⟩) ht he q⟩
theorem iV {ta:TA}{n:Int}(hl:Av ta σ H [.int n]) (h0:0<=n) (hz:n.toNat<=sizeLine) (h1:n<2 ^ 62) (hs:cY src σ=none::rest) (p:V->Bool) (f:V->V)
  (ht:∀i:Nat,i<n.toNat->Tv tt (some (.int (0+(i:Int)))::rest) H (p (.int (0+(i:Int))))) (he:∀i:Nat,i<n.toNat->p (.int (0+(i:Int)))=true->Ev te (some (.int (0+(i:Int)))::rest) H (f (.int (0+(i:Int)))))
  (q:∀d',H d'=none->Q (.ref d') (upd H d' (.lst ((((List.range n.toNat).map λ (i:Nat)=>V.int (0+(i:Int))).filter p).map f)))):tComp (n9 ta) (bN 0) tt te src σ H Q:=by
 have hin:∀x∈(List.range n.toNat).map λ (i:Nat)=>V.int (0+(i:Int)),∃i:Nat,i<n.toNat/\x=.int (0+(i:Int)):=λ x hx=>by obtain ⟨i,hi,rfl⟩:=EE.mp hx;exact ⟨i,ER.mp hi,rfl⟩
 have hlen:((List.range n.toNat).map λ (i:Nat)=>V.int (0+(i:Int))).length=n.toNat:=by simp
 refine hl _ ⟨n,rfl,by omega,h1,lT (xs:=(List.range n.toNat).map λ (i:Nat)=>V.int (0+(i:Int))) (by rw [hlen];exact hz) hs p f (λ i hi=>by rw [hlen] at hi;exact hi) (by rw [hlen];exact Gc _) (λ i v H' hi y=>⟨y.1,?_⟩) (λ x hx=>?_) (λ x hx hp=>?_) q⟩
 ·rw [hlen] at hi;rw [EB,E3 hi,y.2];rfl
 ·obtain ⟨i,hi,rfl⟩:=hin x hx;exact ht i hi
 ·obtain ⟨i,hi,rfl⟩:=hin x hx;exact he i hi hp
end
section
variable {K:Frag}{te to tv:TE}{t:TA}{c:TT}{u:TS}{D:bZ}{σ:St}{H:Hp}{v x y:V}
theorem uy {C p:Addr}{m:Str}{sp:Sp}{vs:List V}(ho:Ev to σ H (.ref p)) (hi:oz C m H p) (ht:Av t σ H vs) (h:∀Q:VK,Q x H->sp (.ref p::vs) H Q E0):Ev (oq C m sp to t) σ H x:=λ Q q=>ho _ ⟨hi,ht _ (h Q q)⟩
theorem tL {l:Addr}{xs:List V}(ho:Ev to σ H (.ref l)) (he:Ev te σ H y) (hl:H l=some (.lst xs)) (hz:xs.length<sizeLine) (h2:D.nx σ (upd H l (.lst (xs++[y])))):kP (uE to te) D σ H:=ho _ ⟨⟨xs,hl⟩,he _ ⟨xs,hl,hz,h2⟩⟩
theorem mi {f:Str}{p C dx:Addr}{fs:List (Str×V)}(h:Ev tv σ H v) (ho:Ev to σ H (.ref p)) (hp:H p=some (.ins C dx fs)) (hc:l8 K C) (hn:bB K C f) (hl:fs.length<1000) (h2:u D σ (upd H p (.ins C dx (putF f v fs)))):bV (oX K to tv f) u D σ H:=h _ (ho _ ⟨p,C,dx,fs,rfl,hp,hc,hn,hl,h2⟩)
theorem xG {i:Nat}(h2:∀q,H q=none->u D (σ.set i (some (.ref q))) (upd H q (.lst []))):bV (oN (oM bu) (bN i)) u D σ H:=⟨Gd _,λ q hq=>h2 q hq⟩
end
section
variable {K:Frag}{te to ta tb ti:TE}{t:TA}{c:TT}{σ:St}{H:Hp}{Q:VK}{R:Bool->Hp->Prop}{v x y:V}{vs:List V}{sp:Sp}
theorem il (h:Ev te σ H v) (q:Q v H):te σ H Q:=h Q q
theorem fS (h:Av t σ H vs) (q:sp vs H Q E0):iY sp t σ H Q:=h _ q
theorem gS (h:Av t σ H vs) (q:sp vs H (fv λ c H1=>R (!c) H1) E0):tD (dn (iY sp t)) σ H R:=h _ q
theorem yX {r:List V->Hp->VK->Prop}(h:Ev to σ H v) (q:r [v] H Q):cB r (aC to bu) σ H Q:=h _ q
theorem xi {i:Int}(h:Av t σ H vs) (hz:vs.length<=1000) (hi:∀H',Ev ti σ H' (.int i)) (e:atI vs i=some v) (q:∀H',ak H H'->Q v H'):Dg K (oM t) ti σ H Q:=h _ ⟨Ge hz (by decide),λ p hp=>hi _ _ ⟨vs,v,.inl (aL.of af),e,q _ ((ak.refl H).upd hp)⟩⟩
end
section
variable {K:Frag}{te to ta tb:TE}{D:bZ}{σ:St}{H:Hp}{Q:VK}{x y:V}
theorem Dl {l:Addr}(ho:Ev to σ H (.ref l)) (hl:∃xs,H l=some (.lst xs)) (q:te σ H λ y H2=> ∃xs,H2 l=some (.lst xs)/\xs.length<sizeLine/\D.nx σ (upd H2 l (.lst (xs++[y])))):kP (uE to te) D σ H:=ho _ ⟨hl,q⟩
end
end L2
namespace L2
open PySem PySem.Spec PyProof.Rows
structure gX (K:Frag) (C:Addr):Prop where
 cl:l8 K C
 wide:bB K C "wide"
 high:bB K C "high"
 holes:bB K C "holes"
 firm:bB K C "firm"
def fu (wi hi:Int) (ph pf:Addr):List (Str×V):=putF "firm" (.ref pf) (putF "holes" (.ref ph) (putF "high" (.int hi) (putF "wide" (.int wi) [])))
theorem uF (wi hi:Int) (ph pf:Addr):(fu wi hi ph pf).lookup ("wide":Str)=some (.int wi):=by unfold fu;rw [am,if_neg (by decide+kernel),am,if_neg (by decide+kernel),am,if_neg (by decide+kernel),am,if_pos rfl]
theorem uG (wi hi:Int) (ph pf:Addr):(fu wi hi ph pf).lookup ("high":Str)=some (.int hi):=by unfold fu;rw [am,if_neg (by decide+kernel),am,if_neg (by decide+kernel),am,if_pos rfl]
theorem sR (wi hi:Int) (ph pf:Addr):(fu wi hi ph pf).lookup ("holes":Str)=some (.ref ph):=by unfold fu;rw [am,if_neg (by decide+kernel),am,if_pos rfl]
theorem uH (wi hi:Int) (ph pf:Addr):(fu wi hi ph pf).lookup ("firm":Str)=some (.ref pf):=by unfold fu;rw [am,if_pos rfl]
theorem Dj (wi hi:Int) (ph pf:Addr) {m:Str}(h1:¬m="wide") (h2:¬m="high") (h3:¬m="holes") (h4:¬m="firm"):(fu wi hi ph pf).lookup m=none:=by unfold fu;rw [am,if_neg h4,am,if_neg h3,am,if_neg h2,am,if_neg h1];rfl
def firmL (wi hi:Int) (hs:List Int):List Bool:=(List.range (wi*hi).toNat).map λ (s:Nat)=> !decide ((s:Int)∈hs)
structure bJ (K:Frag) (C:Addr) (H:Hp) (p:Addr) (wi hi:Int) (hs:List Int):Prop where
 ex:∃dx ph pf,H p=some (.ins C dx (fu wi hi ph pf))/\H ph=some (.lst (hs.map V.int))/\H pf=some (.lst ((firmL wi hi hs).map V.bl))
 w1:1<=wi
 w8:wi<=8
 h1:1<=hi
 h8:hi<=8
 good:∀h∈hs,0<=h/\h<wi*hi
 srt:hs.Pairwise (·<=·)
 nd:hs.Nodup
section
variable {K:Frag}{C:Addr}{H H':Hp}{p:Addr}{wi hi:Int}{hs:List Int}
theorem bJ.same (B:bJ K C H p wi hi hs) (s:ak H H'):bJ K C H' p wi hi hs:=by obtain ⟨⟨dx,ph,pf,a,b,c⟩,w1,w8,h1,h8,g,sr,nd⟩:=B;exact ⟨⟨dx,ph,pf,s _ _ a,s _ _ b,s _ _ c⟩,w1,w8,h1,h8,g,sr,nd⟩
theorem bJ.wide (B:bJ K C H p wi hi hs) (D:gX K C):Fl K H p "wide" (.int wi):=by obtain ⟨dx,ph,pf,a,_,_⟩:=B.ex;exact ⟨C,dx,_,a,D.cl,D.wide,uF _ _ _ _⟩
theorem bJ.high (B:bJ K C H p wi hi hs) (D:gX K C):Fl K H p "high" (.int hi):=by obtain ⟨dx,ph,pf,a,_,_⟩:=B.ex;exact ⟨C,dx,_,a,D.cl,D.high,uG _ _ _ _⟩
theorem bJ.firm (B:bJ K C H p wi hi hs) (D:gX K C):∃pf,Fl K H p "firm" (.ref pf)/\H pf=some (.lst ((firmL wi hi hs).map V.bl)):=by obtain ⟨dx,ph,pf,a,_,c⟩:=B.ex;exact ⟨pf,⟨C,dx,_,a,D.cl,D.firm,uH _ _ _ _⟩,c⟩
theorem bJ.holes (B:bJ K C H p wi hi hs) (D:gX K C):∃ph,Fl K H p "holes" (.ref ph)/\H ph=some (.lst (hs.map V.int)):=by obtain ⟨dx,ph,pf,a,b,c⟩:=B.ex;exact ⟨ph,⟨C,dx,_,a,D.cl,D.holes,sR _ _ _ _⟩,b⟩
theorem bJ.no (B:bJ K C H p wi hi hs) {m:Str}(h1:¬m="wide":=by decide+kernel) (h2:¬m="high":=by decide+kernel) (h3:¬m="holes":=by decide+kernel) (h4:¬m="firm":=by decide+kernel):oz C m H p:=by obtain ⟨dx,ph,pf,a,b,c⟩:=B.ex;exact ⟨dx,_,a,Dj _ _ _ _ h1 h2 h3 h4⟩
theorem bJ.many (B:bJ K C H p wi hi hs):1<=wi*hi/\wi*hi<=64:=by have a:=B.w1;have b:=B.w8;have c:=B.h1;have d:=B.h8;have e1:1*1<=wi*hi:=Gw a c (by omega) (by omega);have e2:wi*hi<=8*8:=Gw b d (by omega) (by omega);omega
theorem uw {s:Int}(h0:0<=s) (h1:s<wi*hi):atI ((firmL wi hi hs).map V.bl) s=some (.bl (!decide (s∈hs))):=by
 have e:s=((s.toNat:Nat):Int):=by omega
 have hl:s.toNat<(wi*hi).toNat:=by omega
 have:((firmL wi hi hs).map V.bl)[s.toNat]? =some (.bl (!decide (((s.toNat:Nat):Int)∈hs))):=by unfold firmL;rw [EB,EB,E3 hl];rfl
 have q:=bq this;rw [<-e] at q;exact q
theorem lP:(firmL wi hi hs).length=(wi*hi).toNat:=by unfold firmL;simp
end
def sqK (wi s ax up:Int) (k:Nat):Int:=(s / wi+k*up)*wi+(s % wi+k*ax)
def okK (wi hi:Int) (hs:List Int) (s ax up:Int) (k:Nat):Prop:=0<=s % wi+k*ax/\s % wi+k*ax<wi/\0<=s / wi+k*up/\s / wi+k*up<hi/\¬sqK wi s ax up k∈hs
instance {wi hi:Int} {hs:List Int} {s ax up:Int} {k:Nat}:Decidable (okK wi hi hs s ax up k):=by unfold okK;infer_instance
def xb:Sp:=λ vs H Q _=> ∃t a b:Int,vs=[.int t,.int a,.int b]/\Q (.bl (decide (a<=t/\t<=b))) H
def kY:Sp:=λ vs H Q _=> ∃(d:Addr) (m:Int) (hs:List Int),vs=[.ref d,.int m]/\H d=some (.lst (hs.map V.int))/\(∀h∈hs,0<=h/\h<m)/\hs.Nodup/\(hs.length:Int)<m/\m<=64/\∀H',ak H H'->Q (.bl true) H'
def nQ (K:Frag) (C:Addr):Sp:=λ vs H Q _=> ∃(p d dx:Addr) (wi hi:Int) (hs:List Int),vs=[.ref p,.int wi,.int hi,.ref d]/\H p=some (.ins C dx [])/\H d=some (.lst (hs.map V.int))/\1<=wi/\wi<=8/\1<=hi/\hi<=8/\(∀h∈hs,0<=h/\h<wi*hi)/\hs.Nodup/\(hs.length:Int)<wi*hi/\
 ∀(hs':List Int) H',hs'.Perm hs->bJ K C H' p wi hi hs'->SameBut p H H'->Q .non H'
structure CA (P:Program) (w:World) (K:Frag) (mg:Str->Option Value) (base:Heap):Prop where
 is_among:eW P w K mg base "is_among" ["thing","least","most"] 2 xb
structure CB2 (P:Program) (w:World) (K:Frag) (mg:Str->Option Value) (base:Heap):Prop extends CA P w K mg base where
 are_holes:eW P w K mg base "are_holes" ["thing","many"] 3 kY
end L2
namespace L2
open PySem PySem.Spec PyProof.Rows
section
variable {X:Cx}{pins:List (Addr×Obj)}{σ:St}{H:Hp}{s:Shared}{h':Heap}
theorem aq.turned_laid {t':Nat}{e it a:Addr}{o:HO}(I:aq X pins σ H s) (k:∀b ob,b≠e->b≠it->s.heap.get? b=some ob->h'.get? b=some ob) (he:eV X pins H e) (hi:eV X pins H it) (hp:s.heap.objs.size<=a) (new:bg X.prog X.w (upd H a o) h' a o):
  aq X pins σ (upd H a o) {s with heap:=h',toks:=t'}:=by
 obtain ⟨e0,e1,e2,e3,e4,e5⟩:=he;obtain ⟨i0,i1,i2,i3,i4,i5⟩:=hi;have hn:H a=none:=I.hok.fresh hp;have ne:∀b u,H b=some u->b≠e:=λ b u q z=>by rw [z,e0] at q;cases q
 have nit:∀b u,H b=some u->b≠it:=λ b u q z=>by rw [z,i0] at q;cases q
 have kk:∀b ob,b∉[e,it]->s.heap.get? b=some ob->h'.get? b=some ob:=λ b ob hc q=>k b ob (λ z=>hc (by simp [z])) (λ z=>hc (by simp [z])) q;refine I.step (g':=s.gens) (d':=s.drawn) (ch:=[e,it]) (λ b hb=>?_) (λ b ob _ _ hc q _=>kk b ob hc q) (λ b ob _ _ hc q _=>⟨ob.slots,kk b ob hc q⟩)
  (λ b ob hc q n=>by rw [ah (Gb (Gf (Heap.lt_size q) hp))];exact n) (λ b ob hc q=>⟨ob,kk b ob hc q⟩) (λ b xs q=>by rw [ah (ag q hn)];exact q) (λ b ob u q=>by rw [ah (ag q hn)];exact q)
  (λ b ps q=>⟨#[],by rw [ah (ag q hn),q];simp⟩) (λ m hm=>?_) (λ b u q=>?_) I.bare
 ·rcases Ew.mp hb with rfl | hb
  ·exact ⟨e3,e1,e4,e5⟩
  ·rw [EL.mp hb];exact ⟨i3,i1,i4,i5⟩
 ·obtain ⟨ob,es,ep,ho,r⟩:=hm;exact ⟨ob,es,ep,k _ ob (Ne.symm e1) (Ne.symm i1) ho,r⟩
 ·by_cases hb:b=a
  ·subst hb;rw [af] at q;cases q;exact new
  ·rw [ah hb] at q;refine (I.hok b u q).stay (λ c v hc z=>k c v ?_ ?_ z) (λ c z=>by rw [ah (ag z hn)];exact z) λ c xs z=>by rw [ah (ag z hn)];exact z
   ·rcases hc with z | z
    ·rw [z];exact ne b u q
    ·exact ne c _ z
   ·rcases hc with z | z
    ·rw [z];exact nit b u q
    ·exact nit c _ z
theorem aq.turned2 {t':Nat}{e it:Addr}(I:aq X pins σ H s) (k:∀b ob,b≠e->b≠it->s.heap.get? b=some ob->h'.get? b=some ob) (he:eV X pins H e) (hi:eV X pins H it):aq X pins σ H {s with heap:=h',toks:=t'}:=by
 obtain ⟨e0,e1,e2,e3,e4,e5⟩:=he;obtain ⟨i0,i1,i2,i3,i4,i5⟩:=hi;have ne:∀b u,H b=some u->b≠e:=λ b u q z=>by rw [z,e0] at q;cases q
 have nit:∀b u,H b=some u->b≠it:=λ b u q z=>by rw [z,i0] at q;cases q
 have kk:∀b ob,b∉[e,it]->s.heap.get? b=some ob->h'.get? b=some ob:=λ b ob hc q=>k b ob (λ z=>hc (by simp [z])) (λ z=>hc (by simp [z])) q;refine I.step (g':=s.gens) (d':=s.drawn) (ch:=[e,it]) (λ b hb=>?_) (λ b ob _ _ hc q _=>kk b ob hc q) (λ b ob _ _ hc q _=>⟨ob.slots,kk b ob hc q⟩)
  (λ _ _ _ _ n=>n) (λ b ob hc q=>⟨ob,kk b ob hc q⟩) (λ _ _ q=>q) (λ _ _ _ q=>q)
  (λ b ps q=>⟨#[],by rw [q];simp⟩) (λ m hm=>?_) (λ b u q=>?_) I.bare
 ·rcases Ew.mp hb with rfl | hb
  ·exact ⟨e3,e1,e4,e5⟩
  ·rw [EL.mp hb];exact ⟨i3,i1,i4,i5⟩
 ·obtain ⟨ob,es,ep,ho,r⟩:=hm;exact ⟨ob,es,ep,k _ ob (Ne.symm e1) (Ne.symm i1) ho,r⟩
 ·refine (I.hok b u q).stay (λ c v hc z=>k c v ?_ ?_ z) (λ c z=>z) λ c xs z=>z
  ·rcases hc with z | z
   ·rw [z];exact ne b u q
   ·exact ne c _ z
  ·rcases hc with z | z
   ·rw [z];exact nit b u q
   ·exact nit c _ z
end
def Ds (K:Frag) (a:Addr):It:=
 ⟨λ i H=> ∃xs x,aL K H a xs/\xs[i]? =some x,λ i H x H'=> ∃t v,x=.ref t/\H t=none/\H'=upd H t (.tup [.int (i:Int),v])/\∀xs,aL K H a xs->xs[i]? =some v,λ i H=> ∃xs,aL K H a xs/\xs.length<=i⟩
theorem me {P:Program}{w:World}{K:Frag}{elts:List Expr}{k0:Nat}{pos:Pos}(a e it:Addr) (hne:e≠it):pZ P w K (.Tuple elts k0 pos) (Ds K a) [e,it] e (λ i h=>(∃old,IsEnum h e it (i:Int) old)/\h.IsListIter it a i) where
 mem:=by simp
 obj:=λ i h st b hb=>by
  obtain ⟨⟨old,he⟩,o,ho,c,d⟩:=st
  rcases Ew.mp hb with rfl | hb
  ·exact ⟨_,he,λ v z=>by cases z⟩
  ·rw [EL.mp hb];exact ⟨o,ho,λ v z=>by rw [d] at z;cases z⟩
 keep:=λ i h h' st k=>by obtain ⟨⟨old,he⟩,hi⟩:=st;exact ⟨⟨old,k e (by simp) _ he⟩,hi.at λ o x=>k it (by simp) o x⟩
 item:=by
  intro X hP hw hK hc i pins s σ H E I hf st hg;subst hP hw hK;obtain ⟨xs,x,hq,hx⟩:=hg;obtain ⟨its,rv,p,hz⟩:=I.list hq;obtain ⟨u,hu,ru⟩:=rv.get hx;obtain ⟨⟨old,he⟩,hit⟩:=st;have fe:=hf e (by simp);have fi:=hf it (by simp);obtain ⟨oL,hoL,hcL,nL,hdL⟩:=p.isList;have hai:a≠it:=λ z=>by subst z;obtain ⟨o',ho',hc',_⟩:=hit;rw [hoL] at ho';cases ho';rw [hcL] at hc';injection hc' with hz';exact absurd hz' (by decide)
  have hae:a≠e:=λ z=>by subst z;have he':s.heap.get? a=_:=he;rw [hoL] at he';cases he';injection hcL with hz';exact absurd hz' (by decide)
  have D:=Draws.list (prog:=X.prog) (w:=X.w) (A:=X.A.in1) (by show X.A.handled=none;exact I.ok.hd hc) it a hai its.toArray;have hlt:i<its.toArray.size:=by have:=(EH.mp hu).1;simpa using this
  refine wpAny_pyNext_enum_itemD D he ⟨hit,p.isList⟩ hlt hne (by simp [hne,hae.symm]) λ x' h1 tk hP' ho hs' hT hsz hk=>?_;have ex:x'=u:=by have:its.toArray[i]? =some x':=hP';rw [FO,hu] at this;exact (Option.some.inj this).symm
  subst ex;refine ⟨_,rfl,wpAny_letOwnedTupleGo_enum ho λ h2 he2 sb=>?_⟩;have hlt2:e<s.heap.objs.size:=Heap.lt_size he;have kk:∀b ob,b≠e->b≠it->s.heap.get? b=some ob->h2.get? b=some ob:=λ b ob b1 b2 q=>(sb.2 b b1).trans (hk b ob b1 b2 q);have hT2:h2.get? s.heap.objs.size=some {cls:=.type "tuple",data:=.seq #[.int i tk,x']}:=(sb.2 _ (Gj hlt2)).trans hT;have new:bg X.prog X.w (upd H s.heap.objs.size (.tup [.int (i:Int),x])) h2 s.heap.objs.size (.tup [.int (i:Int),x]):=
   ⟨by show 2<=sizeLine;decide,[.int i tk,x'],.cons ⟨tk,rfl⟩ (.cons ru .nil),⟨_,hT2,rfl,_,rfl⟩⟩
  have I2:=I.turned_laid (t':=tk+1) kk fe fi (Gc _) new;refine ⟨.ref s.heap.objs.size,_,I2,rfl,⟨_,x,rfl,I.hok.fresh (Gc _),rfl,λ ys hy=>by rw [I.list_inj hy hq];exact hx⟩,⟨⟨_,by simpa using he2⟩,hs'.1.at λ o z=>(sb.2 it (Ne.symm hne)).trans z⟩,λ b hb=>?_⟩
  rcases Ew.mp hb with rfl | hb
  ·rw [ah (Gb hlt2)];exact fe.1
  ·rw [EL.mp hb];obtain ⟨o',ho',_⟩:=hit;rw [ah (Gb (Heap.lt_size ho'))];exact fi.1
 done:=by
   intro X hP hw hK hc i pins s σ H E I hf st hg;subst hP hw hK;obtain ⟨xs,hq,hx⟩:=hg;obtain ⟨its,rv,p,hz⟩:=I.list hq;obtain ⟨⟨old,he⟩,hit⟩:=st;have fe:=hf e (by simp);have fi:=hf it (by simp);have hl:=rv.length;obtain ⟨oL,hoL,hcL,nL,hdL⟩:=p.isList;have hai:a≠it:=λ z=>by subst z;obtain ⟨o',ho',hc',_⟩:=hit;rw [hoL] at ho';cases ho';rw [hcL] at hc';injection hc' with hz';exact absurd hz' (by decide)
   have hT:s.TypeIs (.ref e) "enumerate":=⟨_,he,rfl⟩;unfold pyNext;refine wpAny_bind (wpAny_attempt (wpAny_callSpecial?_slot (name:=Str.ofString "__next__") hT F.slot_enumerate_next
    (wpAny_call_entry F.slot_enumerate_next hT F.entry_enumerate_next ?_ (F.args_enumerate_next_1 _))))
   show wpAny _ _ (field (.ref e) 2 >>= _) _ _ _;refine wpAny_bind (wpAny_field he rfl (x:=.ref it) rfl ?_);refine wpAny_bind (wpAny_nextOf_list_end (by show X.A.handled=none;exact I.ok.hd hc) hit p.isList (by simp;omega) λ h' x he' hx'=>?_);obtain ⟨o,ho,hcx⟩:=hx';refine wpAny_bind (wpAny_isInstance (T:="StopIteration") (b:=true) ⟨o,ho,hcx⟩ isSubtype_stop ?_);exact wpAny_pure ⟨rfl,I.turned2 (t':=s.toks) (λ b ob _ b2 q=>he' b ob b2 q) fe fi⟩
 self:=λ A i s Q E st h=>by obtain ⟨⟨old,he⟩,_⟩:=st;exact wpAny_pyIter_enum he h
end L2
namespace L2
open PySem PySem.Spec PyProof.Rows
def sZ (x:Str):It:=
 ⟨λ i _=>i<x.cps.size,λ i H v H'=> ∃t c,v=.ref t/\H t=none/\x.cps.toList[i]? =some c/\H'=upd H t (.tup [.int (i:Int),.str ⟨#[c]⟩]),λ i _=>i=x.cps.size⟩
theorem jE {prog:Program}{w:World}{A:Around}(hh:A.handled=none) (it:Addr) (x:Str) (t:Tok):Draws prog w A it [it] x.cps.size (λ i v=> ∃c u,x.cps[i]? =some c/\v=.str ⟨#[c]⟩ u) (λ i h=>h.IsStrIter it (strIterType x) x t i):=by
 unfold strIterType;split
 ·exact Draws.strAscii hh it x t
 ·exact Draws.strWide hh it x t
theorem md {P:Program}{w:World}{K:Frag}{elts:List Expr}{k0:Nat}{pos:Pos}(e it:Addr) (x:Str) (t:Tok) (hne:e≠it):pZ P w K (.Tuple elts k0 pos) (sZ x) [e,it] e (λ i h=>(∃old,IsEnum h e it (i:Int) old)/\h.IsStrIter it (strIterType x) x t i) where
 mem:=by simp
 obj:=λ i h st b hb=>by
  obtain ⟨⟨old,he⟩,o,ho,c,d⟩:=st
  rcases Ew.mp hb with rfl | hb
  ·exact ⟨_,he,λ v z=>by cases z⟩
  ·rw [EL.mp hb];exact ⟨o,ho,λ v z=>by rw [d] at z;cases z⟩
 keep:=λ i h h' st k=>by obtain ⟨⟨old,he⟩,o,ho,r⟩:=st;exact ⟨⟨old,k e (by simp) _ he⟩,o,k it (by simp) o ho,r⟩
 item:=by
  intro X hP hw hK hc i pins s σ H E I hf st hg;subst hP hw hK;obtain ⟨⟨old,he⟩,hit⟩:=st;have fe:=hf e (by simp);have fi:=hf it (by simp);have D:=jE (prog:=X.prog) (w:=X.w) (A:=X.A.in1) (by show X.A.handled=none;exact I.ok.hd hc) it x t;refine wpAny_pyNext_enum_itemD D he hit hg hne (by simp [hne]) λ x' h1 tk hP' ho hs' hT hsz hk=>?_;obtain ⟨c,u,hcx,rfl⟩:=hP';refine ⟨_,rfl,wpAny_letOwnedTupleGo_enum ho λ h2 he2 sb=>?_⟩;have hlt2:e<s.heap.objs.size:=Heap.lt_size he;have kk:∀b ob,b≠e->b≠it->s.heap.get? b=some ob->h2.get? b=some ob:=λ b ob b1 b2 q=>(sb.2 b b1).trans (hk b ob b1 b2 q);have hT2:h2.get? s.heap.objs.size=some {cls:=.type "tuple",data:=.seq #[.int i tk,.str ⟨#[c]⟩ u]}:=(sb.2 _ (Gj hlt2)).trans hT;have new:bg X.prog X.w (upd H s.heap.objs.size (.tup [.int (i:Int),.str ⟨#[c]⟩])) h2 s.heap.objs.size (.tup [.int (i:Int),.str ⟨#[c]⟩]):=
   ⟨by show 2<=sizeLine;decide,[.int i tk,.str ⟨#[c]⟩ u],.cons ⟨tk,rfl⟩ (.cons ⟨u,rfl⟩ .nil),⟨_,hT2,rfl,_,rfl⟩⟩
  have I2:=I.turned_laid (t':=tk+1) kk fe fi (Gc _) new;have hs2:h2.IsStrIter it (strIterType x) x t (i+1):=by obtain ⟨o',ho',r⟩:=hs';exact ⟨o',(sb.2 it (Ne.symm hne)).trans ho',r⟩
  refine ⟨.ref s.heap.objs.size,_,I2,rfl,⟨_,c,rfl,I.hok.fresh (Gc _),by rw [GM];exact hcx,rfl⟩,⟨⟨_,by simpa using he2⟩,hs2⟩,λ b hb=>?_⟩
  rcases Ew.mp hb with rfl | hb
  ·rw [ah (Gb hlt2)];exact fe.1
  ·rw [EL.mp hb];obtain ⟨o',ho',_⟩:=hit;rw [ah (Gb (Heap.lt_size ho'))];exact fi.1
 done:=by intro X hP hw hK hc i pins s σ H E I hf st hg;subst hP hw hK;obtain ⟨⟨old,he⟩,hit⟩:=st;have hg:i=x.cps.size:=hg;subst hg;have fe:=hf e (by simp);have fi:=hf it (by simp);have D:=jE (prog:=X.prog) (w:=X.w) (A:=X.A.in1) (by show X.A.handled=none;exact I.ok.hd hc) it x t;exact wpAny_pyNext_enum_endD D he hit λ h' hx=>⟨rfl,I.turned2 (t':=s.toks) (λ b ob _ b2 q=>hx b ob b2 q) fe fi⟩
 self:=λ A i s Q E st h=>by obtain ⟨⟨old,he⟩,_⟩:=st;exact wpAny_pyIter_enum he h
section
variable {X:Cx}{p pos pos2:Pos}{a:Expr}{elts:List Expr}{k0:Nat}{ta:TE}
def rF (K:Frag) (ta:TE):TI:=λ σ H R=>ta σ H λ x H1=>match x with
 | .ref d=>(∃xs,aL K H1 d xs)/\R (Ds K d) H1
 | .str z=>R (sZ z) H1
 | _=>False
theorem tS (hm:X.mg "enumerate"=none) (ha:PE X a ta) (hg:Gl X "enumerate":=by rfl) (hs:starEach [a] X.env=[(false,eval a X.env)]:=by rfl):PI X (.Tuple elts k0 pos2) (.Call (.Name "enumerate" p) [a] [] pos) (rF X.K ta):=by
 intro pins s σ H R I h;have hA:PA X [a] (aC ta bu):=pa_cons ha pa_nil (by rw [hs];rfl);refine Call_ (eF I hg hm kH (PyProof.Rows.callWith_type1 (bx (hA pos pins s σ H (λ vs H1=> ∃x,vs=[x]/\(match x with | .ref d=>(∃xs,aL X.K H1 d xs)/\R (Ds X.K d) H1 | .str z=>R (sZ z) H1 | _=>False)) I ?_) λ us s1 ⟨vs,H1,I1,r1,x,e1,q1⟩=>?_) (by rw [hs];rfl) rfl) (by decide) (by decide))
 ·show ta σ H _;have e:(λ (x:V) (H1:Hp)=>match x with | .ref d=>(∃xs,aL X.K H1 d xs)/\R (Ds X.K d) H1 | .str z=>R (sZ z) H1 | _=>False)=λ x H1=>bu σ H1 λ xs H2=> ∃y,x::xs=[y]/\(match y with | .ref d=>(∃xs,aL X.K H2 d xs)/\R (Ds X.K d) H2 | .str z=>R (sZ z) H2 | _=>False):=by
   funext x H1;apply propext
   constructor
   ·intro q;exact ⟨x,rfl,q⟩
   ·rintro ⟨y,e,q⟩;have:x=y:=by injection e
    subst this;exact q
  rw [<-e];exact h
 ·subst e1;obtain ⟨u,rfl,ru⟩:=cr r1;cases x with
  | ref d=>
    obtain ⟨⟨xs,hq⟩,q⟩:=q1;cases ru;obtain ⟨its,rv,pl,hz⟩:=I1.list hq;refine call_enumerate_list pl.isList λ h' he hit hsz hk=>?_;have I2:aq X pins σ H1 {s1 with heap:=h'}:=I1.kept (t':=s1.toks) hk;refine wpAny_pyIter_enum he ⟨s1.heap.objs.size+1,[s1.heap.objs.size+1,s1.heap.objs.size],_,_,H1,rfl,I2,me d _ _ (Gp _),⟨⟨_,he⟩,hit⟩,λ b hb=>?_,q⟩
    rcases Ew.mp hb with rfl | hb
    ·exact I1.fpOk (Gg _) (I1.hok.fresh (Gg _))
    ·rw [EL.mp hb];exact I1.fpOk (Gc _) (I1.hok.fresh (Gc _))
  | str z=>
    obtain ⟨t,rfl⟩:=ru;refine call_enumerate_str λ h' he hit hsz hk=>?_;have I2:aq X pins σ H1 {s1 with heap:=h'}:=I1.kept (t':=s1.toks) hk;refine wpAny_pyIter_enum he ⟨s1.heap.objs.size+1,[s1.heap.objs.size+1,s1.heap.objs.size],_,_,H1,rfl,I2,md _ _ z t (Gp _),⟨⟨_,he⟩,hit⟩,λ b hb=>?_,q1⟩
    rcases Ew.mp hb with rfl | hb
    ·exact I1.fpOk (Gg _) (I1.hok.fresh (Gg _))
    ·rw [EL.mp hb];exact I1.fpOk (Gc _) (I1.hok.fresh (Gc _))
  | _=>exact q1.elim
theorem CK (K:Frag) (hm:X.mg "enumerate"=none) (ha:PE X a ta) (hg:Gl X "enumerate":=by rfl) (hs:starEach [a] X.env=[(false,eval a X.env)]:=by rfl) (hK:X.K=K:=by rfl):PI X (.Tuple elts k0 pos2) (.Call (.Name "enumerate" p) [a] [] pos) (rF K ta):=by subst hK;exact tS hm ha hg hs
end
end L2
namespace L2
open PySem PySem.Spec PyProof.Rows
section
variable {X:Cx}
end
end L2
namespace L2
open PySem PySem.Spec PyProof.Rows
abbrev one (c:Nat):Str:=⟨#[c]⟩
def Dq (c:Nat):Prop:=97<=c/\c<=122
theorem sW:("abcdefghijklmnopqrstuvwxyz":Str).cps.toList=[97,98,99,100,101,102,103,104,105,106,107,108,109,110,111,112,113,114,115,116,117,118,119,120,121,122]:=by decide+kernel
theorem za {i:Int}(h0:0<=i) (h1:i<26):atI ("abcdefghijklmnopqrstuvwxyz":Str).cps.toList i=some (97+i.toNat):=by
 have e:i=((i.toNat:Nat):Int):=by omega
 have hx:∀k<26,("abcdefghijklmnopqrstuvwxyz":Str).cps.toList[k]? =some (97+k):=by rw [sW];decide
 have q:=bq (hx i.toNat (by omega));rw [<-e] at q;exact q
theorem tJ:(".":Str)=one 46:=by decide+kernel
theorem qs:("#":Str)=one 35:=by decide+kernel
section
variable {K:Frag}{σ rest:St}{H:Hp}{te ta tb tl:TE}{tt:TT}{R:Bool->Hp->Prop}{Q:VK}{c:Nat}{z:Str}{src:List (Option Nat)}
theorem CZ (ha:Ev ta σ H (.str (one c))) (hc:Dq c):Ev (Dc B9 ta) σ H (.str (one (c - 32))):=λ Q q=>ha _ (by
 show B9 (.str (one c)) [] H Q;rw [D8];refine ⟨by show 1<=sizeLine;decide,λ d hd=>?_,?_⟩
 ·have e:d=c:=by simpa [one] using hd
  have:=hc.2;omega
 have e:(⟨(one c).cps.map up1⟩:Str)=one (c - 32):=by
  show (⟨#[c].map up1⟩:Str)=_;have:up1 c=c - 32:=by unfold up1;exact if_pos hc
  simp [one,this]
 rw [e];exact q)
end
theorem jw (cs:List Nat):Txt.join ("":Str) (cs.map one)=⟨cs.toArray⟩:=by
 have key:∀(r:List Nat) (acc:Array Nat),(r.map one).foldl (λ acc p=>acc++("":Str).cps++p.cps) acc=acc++r.toArray:=by
  intro r
  induction r with
  | nil=>intro acc;simp
  | cons a r ih=>
    intro acc;rw [EJ,List.foldl_cons,ih];have e:("":Str).cps= #[]:=by decide+kernel
    rw [e];apply GP.mp;simp [one]
 unfold Txt.join Builtin.Str.glued;cases cs with
 | nil=>rfl
 | cons a r=>
   show (⟨((r.map one).foldl (λ acc p=>acc++("":Str).cps++p.cps) (one a).cps)⟩:Str)=_;rw [key];apply nF;simp [one]
def gR (wi hi:Int) (hs:List Int):Str:=⟨((List.range (wi*hi).toNat).map λ (s:Nat)=>if (s:Int)∈hs then 35 else 46).toArray⟩
def xa (K:Frag) (C:Addr):Sp:=λ vs H Q _=> ∃(p:Addr) (wi hi:Int) (hs:List Int) (s:Int),vs=[.ref p,.int s]/\bJ K C H p wi hi hs/\Q (.bl (decide (0<=s/\s<wi*hi/\¬s∈hs))) H
def nO (K:Frag) (C:Addr):Sp:=λ vs H Q _=> ∃(p:Addr) (wi hi:Int) (hs:List Int),vs=[.ref p]/\bJ K C H p wi hi hs/\∀H',ak H H'->Q (.str (gR wi hi hs)) H'
section
variable {K:Frag}{σ:St}{H:Hp}{tb:TE}{t:TA}{op:CmpOp}{R:Bool->Hp->Prop}{vs:List V}{sp:Sp}
theorem sh:Ev (tC (.str ".")) σ H (.str (one 46)):=by rw [<-tJ];exact au
theorem io:Ev (tC (.str "#")) σ H (.str (one 35)):=by rw [<-qs];exact au
end
theorem Ci {σ:St}{H:Hp}{Q:VK}{to te:TE}{z:Str}{r:V->List V->Hp->VK->Prop}(ho:Ev to σ H (.str z)) (q:te σ H λ x H2=>r (.str z) [x] H2 Q):Dd r to (aC te bu) σ H Q:=ho _ q
structure CP2 (P:Program) (w:World) (K:Frag) (mg:Str->Option Value) (base:Heap) (cB:Addr):Prop where
 Board_has:ny P w K mg base cB "has" ["self","square"] 3 (xa K cB)
end L2
namespace L2
open PySem PySem.Spec PyProof.Rows
section
variable {K:Frag}{σ rest:St}{H:Hp}{te to ta tb tl:TE}{t:TA}{tt u:TT}{src:List (Option Nat)}{Q:VK}{R:Bool->Hp->Prop}{D:bZ}{g:TG}{tB:TS}{v x y:V}{vs:List V}{sp:Sp}
theorem Cb (h:Tv tt σ H false) (q:u σ H R):Dw tt u σ H R:=h _ (hV q)
theorem Ct {ns:List Int}{i:Int}(h0:0<=i) (h1:i<ns.length):∃n:Int,atI (ns.map V.int) i=some (.int n)/\n∈ns:=by
 have hlt:i.toNat<ns.length:=by omega
 have e:(ns.map V.int)[i.toNat]? =some (.int ns[i.toNat]):=by rw [EB,Ex hlt];rfl
 have q:=bq e;have ei:((i.toNat:Nat):Int)=i:=by omega
 rw [ei] at q;exact ⟨_,q,EZ hlt⟩
theorem Cs {xs:List V}{i:Int}(h0:0<=i) (h1:i<xs.length):∃v,atI xs i=some v/\v∈xs:=by
 have hlt:i.toNat<xs.length:=by omega
 have q:=bq (Ex hlt);have ei:((i.toNat:Nat):Int)=i:=by omega
 rw [ei] at q;exact ⟨_,q,EZ hlt⟩
end
def sG (ns:List Int) (k:Int):Int:=ns.getD k.toNat 0
def c5 (c:Nat):V:=.str (one c)
def lc (K:Frag):Sp:=λ vs H Q _=> ∃(a:Addr) (ns:List Int) (k:Int),vs=[.ref a,.int k]/\aL K H a (ns.map V.int)/\0<=k/\Q (.int (sG ns k)) H
end L2
namespace L2
open PySem PySem.Spec PyProof.Rows
section
variable {κ:Type} [DecidableEq κ]
def jg (l:List κ) (x:κ):List κ:=if x∈l then l else l++[x]
def aB (val:Nat->κ):Nat->List κ
 | 0=>[]
 | i+1=>jg (aB val i) (val i)
theorem cM (val:Nat->κ):∀i,(aB val i).length<=i
 | 0=>Gc 0
 | i+1=>by
   have ih:=cM val i;show (jg (aB val i) (val i)).length<=i+1;unfold jg
   by_cases h:val i∈aB val i
   ·rw [if_pos h];omega
   ·rw [if_neg h,EF];show _+1<=_;omega
theorem iK (val:Nat->κ) (x:κ):∀i,x∈aB val i<->x∈(List.range i).map val
 | 0=>by simp [aB]
 | i+1=>by
   have ih:=iK val x i;show x∈jg (aB val i) (val i)<->_;rw [Fm,EM,ES,<-ih];unfold jg
   by_cases h:val i∈aB val i
   ·rw [if_pos h]
    constructor
    ·exact λ z=>.inl z
    ·rintro (z | z)
     ·exact z
     ·have:x=val i:=by simpa using z
      rw [this];exact h
   ·rw [if_neg h,ES];simp
theorem iJ (val:Nat->κ):∀i,(aB val i).length=i<->((List.range i).map val).Nodup
 | 0=>by simp [aB]
 | i+1=>by
   have ih:=iJ val i;have hle:=cM val i;have hm:=iK val (val i) i;show (jg (aB val i) (val i)).length=i+1<->_;rw [Fm,EM,Fn];unfold jg
   by_cases h:val i∈aB val i
   ·rw [if_pos h]
    constructor
    ·intro z;omega
    ·intro z;exact absurd rfl (z.2.2 (val i) (hm.mp h) (val i) (by simp))
   ·rw [if_neg h,EF]
    constructor
    ·intro z;have z:(aB val i).length+1=i+1:=z;refine ⟨ih.mp (by omega),by simp,λ a ha b hb e=>h (hm.mpr ?_)⟩;have:b=val i:=by simpa using hb
     rw [<-this,<-e];exact ha
    ·intro z;rw [ih.mpr z.1];rfl
end
section
variable {prog:Program}{w:World}{A:Around}{R:Result->Shared->Prop}{I:Addr}{fp wr:List Addr}{G:Array GenState->Array GenState->Prop}{n:Nat}{Pt:Nat->Value->Prop}{St:Nat->Shared->Prop}{κ:Type} [DecidableEq κ] {knd:KeyKind prog w κ}
theorem qF (W:WalksS prog w A.in1 I fp wr G n Pt St) (D:Addr) (hD:D∉fp) (val:Nat->κ) (hv:∀i v,Pt i v->knd.is (val i) v=true/\v.scannable=true) (hb:n+1<scanBound):
  ∀(k i:Nat) (s:Shared),n - i=k->i<=n->St i s->s.heap.SetOf knd D (λ x=>decide (x∈aB val i)) (aB val i).length->
   (∀s2,Moved (D::wr) G s s2->s2.heap.SetOf knd D (λ x=>decide (x∈aB val n)) (aB val n).length->R (.ok (.ret .none)) s2)->codeAny (model prog w) A (.builtin "set.update.loop" ⟨[.ref D,.ref I],[]⟩) R s:=by
 have nW:D∉wr:=λ z=>hD (W.sub _ z);have up:∀b∈wr,b∈D::wr:=λ b z=>Ez _ z;have mv:∀{s s2:Shared} {S:κ->Bool} {m:Nat},Moved wr G s s2->s.heap.SetOf knd D S m->s2.heap.SetOf knd D S m:=λ {s s2 S m} hm ⟨o,es,ep,t,ho,r⟩=>⟨o,es,ep,t,hm.heap D _ nW ho,r⟩;intro k
 induction k with
 | zero=>
   intro i s e1 e2 st hS hR;have e3:i=n:=by omega
   subst e3;refine codeAny_builtin F.entry_set_update_loop ?_;rw [Around.under_plainId F.plain_set_update_loop _];show wpAny _ A.in1 (pyNext (.ref I) >>= _) _ _ s;refine wpAny_bind (W.done s _ _ st λ s2 hm=>?_);show wpAny _ A.in1 (ret Value.none) _ _ s2;exact wpAny_pure (hR s2 (hm.mono up) (mv hm hS))
 | succ k ih=>
   intro i s e1 e2 st hS hR;have e3:i<n:=by omega
   refine codeAny_builtin F.entry_set_update_loop ?_;rw [Around.under_plainId F.plain_set_update_loop _];show wpAny _ A.in1 (pyNext (.ref I) >>= _) _ _ s;refine wpAny_bind (W.item i s _ _ e3 st λ v s2 hp st2 hm=>?_);obtain ⟨kv,sv⟩:=hv i v hp;have hS2:=mv hm hS;show wpAny _ A.in1 (holding [v] (setAdd D v) >>= _) _ _ s2;refine wpAny_bind (wpAny_holding ?_);unfold setAdd;refine wpAny_holding (wpAny_bind (knd.pyHash (k:=val i) kv ?_));have room:(aB val i).length+1<scanBound:=by have:=cM val i;omega
   refine wpAny_setAddHashed_of (knd:=knd) (s:={s2 with toks:=s2.toks+1}) kv sv hS2 room λ h2 sb hS3=>?_;have hS4:h2.SetOf knd D (λ x=>decide (x∈aB val (i+1))) (aB val (i+1)).length:=by
    refine SetOf_congr hS3 (λ x=>?_) ?_
    ·show (decide (x∈aB val i)||decide (x=val i))=decide (x∈jg (aB val i) (val i))
     unfold jg
     by_cases m:val i∈aB val i
     ·rw [if_pos m]
      by_cases e:x=val i
      ·subst e;rw [decide_eq_true m];simp
      ·rw [decide_eq_false e,GE]
     ·rw [if_neg m,GD];simp
    ·show (if decide (val i∈aB val i)=true then _ else _)=(jg (aB val i) (val i)).length;unfold jg
     by_cases m:val i∈aB val i
     ·rw [if_pos (decide_eq_true m),if_pos m]
     ·rw [if_neg (by rw [decide_eq_false m];decide),if_neg m,EF];rfl
   refine wpAny_pure ⟨plainId_quiet F.plain_set_update_loop _,ih (i+1) _ (by omega) e3 (W.frame _ s2 _ _ st2 (Gg _) λ b hb o e=>?_) hS4 λ s3 hm3 hS5=>?_⟩
   ·exact (sb.2 b (λ z:b=D=>hD (z▸hb))).trans e
   ·refine hR s3 (Moved.trans W.gtrans ((hm.mono up).then_heap (Gg _) λ b o hb e=>?_) hm3) hS5;exact (sb.2 b (λ z:b=D=>hb (by rw [z];exact ED))).trans e
end
section
variable {prog:Program}{w:World}{A:Around}{E:Value->Shared->Prop}{s:Shared}{κ:Type} [DecidableEq κ] {knd:KeyKind prog w κ}
abbrev bj (led:Bool):Obj:={cls:=.type "set",dict:=none,data:=.set #[] 0 (.fresh 0 0 led)}
theorem qE {l:Addr}{its:Array Value}{Q:Value->Shared->Prop}(val:Nat->κ) (hh:A.handled=none) (hl:s.heap.IsList l its) (hv:∀i v,its[i]? =some v->knd.is (val i) v=true/\v.scannable=true) (hb:its.size+1<scanBound)
  (k:∀(h2:Heap) (tk:Nat),h2.SetOf knd s.heap.objs.size (λ x=>decide (x∈aB val its.size)) (aB val its.size).length->(∀b o,b<s.heap.objs.size->s.heap.get? b=some o->h2.get? b=some o)->Q (.ref s.heap.objs.size) {s with heap:=h2,toks:=tk}):
  wpAny (model prog w) A (call (.type "set") [.ref l]) Q E s:=by
 obtain ⟨c0,tl0,hmro⟩:=F.called_set.mro;have hmade:=F.called_set.made;have hsub:=F.called_set.sub;have n1:=F.called_set.notType;have n2:=F.called_set.canCreate;have n3:=F.typeCall_set_1 (.ref l);refine wpAny_call (codeAny_of_tree ?_);show wpAny _ _ (callAny (.type "set") _) _ _ _;refine wpAny_pure ⟨Code.quiet_builtin _ (by decide+kernel),codeAny_builtin F.entry_type_call ?_⟩;rw [Around.under_plain (weight_type_call_type "set" [.ref l] []) rfl]
 repeat (any_goals (first | assumption | wp_step))
 refine codeAny_mono (code_set_new_1 (.ref l) (E:=E) (Q₁:=λ o s1=> ∃led:Bool,o=.ref s.heap.objs.size/\s1={s with heap:=s.heap.push (bj led)}) λ led=>⟨led,rfl,rfl⟩) λ r s1 hr=>?_;cases r with
 | error e=>exact hr
 | ok fl=>
   cases fl with
   | ret ob=>
     obtain ⟨led,rfl,rfl⟩:=hr;have g0:(s.heap.push (bj led)).get? s.heap.objs.size=some (bj led):=Heap.get?_push_size _ rfl;have ty:Shared.TypeIs {s with heap:=s.heap.push (bj led)} (.ref s.heap.objs.size) "set":=⟨_,g0,rfl⟩;have m1:=F.called_set.init.lookup;have m2:=F.called_set.init.bind (.ref s.heap.objs.size)
     repeat (any_goals (first | assumption | wp_step))
     refine codeAny_mono (codeAny_call_builtin (R:=wants (λ r s2=>r=.none/\∃h2 tk,s2={s with heap:=h2,toks:=tk}/\h2.SetOf knd s.heap.objs.size (λ x=>decide (x∈aB val its.size)) (aB val its.size).length/\
       (∀b o,b<s.heap.objs.size->s.heap.get? b=some o->h2.get? b=some o)) E) F.called_set.init.plain F.entry_set_init (check_set_init_1 ty ?_)) λ r2 s2 hr2=>?_
     ·obtain ⟨⟨oc,od,oda,osl⟩,ho,hc,nl,hd⟩:=hl;simp only at hc hd;subst hc;subst hd;have hol:(s.heap.push (bj led)).get? l=some {cls:=.type "list",dict:=od,data:=.seq its nl,slots:=osl}:=Heap.get?_push_of_some _ ho;have b1:=F.sub_list_set;have b2:=F.sub_list_frozenset;have b3:(Value.type "list" == Value.type "dict")=false:=by decide
      have hl1:(s.heap.push (bj led)).IsList l its:=⟨_,hol,rfl,nl,rfl⟩;unfold Builtin.«set.__init__» noKeywords Builtin.Frozenset.updateFrom;generalize hPI:pyIter=PI
      wp_walk
      subst hPI;refine wpAny_pyIter_list hl1 (wpAny_bind (wpAny_runValue ?_));have hlt:l<s.heap.objs.size:=Heap.lt_size ho;have h3:A.in1.in1.in1.handled=none:=by simp [hh]
      have sz:(s.heap.push (bj led)).objs.size=s.heap.objs.size+1:=Heap.size_push ..;have ne1:l≠(s.heap.push (bj led)).objs.size:=by rw [sz];exact Gb (Gm hlt)
      have ne2:s.heap.objs.size∉[(s.heap.push (bj led)).objs.size,l]:=by
       rw [sz];intro z
       rcases Ew.mp z with z | z
       ·exact Gp _ z.symm
       ·exact Gj hlt (EL.mp z)
      refine qF (knd:=knd) ((Walks.list h3 _ l ne1 its).toS) s.heap.objs.size ne2 val hv hb (its.size - 0) 0 _ (by omega) (Gd _) ⟨⟨_,Heap.get?_push_size _ rfl,rfl,rfl⟩,(hl1.push _)⟩ ?_ (λ s3 hm hS3=>?_)
      ·refine SetOf_congr ((setObjOf_fresh (knd:=knd) led).setOf (Heap.get?_push_of_some _ g0) (by unfold scanBound;omega)) (λ x=>?_) rfl;show false=decide (x∈([]:List κ));simp
      ·obtain ⟨hh3,gg3,dd3,tk3,os3⟩:=s3;obtain rfl:gg3=s.gens:=hm.gens;obtain rfl:dd3=s.drawn:=hm.drawn;obtain rfl:os3=s.os:=hm.os;show wpAny _ _ _ _ _ _;refine wpAny_pure ?_;show wpAny _ _ (ret Value.none) _ _ _;refine wpAny_pure ⟨rfl,hh3,tk3,rfl,hS3,λ b o hb2 e=>?_⟩;refine hm.heap b o ?_ (Heap.get?_push_of_some _ (Heap.get?_push_of_some _ e));rw [sz];intro z
       rcases Ew.mp z with z | z
       ·exact Gb hb2 z
       ·exact Gb (Gm hb2) (EL.mp z)
     ·cases r2 with
      | error e=>exact hr2
      | ok fl2=>
        cases fl2 with
        | ret r3=>
          obtain ⟨rfl,h2,tk,rfl,hS2,kp⟩:=hr2
          repeat (any_goals (first | assumption | wp_step))
          exact k _ _ hS2 kp
        | _=>exact hr2.elim
   | _=>exact hr.elim
end
def gY (ss:List Str):List Str:=aB (λ i=>ss.getD i Str.empty) ss.length
theorem fA (ss:List Str):(gY ss).length=ss.length<->ss.Nodup:=by
 unfold gY;rw [iJ];have e:(List.range ss.length).map (λ i=>ss.getD i Str.empty)=ss:=by
  apply Fc;intro i;rw [EB]
  by_cases h:i<ss.length
  ·rw [E3 h,Ex h];show some (ss.getD i Str.empty)=_;rw [EQ,Ex h];rfl
  ·rw [E1 (by rw [EK];omega),E1 (by omega)];rfl
 rw [e]
section
variable {X:Cx}
def nT (K:Frag) (xs:List V) (H:Hp) (Q:VK):Prop:=match xs with
 | [.ref d]=> ∃ss:List Str,aL K H d (ss.map V.str)/\ss.length+1<scanBound/\∀q φ,H q=none->(∀h:Heap,φ h->∃(o:Obj) (es:Array (Int×Value)) (ep:Nat) (t:SetTable),h.get? q=some o/\o.ExactSet/\o.data=.set es ep t/\t.fits es.size=true/\es.size=(gY ss).length)->Q (.ref q) (upd H q (.ext φ))
 | _=>False
theorem m7 (hh:X.A.handled=none):aI X (.type "set") (nT X.K):=by
 intro pins s σ H xs us Q I r h;unfold nT at h;split at h
 ·rename_i d;obtain ⟨ss,hq,hb,q⟩:=h;obtain ⟨u,rfl,rx⟩:=cr r;cases rx;obtain ⟨its,r',pl,hz⟩:=I.list hq;have hlen:=r'.length;rw [Eu] at hlen;have hs:its.toArray.size=ss.length:=by rw [Ey,<-hlen]
  refine qE (knd:=PySem.strKind X.prog X.w) (λ i=>ss.getD i Str.empty) hh pl.isList (λ i v hv=>?_) (by rw [hs];exact hb) λ h2 tk hS kp=>?_
  ·rw [FO] at hv;have hi:i<its.length:=(EH.mp hv).1;have hx:(ss.map V.str)[i]? =some (.str (ss.getD i Str.empty)):=by rw [EB,EQ,Ex (by omega)];rfl
   obtain ⟨u,hu,ru⟩:=r'.get hx;rw [hv] at hu;cases hu;obtain ⟨t,rfl⟩:=ru;exact ⟨by simp [PySem.strKind,Value.isStrOf],rfl⟩
  ·rw [hs] at hS;have k2:∀b u,s.heap.get? b=some u->h2.get? b=some u:=λ b u e=>kp b u (Heap.lt_size e) e;obtain ⟨o,es,ep,t,h1,h2',h3,_,_,h6,h7,h8⟩:=hS;refine ⟨.ref s.heap.objs.size,upd H s.heap.objs.size (.ext λ h=>h.get? s.heap.objs.size=some o),I.laid (t':=tk) k2 (Gc _) ?_,rfl,q _ _ (I.hok.fresh (Gc _)) λ h e=>⟨o,es,ep,t,e,h2',h3,h7,h8⟩⟩;exact ⟨h1,⟨o,h1⟩,λ h1 h2 e k=>k o e⟩
 ·exact h.elim
def rg (xs:List V) (H:Hp) (Q:VK):Prop:=match xs with
 | [.ref d]=> ∃(φ:Heap->Prop) (n:Nat),H d=some (.ext φ)/\n<=1000/\(∀h:Heap,φ h->∃(o:Obj) (es:Array (Int×Value)) (ep:Nat) (t:SetTable),h.get? d=some o/\o.ExactSet/\o.data=.set es ep t/\t.fits es.size=true/\es.size=n)/\Q (.int n) H
 | _=>False
theorem iX:aI X (.builtin "len") rg:=by
 intro pins s σ H xs us Q I r h;unfold rg at h;split at h
 ·rename_i d;obtain ⟨φ,n,hd,hn,hφ,q⟩:=h;obtain ⟨u,rfl,rx⟩:=cr r;cases rx;obtain ⟨p,_,_⟩:=(show bg X.prog X.w H s.heap d (.ext φ) from I.hok d _ hd);obtain ⟨o,es,ep,t,h1,h2,h3,h4,h5⟩:=hφ _ p;subst h5;exact PySem.call_len_set h1 h2 h3 h4 (by omega) ⟨.int es.size,H,I.tok _,⟨_,rfl⟩,q⟩
 ·exact h.elim
theorem xl (K:Frag) {j:Nat}(hr:bQ j X.A) (hK:X.K=K:=by rfl):aI X (.type "set") (nT K):=by subst hK;exact m7 hr.hd
end
theorem lG {K:Frag}{σ:St}{H:Hp}{Q:VK}{te:TE}{d:Addr}{ss:List Str}(h:Ev te σ H (.ref d)) (hd:aL K H d (ss.map V.str)) (hl:ss.length<=1000) (q:∀H',ak H H'->Q (.int (gY ss).length) H'):cB rg (aC (cB (nT K) (aC te bu)) bu) σ H Q:=
 h _ ⟨ss,hd,by show ss.length+1<4096;omega,λ p φ hp hφ=>⟨φ,_,af,Ge (cM _ _) hl,hφ,q _ ((ak.refl H).upd hp)⟩⟩
end L2
namespace L2
open PySem PySem.Spec PyProof.Rows
section
variable {X:Cx}
theorem oY (ks:List Bool):(List.range ks.length).any (λ i=>ks.getD i false)=ks.any id:=by
 rw [GD,E6,E6]
 constructor
 ·rintro ⟨i,hi,e⟩;have hi:=ER.mp hi;rw [EQ,Ex hi] at e;exact ⟨_,EZ hi,e⟩
 ·rintro ⟨b,hb,e⟩;obtain ⟨i,hi,e2⟩:=FN.mp hb;refine ⟨i,ER.mpr hi,?_⟩;rw [EQ,Ex hi,e2];exact e
def yY (K:Frag) (xs:List V) (H:Hp) (Q:VK):Prop:=match xs with
 | [.ref d]=> ∃ks:List Bool,aL K H d (ks.map V.bl)/\Q (.bl (ks.any id)) H
 | _=>False
theorem pW (hc:X.calm=true):aI X (.builtin "any") (yY X.K):=by
 intro pins s σ H xs us Q I r h;unfold yY at h;split at h
 ·rename_i p;obtain ⟨ks,hp,q⟩:=h;obtain ⟨u,rfl,ru⟩:=cr r;cases ru;obtain ⟨its,rv,pl,hl⟩:=I.list hp;have hlen:=rv.length;rw [Eu] at hlen;refine call_any_walk (wpAny_pyIter_list pl.isList ?_);have hne:p≠s.heap.objs.size:=by obtain ⟨o,ho,_⟩:=pl.isList;exact Gb (Heap.lt_size ho)
  have W:=Walks.list (prog:=X.prog) (w:=X.w) (A:=X.A.in1) (show X.A.in1.handled=none from I.ok.hd hc) s.heap.objs.size p hne its.toArray;have hpush:∀o b ob,s.heap.get? b=some ob->(s.heap.push o).get? b=some ob:=λ o b ob e=>Heap.get?_push_of_some _ e;refine ⟨_,_,_,_,_,_,λ i=>ks.getD i false,rfl,W,⟨⟨_,Heap.get?_push_size _ rfl,rfl,rfl⟩,pl.isList.at λ o e=>hpush _ _ o e⟩,kN rv,λ h' tk k=>?_⟩;have e:(List.range its.toArray.size).any (λ i=>ks.getD i false)=ks.any id:=by rw [<-oY,Ey,<-hlen]
  rw [e];refine ⟨.bl _,H,I.kept (t':=tk) (h':=h') λ b ob e=>k b ob ?_ (hpush _ b ob e),rfl,q⟩;intro hb;have:b=s.heap.objs.size:=by simpa using hb
  subst this;exact absurd (Heap.lt_size e) (Gi _)
 ·exact h.elim
theorem Ee (K:Frag) (hc:X.calm=true:=by rfl) (hK:X.K=K:=by rfl):aI X (.builtin "any") (yY K):=by subst hK;exact pW hc
end
def Thg (H:Hp):V->Prop
 | .non=>True
 | .bl _=>True
 | .int _=>True
 | .str z=>z.length<=1000
 | .ref a=>(∃xs,H a=some (.lst xs))\/(∃xs,H a=some (.tup xs))\/(∃kvs,H a=some (.dK kvs))
 | _=>False
def iP (T:BT) (H:Hp):V->Bool
 | .bl _=>cF .bool T
 | .int _=>cF .int T
 | .str _=>cF .str T
 | .ref a=>match H a with
   | some (.lst _)=>cF .list T
   | some (.tup _)=>cF .tuple T
   | some (.dK _)=>cF .dict T
   | _=>false
 | _=>false
def tupOf (H:Hp):V->Option (List V)
 | .ref a=>match H a with
   | some (.tup xs)=>some xs
   | _=>none
 | _=>none
def lstOf (H:Hp):V->Option (List V)
 | .ref a=>match H a with
   | some (.lst xs)=>some xs
   | _=>none
 | _=>none
def dq (H:Hp):Nat->V->Prop
 | 0,v=>Thg H v
 | n+1,v=>Thg H v/\∀xs,(tupOf H v=some xs\/lstOf H v=some xs)->∀x∈xs,dq H n x
theorem dq.thg {H:Hp}{n:Nat}{v:V}(h:dq H n v):Thg H v:=by
 cases n with
 | zero=>exact h
 | succ n=>exact h.1
def qh:V->Bool
 | .int _=>true
 | _=>false
def amongB (v:V) (a b:Int):Bool:=match v with
 | .int i=>decide (a<=i/\i<=b)
 | _=>false
def wordB (v:V) (ws:List Str):Bool:=match v with
 | .str z=>decide (z∈ws)
 | _=>false
section
variable {K:Frag}{σ:St}{H H':Hp}{te ta tb:TE}{v:V}{T:BT}{ws:List Str}
theorem Thg.same (h:Thg H v) (s:ak H H'):Thg H' v:=by
 cases v with
 | ref a=>
   rcases h with ⟨xs,e⟩ | ⟨xs,e⟩ | ⟨xs,e⟩
   ·exact .inl ⟨xs,s _ _ e⟩
   ·exact .inr (.inl ⟨xs,s _ _ e⟩)
   ·exact .inr (.inr ⟨xs,s _ _ e⟩)
 | _=>exact h
theorem c8 (h:Thg H v) (s:ak H H'):tupOf H' v=tupOf H v:=by
 cases v with
 | ref a=>
   rcases h with ⟨xs,e⟩ | ⟨xs,e⟩ | ⟨xs,e⟩<;>simp only [tupOf,e,s _ _ e]
 | _=>rfl
theorem eE (h:Thg H v) (s:ak H H'):lstOf H' v=lstOf H v:=by
 cases v with
 | ref a=>
   rcases h with ⟨xs,e⟩ | ⟨xs,e⟩ | ⟨xs,e⟩<;>simp only [lstOf,e,s _ _ e]
 | _=>rfl
theorem dq.same {n:Nat}:∀{v:V},dq H n v->ak H H'->dq H' n v:=by
 induction n with
 | zero=>intro v h s;exact Thg.same h s
 | succ n ih=>
   intro v h s;refine ⟨h.1.same s,λ xs hx x hm=>ih (h.2 xs ?_ x hm) s⟩;rw [c8 h.1 s,eE h.1 s] at hx;exact hx
theorem eo {xs:List V}(h:tupOf H v=some xs):∃a,v=.ref a/\H a=some (.tup xs):=by
 cases v with
 | ref a=>
   simp only [tupOf] at h;split at h
   ·rename_i e;cases h;exact ⟨a,rfl,e⟩
   ·cases h
 | _=>cases h
theorem dh {xs:List V}(h:lstOf H v=some xs):∃a,v=.ref a/\H a=some (.lst xs):=by
 cases v with
 | ref a=>
   simp only [lstOf] at h;split at h
   ·rename_i e;cases h;exact ⟨a,rfl,e⟩
   ·cases h
 | _=>cases h
theorem jB (h:Ev te σ H v) (t:Thg H v):Ev (zi T te) σ H (.bl (iP T H v)):=λ Q q=>h _ (by
 cases v with
 | ref a=>
   rcases t with ⟨xs,e⟩ | ⟨xs,e⟩ | ⟨xs,e⟩<;>(simp only [ul,e];simp only [iP,e] at q;exact q)
 | non=>exact q
 | bl b=>exact q
 | int b=>exact q
 | str b=>exact q
 | _=>exact t.elim)
theorem qg (t:Thg H v):(iP .int H v&& !iP .bool H v)=qh v:=by
 cases v with
 | ref a=>rcases t with ⟨xs,e⟩ | ⟨xs,e⟩ | ⟨xs,e⟩<;>(simp only [iP,e];rfl)
 | non=>rfl
 | bl b=>rfl
 | int b=>rfl
 | str b=>rfl
 | _=>exact t.elim
theorem qr (t:Thg H v):iP .str H v=(match v with | .str _=>true | _=>false):=by
 cases v with
 | ref a=>rcases t with ⟨xs,e⟩ | ⟨xs,e⟩ | ⟨xs,e⟩<;>(simp only [iP,e];rfl)
 | non=>rfl
 | bl b=>rfl
 | int b=>rfl
 | str b=>rfl
 | _=>exact t.elim
theorem xB (t:Thg H v):iP .tuple H v=(tupOf H v).isSome:=by
 cases v with
 | ref a=>rcases t with ⟨xs,e⟩ | ⟨xs,e⟩ | ⟨xs,e⟩<;>(simp only [iP,tupOf,e];rfl)
 | non=>rfl
 | bl b=>rfl
 | int b=>rfl
 | str b=>rfl
 | _=>exact t.elim
theorem yj (t:Thg H v):iP .list H v=(lstOf H v).isSome:=by
 cases v with
 | ref a=>rcases t with ⟨xs,e⟩ | ⟨xs,e⟩ | ⟨xs,e⟩<;>(simp only [iP,lstOf,e];rfl)
 | non=>rfl
 | bl b=>rfl
 | int b=>rfl
 | str b=>rfl
 | _=>exact t.elim
theorem rD (z:Str) (ws:List Str):zh (.str z) (ws.map V.str)=decide (z∈ws):=by
 unfold zh;rw [Fw]
 by_cases h:z∈ws
 ·rw [decide_eq_true h];exact E6.mpr ⟨z,h,by simp [eqV]⟩
 ·rw [decide_eq_false h];apply Fu.mpr;intro y hy;have:y≠z:=λ e=>h (e▸hy);simp [eqV,this]
theorem pM (ss:List Str):(ss.map V.str).all flatV=true:=EV.mpr λ x hx=>by obtain ⟨z,_,rfl⟩:=EE.mp hx;rfl
theorem se {z:Str}{p:Addr}(ha:Ev ta σ H (.str z)) (hb:Ev tb σ H (.ref p)) (h:aL K H p (ws.map V.str)\/fF K H p (ws.map V.str)):Ev (cK K .In ta tb) σ H (.bl (decide (z∈ws))):=λ Q q=>ha _ (hb _ (by
 show fY K .In (.str z) (.ref p) H Q;rw [j0];refine ⟨p,_,rfl,h,rfl,pM ws,?_⟩;rw [rD];exact q))
end
def sortsL:List Str:=["leap","slide","jump"]
def aimsL:List Str:=["go","hit","any"]
def jC:List Str:=["without","home"]
def jM:List Str:=["lost","even","won"]
def tupB (H:Hp) (v:V) (n:Int):Bool:=match tupOf H v with
 | some xs=>decide ((xs.length:Int)=n)
 | none=>false
def gO (H:Hp) (v:V) (a b:Int):Bool:=match lstOf H v with
 | some xs=>decide (a<=(xs.length:Int)/\(xs.length:Int)<=b)
 | none=>false
def limS (so:Str):Int:=if so="leap" then 3 else 1
def kQ (so:Str) (x y:V):Bool:=amongB x (-limS so) (limS so)&&amongB y (-limS so) (limS so)&& !(decide (x=.int 0)&&decide (y=.int 0))
def gg (xs:List V) (ws:List Str):Bool:=match xs with
 | [k,.str so,.str ai,x,y]=>wordB k ws&&decide (so∈sortsL)&&decide (ai∈aimsL)&& !(decide (so="jump")&& !decide (ai="hit"))&&kQ so x y
 | _=>false
def cQ (H:Hp) (v:V) (ws:List Str):Bool:=match tupOf H v with
 | some xs=>gg xs ws
 | none=>false
def lu (xs:List V) (A B:List Str):Bool:=match xs with
 | [a,b]=>wordB a A&&wordB b B
 | _=>false
def cR (H:Hp) (v:V) (A B:List Str):Bool:=match tupOf H v with
 | some xs=>lu xs A B
 | none=>false
def pairsB (H:Hp) (v:V) (A B:List Str):Bool:=match lstOf H v with
 | some vs=>decide (vs.length<=6)&&vs.all (λ x=>cR H x A B)
 | none=>false
def bT (H:Hp) (v:V):Str:=match tupOf H v with
 | some (.str a::_)=>a
 | _=>Str.empty
def fc (H:Hp) (v:V):Str:=match tupOf H v with
 | some (_:: .str b::_)=>b
 | _=>Str.empty
def dE (H:Hp) (v:V) (ws:List Str):Bool:=pairsB H v ws ws&&match lstOf H v with
 | some vs=> !(vs.any λ x=>decide (fc H x∈vs.map (bT H)))&&decide ((vs.map (bT H)).Nodup)
 | none=>false
def ix:Sp:=λ vs H Q _=> ∃v,vs=[v]/\Thg H v/\Q (.bl (qh v)) H
def iy:Sp:=λ vs H Q _=> ∃v a b,vs=[v,.int a,.int b]/\Thg H v/\Q (.bl (amongB v a b)) H
def eT (K:Frag) (H:Hp) (d:Addr) (ws:List Str):Prop:=aL K H d (ws.map V.str)\/fF K H d (ws.map V.str)
def fB (K:Frag):Sp:=λ vs H Q _=> ∃v d ws,vs=[v,.ref d]/\Thg H v/\eT K H d ws/\Q (.bl (wordB v ws)) H
def gH:Sp:=λ vs H Q _=> ∃v n,vs=[v,.int n]/\Thg H v/\Q (.bl (tupB H v n)) H
def jP:Sp:=λ vs H Q _=> ∃v a b,vs=[v,.int a,.int b]/\Thg H v/\Q (.bl (gO H v a b)) H
def nH:Sp:=λ vs H Q _=> ∃so x y,vs=[.str so,x,y]/\Thg H x/\Thg H y/\Q (.bl (kQ so x y)) H
def nI (K:Frag):Sp:=λ vs H Q _=> ∃v d ws,vs=[v,.ref d]/\dq H 1 v/\eT K H d ws/\Q (.bl (cQ H v ws)) H
def nJ (K:Frag):Sp:=λ vs H Q _=> ∃v d e A B,vs=[v,.ref d,.ref e]/\dq H 1 v/\eT K H d A/\eT K H e B/\Q (.bl (cR H v A B)) H
def kW (K:Frag):Sp:=λ vs H Q _=> ∃v d e A B,vs=[v,.ref d,.ref e]/\dq H 2 v/\eT K H d A/\eT K H e B/\∀H',ak H H'->Q (.bl (pairsB H v A B)) H'
def kT (K:Frag):Sp:=λ vs H Q _=> ∃v d ws,vs=[v,.ref d]/\dq H 2 v/\eT K H d ws/\∀H',ak H H'->Q (.bl (dE H v ws)) H'
def nN (K:Frag):Sp:=λ vs H Q _=> ∃v d ws,vs=[v,.ref d]/\dq H 2 v/\eT K H d ws/\∀H',ak H H'->Q (.bl (pairsB H v jC ws)) H'
theorem sT {σ:St}{H:Hp}{Q:VK}{ta tb:TE}{a:Bool}(ha:Ev ta σ H (.bl a)) (h1:a=true->tb σ H Q) (h2:a=false->Q (.bl false) H):sP ta tb σ H Q:=ha _ (by
 cases a with
 | true=>exact h1 rfl
 | false=>exact h2 rfl)
theorem sE {K:Frag}{σ:St}{H:Hp}{Q:VK}{ta tb:TE}{op:CmpOp}(h:ta σ H λ x H1=>tb σ H1 λ y H2=>fY K op x y H2 Q):cK K op ta tb σ H Q:=h
theorem pi {H:Hp}{v:V}{A B:List Str}(h:pairsB H v A B=true):∃xs,lstOf H v=some xs/\xs.length<=6/\∀x∈xs,∃c f1 f2,x=.ref c/\H c=some (.tup [.str f1,.str f2]):=by
 unfold pairsB at h;cases e1:lstOf H v with
 | none=>rw [e1] at h;cases h
 | some xs=>
   rw [e1] at h;have h:(decide (xs.length<=6)&&xs.all (λ x=>cR H x A B))=true:=h;rw [GB] at h;refine ⟨xs,rfl,of_decide_eq_true h.1,λ x hx=>?_⟩;have hp:=EV.mp h.2 x hx;unfold cR at hp;cases e2:tupOf H x with
   | none=>rw [e2] at hp;cases hp
   | some ys=>
     rw [e2] at hp;obtain ⟨c,rfl,hc⟩:=eo e2;have hp:lu ys A B=true:=hp
     match ys,hp,hc with
     | [a,b],hp,hc=>
       have hp:(wordB a A&&wordB b B)=true:=hp;rw [GB] at hp;cases a with
       | str f1=>
         cases b with
         | str f2=>exact ⟨c,f1,f2,rfl,hc⟩
         | _=>cases hp.2
       | _=>cases hp.1
     | [],hp,_=>cases hp
     | [_],hp,_=>cases hp
     | _::_::_::_,hp,_=>cases hp
structure RG0 (P:Program) (w:World) (K:Frag) (mg:Str->Option Value) (base:Heap):Prop where
 is_whole:eW P w K mg base "is_whole" ["thing"] 1 ix
structure RG1 (P:Program) (w:World) (K:Frag) (mg:Str->Option Value) (base:Heap):Prop where
 is_among:eW P w K mg base "is_among" ["thing","least","most"] 2 iy
structure RG2 (P:Program) (w:World) (K:Frag) (mg:Str->Option Value) (base:Heap):Prop where
 is_word:eW P w K mg base "is_word" ["thing","words"] 1 (fB K)
 is_tuple_of:eW P w K mg base "is_tuple_of" ["thing","many"] 1 gH
structure RG3 (P:Program) (w:World) (K:Frag) (mg:Str->Option Value) (base:Heap):Prop extends RG2 P w K mg base where
 is_step:eW P w K mg base "is_step" ["sort","across","up"] 3 nH
structure RG4 (P:Program) (w:World) (K:Frag) (mg:Str->Option Value) (base:Heap):Prop where
 is_list_of:eW P w K mg base "is_list_of" ["thing","least","most"] 1 jP
 is_pair:eW P w K mg base "is_pair" ["thing","firsts","seconds"] 2 (nJ K)
structure RG5 (P:Program) (w:World) (K:Frag) (mg:Str->Option Value) (base:Heap):Prop where
 are_pairs:eW P w K mg base "are_pairs" ["thing","firsts","seconds"] 3 (kW K)
end L2
namespace L2
open PySem PySem.Spec PyProof.Rows
def letB:V->Bool
 | .str z=>match z.cps.toList with
   | [c]=>decide (97<=c/\c<=122)
   | _=>false
 | _=>false
def eZ:V->Str
 | .str z=>z
 | _=>Str.empty
def iO (H:Hp) (v:V):Bool:=match lstOf H v with
 | some xs=>decide (1<=xs.length/\xs.length<=6)&&xs.all letB&&decide ((xs.map eZ).Nodup)
 | none=>false
def dc (H:Hp) (v:V) (ws:List Str):Bool:=match lstOf H v with
 | some xs=>decide (xs.length<=24)&&xs.all (λ x=>cQ H x ws)
 | none=>false
theorem Cg:("a":Str).cps.toList=[97]:=by decide+kernel
theorem Cf:("z":Str).cps.toList=[122]:=by decide+kernel
theorem ra {c d:Nat}:([c]<[d])<->c<d:=by
 constructor
 ·intro h;cases h with
  | rel h=>exact h
  | cons h=>cases h
 ·intro h;exact List.Lex.rel h
theorem uz {K:Frag}{σ:St}{H:Hp}{ta tb tc:TE}{x y z:Str}(ha:Ev ta σ H (.str x)) (hb:Ev tb σ H (.str y)) (hc:Ev tc σ H (.str z)):Ev (kG K .LtE .LtE ta tb tc) σ H (.bl (!decide (y.cps.toList<x.cps.toList)&& !decide (z.cps.toList<y.cps.toList))):=λ Q q=>ha _ (hb _ (by
 show fY K .LtE (.str x) (.str y) H _;rw [o4,r_b];cases h: !decide (y.cps.toList<x.cps.toList) with
 | true=>
   rw [h] at q;exact hc _ q
 | false=>
   rw [h] at q;exact q))
def jp:Sp:=λ vs H Q _=> ∃v,vs=[v]/\Thg H v/\Q (.bl (letB v)) H
def kX:Sp:=λ vs H Q _=> ∃v,vs=[v]/\dq H 1 v/\∀H',ak H H'->Q (.bl (iO H v)) H'
def kU (K:Frag):Sp:=λ vs H Q _=> ∃v d ws,vs=[v,.ref d]/\dq H 2 v/\eT K H d ws/\∀H',ak H H'->Q (.bl (dc H v ws)) H'
theorem rf {v:V}(h:letB v=true):∃c,v=.str (one c)/\Dq c:=by
 cases v with
 | str z=>
   match e:z.cps.toList with
   | [c]=>
     simp only [letB,e] at h;exact ⟨c,by rw [nF (x:=z) (y:=one c) (by rw [e])],of_decide_eq_true (p:=97<=c/\c<=122) h⟩
   | []=>simp only [letB,e] at h;cases h
   | _::_::_=>simp only [letB,e] at h;cases h
 | _=>cases h
structure Dt (K:Frag) (C:Addr):Prop where
 cl:l8 K C
 board:bB K C "board"
 kinds:bB K C "kinds"
 rules:bB K C "rules"
 turns:bB K C "turns"
 ends:bB K C "ends"
 stuck:bB K C "stuck"
def gf1 (b:Addr):List (Str×V):=putF "board" (.ref b) []
def gf2 (b k:Addr):List (Str×V):=putF "kinds" (.ref k) (gf1 b)
def gf3 (b k r:Addr):List (Str×V):=putF "rules" (.ref r) (gf2 b k)
def gf4 (b k r t:Addr):List (Str×V):=putF "turns" (.ref t) (gf3 b k r)
def CU (b k r t e:Addr):List (Str×V):=putF "ends" (.ref e) (gf4 b k r t)
def rM (b k r t e:Addr) (st:Str):List (Str×V):=putF "stuck" (.str st) (CU b k r t e)
section
variable {b k r t e:Addr}{st:Str}
theorem rN:(rM b k r t e st).lookup ("board":Str)=some (.ref b):=by unfold rM CU gf4 gf3 gf2 gf1;rw [am,if_neg (by decide+kernel),am,if_neg (by decide+kernel),am,if_neg (by decide+kernel),am,if_neg (by decide+kernel),am,if_neg (by decide+kernel),am,if_pos rfl]
theorem yB:(gf1 b).length<=1/\(gf2 b k).length<=2/\(gf3 b k r).length<=3/\(gf4 b k r t).length<=4/\(CU b k r t e).length<=5:=by have a1:(gf1 b).length<=1:=bf "board" (.ref b) [];have a2:(gf2 b k).length<=(gf1 b).length+1:=bf "kinds" (.ref k) (gf1 b);have a3:(gf3 b k r).length<=(gf2 b k).length+1:=bf "rules" (.ref r) (gf2 b k);have a4:(gf4 b k r t).length<=(gf3 b k r).length+1:=bf "turns" (.ref t) (gf3 b k r);have a5:(CU b k r t e).length<=(gf4 b k r t).length+1:=bf "ends" (.ref e) (gf4 b k r t);omega
end
structure kL (C:Addr) (H:Hp) (p b:Addr) (ks rs ts es:List V) (st:Str):Prop where
 ex:∃dx kq rq tq eq,H p=some (.ins C dx (rM b kq rq tq eq st))/\H kq=some (.lst ks)/\H rq=some (.lst rs)/\H tq=some (.lst ts)/\H eq=some (.lst es)
section
variable {K:Frag}{C:Addr}{H H':Hp}{p b:Addr}{ks rs ts es:List V}{st:Str}
theorem kL.same (G:kL C H p b ks rs ts es st) (s:ak H H'):kL C H' p b ks rs ts es st:=by obtain ⟨dx,kq,rq,tq,eq,a,c,d,e,f⟩:=G.ex;exact ⟨dx,kq,rq,tq,eq,s _ _ a,s _ _ c,s _ _ d,s _ _ e,s _ _ f⟩
theorem kL.board (G:kL C H p b ks rs ts es st) (D:Dt K C):Fl K H p "board" (.ref b):=by obtain ⟨dx,kq,rq,tq,eq,a,_⟩:=G.ex;exact ⟨C,dx,_,a,D.cl,D.board,rN⟩
end
section
variable {H H':Hp}{v:V}{A B ws:List Str}
theorem mG (t:Thg H v) (s:ak H H'):cR H' v A B=cR H v A B:=by unfold cR;rw [c8 t s]
theorem mx (t:Thg H v) (s:ak H H'):cQ H' v ws=cQ H v ws:=by unfold cQ;rw [c8 t s]
theorem pL (t:Thg H v) (s:ak H H'):bT H' v=bT H v:=by unfold bT;rw [c8 t s]
theorem oP (t:Thg H v) (s:ak H H'):fc H' v=fc H v:=by unfold fc;rw [c8 t s]
theorem lZ {f g:V->Bool}{xs:List V}(h:∀x∈xs,f x=g x):xs.all f=xs.all g:=by
 induction xs with
 | nil=>rfl
 | cons a r ih=>rw [EO,EO,h a (by simp),ih λ x hx=>h x (by simp [hx])]
theorem sS {f g:V->Bool}{xs:List V}(h:∀x∈xs,f x=g x):xs.any f=xs.any g:=by
 induction xs with
 | nil=>rfl
 | cons a r ih=>rw [Fj,Fj,h a (by simp),ih λ x hx=>h x (by simp [hx])]
theorem g5 (t:dq H 2 v) (s:ak H H'):pairsB H' v A B=pairsB H v A B:=by
 unfold pairsB;rw [eE t.1 s];cases e:lstOf H v with
 | none=>rfl
 | some xs=>
   show (_&&xs.all _)=(_&&xs.all _);rw [lZ (g:=λ x=>cR H x A B) λ x hx=>mG (t.2 xs (.inr e) x hx).thg s]
theorem ln (t:dq H 2 v) (s:ak H H'):dc H' v ws=dc H v ws:=by
 unfold dc;rw [eE t.1 s];cases e:lstOf H v with
 | none=>rfl
 | some xs=>
   show (_&&xs.all _)=(_&&xs.all _);rw [lZ (g:=λ x=>cQ H x ws) λ x hx=>mx (t.2 xs (.inr e) x hx).thg s]
theorem kM (t:dq H 2 v) (s:ak H H'):dE H' v ws=dE H v ws:=by
 unfold dE;rw [g5 t s,eE t.1 s];cases e:lstOf H v with
 | none=>rfl
 | some xs=>
   have tx:∀x∈xs,Thg H x:=λ x hx=>(t.2 xs (.inr e) x hx).thg;have em:xs.map (bT H')=xs.map (bT H):=E4 λ x hx=>pL (tx x hx) s;show (_&&((!xs.any λ x=>decide (fc H' x∈xs.map (bT H')))&&decide ((xs.map (bT H')).Nodup)))=(_&&((!xs.any λ x=>decide (fc H x∈xs.map (bT H)))&&decide ((xs.map (bT H)).Nodup)));rw [em,sS (g:=λ x=>decide (fc H x∈xs.map (bT H))) λ x hx=>by rw [oP (tx x hx) s]]
end
def nM (K:Frag) (C:Addr):Sp:=λ vs H Q _=> ∃(p b kd rd td ed dx:Addr) (ws:List Str) (rs ts es:List V) (st:Str),vs=[.ref p,.ref b,.ref kd,.ref rd,.ref td,.ref ed,.str st]/\H p=some (.ins C dx [])/\H kd=some (.lst (ws.map V.str))/\H rd=some (.lst rs)/\H td=some (.lst ts)/\H ed=some (.lst es)/\
 dq H 1 (.ref kd)/\dq H 2 (.ref rd)/\dq H 2 (.ref td)/\dq H 2 (.ref ed)/\iO H (.ref kd)=true/\dc H (.ref rd) ws=true/\dE H (.ref td) ws=true/\pairsB H (.ref ed) jC ws=true/\st∈jM/\st.length<=1000/\
 ∀H',kL C H' p b (ws.map V.str) rs ts es st->SameBut p H H'->Q .non H'
structure Et (P:Program) (w:World) (K:Frag) (mg:Str->Option Value) (base:Heap):Prop where
 is_list_of:eW P w K mg base "is_list_of" ["thing","least","most"] 1 jP
 is_letter:eW P w K mg base "is_letter" ["thing"] 1 jp
 is_rule:eW P w K mg base "is_rule" ["thing","kinds"] 4 (nI K)
structure GG2 (P:Program) (w:World) (K:Frag) (mg:Str->Option Value) (base:Heap):Prop where
 are_kinds:eW P w K mg base "are_kinds" ["thing"] 2 kX
 are_rules:eW P w K mg base "are_rules" ["thing","kinds"] 5 (kU K)
 is_turns:eW P w K mg base "is_turns" ["thing","kinds"] 4 (kT K)
 is_ends:eW P w K mg base "is_ends" ["thing","kinds"] 4 (nN K)
 is_word:eW P w K mg base "is_word" ["thing","words"] 1 (fB K)
theorem ic {K:Frag}{σ:St}{H:Hp}{to te:TE}{u:TS}{D:bZ}{f:Str}{p C dx d:Addr}{fs:List (Str×V)}{xs:List V}(he:Ev te σ H (.ref d)) (hd:H d=some (.lst xs)) (ho:∀H',Ev to σ H' (.ref p)) (hp:H p=some (.ins C dx fs)) (hc:l8 K C) (hn:bB K C f) (hl:fs.length<1000)
  (h2:∀q,H q=none->u D σ (upd (upd H q (.lst xs)) p (.ins C dx (putF f (.ref q) fs)))):bV (oX K to (cB (lF K) (aC te bu)) f) u D σ H:=
 he _ ⟨xs,.inl (aL.of hd),λ q hq=>ho _ _ ⟨p,C,dx,fs,rfl,by rw [ah (ag hp hq)];exact hp,hc,hn,hl,h2 q hq⟩⟩
end L2
namespace L2
open PySem
theorem fX {N P:List Str}{sc:Scope}(a:sc.kind=.function:=by rfl) (b:sc.isCoroutine=false:=by rfl) (c:sc.isGenerator=false:=by rfl) (d:N.Nodup:=by decide+kernel) (e:N.take P.length=P:=by rfl) (f:∀x∈P,sc.names.lookup x=some .local\/sc.names.lookup x=some .cell:=by decide+kernel) (g:∀y∈sc.names,y.2≠.free:=by decide+kernel):ay N P sc:=⟨a,b,c,d,e,f,g⟩
end L2
namespace L2
open PySem PySem.Spec PyProof.Rows
def qa (H:Hp):V->Prop
 | .non=>True
 | .bl _=>True
 | .int _=>True
 | .str z=>z.length<=1000
 | .ref a=>(∃xs,H a=some (.lst xs))\/(∃xs,H a=some (.tup xs))
 | _=>False
def sX (H:Hp):Nat->V->Prop
 | 0,v=>qa H v
 | n+1,v=>qa H v/\∀xs,(tupOf H v=some xs\/lstOf H v=some xs)->∀x∈xs,sX H n x
theorem qa.thg {H:Hp}{v:V}(h:qa H v):Thg H v:=by
 cases v with
 | ref a=>
   rcases h with h | h
   ·exact .inl h
   ·exact .inr (.inl h)
 | _=>exact h
theorem sX.n {H:Hp}:∀{n:Nat}{v:V},sX H n v->dq H n v
 | 0,v,h=>qa.thg h
 | n+1,v,h=>⟨h.1.thg,λ xs hx x hm=>(h.2 xs hx x hm).n⟩
theorem sX.flat {H:Hp}{n:Nat}{v:V}(h:qa H v) (f:flatV v=true):sX H n v:=by
 cases n with
 | zero=>exact h
 | succ n=>
   refine ⟨h,λ xs hx=>?_⟩;cases v with
   | ref a=>cases f
   | _=>rcases hx with z | z<;>cases z
theorem sX.lst {H:Hp}{n:Nat}{a:Addr}{xs:List V}(h:H a=some (.lst xs)) (hx:∀x∈xs,sX H n x):sX H (n+1) (.ref a):=⟨.inl ⟨xs,h⟩,λ ys hy=>by
 rcases hy with z | z
 ·simp only [tupOf,h] at z;cases z
 ·simp only [lstOf,h] at z;cases z;exact hx⟩
section
variable {X:Cx}{a b:Expr}{ta tb:TE}{pos:Pos}
end
section
variable {K:Frag}{σ:St}{H:Hp}{ta tb te:TE}{v:V}{z:Str}{d:Addr}{ws:List Str}{i j:Int}
end
end L2
namespace L2
open PySem PySem.Spec PyProof.Rows
def xo:V->Bool
 | .ref _=>true
 | _=>false
theorem sn {K:Frag}{H:Hp}{n:Nat}{x:V}(h:(flatV x||xo x)=true):oA K H n x x true:=by
 cases hf:flatV x with
 | true=>
   have:=oA.flat (K:=K) (H:=H) (n:=n) hf hf;rw [si hf] at this;exact this
 | false=>
   cases x with
   | ref a=>exact .same
   | _=>first | (cases hf;done) | (rw [hf] at h;cases h)
theorem sk {K:Frag}{H:Hp}{n:Nat}{a b:Addr}{xs:List V}(ha:aL K H a xs) (hb:aL K H b xs) (hf:∀x∈xs,(flatV x||xo x)=true):uK K H (n+1) (.ref a) (.ref b) true:=by
 have h:=uK.lst (es:=λ _=>true) (n:=n) ha hb rfl (λ i x y hx hy=>by
  rw [hx] at hy;cases hy;exact sn (hf x (EX hx)))
 rw [show ((List.range xs.length).all λ _=>true)=true from EV.mpr λ _ _=>rfl] at h;exact h
section
variable {X:Cx}{a b:Expr}{ta tb:TE}{pos:Pos}
end
section
variable {X:Cx}{a b e o:Expr}{ta tb te to:TE}{pos p2:Pos}
end
section
variable {K:Frag}{te to ta tb ti:TE}{u:TS}{D:bZ}{σ:St}{H:Hp}{Q:VK}{v:V}
end
end L2
namespace L2
open PySem PySem.Spec PyProof.Rows
section
variable {prog:Program}{w:World}{A:Around}{E:Value->Shared->Prop}{s:Shared}{z TI TO i1 i2:Addr}{n1 n2 i:Nat}{P1 P2:Nat->Value->Prop}{S1 S2:Nat->Heap->Prop}{a b:Value}
end
section
variable {prog:Program}{w:World}{A:Around}{E:Value->Shared->Prop}{s:Shared}
end
end L2
namespace L2
open PySem PySem.Spec PyProof.Rows
section
variable {X:Cx}{pins:List (Addr×Obj)}{σ:St}{H:Hp}{s:Shared}{h':Heap}
end
section
variable {X:Cx}{p pos pos2:Pos}{a b:Expr}{elts:List Expr}{k0:Nat}{ta tb:TE}
end
section
variable {K:Frag}{σ rest:St}{H:Hp}{t:TA}{te:TE}{src:List (Option Nat)}{Q:VK}{x y:Str}
end
section
variable {K:Frag}{te ta tb:TE}{t ta':TA}{c:TT}{u e t1:TS}{D:bZ}{σ:St}{H:Hp}{Q:VK}{R:List V->Hp->Prop}{v:V}
theorem CH {d:Addr}{ys:List V}(h:Ev te σ H (.ref d)) (hd:aL K H d ys\/fF K H d ys) (q:∀l,H l=none->Q (.ref l) (upd H l (.lst ys))):cB (lF K) (aC te bu) σ H Q:=h _ ⟨ys,hd,q⟩
theorem ft (h:Ev te σ H v) (q:ta' σ H (λ xs H2=>R (v::xs) H2)):aC te ta' σ H R:=h _ q
theorem kC (h:te σ H (λ x H1=>ta' σ H1 (λ xs H2=>R (x::xs) H2))):aC te ta' σ H R:=h
theorem dy (q:R [] H):bu σ H R:=q
theorem gp (q:t σ H (λ vs H2=>vs.length<=sizeLine/\∀p,H2 p=none->Q (.ref p) (upd H2 p (.lst vs)))):oM t σ H Q:=q
theorem Db (h:ta σ H λ x H1=>tb σ H1 λ y H2=>nj .Add x y H2 Q):ia .Add ta tb σ H Q:=h
theorem uD {a b:Addr}{xs ys:List V}(ha:H a=some (.lst xs)) (hb:H b=some (.lst ys)) (hz:xs.length+ys.length<=1000) (q:∀p,H p=none->Q (.ref p) (upd H p (.lst (xs++ys)))):nj .Add (.ref a) (.ref b) H Q:=by rw [xJ];exact ⟨a,b,xs,ys,rfl,rfl,ha,hb,Ge hz (by decide),q⟩
end
theorem mI {a b:Nat}:(one a=one b)<->a=b:=by
 constructor
 ·intro h;have h:(one a).cps.toList=(one b).cps.toList:=by rw [h]
  have h:[a]=[b]:=h;injection h
 ·intro h;rw [h]
theorem rJ:("#":Str)=one 35:=by decide+kernel
end L2
namespace L2
open PySem PySem.Spec PyProof.Rows
section
variable {X:Cx}
end
end L2
namespace L2
open PySem PySem.Spec PyProof.Rows
section
variable {X:Cx}{a e:Expr}{ta te tb:TE}{p p2 pos:Pos}
def qZ (xs:List V) (H:Hp) (Q:VK):Prop:=match xs with
 | [.int i,.int j]=>Q (.int (if j > i then j else i)) H
 | _=>False
theorem pR (hc:X.calm=true):aI X (.builtin "max") qZ:=(pS hc).imp λ xs H Q h=>by
 unfold qZ at h;split at h
 ·exact ⟨_,_,rfl,h⟩
 ·exact h.elim
end
section
variable {K:Frag}{σ:St}{H:Hp}{ta tb te to:TE}{Q:VK}{i j:Int}
end
section
variable {K:Frag}{σ:St}{H:Hp}{ta tb te to:TE}{Q:VK}{c:TT}{t e:TS}{D:bZ}
end
section
variable {K:Frag}{ta:TA}{te tl:TE}{src:List (Option Nat)}{σ rest:St}{H:Hp}{Q:VK}
theorem pO {d:Addr}{xs:List V}(hl:Ev tl σ H (.ref d)) (hx:H d=some (.lst xs)) (hz:xs.length<=sizeLine) (hs:cY src σ=none::rest) (f:V->V)
  (he:∀x∈xs,∀H',ak H H'->∀Q:VK,(∀H2,ak H' H2->Q (f x) H2)->te (some x::rest) H' Q)
  (q:∀H' d',ak H H'->H' d'=none->Q (.ref d') (upd H' d' (.lst (xs.map f)))):tComp (fj K tl) (bN 0) ga te src σ H Q:=by
 refine hl _ ⟨d,rfl,⟨xs,aL.of hx⟩,?_⟩;refine gr xs.length (λ i ys σ' H'=>ak H H'/\(∃v,σ'=v::rest)/\ys=(xs.take i).map f) hz (λ i ys σ H h=>by rw [h.2.2,Eu,Fa];omega)
  (λ i ys σ H' h hi=>⟨xs,xs[i],aL.of (h.1 _ _ hx),Ex hi⟩) (λ ys σ H' h=>⟨xs,aL.of (h.1 _ _ hx),Gc _⟩) ⟨ak.refl H,⟨none,hs⟩,by simp⟩ ?_ ?_
 ·rintro i ys _ H1 x H2 hi ⟨s1,⟨v0,rfl⟩,rfl⟩ ⟨rfl,hy⟩ Kt Kf ht hf;have ex:=hy xs (aL.of (s1 _ _ hx));simp only [bN,ga,FP,if_true];refine he x (EX ex) _ s1 _ λ H2 s2=>ht _ _ _ ⟨s1.trans s2,⟨_,rfl⟩,?_⟩;rw [Fo,ex,EM];rfl
 ·rintro ys _ H1 dd ⟨s1,_,rfl⟩ hd;rw [E7];exact q H1 dd s1 hd
end
end L2
namespace L2
open PySem PySem.Spec PyProof.Rows
section
variable {X:Cx}{pins:List (Addr×Obj)}{σ:St}{H H':Hp}{s s':Shared}
end
section
variable {X:Cx}{e:Expr}{es:List Expr}{ta:TA}{ts:TS}{p pos bpos np hpos tpos:Pos}{sp:Sp}{k j i:Nat}{name xc n:Str}{ps:List Str}{C0:Addr}{b₀:Stmt}{suite:List Stmt}
end
end L2
namespace PySem.W
open PySem PySem.Spec PySem.Calls PyProof.Rows Builtin Builtin.ObjectAttr Builtin.Getset_descriptor
section
variable {prog:Program}{w:World}{A:Around}{E:Value->Shared->Prop}{s:Shared}{K:Frag}{x D:Addr}{o:Obj}
end
end PySem.W
namespace L2
open PySem PySem.Spec PyProof.Rows
section
variable {X:Cx}{a b e o:Expr}{ta tb te to:TE}{p pos:Pos}{es:List Expr}{t:TA}
end
end L2
namespace L2
open PySem
section
variable {M:Model}{A:Around}{E:Value->Shared->Prop}{s:Shared}{base:Heap}{env:Env}{outer:List Env}{L e:Addr}{Q:Unit->Shared->Prop}
end
section
variable {prog:Program}{w:World}{A:Around}{E:Value->Shared->Prop}{s:Shared}
end
end L2
namespace PySem
theorem Runs.det {M:Model}{Γ:Ctx}{p:Pos}{t:Sem Fin}{fs:List Frame}{s s':Shared}{e:End}(h:Runs M Γ p t fs s e s'):∀{e2:End}{s2:Shared},Runs M Γ p t fs s e2 s2->e=e2/\s'=s2:=by
 induction h with
 | done=>intro e2 s2 h2;cases h2;exact ⟨rfl,rfl⟩
 | raise=>intro e2 s2 h2;cases h2;exact ⟨rfl,rfl⟩
 | again _ _ ih=>intro e2 s2 h2;cases h2;rename_i h2;exact ih h2
 | rule _ ih=>intro e2 s2 h2;cases h2;rename_i h2;exact ih h2
 | «at» _ ih=>intro e2 s2 h2;cases h2;rename_i h2;exact ih h2
 | load hg _ ih=>intro e2 s2 h2;cases h2;rename_i hg2 h2;rw [hg] at hg2;cases hg2;exact ih h2
 | update _ _ ih=>intro e2 s2 h2;cases h2;rename_i h2;exact ih h2
 | loadIfAlive _ ih=>intro e2 s2 h2;cases h2;rename_i h2;exact ih h2
 | point _ ih=>intro e2 s2 h2;cases h2;rename_i h2;exact ih h2
 | alloc _ ih=>intro e2 s2 h2;cases h2;rename_i h2;exact ih h2
 | fresh _ ih=>intro e2 s2 h2;cases h2;rename_i h2;exact ih h2
 | ask _ ih=>intro e2 s2 h2;cases h2;rename_i h2;exact ih h2
 | choose _ _ ih=>intro e2 s2 h2;cases h2;rename_i h2;exact ih h2
 | os _ ih=>intro e2 s2 h2;cases h2;rename_i h2;exact ih h2
 | handled _ ih=>intro e2 s2 h2;cases h2;rename_i h2;exact ih h2
 | genState hg _ ih=>intro e2 s2 h2;cases h2;rename_i hg2 h2;rw [hg] at hg2;cases hg2;exact ih h2
 | stack _ ih=>intro e2 s2 h2;cases h2;rename_i h2;exact ih h2
 | thread _ ih=>intro e2 s2 h2;cases h2;rename_i h2;exact ih h2
 | newGen _ ih=>intro e2 s2 h2;cases h2;rename_i h2;exact ih h2
 | call _ _ ih1 ih2=>
   intro e2 s2 h2;cases h2 with
   | call a b=>obtain ⟨x,rfl⟩:=ih1 a;cases x;exact ih2 b
   | callSusp a=>obtain ⟨x,_⟩:=ih1 a;cases x
 | callSusp _ ih=>
   intro e2 s2 h2;cases h2 with
   | call a b=>obtain ⟨x,_⟩:=ih a;cases x
   | callSusp a=>obtain ⟨x,rfl⟩:=ih a;cases x;exact ⟨rfl,rfl⟩
 | yield=>intro e2 s2 h2;cases h2;exact ⟨rfl,rfl⟩
 | resumeFresh hg _ _ _ ih1 ih2=>
   intro e2 s2 h2;cases h2 with
   | resumeFresh hg2 a _ b=>rw [hg] at hg2;cases hg2;obtain ⟨rfl,rfl⟩:=ih1 a;exact ih2 b
   | resumeSuspended hg2=>rw [hg] at hg2;cases hg2
   | resumeJustStarted hg2 hv=>exact absurd rfl hv
   | resumeRunning hg2=>rw [hg] at hg2;cases hg2
   | resumeFinished hg2=>rw [hg] at hg2;cases hg2
 | resumeSuspended hg _ _ _ ih1 ih2=>
   intro e2 s2 h2;cases h2 with
   | resumeFresh hg2=>rw [hg] at hg2;cases hg2
   | resumeSuspended hg2 a _ b=>rw [hg] at hg2;cases hg2;obtain ⟨rfl,rfl⟩:=ih1 a;exact ih2 b
   | resumeJustStarted hg2=>rw [hg] at hg2;cases hg2
   | resumeThrowFresh hg2=>rw [hg] at hg2;cases hg2
   | resumeRunning hg2=>rw [hg] at hg2;cases hg2
   | resumeFinished hg2=>rw [hg] at hg2;cases hg2
 | resumeJustStarted hg hv _ ih=>
   intro e2 s2 h2;cases h2 with
   | resumeFresh hg2=>exact absurd rfl hv
   | resumeSuspended hg2=>rw [hg] at hg2;cases hg2
   | resumeJustStarted _ _ a=>exact ih a
   | resumeRunning hg2=>rw [hg] at hg2;cases hg2
   | resumeFinished hg2=>rw [hg] at hg2;cases hg2
 | resumeThrowFresh hg _ ih=>
   intro e2 s2 h2;cases h2 with
   | resumeSuspended hg2=>rw [hg] at hg2;cases hg2
   | resumeThrowFresh _ a=>exact ih a
   | resumeRunning hg2=>rw [hg] at hg2;cases hg2
   | resumeFinished hg2=>rw [hg] at hg2;cases hg2
 | resumeRunning hg _ ih=>
   intro e2 s2 h2;cases h2 with
   | resumeFresh hg2=>rw [hg] at hg2;cases hg2
   | resumeSuspended hg2=>rw [hg] at hg2;cases hg2
   | resumeJustStarted hg2=>rw [hg] at hg2;cases hg2
   | resumeThrowFresh hg2=>rw [hg] at hg2;cases hg2
   | resumeRunning _ a=>exact ih a
   | resumeFinished hg2=>rw [hg] at hg2;cases hg2
 | resumeFinished hg _ ih=>
   intro e2 s2 h2;cases h2 with
   | resumeFresh hg2=>rw [hg] at hg2;cases hg2
   | resumeSuspended hg2=>rw [hg] at hg2;cases hg2
   | resumeJustStarted hg2=>rw [hg] at hg2;cases hg2
   | resumeThrowFresh hg2=>rw [hg] at hg2;cases hg2
   | resumeRunning hg2=>rw [hg] at hg2;cases hg2
   | resumeFinished _ a=>exact ih a
 | segRet _ _ ih1 ih2=>
   intro e2 s2 h2;cases h2 with
   | segRet a b=>obtain ⟨x,rfl⟩:=ih1 a;cases x;exact ih2 b
   | segSuspOut _ a=>obtain ⟨x,_⟩:=ih1 a;cases x
   | segSuspGen _ a=>obtain ⟨x,_⟩:=ih1 a;cases x
 | segGen _ _ ih1 ih2=>
   intro e2 s2 h2;cases h2 with
   | segGen a b=>obtain ⟨x,rfl⟩:=ih1 a;cases x;exact ih2 b
   | segSuspOut _ a=>obtain ⟨x,_⟩:=ih1 a;cases x
   | segSuspGen _ a=>obtain ⟨x,_⟩:=ih1 a;cases x
 | segSuspOut hs _ ih=>
   intro e2 s2 h2;cases h2 with
   | segRet a b=>obtain ⟨x,_⟩:=ih a;cases x
   | segGen a b=>obtain ⟨x,_⟩:=ih a;cases x
   | segSuspOut _ a=>obtain ⟨x,rfl⟩:=ih a;cases x;exact ⟨rfl,rfl⟩
   | segSuspGen hs2=>rw [hs] at hs2;cases hs2
 | segSuspGen hs _ _ _ ih1 ih2=>
   intro e2 s2 h2;cases h2 with
   | segRet a b=>obtain ⟨x,_⟩:=ih1 a;cases x
   | segGen a b=>obtain ⟨x,_⟩:=ih1 a;cases x
   | segSuspOut hs2=>rw [hs] at hs2;cases hs2
   | segSuspGen hs2 a _ b=>rw [hs] at hs2;cases hs2;obtain ⟨x,rfl⟩:=ih1 a;cases x;exact ih2 b
theorem Sem.wp_and {α:Type}(M:Model) (Γ:Ctx) (t:Sem α):∀(Q Q':α->Pos->Shared->Prop) (E E':Value->Pos->Shared->Prop) (p:Pos) (s:Shared),wp M Γ t Q E p s->wp M Γ t Q' E' p s->
  wp M Γ t (λ a p' s'=>Q a p' s'/\Q' a p' s') (λ e p' s'=>E e p' s'/\E' e p' s') p s:=by
 induction t with
 | pure a=>intro Q Q' E E' p s h h';exact ⟨h,h'⟩
 | raise e=>intro Q Q' E E' p s h h';exact ⟨h,h'⟩
 | unsupported _=>intro Q Q' E E' p s h h';exact h
 | finish _=>intro Q Q' E E' p s h h';exact h
 | rule _ k ih=>intro Q Q' E E' p s h h';exact ih () Q Q' E E' p s h h'
 | «at» p' k ih=>intro Q Q' E E' p s h h';exact ih () Q Q' E E' p' s h h'
 | load a _ k ih=>intro Q Q' E E' p s h h';obtain ⟨o,ho,h⟩:=h;obtain ⟨o',ho',h'⟩:=h';rw [ho] at ho';cases ho';exact ⟨o,ho,ih o Q Q' E E' p s h h'⟩
 | update a _ f k ih=>intro Q Q' E E' p s h h';exact ⟨h.1,ih () Q Q' E E' p _ h.2 h'.2⟩
 | loadIfAlive a k ih=>intro Q Q' E E' p s h h';exact ih _ Q Q' E E' p s h h'
 | point _ k ih=>intro Q Q' E E' p s h h';exact ih () Q Q' E E' p s h h'
 | register _ _=>intro Q Q' E E' p s h h';exact h
 | alloc o k ih=>intro Q Q' E E' p s h h';exact ih _ Q Q' E E' p _ h h'
 | fresh k ih=>intro Q Q' E E' p s h h';exact ih _ Q Q' E E' p _ h h'
 | ask k ih=>intro Q Q' E E' p s h h';exact ih _ Q Q' E E' p s h h'
 | choose src m k ih=>intro Q Q' E E' p s h h';exact ⟨h.1,ih _ Q Q' E E' p _ h.2 h'.2⟩
 | os q _ k ih=>intro Q Q' E E' p s h h';exact ih _ Q Q' E E' p _ h h'
 | call c hd _ _ k ih=>
   intro Q Q' E E' p s h h';obtain ⟨r,s',hr,h⟩:=h;obtain ⟨r2,s2,hr2,h'⟩:=h';obtain ⟨x,rfl⟩:=Runs.det hr hr2;cases x;exact ⟨r,s',hr,ih r Q Q' E E' p s' h h'⟩
 | handled own k ih=>intro Q Q' E E' p s h h';exact ih _ Q Q' E E' p s h h'
 | genState g k ih=>intro Q Q' E E' p s h h';obtain ⟨st,hs,h⟩:=h;obtain ⟨st',hs',h'⟩:=h';rw [hs] at hs';cases hs';exact ⟨st,hs,ih _ Q Q' E E' p s h h'⟩
 | newGen c k ih=>intro Q Q' E E' p s h h';exact ih _ Q Q' E E' p _ h h'
 | resume g r _ k ih=>
   intro Q Q' E E' p s h h';obtain ⟨res,s',hw,h⟩:=h;obtain ⟨res2,s2,hw2,h'⟩:=h';have e:res=res2/\s'=s2:=by
    unfold Wakes at hw hw2;split at hw
    ·exact hw.elim
    ·split at hw
     ·rename_i e0 _;rw [e0] at hw2;obtain ⟨e1,s1,a,_,rfl,rfl⟩:=hw;obtain ⟨e1',s1',a',_,rfl,rfl⟩:=hw2;obtain ⟨rfl,rfl⟩:=Runs.det a a';exact ⟨rfl,rfl⟩
     ·rename_i e0 _ v hv;rw [e0] at hw2;cases v with
      | none=>exact absurd rfl hv
      | _=>exact ⟨hw.1.trans hw2.1.symm,hw.2.trans hw2.2.symm⟩
     ·rename_i e0 _ _;rw [e0] at hw2;exact ⟨hw.1.trans hw2.1.symm,hw.2.trans hw2.2.symm⟩
    ·rename_i e0;rw [e0] at hw2;obtain ⟨e1,s1,a,_,rfl,rfl⟩:=hw;obtain ⟨e1',s1',a',_,rfl,rfl⟩:=hw2;obtain ⟨rfl,rfl⟩:=Runs.det a a';exact ⟨rfl,rfl⟩
    ·rename_i e0;rw [e0] at hw2;exact ⟨hw.1.trans hw2.1.symm,hw.2.trans hw2.2.symm⟩
    ·rename_i e0;rw [e0] at hw2;exact ⟨hw.1.trans hw2.1.symm,hw.2.trans hw2.2.symm⟩
   obtain ⟨rfl,rfl⟩:=e;exact ⟨res,s',hw,ih res Q Q' E E' p s' h h'⟩
 | yield _ _ _ _=>intro Q Q' E E' p s h h';exact h
 | stack k ih=>intro Q Q' E E' p s h h';exact ih _ Q Q' E E' p s h h'
 | fork _ _=>intro Q Q' E E' p s h h';exact h
 | thread k ih=>intro Q Q' E E' p s h h';exact ih _ Q Q' E E' p s h h'
 | await _ _ _ _ _=>intro Q Q' E E' p s h h';exact h
theorem oC {α:Type}{M:Model}{A:Around}{s:Shared}{t:Sem α}{Q Q':α->Shared->Prop}{E E':Value->Shared->Prop}(h:wpAny M A t Q E s) (h':wpAny M A t Q' E' s):
  wpAny M A t (λ a s'=>Q a s'/\Q' a s') (λ e s'=>E e s'/\E' e s') s:=λ Γ p hΓ=>Sem.wp_and M Γ t _ _ _ _ p s (h Γ p hΓ) (h' Γ p hΓ)
end PySem
namespace L2
open PySem PySem.Spec PyProof.Rows
section
variable {prog:Program}{w:World}{A:Around}{E:Value->Shared->Prop}{s:Shared}
end
section
variable {M:Model}{A:Around}{E:Value->Shared->Prop}{s:Shared}{base:Heap}{env:Env}{outer:List Env}{L e:Addr}{cls a0:Value}{Q:Unit->Shared->Prop}
end
section
variable {X:Cx}{pins:List (Addr×Obj)}{σ:St}{H H':Hp}{s s':Shared}
end
section
variable {X:Cx}{e:Expr}{es:List Expr}{ta:TA}{ts:Addr->TS}{p pos bpos np hpos tpos:Pos}{sp:Sp}{k j i:Nat}{name xc n:Str}{ps:List Str}{C0:Addr}{b₀:Stmt}{suite:List Stmt}
end
end L2
namespace L2
open PySem PySem.Spec PyProof.Rows
section
variable {X:Cx}{a b e o:Expr}{ta tb te to:TE}{p pos:Pos}{es:List Expr}{t:TA}
end
section
variable {X:Cx}{e:Expr}{es:List Expr}{ta:TA}{ts:Addr->TS}{p pos bpos np hpos tpos:Pos}{sp:Sp}{k j i:Nat}{name xc n:Str}{ps:List Str}{C C0:Addr}{b₀:Stmt}{suite:List Stmt}
end
section
variable {K:Frag}{C C0 ea:Addr}{sp:Sp}{i:Nat}{ta t:TA}{ts:Addr->TS}{u:TS}{D:bZ}{σ:St}{H:Hp}{Q:VK}{vs:List V}
end
end L2
namespace L2
open PySem PySem.Spec PyProof.Rows
section
variable {prog:Program}{w:World}{A:Around}{E:Value->Shared->Prop}{s:Shared}
variable {K:Type} [DecidableEq K] {knd:KeyKind prog w K}
end
end L2
namespace L2
open PySem
def ox (xs:Array Nat):Prop:= ∀i j,i<j->j<xs.size->xs.getD i 0<xs.getD j 0
theorem eg {α:Type}{xs:Array α}{i:Nat}{d:α}(h:i<xs.size):xs.getD i d=xs[i]:=by simp [Array.getD,h]
theorem y9 {xs:Array Nat}{i d e:Nat}(h:i<xs.size):xs.getD i d=xs.getD i e:=by rw [eg h,eg h]
theorem i6 (xs:Array Nat) (j:Nat) (hr:ox xs):∀(f lo hi:Nat),hi - lo<=f->lo<=hi->hi<=xs.size->(∀k,k<lo->xs.getD k 0<j)->(∀k,hi<=k->k<xs.size->j<=xs.getD k 0)->
  SetTable.below.go xs j f lo hi<=xs.size/\(∀k,k<SetTable.below.go xs j f lo hi->xs.getD k 0<j)/\(∀k,SetTable.below.go xs j f lo hi<=k->k<xs.size->j<=xs.getD k 0)
 | 0,lo,hi,h1,h2,h3,h4,h5=>by
   have:lo=hi:=by omega
   subst this;exact ⟨h3,h4,h5⟩
 | f+1,lo,hi,h1,h2,h3,h4,h5=>by
   unfold SetTable.below.go
   by_cases h:lo<hi
   ·rw [if_pos h];have hm:(lo+hi) / 2<xs.size:=by omega
    dsimp only;rw [y9 (e:=0) hm]
    by_cases q:xs.getD ((lo+hi) / 2) 0<j
    ·rw [if_pos q];refine i6 xs j hr f _ hi (by omega) (by omega) h3 (λ k hk=>?_) h5
     by_cases e:k=(lo+hi) / 2
     ·rw [e];exact q
     ·exact Gh (hr k _ (by omega) hm) q
    ·rw [if_neg q];refine i6 xs j hr f lo _ (by omega) (by omega) (by omega) h4 (λ k hk hks=>?_)
     by_cases e:k=(lo+hi) / 2
     ·rw [e];omega
     ·have:=hr ((lo+hi) / 2) k (by omega) hks;omega
   ·rw [if_neg h];have:lo=hi:=by omega
    subst this;exact ⟨h3,h4,h5⟩
theorem eJ (xs:Array Nat) (j:Nat) (hr:ox xs):SetTable.below xs j<=xs.size/\(∀k,k<SetTable.below xs j->xs.getD k 0<j)/\(∀k,SetTable.below xs j<=k->k<xs.size->j<=xs.getD k 0):=
 i6 xs j hr _ 0 xs.size (by omega) (Gd _) (Gc _) (λ k hk=>by omega) (λ k h1 h2=>by omega)
theorem nn {xs:Array Nat}(hr:ox xs) {i:Nat}(h:i<xs.size):SetTable.below xs (xs.getD i 0+1)=i+1:=by
 obtain ⟨h1,h2,h3⟩:=eJ xs (xs.getD i 0+1) hr
 rcases Nat.lt_trichotomy (SetTable.below xs (xs.getD i 0+1)) (i+1) with q | q | q
 ·have:=h3 i (by omega) h;omega
 ·exact q
 ·have:=h2 (i+1) (by omega);have:=hr i (i+1) (by omega) (by omega);omega
theorem lY {xs:Array Nat}(hr:ox xs):SetTable.below xs 0=0:=by
 obtain ⟨h1,h2,h3⟩:=eJ xs 0 hr
 rcases Nat.eq_zero_or_pos (SetTable.below xs 0) with q | q
 ·exact q
 ·have:=h2 0 q;omega
def nz (xs:Array Nat) (j:Nat):Prop:= ∀k,k<xs.size->¬xs.getD k 0=j
theorem uu {xs:Array Nat}{j:Nat}(hr:ox xs) (h:(xs[SetTable.below xs j]? == some j)=false):nz xs j:=by
 obtain ⟨h1,h2,h3⟩:=eJ xs j hr;intro k hk e
 rcases Nat.lt_trichotomy k (SetTable.below xs j) with q | q | q
 ·have:=h2 k q;omega
 ·rw [<-q,GK hk,<-eg (d:=0) hk,e] at h;simp at h
 ·have a1:=hr (SetTable.below xs j) k q hk;have a2:=h3 (SetTable.below xs j) (Gc _) (by omega);omega
theorem jZ {xs:Array Nat}:ox xs<->xs.toList.Pairwise (· < ·):=by
 rw [Fx]
 constructor
 ·intro h i j hi hj hij;have hi':i<xs.size:=by simpa using hi
  have hj':j<xs.size:=by simpa using hj
  have:=h i j hij hj';rw [eg hi',eg hj'] at this;simpa using this
 ·intro h i j hij hj;have hi:i<xs.size:=by omega
  have:=h i j (by simpa using hi) (by simpa using hj) hij;rw [eg hi,eg hj];simpa using this
theorem my {xs:Array Nat}{j:Nat}(hr:ox xs) (hf:nz xs j):ox (SetTable.insertAt xs (SetTable.below xs j) j):=by
 obtain ⟨h1,h2,h3⟩:=eJ xs j hr;have g:∀m (hm:m<xs.toList.length),xs.toList[m]=xs.getD m 0:=λ m hm=>by
  have hm':m<xs.size:=by simpa using hm
  rw [eg hm'];simp
 rw [jZ,SetTable.toList_insertAt,List.pairwise_append];have hp:=jZ.mp hr;refine ⟨hp.sublist (FM _ _),EN.mpr ⟨λ a ha=>?_,hp.sublist (List.drop_sublist _ _)⟩,λ a ha b hb=>?_⟩
 ·obtain ⟨k,hk,rfl⟩:=FQ.mp ha;have hk':SetTable.below xs j+k<xs.size:=by simpa [Nat.add_comm] using hk
  have a1:=h3 (SetTable.below xs j+k) (by omega) hk';have a2:=hf _ hk';rw [g];omega
 ·obtain ⟨k,hk,rfl⟩:=List.mem_take_iff_getElem.mp ha;have hk1:k<SetTable.below xs j:=by omega
  have a1:=h2 k hk1;rw [g]
  rcases Ew.mp hb with rfl | hb
  ·exact a1
  ·obtain ⟨m,hm,rfl⟩:=FQ.mp hb;have hm':SetTable.below xs j+m<xs.size:=by simpa [Nat.add_comm] using hm
   have a2:=h3 (SetTable.below xs j+m) (by omega) hm';rw [g];omega
structure SG (led:Bool) (n:Nat) (t:SetTable):Prop where
 fits:t.fits n=true
 led:t.led=led
 ris:ox t.place
theorem fC (n:Nat):ox (Array.range n):=λ i j h hj=>by
 have hj':j<n:=by simpa using hj
 rw [eg (by simpa using Gh h hj'),eg hj];simpa using h
theorem SG.plainOff {t:SetTable}{led:Bool}{n:Nat}(h:SG led n t) (b:Bool):SG led n {t with plain:=b}:=⟨by have:=h.fits;cases t;exact this,h.led,h.ris⟩
theorem SG.fresh (led:Bool):SG led 0 (SetTable.fresh 0 0 led):=⟨rfl,rfl,λ i j _ hj=>absurd hj (by simp [SetTable.fresh])⟩
theorem jq {t:SetTable}{j:Nat}(hr:ox t.place) (h:t.slot j=.empty\/t.slot j=.dummy):nz t.place j:=by
 apply uu hr;unfold SetTable.slot at h;dsimp only at h;cases e:(t.place[SetTable.below t.place j]? == some j) with
 | false=>rfl
 | true=>
   rw [e] at h;simp at h
theorem fU {t:SetTable}(hr:ox t.place) (hashAt:Nat->Int) (h:Int):∀(f:Nat) (p:SetTable.Probe),(∀d,p.dummy=some d->nz t.place d)->∀j o,SetTable.probe.go t hashAt h f p=some (.empty j o)->nz t.place j/\∀d,o=some d->nz t.place d
 | 0,p,hp,j,o,e=>by simp [SetTable.probe.go] at e
 | f+1,p,hp,j,o,e=>by
   unfold SetTable.probe.go at e;cases q:t.slot p.j with
   | empty=>
     rw [q] at e;simp at e;obtain ⟨rfl,rfl⟩:=e;exact ⟨jq hr (.inl q),hp⟩
   | dummy=>
     rw [q] at e;refine fU hr hashAt h f _ (λ d hd=>?_) j o e;have:(t.advance {p with dummy:=some p.j}).dummy=some p.j:=by unfold SetTable.advance;split<;>rfl
     rw [this] at hd;cases hd;exact jq hr (.inr q)
   | live i=>
     rw [q] at e;dsimp only at e;split at e
     ·cases e
     ·refine fU hr hashAt h f _ (λ d hd=>?_) j o e;have:(t.advance p).dummy=p.dummy:=by unfold SetTable.advance;split<;>rfl
      rw [this] at hd;exact hp d hd
theorem SG.lay {t:SetTable}{led:Bool}{es:Array (Int×Value)}(g:SG led es.size t) (h:Int) (x:Value):SG led (layNew t es h x).1.size (layNew t es h x).2.1:=by
 refine ⟨layNew_fits t es h x,?_,?_⟩
 ·unfold layNew;split
  ·dsimp only;unfold SetTable.orStandIn;split
   ·exact g.led
   ·exact g.led
  ·exact g.led
 ·unfold layNew;split
  ·rename_i slot d e;have hf:nz t.place slot:=by
    unfold SetTable.freeSlot at e;split at e
    ·rename_i j o q;obtain ⟨f1,f2⟩:=fU g.ris _ h _ _ (λ d hd=>by simp [SetTable.probeStart] at hd) j o q;simp only [Option.some.injEq,Prod.mk.injEq] at e;obtain ⟨e1,_⟩:=e;cases o with
     | none=>rw [<-e1];exact f1
     | some d=>rw [<-e1];exact f2 d rfl
    ·cases e
   dsimp only;unfold SetTable.orStandIn;split
   ·exact my g.ris hf
   ·exact fC _
  ·exact fC _
theorem fN {α:Type}(f:Nat->Option (Nat×α)) (hf:∀j p,f j=some p->p.1=j):∀(l:List Nat),l.Pairwise (· < ·)->((l.filterMap f).map (·.1)).Pairwise (· < ·)/\∀a∈(l.filterMap f).map (·.1),a∈l
 | [],_=>⟨by simp,by simp⟩
 | j::l,h=>by
   obtain ⟨h1,h2⟩:=EN.mp h;obtain ⟨i1,i2⟩:=fN f hf l h2;rw [Fg];cases e:f j with
   | none=>exact ⟨i1,λ a ha=>Ez _ (i2 a ha)⟩
   | some p=>
     have ep:=hf j p e;dsimp only;rw [EJ,ep];refine ⟨EN.mpr ⟨λ a ha=>h1 a (i2 a ha),i1⟩,λ a ha=>?_⟩
     rcases Ew.mp ha with rfl | ha
     ·exact ED
     ·exact Ez _ (i2 a ha)
theorem lH {mask finger moves:Nat}{led plain:Bool}{hs:Array Int}{t:SetTable}{o:Array Nat}(h:SetTable.laid mask finger moves led plain hs=some (t,o)):t.led=led/\ox t.place:=by
 unfold SetTable.laid at h;cases e:SetTable.layClean mask hs with
 | none=>rw [e] at h;cases h
 | some owner=>
   rw [e] at h;simp only [Option.bind_eq_bind,Option.bind_some,Option.pure_def,Option.some.injEq,Prod.mk.injEq] at h;obtain ⟨rfl,_⟩:=h;refine ⟨rfl,jZ.mpr ?_⟩;dsimp only;have:=(fN (λ j=>(owner.getD j none).map (j,·)) (λ j p hp=>by
    obtain ⟨a,_,rfl⟩:=GU.mp hp;rfl) (List.range (mask+1)) List.pairwise_lt_range).1
   simpa using this
theorem SG.relay {t:SetTable}{led:Bool}{es:Array (Int×Value)}{n:Nat}(g:SG led n t) (wanted:Nat):SG led (relayAll t es wanted).1.size (relayAll t es wanted).2.1:=by
 refine ⟨relayAll_fits t es wanted,?_,?_⟩
 ·unfold relayAll;split
  ·rename_i t' o e;have:=lH e;dsimp only;split
   ·exact this.1.trans g.led
   ·exact g.led
  ·exact g.led
 ·unfold relayAll;split
  ·rename_i t' o e;have:=lH e;dsimp only;split
   ·exact this.2
   ·exact fC _
  ·exact fC _
theorem iT {α:Type}{l:List α}{i:Nat}{x:α}(h:l[i]? =some x):(x::l.eraseIdx i).Perm l:=by
 have hi:i<l.length:=(EH.mp h).1;have e:l=l.take i++x::l.drop (i+1):=by
  have e1:=(List.take_append_drop i l).symm;have e2:l.drop i=x::l.drop (i+1):=by rw [Fy hi];rw [Ex hi] at h;rw [Option.some.inj h]
  rw [e2] at e1;exact e1
 rw [List.eraseIdx_eq_take_drop_succ]
 conv=>rhs;rw [e]
 exact List.perm_middle.symm
theorem nV {α:Type}(next:Nat->Nat):∀(f k:Nat) (left:List α) (out:Array α),left.length<=f->(pickOrder.go next f k left out).toList.Perm (out.toList++left)
 | 0,k,left,out,h=>by have:left=[]:=Fe.mp (by omega);subst this;simp [pickOrder.go]
 | f+1,k,left,out,h=>by
   unfold pickOrder.go;split
   ·rename_i x e;have hi:next k % left.length<left.length:=(EH.mp e).1;have hl:=FR hi;refine (nV next f (k+1) _ _ (by omega)).trans ?_;rw [GQ,List.append_assoc];exact List.Perm.append_left _ (iT e)
   ·rename_i e;have:left=[]:=by
     cases left with
     | nil=>rfl
     | cons a l=>
       rw [Ex (Nat.mod_lt _ (by simp))] at e;cases e
    subst this;simp
theorem pa {α:Type}(next:Nat->Nat) (xs:Array α):(pickOrder next xs).toList.Perm xs.toList:=by have:=nV next xs.size 0 xs.toList #[] (by simp);simpa [pickOrder] using this
end L2
namespace L2
open PySem
def lp (mask:Nat) (h:Int):Nat->Nat×Nat
 | 0=>(SetTable.bits h % (mask+1),SetTable.bits h)
 | n+1=>SetTable.leap mask (lp mask h n).1 (lp mask h n).2
end L2
namespace L2
open PySem
def sl (mask:Nat) (h:Int) (n c:Nat):Nat:=(lp mask h n).1+c
end L2
namespace L2
open PySem
end L2
namespace L2
open PySem
end L2
namespace L2
open PySem
end L2
namespace L2
open PySem
theorem bv:Slot "set_iterator" "__next__" "set_iterator.__next__":=
 .of (owner:="set_iterator") (n:="__next__") (by rw [typeLookup_type,builtinLookup_eq_fast];kernel_rfl) (by decide+kernel) (by decide+kernel) (by decide+kernel) (by first | exact .inl (by decide+kernel) | exact .inr (by decide+kernel)) (by rw [isSubtype_type];kernel_rfl)
theorem eG:entryFor table "set_iterator.__next__"=some Builtin.«set_iterator.__next__» :=entryFor_of_tree (by kernel_rfl)
theorem eM (a:Value):argsOk "set_iterator.__next__" ⟨[a],[]⟩:=by unfold argsOk;kernel_rfl
theorem iA:Slot "set_iterator" "__iter__" "set_iterator.__iter__":=
 .of (owner:="set_iterator") (n:="__iter__") (by rw [typeLookup_type,builtinLookup_eq_fast];kernel_rfl) (by decide+kernel) (by decide+kernel) (by decide+kernel) (by first | exact .inl (by decide+kernel) | exact .inr (by decide+kernel)) (by rw [isSubtype_type];kernel_rfl)
theorem mZ:entryFor table "set_iterator.__iter__"=some Builtin.«dict_keyiterator.__iter__» :=
 entryFor_alias (id':="dict_keyiterator.__iter__") (by kernel_rfl) rfl (by decide+kernel) (by kernel_rfl)
theorem nu (a:Value):argsOk "set_iterator.__iter__" ⟨[a],[]⟩:=by unfold argsOk;kernel_rfl
theorem lR:entryFor table "set.__iter__"=some Builtin.«frozenset.__iter__» :=
 entryFor_alias (id':="frozenset.__iter__") (by kernel_rfl) rfl (by decide+kernel) (by kernel_rfl)
def cX (h:Heap) (D:Addr) (es:Array (Int×Value)) (ep:Nat) (t:SetTable):Prop:= ∃o,h.get? D=some o/\o.ExactSet/\o.data=.set es ep t
def l0 (h:Heap) (I D:Addr) (first:Value) (i n ep:Nat):Prop:= ∃o,h.get? I=some o/\o.cls=.type "set_iterator"/\o.data=.fields #[first,.int i 0,.ref D,.int n 0,.int ep 0]
section
variable {M:Model}{prog:Program}{w:World}{A:Around}{E:Value->Shared->Prop}{s:Shared}
theorem l0.ty {I D:Addr}{f:Value}{i n ep:Nat}(h:l0 s.heap I D f i n ep):s.TypeIs (.ref I) "set_iterator":=let ⟨o,h1,h2,_⟩:=h;⟨o,h1,h2⟩
theorem l0.keep {h h':Heap}{I D:Addr}{f:Value}{i n ep:Nat}(x:l0 h I D f i n ep) (k:∀o,h.get? I=some o->h'.get? I=some o):l0 h' I D f i n ep:=let ⟨o,h1,r⟩:=x;⟨o,k o h1,r⟩
theorem cX.keep {h h':Heap}{D:Addr}{es:Array (Int×Value)}{ep:Nat}{t:SetTable}(x:cX h D es ep t) (k:∀o,h.get? D=some o->h'.get? D=some o):cX h' D es ep t:=let ⟨o,h1,r⟩:=x;⟨o,k o h1,r⟩
theorem ir {m:Sem Unit}{α:Type}{k:Unit->Sem α}{Q:α->Shared->Prop}(hm:∀Q':Unit->Shared->Prop,Q' () s->wpAny M A m Q' E s) (h:wpAny M A (k ()) Q E s):wpAny M A (m >>= k) Q E s:=wpAny_bind (hm _ h)
theorem gG {D:Addr}{es:Array (Int×Value)}{ep:Nat}{t:SetTable}{Q:(Array (Int×Value)×Nat×SetTable)->Shared->Prop}(hS:cX s.heap D es ep t) (hf:t.fits es.size=true) (h:Q (es,ep,t) s):wpAny (model prog w) A (setState D) Q E s:=by obtain ⟨o,ho,_,hd⟩:=hS;exact wpAny_setState_of ho hd hf h
theorem gw {Q:Bool->Shared->Prop}(h:Q (w.params.followText "set-order") s):wpAny (model prog w) A setsByText Q E s:=by unfold setsByText;exact wpAny_bind (wpAny_askSetting (wpAny_pure h))
theorem ju {D:Addr}{es:Array (Int×Value)}{ep slot given:Nat}{t:SetTable}{Q:Option (Value×Nat)->Shared->Prop}(hS:cX s.heap D es ep t) (g:SG (!w.params.followText "set-order") es.size t) (hb:w.params.followText "set-order"=false) (hp:t.plain=true\/es.size<=1) {i:Nat}(hi:SetTable.below t.place slot=i)
  (h:Q (match es[i]?,t.place[i]? with | some (_,x),some j=>some (x,j+1) | _,_=>none) s):wpAny (model prog w) A (setNext D slot given ep) Q E s:=by
 unfold setNext;refine wpAny_bind (gG hS g.fits ?_);dsimp only;refine wpAny_bind (gw ?_);rw [hb,if_neg Gz];split
 ·rename_i q;have q:(!t.plain&&decide (es.size > 1))=true:=q
  rcases hp with hp | hp
  ·rw [hp] at q;cases q
  ·rw [decide_eq_false (by omega:¬es.size > 1),Bool.and_false] at q;cases q
 ·refine ir (λ Q' q=>?_) ?_
  ·show wpAny _ _ (if (!t.led&& !es.isEmpty)=true then _ else _) _ _ _;rw [g.led,hb];exact wpAny_pure q
  ·rw [hi];exact wpAny_pure h
theorem jt {D:Addr}{es:Array (Int×Value)}{ep slot given:Nat}{t:SetTable}{Q:Option (Value×Nat)->Shared->Prop}(hS:cX s.heap D es ep t) (hf:t.fits es.size=true) (hb:w.params.followText "set-order"=true)
  (h:Q (((pickOrder (w.params.setOrder D ep) es)[given]?).map λ e=>(e.2,slot)) s):wpAny (model prog w) A (setNext D slot given ep) Q E s:=by
 unfold setNext;refine wpAny_bind (gG hS hf ?_);dsimp only;refine wpAny_bind (gw ?_);rw [hb];show wpAny _ _ (if (ep != ep)=true then _ else _) _ _ _;rw [if_neg (by simp)];refine wpAny_bind ?_;unfold setWalk;refine wpAny_bind (gG hS hf ?_);dsimp only;refine wpAny_bind (gw ?_);rw [hb];show wpAny _ _ (do let x<-ask;pure _) _ _ _;exact wpAny_bind (wpAny_askSetting (wpAny_pure (wpAny_pure h)))
theorem mP {D:Addr}{es:Array (Int×Value)}{ep place:Nat}{t:SetTable}{e:Int×Value}{Q:Value->Shared->Prop}(hS:cX s.heap D es ep t) (hf:t.fits es.size=true) (he:es[place]? =some e) (h:Q e.2 s):wpAny (model prog w) A (setNextDrawn D place ep) Q E s:=by unfold setNextDrawn;refine wpAny_bind (gG hS hf ?_);dsimp only;rw [if_neg (by simp),he];exact wpAny_pure h
end
def slotAt (t:SetTable) (i:Nat):Nat:=if i=0 then 0 else t.place.getD (i - 1) 0+1
theorem gb {t:SetTable}(hr:ox t.place) {i:Nat}(hi:i<=t.place.size):SetTable.below t.place (slotAt t i)=i:=by
 unfold slotAt
 by_cases h:i=0
 ·rw [if_pos h,h];exact lY hr
 ·rw [if_neg h,nn hr (by omega)];omega
section
variable {prog:Program}{w:World}{A:Around}{E:Value->Shared->Prop}{s:Shared}
theorem ky {I D:Addr}{o:Obj}{vs:Array Value}{h:Heap}{i:Nat}{x:Value}(ho:h.get? I=some o) (hc:o.cls=.type "set_iterator") (hd:o.data=.fields vs):∃o',(h.update I (Obj.mapFields (·.setIfInBounds i x))).get? I=some o'/\o'.cls=.type "set_iterator"/\o'.data=.fields (vs.setIfInBounds i x):=
 ⟨_,Heap.get?_update_self _ ho (Obj.isFreed_of_fields (Obj.data_mapFields hd _)),(Obj.cls_mapFields ..).trans hc,Obj.data_mapFields hd _⟩
end
end L2
namespace L2
open PySem
section
variable {prog:Program}{w:World}{A:Around}{E:Value->Shared->Prop}{s:Shared}
theorem lJ {I D:Addr}{es:Array (Int×Value)}{ep slot i next:Nat}{t:SetTable}{x:Value}{Q:Option Value->Shared->Prop}(hi:l0 s.heap I D (.int slot 0) i es.size ep) (hS:cX s.heap D es ep t) (hf:t.fits es.size=true)
  (hn:∀(Q':Option (Value×Nat)->Shared->Prop) (E':Value->Shared->Prop),Q' (some (x,next)) s->wpAny (model prog w) A.in1 (setNext D slot i ep) Q' E' s)
  (hQ:∀h',l0 h' I D (.int next 0) (i+1) es.size ep->Heap.SameBut I s.heap h'->Q (some x) {s with heap:=h'}):wpAny (model prog w) A (pyNext (.ref I)) Q E s:=by
 have ty:=hi.ty;obtain ⟨o,ho,hc,hd⟩:=hi;unfold pyNext;refine wpAny_bind (wpAny_attempt (wpAny_callSpecial?_slot (name:=Str.ofString "__next__") ty bv (wpAny_call_entry bv ty eG ?_ (eM _))));show wpAny _ _ (fieldsOf (.ref I) >>= _) _ _ s;refine wpAny_bind (wpAny_fieldsOf ho hd ?_);show wpAny _ _ (setEntries D >>= _) _ _ s;unfold setEntries;refine wpAny_bind (wpAny_bind (gG hS hf (wpAny_pure ?_)));dsimp only;rw [if_neg (by simp)];show wpAny _ _ (setNext D (Int.toNat slot) (Int.toNat i) (Int.toNat ep) >>= _) _ _ s;rw [Gu,Gu,Gu];refine wpAny_bind (hn _ _ ?_);dsimp only;refine wpAny_bind (wpAny_setField ho hd (by simp) ?_);obtain ⟨o2,ho2,hc2,hd2⟩:=ky (D:=D) (i:=0) (x:=rawInt next) ho hc hd;refine wpAny_bind (wpAny_setField ho2 hd2 (by simp) (wpAny_pure ⟨x,rfl,wpAny_pure (hQ _ ?_ ((Heap.SameBut.update ..).trans (Heap.SameBut.update ..)))⟩));obtain ⟨o3,ho3,hc3,hd3⟩:=ky (D:=D) (i:=1) (x:=rawInt ((i:Int)+1)) ho2 hc2 hd2;exact ⟨o3,ho3,hc3,by rw [hd3];rfl⟩
theorem ol {I D:Addr}{es:Array (Int×Value)}{ep slot i:Nat}{t:SetTable}{Q:Option Value->Shared->Prop}(hh:A.handled=none) (hi:l0 s.heap I D (.int slot 0) i es.size ep) (hS:cX s.heap D es ep t) (hf:t.fits es.size=true)
  (hn:∀(Q':Option (Value×Nat)->Shared->Prop) (E':Value->Shared->Prop),Q' none s->wpAny (model prog w) A.in1 (setNext D slot i ep) Q' E' s)
  (hQ:∀h',Heap.ExtBut I s.heap h'->Q none {s with heap:=h'}):wpAny (model prog w) A (pyNext (.ref I)) Q E s:=by
 have ty:=hi.ty;obtain ⟨o,ho,hc,hd⟩:=hi;unfold pyNext;refine wpAny_bind (wpAny_attempt (wpAny_callSpecial?_slot (name:=Str.ofString "__next__") ty bv (wpAny_call_entry bv ty eG ?_ (eM _))));show wpAny _ _ (fieldsOf (.ref I) >>= _) _ _ s;refine wpAny_bind (wpAny_fieldsOf ho hd ?_);show wpAny _ _ (setEntries D >>= _) _ _ s;unfold setEntries;refine wpAny_bind (wpAny_bind (gG hS hf (wpAny_pure ?_)));dsimp only;rw [if_neg (by simp)];show wpAny _ _ (setNext D (Int.toNat slot) (Int.toNat i) (Int.toNat ep) >>= _) _ _ s;rw [Gu,Gu,Gu];refine wpAny_bind (hn _ _ ?_);dsimp only;refine wpAny_bind (wpAny_setField ho hd (by simp) ?_);refine wpAny_bind ?_;simp only [newExc,newTuple];refine wpAny_bind (wpAny_newObj_type ?_ (by size_fits));refine wpAny_bind (m:=firstArgMember _ _) (wpAny_of_eq (a:=Value.none) (by first | rfl | (simp only [firstArgMember];rfl)) ?_)
 refine wpAny_newObj_type ?_ (by size_fits);simp only [raiseNew];refine wpAny_bind (wpAny_handled ?_);rw [show A.in1.handled=none from hh];refine wpAny_bind (wpAny_pure (wpAny_throw ?_));refine wpAny_bind (wpAny_isInstance (T:="StopIteration") (b:=true) ⟨_,Heap.get?_push_size _ rfl,rfl⟩ isSubtype_stop ?_);exact wpAny_pure (hQ _ (((Heap.SameBut.update ..).extBut.push _).push _))
theorem uj {I D T:Addr}{es:Array (Int×Value)}{ps:Array Value}{ep i c k:Nat}{t:SetTable}{e:Int×Value}{ot:Obj}{Q:Option Value->Shared->Prop}(hi:l0 s.heap I D (.ref T) i es.size ep) (hS:cX s.heap D es ep t) (hf:t.fits es.size=true)
  (hT:s.heap.get? T=some ot) (hTd:ot.data=.seq ps c) (hp:ps[i]? =some (.int k 0)) (he:es[k]? =some e)
  (hQ:∀h',l0 h' I D (.ref T) (i+1) es.size ep->Heap.SameBut I s.heap h'->Q (some e.2) {s with heap:=h'}):wpAny (model prog w) A (pyNext (.ref I)) Q E s:=by
 have ty:=hi.ty;obtain ⟨o,ho,hc,hd⟩:=hi;unfold pyNext;refine wpAny_bind (wpAny_attempt (wpAny_callSpecial?_slot (name:=Str.ofString "__next__") ty bv (wpAny_call_entry bv ty eG ?_ (eM _))));show wpAny _ _ (fieldsOf (.ref I) >>= _) _ _ s;refine wpAny_bind (wpAny_fieldsOf ho hd ?_);show wpAny _ _ (setEntries D >>= _) _ _ s;unfold setEntries;refine wpAny_bind (wpAny_bind (gG hS hf (wpAny_pure ?_)));dsimp only;rw [if_neg (by simp)];show wpAny _ _ (seqItems? (.ref T) >>= _) _ _ s;refine wpAny_bind (wpAny_seqItems hT hTd ?_);dsimp only;rw [Gu,hp];dsimp only;rw [Gu,Gu];refine wpAny_bind (mP hS hf he ?_);obtain ⟨o3,ho3,hc3,hd3⟩:=ky (D:=D) (i:=1) (x:=rawInt ((i:Int)+1)) ho hc hd;exact wpAny_bind (wpAny_setField ho hd (by simp) (wpAny_pure ⟨_,rfl,wpAny_pure (hQ _ ⟨o3,ho3,hc3,by rw [hd3];rfl⟩ (Heap.SameBut.update ..))⟩))
theorem yL {I D T:Addr}{es:Array (Int×Value)}{ps:Array Value}{ep i c:Nat}{t:SetTable}{ot:Obj}{Q:Option Value->Shared->Prop}(hh:A.handled=none) (hi:l0 s.heap I D (.ref T) i es.size ep) (hS:cX s.heap D es ep t) (hf:t.fits es.size=true)
  (hT:s.heap.get? T=some ot) (hTd:ot.data=.seq ps c) (hp:ps[i]? =none)
  (hQ:∀h',Heap.ExtBut I s.heap h'->Q none {s with heap:=h'}):wpAny (model prog w) A (pyNext (.ref I)) Q E s:=by
 have ty:=hi.ty;obtain ⟨o,ho,hc,hd⟩:=hi;unfold pyNext;refine wpAny_bind (wpAny_attempt (wpAny_callSpecial?_slot (name:=Str.ofString "__next__") ty bv (wpAny_call_entry bv ty eG ?_ (eM _))));show wpAny _ _ (fieldsOf (.ref I) >>= _) _ _ s;refine wpAny_bind (wpAny_fieldsOf ho hd ?_);show wpAny _ _ (setEntries D >>= _) _ _ s;unfold setEntries;refine wpAny_bind (wpAny_bind (gG hS hf (wpAny_pure ?_)));dsimp only;rw [if_neg (by simp)];show wpAny _ _ (seqItems? (.ref T) >>= _) _ _ s;refine wpAny_bind (wpAny_seqItems hT hTd ?_);dsimp only;rw [Gu,hp];dsimp only;refine wpAny_bind (wpAny_setField ho hd (by simp) ?_);obtain ⟨o2,ho2,hc2,hd2⟩:=ky (D:=D) (i:=0) (x:=rawInt 0) ho hc hd;refine wpAny_bind (wpAny_setField ho2 hd2 (by simp) ?_);refine wpAny_bind ?_;simp only [newExc,newTuple];refine wpAny_bind (wpAny_newObj_type ?_ (by size_fits));refine wpAny_bind (m:=firstArgMember _ _) (wpAny_of_eq (a:=Value.none) (by first | rfl | (simp only [firstArgMember];rfl)) ?_)
 refine wpAny_newObj_type ?_ (by size_fits);simp only [raiseNew];refine wpAny_bind (wpAny_handled ?_);rw [show A.in1.handled=none from hh];refine wpAny_bind (wpAny_pure (wpAny_throw ?_));refine wpAny_bind (wpAny_isInstance (T:="StopIteration") (b:=true) ⟨_,Heap.get?_push_size _ rfl,rfl⟩ isSubtype_stop ?_);exact wpAny_pure (hQ _ ((((Heap.SameBut.update ..).trans (Heap.SameBut.update ..)).extBut.push _).push _))
theorem jR {I D:Addr}{f:Value}{i n ep:Nat}{Q:Value->Shared->Prop}(hi:l0 s.heap I D f i n ep) (h:Q (.ref I) s):wpAny (model prog w) A (pyIter (.ref I)) Q E s:=by refine wpAny_pyIter_slot hi.ty iA (wpAny_call_entry iA hi.ty mZ ?_ (nu _));show wpAny _ _ (ret (.ref I)) _ _ s;exact wpAny_pure ⟨_,rfl,"set_iterator",_,hi.ty,bv.lookup,h⟩
end
end L2
namespace L2
open PySem
def bG (es:Array (Int×Value)):List Value:=es.toList.map (·.2)
structure WS3 (prog:Program) (w:World) (s:Shared) (D:Addr) (vs:List Value) (h':Heap) (I:Addr):Prop where
 ex:∃(fp:List Addr) (St:Nat->Heap->Prop),(∀A':Around,A'.handled=none->Walks prog w A' I fp [I] vs.length (λ i v=>vs[i]? =some v) St)/\St 0 h'/\(∀b∈fp,b=D\/s.heap.objs.size<=b)/\I∈fp/\(∀b∈fp,b<h'.objs.size)/\s.heap.objs.size<=I
section
variable {prog:Program}{w:World}
theorem oF {I D:Addr}(hne:D≠I) {es:Array (Int×Value)}{ep:Nat}{t:SetTable}(g:SG (!w.params.followText "set-order") es.size t) (hb:w.params.followText "set-order"=false) (hp:t.plain=true\/es.size<=1) {A:Around}(hh:A.handled=none):
  Walks prog w A I [I,D] [I] (bG es).length (λ i v=>(bG es)[i]? =some v) (λ i h=>i<=es.size/\l0 h I D (.int (slotAt t i:Nat) 0) i es.size ep/\cX h D es ep t) where
 sub:=λ b hb=>by
  have:b=I:=by simpa using hb
  simp [this]
 frame:=λ i h h' st k=>⟨st.1,st.2.1.keep λ o e=>k I (by simp) o e,st.2.2.keep λ o e=>k D (by simp) o e⟩
 item:=λ i s Q E hi st hQ=>by
  have hl:(bG es).length=es.size:=by simp [bG]
  have hi':i<es.size:=by omega
  have hps:t.place.size=es.size:=by have:=g.fits;unfold SetTable.fits at this;rw [GB] at this;exact beq_iff_eq.mp this.1
  have hv:(bG es)[i]? =some es[i].2:=by unfold bG;rw [EB,GM,GK hi'];rfl
  refine lJ (x:=es[i].2) (next:=slotAt t (i+1)) st.2.1 st.2.2 g.fits (λ Q' E' q=>ju st.2.2 g hb hp (gb g.ris (by omega)) ?_) λ h' a b=>?_
  ·rw [GK hi',GK (by omega)];have e:slotAt t (i+1)=t.place[i]+1:=by unfold slotAt;rw [if_neg (Nat.succ_ne_zero i),Nat.add_sub_cancel,eg (by omega)]
   rw [e] at q;exact q
  ·exact hQ _ h' s.toks hv ⟨hi',a,st.2.2.keep λ o e=>b.extBut D o hne e⟩ λ c o hc e=>b.extBut c o (λ z=>hc (by simp [z])) e
 done:=λ s Q E st hQ=>by
   have hl:(bG es).length=es.size:=by simp [bG]
   have hps:t.place.size=es.size:=by have:=g.fits;unfold SetTable.fits at this;rw [GB] at this;exact beq_iff_eq.mp this.1
   rw [hl] at st;refine ol hh st.2.1 st.2.2 g.fits (λ Q' E' q=>ju st.2.2 g hb hp (gb g.ris (by omega)) ?_) λ h' a=>hQ h' s.toks λ c o hc e=>a c o (λ z=>hc (by simp [z])) e;rw [GL (Gc _)];exact q
 self:=λ _ _ _ _ st hQ=>jR st.2.1 hQ
theorem oE {I D:Addr}(hne:D≠I) {es:Array (Int×Value)}{ep:Nat}{t:SetTable}(hf:t.fits es.size=true) (hb:w.params.followText "set-order"=true) {A:Around}(hh:A.handled=none):
  Walks prog w A I [I,D] [I] (bG (pickOrder (w.params.setOrder D ep) es)).length (λ i v=>(bG (pickOrder (w.params.setOrder D ep) es))[i]? =some v) (λ i h=>l0 h I D (.int (0:Nat) 0) i es.size ep/\cX h D es ep t) where
 sub:=λ b hb=>by
  have:b=I:=by simpa using hb
  simp [this]
 frame:=λ i h h' st k=>⟨st.1.keep λ o e=>k I (by simp) o e,st.2.keep λ o e=>k D (by simp) o e⟩
 item:=λ i s Q E hi st hQ=>by
  have hi':i<(pickOrder (w.params.setOrder D ep) es).size:=by simpa [bG] using hi
  have hv:(bG (pickOrder (w.params.setOrder D ep) es))[i]? =some (pickOrder (w.params.setOrder D ep) es)[i].2:=by unfold bG;rw [EB,GM,GK hi'];rfl
  refine lJ (x:=(pickOrder (w.params.setOrder D ep) es)[i].2) (next:=0) st.1 st.2 hf (λ Q' E' q=>jt st.2 hf hb ?_) λ h' a b=>?_
  ·rw [GK hi'];exact q
  ·exact hQ _ h' s.toks hv ⟨a,st.2.keep λ o e=>b.extBut D o hne e⟩ λ c o hc e=>b.extBut c o (λ z=>hc (by simp [z])) e
 done:=λ s Q E st hQ=>by refine ol hh st.1 st.2 hf (λ Q' E' q=>jt st.2 hf hb ?_) λ h' a=>hQ h' s.toks λ c o hc e=>a c o (λ z=>hc (by simp [z])) e;rw [GL (by simp [bG])];exact q
 self:=λ _ _ _ _ st hQ=>jR st.1 hQ
theorem tw {I D T:Addr}(hne:D≠I) (hT:T≠I) {es:Array (Int×Value)}{ep:Nat}{t:SetTable}(hf:t.fits es.size=true) (ks:List Nat) (hk:∀k∈ks,k<es.size) {A:Around}(hh:A.handled=none):
  Walks prog w A I [I,D,T] [I] (ks.map λ k=>(es.getD k (0,.none)).2).length (λ i v=>(ks.map λ k=>(es.getD k (0,.none)).2)[i]? =some v) (λ i h=>l0 h I D (.ref T) i es.size ep/\cX h D es ep t/\∃ot c,h.get? T=some ot/\ot.data=.seq (ks.map λ (k:Nat)=>Value.int k 0).toArray c) where
 sub:=λ b hb=>by
  have:b=I:=by simpa using hb
  simp [this]
 frame:=λ i h h' st k=>⟨st.1.keep λ o e=>k I (by simp) o e,st.2.1.keep λ o e=>k D (by simp) o e,let ⟨ot,c,h1,h2⟩:=st.2.2;⟨ot,c,k T (by simp) ot h1,h2⟩⟩
 item:=λ i s Q E hi st hQ=>by
  have hi':i<ks.length:=by simpa using hi
  obtain ⟨s1,s2,ot,c,h1,h2⟩:=st;have hki:ks[i]<es.size:=hk _ (EZ hi');refine uj (k:=ks[i]) (e:=es[ks[i]]) s1 s2 hf h1 h2 (by simp [hi']) (GK hki) λ h' a b=>?_;refine hQ _ h' s.toks ?_ ⟨a,s2.keep λ o e=>b.extBut D o hne e,ot,c,b.extBut T ot hT h1,h2⟩ λ c o hc e=>b.extBut c o (λ z=>hc (by simp [z])) e;rw [EB,Ex hi'];show some (es.getD ks[i] (0,.none)).2=_;rw [eg hki]
 done:=λ s Q E st hQ=>by obtain ⟨s1,s2,ot,c,h1,h2⟩:=st;exact yL hh s1 s2 hf h1 h2 (by simp) λ h' a=>hQ h' s.toks λ c o hc e=>a c o (λ z=>hc (by simp [z])) e
 self:=λ _ _ _ _ st hQ=>jR st.1 hQ
end
section
variable {prog:Program}{w:World}{A:Around}{E:Value->Shared->Prop}
theorem sx {α:Type}:∀(n:Nat) (xs:List α) (s:Shared) (Q:List α->Shared->Prop),xs.length=n->(∀l d,l.Perm xs->Q l {s with drawn:=d})->wpAny (model prog w) A (drawOrder n xs) Q E s
 | 0,xs,s,Q,hn,h=>by have:xs=[]:=Fe.mp hn;subst this;exact wpAny_pure (h [] s.drawn (List.Perm.refl _))
 | n+1,[],s,Q,hn,h=>by cases hn
 | n+1,x::xs,s,Q,hn,h=>by
   show wpAny _ _ (do let i<-choose .order (x::xs).length;_) _ _ s;refine wpAny_bind ?_;intro Γ p hΓ;unfold choose;rw [Sem.wp_choose];refine ⟨Nat.succ_ne_zero _,?_⟩;have hi:(model prog w).w.draws Source.order (s.drawn.get Source.order) % (x::xs).length<(x::xs).length:=Nat.mod_lt _ (Nat.succ_pos _);refine (wpAny_pure (M:=model prog w) (A:=A) (E:=E) ?_) Γ p hΓ;rw [Ex hi];dsimp only;refine wpAny_bind (sx n _ _ _ ?_ λ l d hp=>?_)
   ·rw [FR hi];omega
   ·exact wpAny_pure (h _ d ((List.Perm.cons _ hp).trans (iT (Ex hi))))
end
section
variable {prog:Program}{w:World}{A:Around}{E:Value->Shared->Prop}{s:Shared}
theorem mD {es:Array (Int×Value)}{l:List Nat}(h:l.Perm (List.range es.size)):(l.map λ k=>(es.getD k (0,.none)).2).Perm (bG es):=by
 refine (h.map _).trans (List.Perm.of_eq ?_);unfold bG;apply Fc;intro i;have e0:es.toList[i]? =es[i]? :=GM;rw [EB,EB,e0]
 by_cases hi:i<es.size
 ·rw [E3 hi,GK hi];show some (es.getD i (0,.none)).2=some es[i].2;rw [eg hi]
 ·rw [E1 (by simpa using hi),GL (by omega)];rfl
theorem rB {D:Addr}{es:Array (Int×Value)}{ep:Nat}{t:SetTable}{Q:Value->Shared->Prop}(hS:cX s.heap D es ep t) (g:SG (!w.params.followText "set-order") es.size t) (hz:es.size<=sizeLine)
  (hQ:∀(vs:List Value) (h':Heap) (I:Addr) d,vs.Perm (bG es)->WS3 prog w s D vs h' I->(∀b o,s.heap.get? b=some o->h'.get? b=some o)->Q (.ref I) {s with heap:=h',drawn:=d}):wpAny (model prog w) A (pyIter (.ref D)) Q E s:=by
 have ty:s.TypeIs (.ref D) "set":=let ⟨o,h1,h2,_⟩:=hS;⟨o,h1,h2.1⟩;have hlt:D<s.heap.objs.size:=let ⟨o,h1,_⟩:=hS;Heap.lt_size h1;refine wpAny_pyIter_slot ty F.slot_set_iter (wpAny_call_entry F.slot_set_iter ty lR ?_ (F.args_set_iter_1 _));show wpAny _ _ (Builtin.Frozenset.sizeOf D >>= _) _ _ s;unfold Builtin.Frozenset.sizeOf setEntries;refine wpAny_bind (wpAny_bind (wpAny_bind (gG hS g.fits (wpAny_pure (wpAny_pure ?_)))));dsimp only;refine wpAny_bind ?_;unfold setDrawn;refine wpAny_bind (gG hS g.fits ?_);dsimp only;refine wpAny_bind (gw (wpAny_pure ?_));have fin:∀(first:Value) (h1:Heap) (d:Drawn),(∀b o,s.heap.get? b=some o->h1.get? b=some o)->s.heap.objs.size<=h1.objs.size->(∀I h',l0 h' I D first 0 es.size ep->cX h' D es ep t->D<I->s.heap.objs.size<=I->h1.objs.size<=I->I<h'.objs.size->(∀b o,h1.get? b=some o->h'.get? b=some o)->∃vs:List Value,vs.Perm (bG es)/\WS3 prog w s D vs h' I)->
   wpAny (model prog w) A.in1 (do let n<-setEpoch D;let x<-newFields "set_iterator" [first,rawInt 0,.ref D,rawInt es.size,rawInt n];ret x) (λ r s'=> ∃v,r=.done (.ret v)/\∃T' r',s'.TypeIs v T'/\typeLookup (.type T') "__next__"=pure (some r')/\Q v s') E {s with heap:=h1,drawn:=d}:=λ first h1 d k hs f=>by
  have hS1:cX h1 D es ep t:=hS.keep λ o e=>k D o e;unfold setEpoch;refine wpAny_bind (wpAny_bind (gG hS1 g.fits (wpAny_pure ?_)));refine wpAny_bind (wpAny_newObj_type (wpAny_pure ?_) (by size_fits));have k2:∀b o,h1.get? b=some o->(h1.push {cls:=.type "set_iterator",data:=.fields #[first,.int 0 0,.ref D,.int es.size 0,.int ep 0]}).get? b=some o:=λ b o e=>Heap.get?_push_of_some _ e;have hI:l0 (h1.push {cls:=.type "set_iterator",data:=.fields #[first,.int 0 0,.ref D,.int es.size 0,.int ep 0]}) h1.objs.size D first 0 es.size ep:=⟨_,Heap.get?_push_size _ rfl,rfl,rfl⟩;obtain ⟨vs,p,W⟩:=f _ _ hI (hS1.keep λ o e=>k2 D o e) (Gf hlt hs) hs (Gc _) (by rw [Heap.size_push];exact Gk _) k2;exact ⟨_,rfl,"set_iterator",_,⟨_,Heap.get?_push_size _ rfl,rfl⟩,bv.lookup,hQ vs _ _ d p W λ b o e=>k2 b o (k b o e)⟩
 cases hb:w.params.followText "set-order" with
 | true=>
   rw [if_neg (by simp)];refine wpAny_bind (wpAny_pure (fin _ s.heap s.drawn (λ _ _ e=>e) (Gc _) λ I h' a b c1 c2 c3 c4 k=>⟨_,(pa (w.params.setOrder D ep) es).map _,⟨[I,D],_,λ A' hA=>oE (Gb c1) g.fits hb hA,⟨a,b⟩,?_,by simp,?_,c2⟩⟩))
   ·intro x hx;simp only [Ew,E5,or_false] at hx
    rcases hx with rfl | rfl
    ·exact .inr c2
    ·exact .inl rfl
   ·intro x hx;simp only [Ew,E5,or_false] at hx
    rcases hx with rfl | rfl
    ·exact c4
    ·exact Gh c1 c4
 | false=>
   split
   ·rename_i hd;have hd:(!t.plain&&decide (es.size > 1))=true:=hd;refine wpAny_bind (sx es.size (List.range es.size) s _ (by simp) λ l d hp=>?_);refine wpAny_bind (wpAny_newObj_type ?_ ?_)
    ·refine fin _ _ d (λ b o e=>Heap.get?_push_of_some _ e) (by rw [Heap.size_push];exact Gg _) λ I h' a b c1 c2 c3 c4 k=>⟨_,mD hp,⟨[I,D,s.heap.objs.size],_,λ A' hA=>tw (T:=s.heap.objs.size) (Gb c1) (Gb (Gf (by rw [Heap.size_push];exact Gk _) c3)) g.fits l (λ x hx=>by simpa using hp.mem_iff.mp hx) hA,⟨a,b,_,_,k _ _ (Heap.get?_push_size _ rfl),rfl⟩,?_,by simp,?_,c2⟩⟩
     ·intro x hx;simp only [Ew,E5,or_false] at hx
      rcases hx with rfl | rfl | rfl
      ·exact .inr c2
      ·exact .inl rfl
      ·exact .inr (Gc _)
     ·intro x hx;simp only [Ew,E5,or_false] at hx
      rcases hx with rfl | rfl | rfl
      ·exact c4
      ·exact Gh c1 c4
      ·exact Gs c2 c4
    ·have:=hp.length_eq;simp only [EK] at this;simp [sizeOk,this,hz]
   ·rename_i hd;have hd:¬(!t.plain&&decide (es.size > 1))=true:=hd;have hp:t.plain=true\/es.size<=1:=by
     cases e:t.plain with
     | true=>exact .inl rfl
     | false=>
       right
       rw [e] at hd;simp at hd;omega
    refine wpAny_bind (wpAny_pure (fin _ s.heap s.drawn (λ _ _ e=>e) (Gc _) λ I h' a b c1 c2 c3 c4 k=>⟨_,List.Perm.refl _,⟨[I,D],_,λ A' hA=>oF (Gb c1) g hb hp hA,⟨Gd _,a,b⟩,?_,by simp,?_,c2⟩⟩))
    ·intro x hx;simp only [Ew,E5,or_false] at hx
     rcases hx with rfl | rfl
     ·exact .inr c2
     ·exact .inl rfl
    ·intro x hx;simp only [Ew,E5,or_false] at hx
     rcases hx with rfl | rfl
     ·exact c4
     ·exact Gh c1 c4
end
end L2
namespace L2
open PySem
theorem mU:typeLookup (.type "set") "__len__"=pure (some (.builtin "set.__len__")):=by rw [typeLookup_type,builtinLookup_eq_fast];kernel_rfl
section
variable {prog:Program}{w:World}{A:Around}{E:Value->Shared->Prop}{s:Shared}
theorem rG {D:Addr}{Q:Bool->Shared->Prop}(ty:s.TypeIs (.ref D) "set") (q:Q false s):wpAny (model prog w) A (Builtin.List.listLengthHint (.ref D)) Q E s:=by
 unfold Builtin.List.listLengthHint;refine wpAny_bind (wpAny_specialOf ty mU ?_);generalize hx:("set.__len__":String)=x0
 wp_delta
 rw [show splitId x0=some ("set","__len__") from by subst hx;decide+kernel];subst hx;refine wpAny_bind (wpAny_isInstance (T:="set") (b:=true) ty (by rw [isSubtype_type];kernel_rfl) ?_);refine wpAny_ite_split (λ z=>absurd z (by decide)) (λ _=>wpAny_ite_split (λ _=>?_) (λ z=>absurd (by decide+kernel) z));exact wpAny_bind (wpAny_typeOf ty (wpAny_pure q))
abbrev g6:Obj:={cls:=.type "list",data:=.seq ([]:List Value).toArray}
theorem g9 {D:Addr}{es:Array (Int×Value)}{ep:Nat}{t:SetTable}{Q:List Value->Shared->Prop}(hh:A.handled=none) (hS:cX s.heap D es ep t) (g:SG (!w.params.followText "set-order") es.size t) (hz:es.size<=sizeLine)
  (q:∀(vs:List Value) (h':Heap) d tk,vs.Perm (bG es)->(∀b o,s.heap.get? b=some o->h'.get? b=some o)->s.heap.objs.size<h'.objs.size->s.toks<=tk->Q vs {s with heap:=h',drawn:=d,toks:=tk}):wpAny (model prog w) A (collect (.ref D)) Q E s:=by
 have hlt:D<s.heap.objs.size:=let ⟨o,h1,_⟩:=hS;Heap.lt_size h1;unfold collect;refine wpAny_bind (wpAny_runValue (codeAny_builtin F.entry_proto_collect ?_));rw [Around.under_plainId F.plain_proto_collect _];show wpAny _ A.in1 (newList [] >>= λ l=>again (.builtin "list.__iadd__" ⟨[l,.ref D],[]⟩)) _ _ s;refine wpAny_bind (wpAny_newObj_type (wpAny_pure ⟨plainId_quiet F.plain_list_iadd _,codeAny_builtin F.entry_list_iadd ?_⟩));rw [Around.under_plainId F.plain_list_iadd _];have kp:∀b o,s.heap.get? b=some o->(s.heap.push g6).get? b=some o:=λ b o e=>Heap.get?_push_of_some _ e;have hS1:cX (s.heap.push g6) D es ep t:=hS.keep λ o e=>kp D o e;have ty1:Shared.TypeIs {s with heap:=s.heap.push g6} (.ref D) "set":=let ⟨o,h1,h2,_⟩:=hS1;⟨o,h1,h2.1⟩;have gL:(s.heap.push g6).get? s.heap.objs.size=some g6:=Heap.get?_push_size _ rfl;show wpAny _ A.in1 (Builtin.List.listExtendWith (.ref s.heap.objs.size) (.ref D) (.ref s.heap.objs.size)) _ _ _;unfold Builtin.List.listExtendWith;refine wpAny_bind (wpAny_typeOf ty1 ?_);have n1:Builtin.List.listSameRef (.ref s.heap.objs.size) (.ref D)=false:=by simp [Builtin.List.listSameRef,Gj hlt]
 rw [if_neg (by rw [n1];decide)];refine wpAny_bind (rB (s:={s with heap:=s.heap.push g6}) hS1 g hz λ vs h' I d hp W k=>?_);obtain ⟨fp,St,W,st,f1,f2,f3,f4⟩:=W.ex;have hvl:vs.length<=sizeLine:=by
  have:=hp.length_eq;have e:(bG es).length=es.size:=by simp [bG]
  omega
 have nS:s.heap.objs.size∉fp:=λ z=>by
  rcases f1 _ z with e | e
  ·exact Gj hlt e
  ·have e:(s.heap.push g6).objs.size<=s.heap.objs.size:=e;rw [Heap.size_push] at e;exact Gi _ e
 have ty2:Shared.TypeIs {s with heap:=h',drawn:=d} (.ref D) "set":=let ⟨o,h1,h2,_⟩:=hS1;⟨o,k _ _ h1,h2.1⟩;refine wpAny_bind (wpAny_holding (rG ty2 ?_));have gL2:=k _ _ gL;refine wpAny_ite_split (λ _=>?_) (λ z=>absurd (by decide+kernel) z);refine wpAny_bind (wpAny_rule (wpAny_bind ?_));show wpAny _ _ (updateSeq s.heap.objs.size (·.push .none) >>= λ _=>updateSeq s.heap.objs.size (·.pop)) _ _ _;refine wpAny_bind (wpAny_updateSeq gL2 rfl ?_);have gL3:=Heap.get?_update_self (Obj.mapSeq (·.push Value.none)) gL2 rfl;refine wpAny_updateSeq (hz:=by seq_fits) gL3 rfl ?_;have gL4:=Heap.get?_update_self (Obj.mapSeq (·.pop)) gL3 rfl;have oth:∀b o,b≠s.heap.objs.size->h'.get? b=some o->((h'.update s.heap.objs.size (Obj.mapSeq (·.push Value.none))).update s.heap.objs.size (Obj.mapSeq (·.pop))).get? b=some o:=
  λ b o hb e=>(Heap.get?_update_other _ _ (Ne.symm hb)).trans ((Heap.get?_update_other _ _ (Ne.symm hb)).trans e)
 refine wpAny_pure ⟨plainId_quiet F.plain_extend_loop _,codeAny_extend_loopS (A:=A) (W A.in1 hh).toS hvl _ nS _ vs.length 0 _ _ _ rfl (Gd _) ((W A.in1 hh).frame 0 _ _ st λ b hb o e=>oth b o (λ z=>nS (z▸hb)) e) gL4 (ItemsOf.nil _) λ s2 acc c hm gA hacc=>?_⟩;show wpAny _ A (load s.heap.objs.size >>= _) _ _ s2;refine wpAny_bind (wpAny_load gA ?_);have ea:acc.toList=vs:=by
  apply Fc;intro i;rw [GM]
  by_cases hi:i<acc.size
  ·have:=hacc.2 i acc[i] (GK hi);rw [GK hi,this]
  ·rw [GL (by omega),E1 (by have:=hacc.1;omega)]
 refine wpAny_pure ?_;rw [ea];obtain ⟨h2,g2,d2,t2,o2⟩:=s2;obtain rfl:g2=s.gens:=hm.gens;obtain rfl:d2=d:=hm.drawn;obtain rfl:o2=s.os:=hm.os;refine q vs _ _ _ hp (λ b o e=>?_) (Heap.lt_size gA) ?_
 ·have hb:b≠s.heap.objs.size:=Gb (Heap.lt_size e);refine hm.heap b o (λ z=>?_) (oth b o hb (k b o (kp b o e)))
  rcases Ew.mp z with z | z
  ·exact hb z
  ·have z:b=I:=EL.mp z;have e2:(s.heap.push g6).objs.size<=I:=f4;rw [Heap.size_push] at e2;exact absurd (Heap.lt_size e) (by rw [z];exact Nat.not_lt.mpr (Nat.le_of_succ_le e2))
 ·exact hm.toks
end
def eN {prog:Program}{w:World}{κ:Type} [DecidableEq κ] (knd:KeyKind prog w κ) (h:Heap) (D:Addr) (S:κ->Bool) (n:Nat):Prop:=
 ∃es ep t,cX h D es ep t/\ElemsOf knd es.toList/\(∀k,S k=true<->∃e∈es.toList,knd.is k e.2=true)/\es.size<scanBound/\SG (!w.params.followText "set-order") es.size t/\es.size=n
section
variable {prog:Program}{w:World}{κ:Type} [DecidableEq κ] {knd:KeyKind prog w κ}{A:Around}{E:Value->Shared->Prop}{s:Shared}
theorem eN.congr {h:Heap}{D:Addr}{S S':κ->Bool}{n n':Nat}(x:eN knd h D S n) (e1:∀k,S k=S' k) (e2:n=n'):eN knd h D S' n':=by obtain rfl:S=S':=funext e1;subst e2;exact x
theorem eN.keep {h h':Heap}{D:Addr}{S:κ->Bool}{n:Nat}(x:eN knd h D S n) (k:∀o,h.get? D=some o->h'.get? D=some o):eN knd h' D S n:=let ⟨es,ep,t,h1,r⟩:=x;⟨es,ep,t,h1.keep k,r⟩
theorem cX.put {h:Heap}{D:Addr}{es:Array (Int×Value)}{ep:Nat}{t:SetTable}(x:cX h D es ep t) (es':Array (Int×Value)) (t':SetTable):cX (h.update D (Obj.putSet es' t')) D es' (ep+1) t':=by obtain ⟨o,ho,hx,hd⟩:=x;have e:=Heap.get?_update_self (Obj.putSet es' t') ho (by rw [putSet_of es' t' hd];rfl);rw [putSet_of es' t' hd] at e;exact ⟨_,e,hx,rfl⟩
theorem j4 {D:Addr}{es es':Array (Int×Value)}{ep:Nat}{t t':SetTable}{Q:Unit->Shared->Prop}(x:cX s.heap D es ep t) (hz:es'.size<scanBound) (q:Q () {s with heap:=s.heap.update D (Obj.putSet es' t')}):wpAny (model prog w) A (storeSet D es' t') Q E s:=by obtain ⟨o,ho,_,hd⟩:=x;exact wpAny_storeSet_of ho hd q (fits_of_scanBound hz)
theorem Dn {D:Addr}{S:κ->Bool}{n:Nat}{k:κ}{x:Value}{Q:Bool->Shared->Prop}(hk:knd.is k x=true) (hx:x.scannable=true) (hS:eN knd s.heap D S n) (hr:n+1<scanBound)
  (q:∀h',Heap.SameBut D s.heap h'->eN knd h' D (λ k'=>S k'||decide (k'=k)) (if S k then n else n+1)->Q (!S k) {s with heap:=h'}):wpAny (model prog w) A (setAddHashed D x (knd.hash k)) Q E s:=by
 obtain ⟨es,ep,t,o1,he,hm,hb,g,rfl⟩:=hS;obtain ⟨o,ho,hx1,hd⟩:=id o1;unfold setAddHashed setAddHashedIn;refine wpAny_holding (wpAny_bind (gG o1 g.fits ?_));dsimp only;rw [byScan_of hx hb he,if_pos rfl];unfold setAddByScan;refine wpAny_bind (wpAny_bind (wpAny_rule (wpAny_bind (wpAny_setScan_of hk ho hd g.fits he ?_))));cases hr2:es.toList.findIdx? (λ e=>knd.is k e.2) with
 | some j=>
   dsimp only;obtain ⟨hj,pj,_⟩:=FS.mp hr2;have hs:S k=true:=(hm k).mpr ⟨_,EZ hj,pj⟩;refine wpAny_pure (wpAny_pure ?_);have z:=q s.heap (Heap.SameBut.refl D s.heap) ⟨es,ep,t,o1,he,λ k'=>?_,hb,g,by rw [hs];rfl⟩
   ·rw [hs] at z;exact z
   ·rw [GG,decide_eq_true_eq,<-hm k'];exact ⟨λ y=>y.elim id (λ e=>e▸hs),.inl⟩
 | none=>
   dsimp only;have hs:S k=false:=by
    cases y:S k with
    | false=>rfl
    | true=>
      obtain ⟨e,a1,a2⟩:=(hm k).mp y;have:=FT.mp hr2 e a1;rw [a2] at this;cases this
   have p1:=layNew_perm t es (knd.hash k) x;have g1:=g.lay (knd.hash k) x;generalize layNew t es (knd.hash k) x=L at p1 g1 ⊢;obtain ⟨es1,t1,wd,gv⟩:=L;dsimp only at p1 g1 ⊢;rw [GQ] at p1;have he1:ElemsOf knd es1.toList:=(he.push hk hx).perm p1;have hm1:=mem_push_iff hk hm p1;have hz1:es1.size=es.size+1:=by have:=p1.length_eq;simpa using this
   refine ir ?_ ?_
   ·intro Q' y;cases gv
    ·exact wpAny_pure y
    ·exact wpAny_rule y
   have fin:∀t2,SG (!w.params.followText "set-order") es1.size t2->wpAny (model prog w) A (do
     storeSet D es1 t2
     if (!wd&&t2.tooFull)=true then do
         (match (relayAll t2 es1 (SetTable.grown es1.size)).2.2 with | true=>rule "set.scan.the-table-gave-way" | false=>pure ())
         storeSet D (relayAll t2 es1 (SetTable.grown es1.size)).1 (relayAll t2 es1 (SetTable.grown es1.size)).2.1
         pure (some true)
      else pure (some true)) (λ r s'=>wpAny (model prog w) A (match r with | some added=>pure added | none=>setAddHashedIn D x (knd.hash k) 99999) Q E s') E s:=λ t2 g2=>by
    refine wpAny_bind (j4 o1 (by omega) ?_);have o2:=o1.put es1 t2;have b2:=Heap.SameBut.update s.heap D (Obj.putSet es1 t2);split
    ·have p3:=relayAll_perm t2 es1 (SetTable.grown es1.size);have g3:=g2.relay (es:=es1) (SetTable.grown es1.size);generalize relayAll t2 es1 (SetTable.grown es1.size)=R at p3 g3 ⊢;obtain ⟨es3,t3,gv3⟩:=R;dsimp only at p3 g3 ⊢;have hz3:es3.size=es1.size:=by have:=p3.length_eq;simpa using this
     refine ir ?_ ?_
     ·intro Q' y;cases gv3
      ·exact wpAny_pure y
      ·exact wpAny_rule y
     refine wpAny_bind (j4 o2 (by omega) (wpAny_pure (wpAny_pure ?_)));have z:=q _ (b2.trans (Heap.SameBut.update _ D (Obj.putSet es3 t3))) ⟨es3,_,t3,o2.put es3 t3,he1.perm p3,λ k'=>(hm1 k').trans ⟨λ ⟨e,y1,y2⟩=>⟨e,p3.mem_iff.mpr y1,y2⟩,λ ⟨e,y1,y2⟩=>⟨e,p3.mem_iff.mp y1,y2⟩⟩,by omega,g3,by rw [hs,hz3,hz1];rfl⟩;rw [hs] at z;exact z
    ·refine wpAny_pure (wpAny_pure ?_);have z:=q _ b2 ⟨es1,_,t2,o2,he1,hm1,by omega,g2,by rw [hs,hz1];rfl⟩;rw [hs] at z;exact z
   split
   ·refine wpAny_bind ?_;rw [hashByValue_scannable 8 hx];refine wpAny_pure ?_;cases plainKind x with
    | true=>exact fin t1 g1
    | false=>exact fin _ (g1.plainOff false)
   ·exact wpAny_bind (wpAny_pure (fin t1 g1))
end
end L2
namespace L2
open PySem
section
variable {prog:Program}{w:World}{A:Around}{E:Value->Shared->Prop}{s:Shared}
end
end L2
namespace L2
open PySem
section
variable {prog:Program}{w:World}{A:Around}{E:Value->Shared->Prop}{s:Shared}
end
end L2
namespace L2
open PySem PySem.Spec PyProof.Rows
section
variable {prog:Program}{w:World}{A:Around}{R:Result->Shared->Prop}{I:Addr}{fp wr:List Addr}{G:Array GenState->Array GenState->Prop}{n:Nat}{Pt:Nat->Value->Prop}{St:Nat->Shared->Prop}{κ:Type} [DecidableEq κ] {knd:KeyKind prog w κ}
theorem oS (W:WalksS prog w A.in1 I fp wr G n Pt St) (D:Addr) (hD:D∉fp) (val:Nat->κ) (hv:∀i v,Pt i v->knd.is (val i) v=true/\v.scannable=true) (hb:n+1<scanBound):
  ∀(k i:Nat) (s:Shared),n - i=k->i<=n->St i s->eN knd s.heap D (λ x=>decide (x∈aB val i)) (aB val i).length->
   (∀s2,Moved (D::wr) G s s2->eN knd s2.heap D (λ x=>decide (x∈aB val n)) (aB val n).length->R (.ok (.ret .none)) s2)->codeAny (model prog w) A (.builtin "set.update.loop" ⟨[.ref D,.ref I],[]⟩) R s:=by
 have nW:D∉wr:=λ z=>hD (W.sub _ z);have up:∀b∈wr,b∈D::wr:=λ b z=>Ez _ z;have mv:∀{s s2:Shared} {S:κ->Bool} {m:Nat},Moved wr G s s2->eN knd s.heap D S m->eN knd s2.heap D S m:=λ hm x=>x.keep λ o e=>hm.heap D _ nW e;intro k
 induction k with
 | zero=>
   intro i s e1 e2 st hS hR;have e3:i=n:=by omega
   subst e3;refine codeAny_builtin F.entry_set_update_loop ?_;rw [Around.under_plainId F.plain_set_update_loop _];show wpAny _ A.in1 (pyNext (.ref I) >>= _) _ _ s;refine wpAny_bind (W.done s _ _ st λ s2 hm=>?_);show wpAny _ A.in1 (ret Value.none) _ _ s2;exact wpAny_pure (hR s2 (hm.mono up) (mv hm hS))
 | succ k ih=>
   intro i s e1 e2 st hS hR;have e3:i<n:=by omega
   refine codeAny_builtin F.entry_set_update_loop ?_;rw [Around.under_plainId F.plain_set_update_loop _];show wpAny _ A.in1 (pyNext (.ref I) >>= _) _ _ s;refine wpAny_bind (W.item i s _ _ e3 st λ v s2 hp st2 hm=>?_);obtain ⟨kv,sv⟩:=hv i v hp;have hS2:=mv hm hS;show wpAny _ A.in1 (holding [v] (setAdd D v) >>= _) _ _ s2;refine wpAny_bind (wpAny_holding ?_);unfold setAdd;refine wpAny_holding (wpAny_bind (knd.pyHash (k:=val i) kv ?_));have room:(aB val i).length+1<scanBound:=by have:=cM val i;omega
   refine Dn (knd:=knd) (s:={s2 with toks:=s2.toks+1}) kv sv hS2 room λ h2 sb hS3=>?_;have hS4:eN knd h2 D (λ x=>decide (x∈aB val (i+1))) (aB val (i+1)).length:=by
    refine hS3.congr (λ x=>?_) ?_
    ·show (decide (x∈aB val i)||decide (x=val i))=decide (x∈jg (aB val i) (val i))
     unfold jg
     by_cases m:val i∈aB val i
     ·rw [if_pos m]
      by_cases e:x=val i
      ·subst e;rw [decide_eq_true m];simp
      ·rw [decide_eq_false e,GE]
     ·rw [if_neg m,GD];simp
    ·show (if decide (val i∈aB val i)=true then _ else _)=(jg (aB val i) (val i)).length;unfold jg
     by_cases m:val i∈aB val i
     ·rw [if_pos (decide_eq_true m),if_pos m]
     ·rw [if_neg (by rw [decide_eq_false m];decide),if_neg m,EF];rfl
   refine wpAny_pure ⟨plainId_quiet F.plain_set_update_loop _,ih (i+1) _ (by omega) e3 (W.frame _ s2 _ _ st2 (Gg _) λ b hb o e=>?_) hS4 λ s3 hm3 hS5=>?_⟩
   ·exact (sb.2 b (λ z:b=D=>hD (z▸hb))).trans e
   ·refine hR s3 (Moved.trans W.gtrans ((hm.mono up).then_heap (Gg _) λ b o hb e=>?_) hm3) hS5;exact (sb.2 b (λ z:b=D=>hb (by rw [z];exact ED))).trans e
end
section
variable {prog:Program}{w:World}{A:Around}{E:Value->Shared->Prop}{s:Shared}{κ:Type} [DecidableEq κ] {knd:KeyKind prog w κ}
theorem jr (a:Value) {Q1:Value->Shared->Prop}(q:Q1 (.ref s.heap.objs.size) {s with heap:=s.heap.push (bj (!w.params.followText "set-order"))}):codeAny (model prog w) A (.call (.builtin "set.__new__") ⟨[.type "set",a],[]⟩) (wants Q1 E) s:=by
 refine codeAny_of_tree ?_;show wpAny _ A.in1 (do checkBuiltinCall "set.__new__" ⟨[.type "set",a],[]⟩;again _) _ _ s;refine wpAny_bind (wpAny_of_eq (F.newCall_set_1 a) (wpAny_pure ⟨plainId_quiet F.plain_set_new _,codeAny_builtin F.entry_set_new ?_⟩));rw [Around.under_plainId F.plain_set_new _];unfold Builtin.«set.__new__» Builtin.Frozenset.newClass;have hsub:=sub_set_self;obtain ⟨hp,g,d,tk,os⟩:=s;dsimp only
 wp_walk
 refine wpAny_askSetting (wpAny_pure ?_);dsimp only;simp only [newObj];refine wpAny_bind (wpAny_alloc (wpAny_pure (wpAny_pure q)))
end
end L2
namespace L2
open PySem PySem.Spec PyProof.Rows
section
variable {prog:Program}{w:World}{A:Around}{R:Result->Shared->Prop}{I:Addr}{fp wr:List Addr}{G:Array GenState->Array GenState->Prop}{n:Nat}{Pt:Nat->Value->Prop}{St:Nat->Shared->Prop}
end
section
variable {prog:Program}{w:World}{A:Around}{E:Value->Shared->Prop}{s:Shared}
end
end L2
namespace L2
open PySem PySem.W PyProof.Rows
structure Ep (n:Nat) (lt:Nat->Nat->Bool):Prop where
 tr:∀a b c,a<n->b<n->c<n->lt a b=true->lt b c=true->lt a c=true
 as:∀a b,a<n->b<n->lt a b=true->lt b a=false
 tt:∀a b,a<n->b<n->a≠b->lt a b=false->lt b a=true
section
variable {n:Nat}{lt:Nat->Nat->Bool}{s:Shared}{cmp:Nat->Nat->(Bool->Shared->Prop)->Shared->Prop}(O:Ep n lt) (hc:∀i j (C:Bool->Shared->Prop),i<n->j<n->C (lt i j) s->cmp i j C s)
include O hc
omit O hc in
theorem D9 {p q:Array Nat}{n:Nat}(h:p.toList.Perm (List.range n)) (e:q.Perm p):q.toList.Perm (List.range n):=(GR.mp e).trans h
end
end L2
namespace L2
open PySem PySem.W PySem.Calls PyProof.Rows
section
variable {prog:Program}{w:World}{A:Around}{E:Value->Shared->Prop}{s:Shared}
end
end L2
namespace L2
open PySem PySem.Spec PyProof.Rows
theorem j6 {κ:Type} [DecidableEq κ]:∀{l ns:List κ},l.Nodup->(∀k∈l,k∈ns)->ns.length=l.length->ns.Perm l
 | [],ns,_,_,h=>by have:ns=[]:=Fe.mp h;rw [this]
 | a::l,ns,nd,h,hl=>by
   obtain ⟨n1,n2⟩:=E9.mp nd;have ha:=h a (by simp);have hp:ns.Perm (a::ns.erase a):=FU ha;have hl2:=hp.length_eq;refine hp.trans (List.Perm.cons _ (j6 n2 (λ k hk=>?_) ?_))
   ·have hne:k≠a:=λ e=>n1 (e▸hk);exact (List.mem_erase_of_ne hne).mpr (h k (Ez _ hk))
   ·simp only [EA] at hl hl2;omega
theorem ie {κ:Type} [DecidableEq κ] (val:Nat->κ):∀i,(aB val i).Nodup
 | 0=>by simp [aB]
 | i+1=>by
   have ih:=ie val i;show (jg (aB val i) (val i)).Nodup;unfold jg
   by_cases h:val i∈aB val i
   ·rw [if_pos h];exact ih
   ·rw [if_neg h,Fn];refine ⟨ih,by simp,λ a ha b hb e=>h ?_⟩;have:b=val i:=by simpa using hb
    rw [<-this,<-e];exact ha
section
variable {prog:Program}{w:World}{A:Around}{E:Value->Shared->Prop}{s:Shared}
theorem lg {D:Addr}{l:List Str}{Q:Value->Shared->Prop}(hh:A.handled=none) (hS:eN (PySem.strKind prog w) s.heap D (λ x=>decide (x∈l)) l.length) (hn:l.Nodup) (h64:l.length<64)
  (q:∀(out:Array Value) (ns':List Str) (h':Heap) (p:Addr) e d tk,StrsAre out.toList ns'->ns'.Perm l->sortedS ns'=true->(∀b o,s.heap.get? b=some o->h'.get? b=some o)->s.heap.objs.size<=p->h'.get? p=some (seqObj "list" out e)->s.toks<=tk->Q (.ref p) {s with heap:=h',drawn:=d,toks:=tk}):
  wpAny (model prog w) A (call (.builtin "sorted") [.ref D]) Q E s:=by
 obtain ⟨es,ep,t,o1,he,hm,hb,g,hz⟩:=hS;refine Calls.call_function_entry kind_sorted plain_sorted entry_sorted (args_sorted1 _) ?_;unfold Builtin.«sorted»;refine wpAny_bind (m:=checkCount "sorted" 1 1 _) (wpAny_pure ?_);refine wpAny_bind (g9 (by exact hh) o1 g (fits_of_scanBound hb) λ vs h1 d1 tk1 hp k1 hsz ht1=>?_);have hvl:vs.length=l.length:=by
  have e1:=hp.length_eq;have e2:(bG es).length=es.size:=by simp [bG]
  omega
 have hi:∀v∈vs,∃i t,v=Value.str i t:=λ v hv=>by
  have hv:=hp.mem_iff.mp hv;obtain ⟨e,h1,rfl⟩:=EE.mp hv;obtain ⟨⟨k,h2,_⟩,_⟩:=he e h1;cases h:e.2 with
  | str i t=>exact ⟨i,t,rfl⟩
  | _=>rw [h] at h2;simp [PySem.strKind,Value.isStrOf] at h2
 obtain ⟨ns,hI⟩:∃ns,StrsAre vs ns:=by
  clear hp hvl
  induction vs with
  | nil=>exact ⟨[],.nil⟩
  | cons v vs ih=>
    obtain ⟨i,t,rfl⟩:=hi v (by simp);obtain ⟨ns,h⟩:=ih (λ v hv=>hi v (Ez _ hv));exact ⟨i::ns,.cons i t h⟩
 have hmem:∀k∈l,k∈ns:=λ k hk=>by
  obtain ⟨e,h1,h2⟩:=(hm k).mp (decide_eq_true hk);have hv:e.2∈vs:=hp.mem_iff.mpr (EE.mpr ⟨e,h1,rfl⟩);have:∀{vs:List Value} {ns:List Str},StrsAre vs ns->e.2∈vs->k∈ns:=λ h=>by
   induction h with
   | nil=>intro z;cases z
   | cons n t h ih=>
     intro z
     rcases Ew.mp z with z | z
     ·rw [z] at h2;have:n=k:=by simpa [PySem.strKind,Value.isStrOf] using h2
      rw [this];exact ED
     ·exact Ez _ (ih z)
  exact this hI hv
 have hnl:ns.length=l.length:=by
  have:∀{vs:List Value} {ns:List Str},StrsAre vs ns->vs.length=ns.length:=λ h=>by
   induction h with
   | nil=>rfl
   | cons n t h ih=>simp [ih]
  have:=this hI;omega
 have hpn:=j6 hn hmem hnl;refine wpAny_bind (wpAny_newList ?_);have gL:(h1.push (seqObj "list" vs.toArray 0)).get? h1.objs.size=some (seqObj "list" vs.toArray 0):=Heap.get?_push_size _ rfl;refine wpAny_bind (wpAny_holding (wpAny_call_entry slot_list_sort ⟨_,gL,rfl⟩ entry_list_sort (list_sort_treeK (s:={s with heap:=h1.push (seqObj "list" vs.toArray 0),drawn:=d1,toks:=tk1}) strKind_oneLt gL hI.keysOf (λ v₁ v₂ rest e=>keyKind_strs (by rw [<-e];exact hI)) (by omega) λ st a1 a2=>⟨_,rfl,?_⟩) (args_list_sort _)));obtain ⟨ns',b1,b2,b3⟩:=sorted_out_str hI a1 a2;have gk:∀b o,h1.get? b=some o->(sortedHeap (h1.push (seqObj "list" vs.toArray 0)) h1.objs.size vs ((arrOf st).map (·.2))).get? b=some o:=λ b o e=>by have hlt:=Heap.lt_size e;rw [sortedHeap_old (Gb hlt) (by rw [Heap.size_push];exact Gm hlt)];exact Heap.get?_push_of_some _ e
 obtain ⟨e2,he2⟩:=sortedHeap_at (out:=(arrOf st).map (·.2)) gL;exact wpAny_pure ⟨_,rfl,q _ ns' _ _ e2 _ _ b1 (b2.trans hpn) b3 (λ b o e=>gk b o (k1 b o e)) (Gq hsz) he2 ht1⟩
end
end L2
namespace L2
open PySem PySem.Spec PyProof.Rows
theorem aq.drawn {X:Cx}{pins:List (Addr×Obj)}{σ:St}{H:Hp}{s:Shared}(I:aq X pins σ H s) (d:Drawn):aq X pins σ H {s with drawn:=d}:=by cases I;constructor<;>assumption
section
variable {X:Cx}
def mj (P:Program) (w:World) (xs:List V) (H:Hp) (Q:VK):Prop:= ∃d l,xs=[.ref d]/\H d=some (.ext λ h=>eN (PySem.strKind P w) h d (λ x=>decide (x∈l)) l.length)/\l.Nodup/\l.length<64/\∀(ns':List Str) q,ns'.Perm l->sortedS ns'=true->H q=none->Q (.ref q) (upd H q (.lst (ns'.map V.str)))
theorem jl {vs:List Value}{ss:List Str}(h:StrsAre vs ss):aQ (ss.map V.str) vs:=by
 induction h with
 | nil=>exact .nil
 | cons y t h ih=>exact .cons ⟨t,rfl⟩ ih
theorem lX (hh:X.A.handled=none):aI X (.builtin "sorted") (mj X.prog X.w):=by
 intro pins s σ H xs us Q I r h;obtain ⟨d,l,rfl,hd,hn,h64,q⟩:=h;obtain ⟨u,rfl,rx⟩:=cr r;cases rx;obtain ⟨p,_,_⟩:=(show bg X.prog X.w H s.heap d (.ext _) from I.hok d _ hd);refine lg hh p hn h64 λ out ns' h2 a e dr tk a1 a2 a3 k2 hle ha ht=>?_;have hl:=a2.length_eq;have hz':(ns'.map V.str).length<=sizeLine:=by rw [Eu,hl,sizeLine_eq];omega
 exact ⟨.ref a,_,(I.drawn dr).laid (t':=tk) k2 hle (show bg X.prog X.w _ h2 _ (.lst (ns'.map V.str)) from ⟨hz',out.toList,e,jl a1,by simpa [seqObj] using ha⟩),rfl,q ns' _ a2 a3 (I.hok.fresh hle)⟩
theorem rj (P:Program) (w:World) {j:Nat}(hr:bQ j X.A) (hP:X.prog=P:=by rfl) (hw:X.w=w:=by rfl):aI X (.builtin "sorted") (mj P w):=by subst hP hw;exact lX hr.hd
end
section
variable {P:Program}{w:World}{K:Frag}{σ:St}{H:Hp}{Q:VK}{te:TE}
end
end L2
namespace L2
open PySem PySem.Spec PyProof.Rows
section
variable {X:Cx}{a b:Expr}{ta tb:TE}{pos:Pos}
end
section
variable {K:Frag}{σ:St}{H:Hp}{ta tb:TE}{x y:V}{k:Bool}{Q:VK}
end
section
variable {K:Frag}{σ:St}{H:Hp}{Q:VK}
end
end L2
namespace L2
open PySem PySem.W PySem.Calls PySem.Spec PyProof.Rows
section
variable {prog:Program}{w:World}{A:Around}{E:Value->Shared->Prop}{s:Shared}
end
end L2
namespace L2
open PySem PySem.W PySem.Calls PySem.Spec PyProof.Rows
section
variable {prog:Program}{w:World}{A:Around}{E:Value->Shared->Prop}{s:Shared}
end
end L2
namespace L2
open PySem PySem.W PySem.Calls PySem.Spec PyProof.Rows
section
variable {X:Cx}
end
end L2
namespace L2
open PySem PySem.Spec PyProof.Rows
section
variable {X:Cx}{a b c e o:Expr}{ta tb tc te to:TE}{p p2 pos:Pos}{es:List Expr}{t:TA}
def sO (to te:TE):TE:=λ σ H Q=>to σ H λ x H1=>match x with
 | .ref l=>(∃xs,H1 l=some (.lst xs))/\te σ H1 λ y H2=> ∃b xs zs,y=.ref b/\H2 l=some (.lst xs)/\H2 b=some (.lst zs)/\xs.length+zs.length<=sizeLine/\Q .non (upd H2 l (.lst (xs++zs)))
 | _=>False
end
section
variable {P:Program}{w:World}{K:Frag}{σ:St}{H:Hp}{Q:VK}{te to:TE}{D:bZ}{u:TS}
def pk (x:Int×Int):List Int:=[x.1,x.2]
end
end L2
namespace L2
open PySem PySem.Spec PyProof.Rows
section
variable {K:Frag}{c:Nat}{H:Hp}{Q:VK}
end
structure sY where
 kd:Str
 so:Str
 ai:Str
 ax:Int
 up:Int
abbrev sY.vs (r:sY):List V:=[.str r.kd,.str r.so,.str r.ai,.int r.ax,.int r.up]
end L2
namespace L2
open PySem PySem.Spec PyProof.Rows
end L2
namespace L2
open PySem PySem.Spec PyProof.Rows
structure gz (H:Hp) (d:Addr) (ks:List Nat):Prop where
 at_:H d=some (.lst (ks.map c5))
 ltr:∀k∈ks,Dq k
 l1:1<=ks.length
 l6:ks.length<=6
 nd:ks.Nodup
theorem gz.same {H H':Hp}{d:Addr}{ks:List Nat}(h:gz H d ks) (s:ak H H'):gz H' d ks:=⟨s _ _ h.at_,h.ltr,h.l1,h.l6,h.nd⟩
theorem gz.pick {H:Hp}{d:Addr}{ks:List Nat}(h:gz H d ks) (i:Int):∃k∈ks,atI (ks.map c5) (i % ((ks.map c5).length:Int))=some (c5 k):=by
 have hl:(0:Int)<((ks.map c5).length:Int):=by rw [Eu];have:=h.l1;omega
 obtain ⟨v,e1,e2⟩:=Cs (xs:=ks.map c5) (Int.emod_nonneg i (by omega)) (Gy i hl);obtain ⟨k,hk,rfl⟩:=EE.mp e2;exact ⟨k,hk,e1⟩
theorem lS {te:TE}{ta:TA}{σ:St}{H:Hp}{v:V}{Q:List V->Hp->Prop}(h:Ev te σ H v) (q:ta σ H (λ xs H2=>Q (v::xs) H2)):aC te ta σ H Q:=h _ q
theorem Ea {σ:St}{H:Hp}{Q:List V->Hp->Prop}(q:Q [] H):bu σ H Q:=q
theorem gm {a b:Nat}(h:one a=one b):a=b:=by unfold one at h;simp only [Str.mk.injEq] at h;have:=congrArg Array.toList h;simpa using this
end L2
namespace L2
open PySem PySem.W PySem.Calls PySem.Spec PyProof.Rows
section
variable {X:Cx}
end
end L2
namespace L2
open PySem PySem.W PySem.Calls PySem.Spec PyProof.Rows
end L2
namespace L2
open PySem PySem.Spec PyProof.Rows
theorem jv {H H1 H':Hp}{x dx:Addr}{o1 o2:HO}(s:ak H H1) (nx:H1 x=none) (nd:H1 dx=none) (sb:SameBut x (upd (upd H1 dx o1) x o2) H'):ak H H':=λ b o e=>by have e1:=s b o e;have nbx:=ag e1 nx;have nbd:=ag e1 nd;exact sb b o (by rw [ah nbx,ah nbd];exact e1) nbx
theorem kr {H:Hp}{a:Addr}(h:H a=some (.lst [])):lstOf H (.ref a)=some []:=by simp only [lstOf,h]
theorem pH {H:Hp}{q:Addr}{ks:List Nat}(h:H q=some (.lst (ks.map c5))) (hl:∀k∈ks,Dq k) (nd:ks.Nodup) (k1:1<=ks.length) (k6:ks.length<=6):iO H (.ref q)=true:=by
 have e:lstOf H (.ref q)=some (ks.map c5):=by simp only [lstOf,h]
 unfold iO;rw [e];dsimp only;rw [Eu,decide_eq_true ⟨k1,k6⟩,Bool.true_and,GB];refine ⟨EV.mpr λ x hx=>?_,decide_eq_true ?_⟩
 ·obtain ⟨k,hk,rfl⟩:=EE.mp hx;exact decide_eq_true (p:=97<=k/\k<=122) (hl k hk)
 ·rw [EC];exact Ff.mpr (nd.imp λ hab e=>hab (mI.mp e))
theorem eW.imp {P:Program}{w:World}{K:Frag}{mg:Str->Option Value}{base:Heap}{name:Str}{ps:List Str}{k:Nat}{sp sp':Sp}(C:eW P w K mg base name ps k sp) (h:∀vs H Q E,sp' vs H Q E->sp vs H Q E):eW P w K mg base name ps k sp':=by obtain ⟨f,fd,F,a,b,c⟩:=C.ex;exact ⟨f,fd,F.imp h,a,b,c⟩
theorem yZ {P:Program}{w:World}{K:Frag}{mg:Str->Option Value}{base:Heap}(C:eW P w K mg base "is_among" ["thing","least","most"] 2 iy):eW P w K mg base "is_among" ["thing","least","most"] 2 xb:=eW.imp C λ vs H Q E h=>by obtain ⟨t,a,b,rfl,q⟩:=h;exact ⟨.int t,a,b,rfl,trivial,q⟩
theorem qV (a:Nat):(one a).length<=1000:=by show 1<=1000;decide
theorem yq {H:Hp}{d:Addr}{ks:List Nat}(h:gz H d ks):dq H 1 (.ref d):=by refine sX.n (sX.lst h.at_ λ x hx=>?_);obtain ⟨c,_,rfl⟩:=EE.mp hx;exact sX.flat (qV c) rfl
theorem xh {C:Addr}{sp:Sp}{t:TA}{σ:St}{H:Hp}{Q:VK}(h:t σ H λ vs H1=> ∀x dx,H1 x=none->H1 dx=none->dx≠x->sp (.ref x::vs) (upd (upd H1 dx (.own x)) x (.ins C dx [])) (λ v H2=>v=.non/\Q (.ref x) H2) E0):ou C sp t σ H Q:=h
theorem Co {C:Addr}{sp:Sp}{t:TA}{σ:St}{H:Hp}{D:bZ}(h:ou C sp t σ H D.rt):dt (ou C sp t) D σ H:=h
end L2
namespace L2
open PySem PySem.Spec PyProof.Rows
end L2
namespace L2
open PySem PySem.Spec PyProof.Rows
end L2
namespace L2
open PySem PySem.W PySem.Calls PySem.Spec PyProof.Rows
section
variable {prog:Program}{w:World}{A:Around}{E:Value->Shared->Prop}{s:Shared}
end
section
variable {X:Cx}
end
section
variable {X:Cx}{a b:Expr}{ta tb:TE}{pos:Pos}
end
end L2
namespace L2
open PySem PySem.Spec PyProof.Rows
end L2
namespace L2
open PySem PySem.Spec PyProof.Rows
end L2
namespace L2
open PySem PySem.Spec PyProof.Rows
section
variable {K:Frag}{σ:St}{H:Hp}{ta tb te:TE}
end
end L2
namespace L2
open PySem PySem.Spec PyProof.Rows
end L2
namespace L2
open PySem PySem.Spec PyProof.Rows
theorem mz {te:TE}{D:bZ}{σ:St}{H:Hp}(h:te σ H D.rt):dt te D σ H:=h
end L2
namespace L2
open PySem PySem.Spec PyProof.Rows
def tk3 (s:Int) (x:Int×Int):List Int:=[s,x.1,x.2]
end L2
namespace L2
open PySem PySem.Spec PyProof.Rows
end L2
namespace L2
open PySem PySem.Spec PyProof.Rows
def sgN (c:Nat) (sd:Int):Nat:=if sd=0 then c - 32 else c
theorem jF {tl te:TE}{tt:TT}{src:List (Option Nat)}{σ rest:St}{H:Hp}{Q:VK}{z:Str}(hl:Ev tl σ H (.str z)) (hz:z.length<=1000) (hs:cY src σ=none::rest) (p:Nat->Bool) (f:Nat->V)
  (ht:∀(c:Nat) (H':Hp),c∈z.cps.toList->ak H H'->∀R:Bool->Hp->Prop,(∀H'',ak H' H''->R (p c) H'')->tt (some (.str (one c))::rest) H' R)
  (he:∀(c:Nat) (H':Hp),c∈z.cps.toList->p c=true->ak H H'->Ev te (some (.str (one c))::rest) H' (f c))
  (q:∀H' d,ak H H'->H' d=none->Q (.ref d) (upd H' d (.lst ((z.cps.toList.filter p).map f)))):tComp (yv tl) (bN 0) tt te src σ H Q:=by
 refine hl _ ?_;show dZ _ tt te src σ Q (DD z) H;have zl:z.length=z.cps.toList.length:=rfl;refine gr z.length (λ i ys σ' H'=>ak H H'/\(∃o0,σ'=o0::rest)/\ys=((z.cps.toList.take i).filter p).map f) (Ge hz (by decide)) (λ i ys σ H h=>?_) (λ i ys σ H h hi=>hi) (λ ys σ H h=>Gc _) ⟨ak.refl H,⟨_,hs⟩,rfl⟩ ?_ ?_
 ·rw [h.2.2,Eu];refine Ge (Fd _ _) ?_;rw [Fa];exact Nat.min_le_left _ _
 ·rintro i ys _ H1 x H2 hi ⟨s1,⟨o0,rfl⟩,rfl⟩ ⟨rfl,c,hc,rfl⟩ Kt Kf kt kf;have hi':i<z.cps.toList.length:=by rw [<-zl];exact hi
  have ec:z.cps.toList[i]=c:=by rw [Ex hi'] at hc;exact Option.some.inj hc
  have tk:z.cps.toList.take (i+1)=z.cps.toList.take i++[c]:=by rw [List.take_succ_eq_append_getElem hi',ec]
  have hm:c∈z.cps.toList:=EX hc;show tt (some (.str (one c))::rest) _ _;refine ht c _ hm s1 _ (λ H3 s3=>?_);cases hp:p c with
  | true=>
    refine hU (he c _ hm hp (s1.trans s3) _ (kt _ _ _ ⟨s1.trans s3,⟨_,rfl⟩,?_⟩));rw [tk,Fz,EM,FA,if_pos hp];rfl
  | false=>
    refine hV (kf _ _ ⟨s1.trans s3,⟨_,rfl⟩,?_⟩);rw [tk,Fz,EM,FA,if_neg (by rw [hp];decide)];simp
 ·rintro ys σ' H' d ⟨s1,_,rfl⟩ hd;rw [zl,E7];exact q H' d s1 hd
end L2
namespace L2
open PySem PySem.Spec PyProof.Rows
section
variable {K:Frag}{σ:St}{H:Hp}{ta tb te:TE}{x:V}
end
end L2
namespace L2
open PySem PySem.Spec PyProof.Rows
end L2
namespace L2
open PySem PySem.Spec PyProof.Rows
end L2
namespace L2
open PySem PySem.Spec PyProof.Rows
end L2
namespace L2
open PySem PySem.Spec PyProof.Rows
end L2
namespace L2
open PySem PySem.Spec PyProof.Rows
end L2
namespace L2
open PySem PySem.Spec PyProof.Rows
end L2
namespace L2
open PySem PySem.Spec PyProof.Rows
section
variable {X:Cx}{a b:Expr}{ta tb:TE}{pos:Pos}
end
end L2
namespace L2
open PySem PySem.Spec PyProof.Rows
end L2
namespace L2
open PySem PySem.Spec PyProof.Rows
end L2
namespace L2
open PySem PySem.Spec PyProof.Rows
section
variable {X:Cx}{a b:Expr}{ta tb:TE}{pos:Pos}
end
section
variable {K:Frag}{σ:St}{H:Hp}{Q:VK}{ta tb te:TE}{z:Str}{b:Bool}
end
end L2
namespace L2
open PySem PySem.Spec PyProof.Rows
section
variable {K:Frag}{tl te:TE}{tt:TT}{src:List (Option Nat)}{σ rest:St}{H:Hp}{Q:VK}
def g7 (l:List Bool) (n:Nat):List Int:=((List.range n).filter λ i=>l.getD i false).map λ (i:Nat)=>(i:Int)
theorem iS {l:List Bool}{n:Nat}{b:Bool}(h:l[n]? =some b):g7 l (n+1)=g7 l n++(if b=true then [(n:Int)] else []):=by
 unfold g7;have e:l.getD n false=b:=by rw [EQ,h];rfl
 rw [Fm,Fz,EM,FA,e];cases b<;>rfl
theorem pP {d:Addr}{l:List Bool}(hl:Ev tl σ H (.ref d)) (hx:H d=some (.lst (l.map V.bl))) (hz:l.length<=1000) (hs:cY src σ=none::none::rest)
  (q:∀H' d,ak H H'->H' d=none->Q (.ref d) (upd H' d (.lst ((g7 l l.length).map V.int)))):tComp (rF K tl) (ut K 2 (lM (bN 0) (lM (bN 1) yD))) (dn (aR 1)) (aR 0) src σ H Q:=by
 refine hl _ ⟨⟨_,aL.of hx⟩,?_⟩;have ll:(l.map V.bl).length=l.length:=Eu ..;refine gr l.length (λ i ys σ' H'=>ak H H'/\(∃o0 o1,σ'=o0::o1::rest)/\ys=(g7 l i).map V.int) (Ge hz (by decide)) (λ i ys σ H h=>?_)
  (λ i ys σ H' h hi=>⟨_,(l.map V.bl)[i]'(by rw [ll];exact hi),aL.of (h.1 _ _ hx),Ex (by rw [ll];exact hi)⟩) (λ ys σ H' h=>⟨_,aL.of (h.1 _ _ hx),by rw [ll];exact Gc _⟩) ⟨ak.refl H,⟨_,_,hs⟩,rfl⟩ ?_ ?_
 ·rw [h.2.2,Eu];unfold g7;rw [Eu];exact Ge (Fd _ _) (by rw [EK];exact Gc _)
 ·rintro i ys _ H1 x H2 hi ⟨s1,⟨o0,o1,rfl⟩,rfl⟩ ⟨t,v,rfl,ht0,rfl,hyy⟩ Kt Kf kt kf;have ex:=hyy _ (aL.of (s1 _ _ hx));rw [EB,Ex hi] at ex;obtain rfl:V.bl l[i]=v:=Option.some.inj ex;have hb:l[i]? =some l[i]:=Ex hi;have s2:ak H (upd H1 t (.tup [.int (i:Int),.bl l[i]])):=s1.upd ht0;refine ⟨t,_,rfl,fF.of af,rfl,_,_,rfl,_,_,rfl,rfl,?_⟩;show dn (aR 1) (some (.int (i:Int))::some (.bl l[i])::rest) _ _;refine (bD (te:=aR 1) (b:=l[i]) (ev_v rfl)) _ ?_;cases hp:l[i] with
  | true=>
    refine hU ((show Ev (aR 0) _ _ (.int (i:Int)) from ev_v rfl) _ (kt _ _ _ ⟨by rw [<-hp];exact s2,⟨_,_,rfl⟩,?_⟩));rw [iS hb,hp,if_pos rfl,EM];rfl
  | false=>
    refine hV (kf _ _ ⟨by rw [<-hp];exact s2,⟨_,_,rfl⟩,?_⟩);rw [iS hb,hp,if_neg (by decide),ET]
 ·rintro ys σ' H' d ⟨s1,_,rfl⟩ hd;exact q H' d s1 hd
end
theorem rT {wi hi:Int}{hs:List Int}:g7 (firmL wi hi hs) (firmL wi hi hs).length=((List.range (wi*hi).toNat).filter λ (s:Nat)=> !decide ((s:Int)∈hs)).map λ (i:Nat)=>(i:Int):=by unfold g7 firmL;rw [Eu,EK];congr 1;refine List.filter_congr λ i hi=>?_;have:=ER.mp hi;rw [EQ,EB,E3 this];rfl
def rP (wi hi:Int) (hs:List Int):List Int:=((List.range (wi*hi).toNat).filter λ (s:Nat)=> !decide ((s:Int)∈hs)).map λ (i:Nat)=>(i:Int)
def qz (K:Frag) (C:Addr):Sp:=λ vs H Q _=> ∃(p:Addr) (wi hi:Int) (hs:List Int),vs=[.ref p]/\bJ K C H p wi hi hs/\∀(q:Addr) (H':Hp),H q=none->H' q=some (.lst ((rP wi hi hs).map V.int))->ak H H'->Q (.ref q) H'
section
variable {X:Cx}{a b:Expr}{ta tb:TE}
end
end L2
namespace L2
open PySem PySem.Spec PyProof.Rows
def en {prog:Program}{w:World}{κ:Type} [DecidableEq κ] (knd:KeyKind prog w κ) (Z:Value->Prop) (h:Heap) (D:Addr) (S:κ->Bool) (n:Nat):Prop:=
 ∃es ep t,cX h D es ep t/\ElemsOf knd es.toList/\(∀k,S k=true<->∃e∈es.toList,knd.is k e.2=true)/\es.size<scanBound/\SG (!w.params.followText "set-order") es.size t/\es.size=n/\∀e∈es.toList,Z e.2
section
variable {prog:Program}{w:World}{κ:Type} [DecidableEq κ] {knd:KeyKind prog w κ}{A:Around}{E:Value->Shared->Prop}{s:Shared}
theorem en.congr {Z:Value->Prop}{h:Heap}{D:Addr}{S S':κ->Bool}{n n':Nat}(x:en knd Z h D S n) (e1:∀k,S k=S' k) (e2:n=n'):en knd Z h D S' n':=by obtain rfl:S=S':=funext e1;subst e2;exact x
theorem en.keep {Z:Value->Prop}{h h':Heap}{D:Addr}{S:κ->Bool}{n:Nat}(x:en knd Z h D S n) (k:∀o,h.get? D=some o->h'.get? D=some o):en knd Z h' D S n:=let ⟨es,ep,t,h1,r⟩:=x;⟨es,ep,t,h1.keep k,r⟩
theorem en.imp {Z Z':Value->Prop}{h:Heap}{D:Addr}{S:κ->Bool}{n:Nat}(x:en knd Z h D S n) (k:∀v,Z v->Z' v):en knd Z' h D S n:=let ⟨es,ep,t,a,b,c,d,e,f,g⟩:=x;⟨es,ep,t,a,b,c,d,e,f,λ v hv=>k _ (g v hv)⟩
theorem Dm {Z:Value->Prop}{D:Addr}{S:κ->Bool}{n:Nat}{k:κ}{x:Value}{Q:Bool->Shared->Prop}(hk:knd.is k x=true) (hx:x.scannable=true) (zx:Z x) (hS:en knd Z s.heap D S n) (hr:n+1<scanBound)
  (q:∀h',Heap.SameBut D s.heap h'->en knd Z h' D (λ k'=>S k'||decide (k'=k)) (if S k then n else n+1)->Q (!S k) {s with heap:=h'}):wpAny (model prog w) A (setAddHashed D x (knd.hash k)) Q E s:=by
 obtain ⟨es,ep,t,o1,he,hm,hb,g,rfl,hZ⟩:=hS;obtain ⟨o,ho,hx1,hd⟩:=id o1;unfold setAddHashed setAddHashedIn;refine wpAny_holding (wpAny_bind (gG o1 g.fits ?_));dsimp only;rw [byScan_of hx hb he,if_pos rfl];unfold setAddByScan;refine wpAny_bind (wpAny_bind (wpAny_rule (wpAny_bind (wpAny_setScan_of hk ho hd g.fits he ?_))));cases hr2:es.toList.findIdx? (λ e=>knd.is k e.2) with
 | some j=>
   dsimp only;obtain ⟨hj,pj,_⟩:=FS.mp hr2;have hs:S k=true:=(hm k).mpr ⟨_,EZ hj,pj⟩;refine wpAny_pure (wpAny_pure ?_);have z:=q s.heap (Heap.SameBut.refl D s.heap) ⟨es,ep,t,o1,he,λ k'=>?_,hb,g,by rw [hs];rfl,hZ⟩
   ·rw [hs] at z;exact z
   ·rw [GG,decide_eq_true_eq,<-hm k'];exact ⟨λ y=>y.elim id (λ e=>e▸hs),.inl⟩
 | none=>
   dsimp only;have hs:S k=false:=by
    cases y:S k with
    | false=>rfl
    | true=>
      obtain ⟨e,a1,a2⟩:=(hm k).mp y;have:=FT.mp hr2 e a1;rw [a2] at this;cases this
   have p1:=layNew_perm t es (knd.hash k) x;have g1:=g.lay (knd.hash k) x;generalize layNew t es (knd.hash k) x=L at p1 g1 ⊢;obtain ⟨es1,t1,wd,gv⟩:=L;dsimp only at p1 g1 ⊢;rw [GQ] at p1;have he1:ElemsOf knd es1.toList:=(he.push hk hx).perm p1;have hm1:=mem_push_iff hk hm p1;have hZ1:∀e∈es1.toList,Z e.2:=λ e he=>by
    rcases ES.mp (p1.mem_iff.mp he) with y | y
    ·exact hZ e y
    ·rw [EL.mp y];exact zx
   have hz1:es1.size=es.size+1:=by have:=p1.length_eq;simpa using this
   refine ir ?_ ?_
   ·intro Q' y;cases gv
    ·exact wpAny_pure y
    ·exact wpAny_rule y
   have fin:∀t2,SG (!w.params.followText "set-order") es1.size t2->wpAny (model prog w) A (do
     storeSet D es1 t2
     if (!wd&&t2.tooFull)=true then do
         (match (relayAll t2 es1 (SetTable.grown es1.size)).2.2 with | true=>rule "set.scan.the-table-gave-way" | false=>pure ())
         storeSet D (relayAll t2 es1 (SetTable.grown es1.size)).1 (relayAll t2 es1 (SetTable.grown es1.size)).2.1
         pure (some true)
      else pure (some true)) (λ r s'=>wpAny (model prog w) A (match r with | some added=>pure added | none=>setAddHashedIn D x (knd.hash k) 99999) Q E s') E s:=λ t2 g2=>by
    refine wpAny_bind (j4 o1 (by omega) ?_);have o2:=o1.put es1 t2;have b2:=Heap.SameBut.update s.heap D (Obj.putSet es1 t2);split
    ·have p3:=relayAll_perm t2 es1 (SetTable.grown es1.size);have g3:=g2.relay (es:=es1) (SetTable.grown es1.size);generalize relayAll t2 es1 (SetTable.grown es1.size)=R at p3 g3 ⊢;obtain ⟨es3,t3,gv3⟩:=R;dsimp only at p3 g3 ⊢;have hz3:es3.size=es1.size:=by have:=p3.length_eq;simpa using this
     refine ir ?_ ?_
     ·intro Q' y;cases gv3
      ·exact wpAny_pure y
      ·exact wpAny_rule y
     refine wpAny_bind (j4 o2 (by omega) (wpAny_pure (wpAny_pure ?_)));have z:=q _ (b2.trans (Heap.SameBut.update _ D (Obj.putSet es3 t3))) ⟨es3,_,t3,o2.put es3 t3,he1.perm p3,λ k'=>(hm1 k').trans ⟨λ ⟨e,y1,y2⟩=>⟨e,p3.mem_iff.mpr y1,y2⟩,λ ⟨e,y1,y2⟩=>⟨e,p3.mem_iff.mp y1,y2⟩⟩,by omega,g3,by rw [hs,hz3,hz1];rfl,λ e he=>hZ1 e (p3.mem_iff.mp he)⟩;rw [hs] at z;exact z
    ·refine wpAny_pure (wpAny_pure ?_);have z:=q _ b2 ⟨es1,_,t2,o2,he1,hm1,by omega,g2,by rw [hs,hz1];rfl,hZ1⟩;rw [hs] at z;exact z
   split
   ·refine wpAny_bind ?_;rw [hashByValue_scannable 8 hx];refine wpAny_pure ?_;cases plainKind x with
    | true=>exact fin t1 g1
    | false=>exact fin _ (g1.plainOff false)
   ·exact wpAny_bind (wpAny_pure (fin t1 g1))
end
def Zt (n:Nat) (v:Value):Prop:= ∃x t,v=.str x t/\1<=t/\t<n
theorem Zt.mono {n m:Nat}{v:Value}(h:Zt n v) (l:n<=m):Zt m v:=let ⟨x,t,a,b,c⟩:=h;⟨x,t,a,b,Gf c l⟩
section
variable {prog:Program}{w:World}{A:Around}{R:Result->Shared->Prop}
abbrev lh (prog:Program) (w:World):=PySem.strKind prog w
def cE (x:Str) (i:Nat):Str:=⟨#[x.cps.getD i 0]⟩
theorem pA {s:Shared}{E:Value->Shared->Prop}{it:Addr}{ty:String}(hty:jn ty) {x:Str}{t:Tok}{i:Nat}{Q:Option Value->Shared->Prop}(hit:s.heap.IsStrIter it ty x t i) (hi:i<x.cps.size)
  (hQ:∀h',h'.IsStrIter it ty x t (i+1)->Heap.SameBut it s.heap h'->Q (some (.str (cE x i) s.toks)) {s with heap:=h',toks:=s.toks+1}):wpAny (model prog w) A (pyNext (.ref it)) Q E s:=by
 have hx:x.cps[i]? =some (x.cps.getD i 0):=by rw [GK hi,GN,GK hi];rfl
 rcases hty with rfl | rfl
 ·exact wpAny_pyNext_ascii_item hit hx hQ
 ·exact wpAny_pyNext_wide_item hit hx hQ
theorem pB {s:Shared}{E:Value->Shared->Prop}{it:Addr}{ty:String}(hty:jn ty) (hh:A.handled=none) {x:Str}{t:Tok}{i:Nat}{Q:Option Value->Shared->Prop}(hit:s.heap.IsStrIter it ty x t i) (hi:x.cps.size<=i)
  (hQ:∀h',Heap.ExtBut it s.heap h'->Q none {s with heap:=h'}):wpAny (model prog w) A (pyNext (.ref it)) Q E s:=by
 have hx:x.cps[i]? =none:=GL hi
 rcases hty with rfl | rfl
 ·exact wpAny_pyNext_ascii_end hh hit hx hQ
 ·exact wpAny_pyNext_wide_end hh hit hx hQ
theorem oV {I D:Addr}{ty:String}(hty:jn ty) (x:Str) (t:Tok) (hh:A.in1.handled=none) (hD:D≠I) (hb:x.cps.size+1<scanBound):
  ∀(k i:Nat) (s:Shared),x.cps.size - i=k->i<=x.cps.size->1<=s.toks->s.heap.IsStrIter I ty x t i->en (lh prog w) (Zt s.toks) s.heap D (λ y=>decide (y∈aB (cE x) i)) (aB (cE x) i).length->
   (∀h2 tk,(∀b o,b≠D->b≠I->s.heap.get? b=some o->h2.get? b=some o)->s.toks<=tk->en (lh prog w) (Zt tk) h2 D (λ y=>decide (y∈aB (cE x) x.cps.size)) (aB (cE x) x.cps.size).length->R (.ok (.ret .none)) {s with heap:=h2,toks:=tk})->
   codeAny (model prog w) A (.builtin "set.update.loop" ⟨[.ref D,.ref I],[]⟩) R s:=by
 intro k
 induction k with
 | zero=>
   intro i s e1 e2 s1 st hS hR;have e3:i=x.cps.size:=by omega
   subst e3;refine codeAny_builtin F.entry_set_update_loop ?_;rw [Around.under_plainId F.plain_set_update_loop _];show wpAny _ A.in1 (pyNext (.ref I) >>= _) _ _ s;refine wpAny_bind (pB hty hh st (Gc _) λ h' eb=>?_);show wpAny _ A.in1 (ret Value.none) _ _ _;exact wpAny_pure (hR h' s.toks (λ b o _ hb e=>eb b o hb e) (Gc _) (hS.keep λ o e=>eb D o hD e))
 | succ k ih=>
   intro i s e1 e2 s1 st hS hR;have e3:i<x.cps.size:=by omega
   refine codeAny_builtin F.entry_set_update_loop ?_;rw [Around.under_plainId F.plain_set_update_loop _];show wpAny _ A.in1 (pyNext (.ref I) >>= _) _ _ s;refine wpAny_bind (pA hty st e3 λ h' st2 sb0=>?_);have hS2:en (lh prog w) (Zt (s.toks+2)) h' D (λ y=>decide (y∈aB (cE x) i)) (aB (cE x) i).length:=(hS.imp λ v z=>z.mono (by omega)).keep λ o e=>sb0.extBut D o hD e;have kv:(lh prog w).is (cE x i) (.str (cE x i) s.toks)=true:=by simp [PySem.strKind,Value.isStrOf]
   show wpAny _ A.in1 (holding [.str (cE x i) s.toks] (setAdd D (.str (cE x i) s.toks)) >>= _) _ _ _;refine wpAny_bind (wpAny_holding ?_);unfold setAdd;refine wpAny_holding (wpAny_bind ((lh prog w).pyHash (k:=cE x i) kv ?_));have room:(aB (cE x) i).length+1<scanBound:=by have:=cM (cE x) i;omega
   refine Dm (knd:=lh prog w) (Z:=Zt (s.toks+2)) (s:={s with heap:=h',toks:=s.toks+1+1}) kv rfl ⟨_,_,rfl,s1,Gm (Gk _)⟩ hS2 room λ h2 sb hS3=>?_;have hS4:en (lh prog w) (Zt (s.toks+2)) h2 D (λ y=>decide (y∈aB (cE x) (i+1))) (aB (cE x) (i+1)).length:=by
    refine hS3.congr (λ y=>?_) ?_
    ·show (decide (y∈aB (cE x) i)||decide (y=cE x i))=decide (y∈jg (aB (cE x) i) (cE x i))
     unfold jg
     by_cases m:cE x i∈aB (cE x) i
     ·rw [if_pos m]
      by_cases e:y=cE x i
      ·subst e;rw [decide_eq_true m];simp
      ·rw [decide_eq_false e,GE]
     ·rw [if_neg m,GD];simp
    ·show (if decide (cE x i∈aB (cE x) i)=true then _ else _)=(jg (aB (cE x) i) (cE x i)).length;unfold jg
     by_cases m:cE x i∈aB (cE x) i
     ·rw [if_pos (decide_eq_true m),if_pos m]
     ·rw [if_neg (by rw [decide_eq_false m];decide),if_neg m,EF];rfl
   refine wpAny_pure ⟨plainId_quiet F.plain_set_update_loop _,ih (i+1) _ (by omega) e3 (by show 1<=s.toks+1+1;omega) ?_ hS4 λ h3 tk k3 ht hS5=>?_⟩
   ·obtain ⟨o,e,r⟩:=st2;exact ⟨o,(sb.2 I (Ne.symm hD)).trans e,r⟩
   ·exact hR h3 tk (λ b o n1 n2 e=>k3 b o n1 n2 ((sb.2 b n1).trans (sb0.extBut b o n2 e))) (by have:s.toks+1+1<=tk:=ht;omega) hS5
end
section
variable {prog:Program}{w:World}{A:Around}{E:Value->Shared->Prop}{s:Shared}
theorem gZ:isSubtype (.type "str") (.type "set")=pure false:=by rw [isSubtype_type];kernel_rfl
theorem dw:isSubtype (.type "str") (.type "frozenset")=pure false:=by rw [isSubtype_type];kernel_rfl
theorem oU {x:Str}{t:Tok}{Q:Value->Shared->Prop}(hh:A.handled=none) (h1:1<=s.toks) (hb:x.cps.size+1<scanBound)
  (k:∀(h2:Heap) (tk:Nat),s.toks<=tk->en (lh prog w) (Zt tk) h2 s.heap.objs.size (λ y=>decide (y∈aB (cE x) x.cps.size)) (aB (cE x) x.cps.size).length->(∀b o,b<s.heap.objs.size->s.heap.get? b=some o->h2.get? b=some o)->Q (.ref s.heap.objs.size) {s with heap:=h2,toks:=tk}):
  wpAny (model prog w) A (call (.type "set") [.str x t]) Q E s:=by
 obtain ⟨c0,tl0,hmro⟩:=F.called_set.mro;have hmade:=F.called_set.made;have hsub:=F.called_set.sub;have n1:=F.called_set.notType;have n2:=F.called_set.canCreate;have n3:=F.typeCall_set_1 (.str x t);refine wpAny_call (codeAny_of_tree ?_);show wpAny _ _ (callAny (.type "set") _) _ _ _;refine wpAny_pure ⟨Code.quiet_builtin _ (by decide+kernel),codeAny_builtin F.entry_type_call ?_⟩;rw [Around.under_plain (weight_type_call_type "set" [.str x t] []) rfl]
 repeat (any_goals (first | assumption | wp_step))
 refine codeAny_mono (jr (.str x t) (E:=E) (Q1:=λ o s1=>o=.ref s.heap.objs.size/\s1={s with heap:=s.heap.push (bj (!w.params.followText "set-order"))}) ⟨rfl,rfl⟩) λ r s1 hr=>?_;cases r with
 | error e=>exact hr
 | ok fl=>
   cases fl with
   | ret ob=>
     obtain ⟨rfl,rfl⟩:=hr;generalize hld:(!w.params.followText "set-order")=led;have g0:(s.heap.push (bj led)).get? s.heap.objs.size=some (bj led):=Heap.get?_push_size _ rfl;have ty:Shared.TypeIs {s with heap:=s.heap.push (bj led)} (.ref s.heap.objs.size) "set":=⟨_,g0,rfl⟩;have m1:=F.called_set.init.lookup;have m2:=F.called_set.init.bind (.ref s.heap.objs.size)
     repeat (any_goals (first | assumption | wp_step))
     refine codeAny_mono (codeAny_call_builtin (R:=wants (λ r s2=>r=.none/\∃h2 tk,s2={s with heap:=h2,toks:=tk}/\s.toks<=tk/\en (lh prog w) (Zt tk) h2 s.heap.objs.size (λ y=>decide (y∈aB (cE x) x.cps.size)) (aB (cE x) x.cps.size).length/\
       (∀b o,b<s.heap.objs.size->s.heap.get? b=some o->h2.get? b=some o)) E) F.called_set.init.plain F.entry_set_init (check_set_init_1 ty ?_)) λ r2 s2 hr2=>?_
     ·have b1:=gZ;have b2:=dw;have b3:(Value.type "str" == Value.type "dict")=false:=by decide
      unfold Builtin.«set.__init__» noKeywords Builtin.Frozenset.updateFrom;generalize hPI:pyIter=PI
      wp_walk
      subst hPI;refine wpAny_pyIter_strU (wpAny_bind (wpAny_runValue ?_));have h3:A.in1.in1.in1.handled=none:=by simp [hh]
      have sz:(s.heap.push (bj led)).objs.size=s.heap.objs.size+1:=Heap.size_push ..;have ne2:s.heap.objs.size≠(s.heap.push (bj led)).objs.size:=by rw [sz];exact Gb (Gk _)
      have hty:jn (strIterType x):=by
       unfold strIterType;split
       ·exact .inl rfl
       ·exact .inr rfl
      refine oV hty x t h3 ne2 hb (x.cps.size - 0) 0 _ (by omega) (Gd _) h1 ⟨_,Heap.get?_push_size _ rfl,rfl,rfl⟩ ?_ (λ h2 tk kp ht hS3=>?_)
      ·refine ⟨#[],0,.fresh 0 0 led,⟨_,Heap.get?_push_of_some _ g0,⟨rfl,rfl,rfl⟩,rfl⟩,λ e he=>by simp at he,λ y=>?_,by show (0:Nat)<scanBound;decide,by rw [hld];exact SG.fresh led,rfl,λ e he=>by simp at he⟩;show decide (y∈([]:List Str))=true<->_;simp
      ·show wpAny _ _ _ _ _ _;refine wpAny_pure ?_;show wpAny _ _ (ret Value.none) _ _ _;refine wpAny_pure ⟨rfl,h2,tk,rfl,ht,hS3,λ b o hb2 e=>?_⟩;refine kp b o (Gb hb2) ?_ (Heap.get?_push_of_some _ (Heap.get?_push_of_some _ e));rw [sz];exact Gb (Gm hb2)
     ·cases r2 with
      | error e=>exact hr2
      | ok fl2=>
        cases fl2 with
        | ret r3=>
          obtain ⟨rfl,h2,tk,rfl,ht2,hS2,kp⟩:=hr2
          repeat (any_goals (first | assumption | wp_step))
          exact k _ _ ht2 hS2 kp
        | _=>exact hr2.elim
   | _=>exact hr.elim
end
end L2
namespace L2
open PySem PySem.Spec PyProof.Rows
section
variable {prog:Program}{w:World}{A:Around}{E:Value->Shared->Prop}{s:Shared}
theorem lf {Z:Value->Prop}{D:Addr}{l:List Str}{Q:Value->Shared->Prop}(hh:A.handled=none) (hS:en (lh prog w) Z s.heap D (λ x=>decide (x∈l)) l.length) (hn:l.Nodup) (h64:l.length<64)
  (q:∀(out:Array Value) (ns':List Str) (h':Heap) (p:Addr) e d tk,StrsAre out.toList ns'->ns'.Perm l->sortedS ns'=true->(∀v∈out.toList,Z v)->(∀b o,s.heap.get? b=some o->h'.get? b=some o)->s.heap.objs.size<=p->h'.get? p=some (seqObj "list" out e)->s.toks<=tk->Q (.ref p) {s with heap:=h',drawn:=d,toks:=tk}):
  wpAny (model prog w) A (call (.builtin "sorted") [.ref D]) Q E s:=by
 obtain ⟨es,ep,t,o1,he,hm,hb,g,hz,hZ⟩:=hS;refine Calls.call_function_entry kind_sorted plain_sorted entry_sorted (args_sorted1 _) ?_;unfold Builtin.«sorted»;refine wpAny_bind (m:=checkCount "sorted" 1 1 _) (wpAny_pure ?_);refine wpAny_bind (g9 (by exact hh) o1 g (fits_of_scanBound hb) λ vs h1 d1 tk1 hp k1 hsz ht1=>?_);have hvl:vs.length=l.length:=by
  have e1:=hp.length_eq;have e2:(bG es).length=es.size:=by simp [bG]
  omega
 have hi:∀v∈vs,∃i t,v=Value.str i t:=λ v hv=>by
  have hv:=hp.mem_iff.mp hv;obtain ⟨e,h1,rfl⟩:=EE.mp hv;obtain ⟨⟨k,h2,_⟩,_⟩:=he e h1;cases h:e.2 with
  | str i t=>exact ⟨i,t,rfl⟩
  | _=>rw [h] at h2;simp [PySem.strKind,Value.isStrOf] at h2
 obtain ⟨ns,hI⟩:∃ns,StrsAre vs ns:=by
  clear hp hvl
  induction vs with
  | nil=>exact ⟨[],.nil⟩
  | cons v vs ih=>
    obtain ⟨i,t,rfl⟩:=hi v (by simp);obtain ⟨ns,h⟩:=ih (λ v hv=>hi v (Ez _ hv));exact ⟨i::ns,.cons i t h⟩
 have hmem:∀k∈l,k∈ns:=λ k hk=>by
  obtain ⟨e,h1,h2⟩:=(hm k).mp (decide_eq_true hk);have hv:e.2∈vs:=hp.mem_iff.mpr (EE.mpr ⟨e,h1,rfl⟩);have:∀{vs:List Value} {ns:List Str},StrsAre vs ns->e.2∈vs->k∈ns:=λ h=>by
   induction h with
   | nil=>intro z;cases z
   | cons n t h ih=>
     intro z
     rcases Ew.mp z with z | z
     ·rw [z] at h2;have:n=k:=by simpa [PySem.strKind,Value.isStrOf] using h2
      rw [this];exact ED
     ·exact Ez _ (ih z)
  exact this hI hv
 have hnl:ns.length=l.length:=by
  have:∀{vs:List Value} {ns:List Str},StrsAre vs ns->vs.length=ns.length:=λ h=>by
   induction h with
   | nil=>rfl
   | cons n t h ih=>simp [ih]
  have:=this hI;omega
 have hpn:=j6 hn hmem hnl;refine wpAny_bind (wpAny_newList ?_);have gL:(h1.push (seqObj "list" vs.toArray 0)).get? h1.objs.size=some (seqObj "list" vs.toArray 0):=Heap.get?_push_size _ rfl;refine wpAny_bind (wpAny_holding (wpAny_call_entry slot_list_sort ⟨_,gL,rfl⟩ entry_list_sort (list_sort_treeK (s:={s with heap:=h1.push (seqObj "list" vs.toArray 0),drawn:=d1,toks:=tk1}) strKind_oneLt gL hI.keysOf (λ v₁ v₂ rest e=>keyKind_strs (by rw [<-e];exact hI)) (by omega) λ st a1 a2=>⟨_,rfl,?_⟩) (args_list_sort _)));obtain ⟨ns',b1,b2,b3⟩:=sorted_out_str hI a1 a2;have hov:∀v∈((arrOf st).map (·.2)).toList,Z v:=λ v hv=>by
  rw [Array.toList_map] at hv;obtain ⟨p,hp',rfl⟩:=EE.mp hv;have hl:(arrOf st).toList.Perm (vs.zip vs):=by rw [<-pairsOf_toList];exact GR.mp a1
  have h2:=mem_zip_self (hl.mem_iff.mp hp');have h3:p.2∈vs:=h2.1▸h2.2;obtain ⟨e,h4,h5⟩:=EE.mp (hp.mem_iff.mp h3);rw [<-h5];exact hZ e h4
 have gk:∀b o,h1.get? b=some o->(sortedHeap (h1.push (seqObj "list" vs.toArray 0)) h1.objs.size vs ((arrOf st).map (·.2))).get? b=some o:=λ b o e=>by have hlt:=Heap.lt_size e;rw [sortedHeap_old (Gb hlt) (by rw [Heap.size_push];exact Gm hlt)];exact Heap.get?_push_of_some _ e
 obtain ⟨e2,he2⟩:=sortedHeap_at (out:=(arrOf st).map (·.2)) gL;exact wpAny_pure ⟨_,rfl,q _ ns' _ _ e2 _ _ b1 (b2.trans hpn) b3 hov (λ b o e=>gk b o (k1 b o e)) (Gq hsz) he2 ht1⟩
end
def tv (p:Str×Nat):V:=.tok p.1 p.2
def zb (n:Nat) (ps:List (Str×Nat)):Prop:= ∀p∈ps,1<=p.2/\p.2<n
theorem tz {n:Nat}:∀{vs:List Value}{ss:List Str},StrsAre vs ss->(∀v∈vs,Zt n v)->∃ps:List (Str×Nat),ps.map (·.1)=ss/\aQ (ps.map tv) vs/\zb n ps:=λ {vs ss} h=>by
 induction h with
 | nil=>exact λ _=>⟨[],rfl,.nil,λ p hp=>by cases hp⟩
 | cons y t h ih=>
   intro hz;obtain ⟨ps,e,r,k⟩:=ih (λ v hv=>hz v (Ez _ hv));obtain ⟨x,t',e',a,b⟩:=hz _ ED;cases e';refine ⟨(y,t)::ps,by rw [EJ,e],.cons rfl r,λ p hp=>?_⟩
   rcases Ew.mp hp with rfl | hp
   ·exact ⟨a,b⟩
   ·exact k p hp
abbrev QT:=V->Hp->Nat->Prop
abbrev tp:=St->Hp->QT->Prop
def EPt (X:Cx) (pins:List (Addr×Obj)) (σ:St) (Q:QT) (u:Value) (s':Shared):Prop:= ∃v H' n,n<=s'.toks/\aq X pins σ H' s'/\aH v u/\Q v H' n
def PEt (X:Cx) (e:Expr) (t:tp):Prop:= ∀(pins:List (Addr×Obj)) (s:Shared) (σ:St) (H:Hp) (Q:QT),1<=s.toks->aq X pins σ H s->t σ H Q->wpAny (model X.prog X.w) X.A (eval e X.env) (EPt X pins σ Q) X.xe s
def zo (X:Cx) (e:Expr) (t:tp):Prop:= ∀(pins:List (Addr×Obj)) (s:Shared) (σ:St) (H:Hp) (Q:QT),aq X pins σ H s->t σ H Q->wpAny (model X.prog X.w) X.A (eval e X.env) (EPt X pins σ Q) X.xe s
def PEf (n:Nat) (X:Cx) (e:Expr) (t:TE):Prop:= ∀(pins:List (Addr×Obj)) (s:Shared) (σ:St) (H:Hp) (Q:VK),n<=s.toks->aq X pins σ H s->t σ H Q->wpAny (model X.prog X.w) X.A (eval e X.env) (EP X pins σ Q) X.xe s
theorem gE {α:Type}{t:Sem α}{Q Q':α->Shared->Prop}{M:Model}{A:Around}{E:Value->Shared->Prop}{s:Shared}{n:Nat}(hn:n<=s.toks) (h:wpAny M A t Q E s) (hQ:∀a s',n<=s'.toks->Q a s'->Q' a s'):wpAny M A t Q' E s:=
 wpAny_mono (wpAny_toks_of hn h) (λ a s' x=>hQ a s' x.1 x.2) λ _ _ x=>x.2
section
variable {X:Cx}
theorem xR {e:Expr}{te:TE}(he:PE X e te):zo X e (λ σ H Q=>te σ H λ v H'=>Q v H' 0):=λ pins s σ H Q I h=>bx (he pins s σ H _ I h) λ u s' ⟨v,H',I',r,q⟩=>⟨v,H',0,Gd _,I',r,q⟩
def tSS (te:TE):tp:=λ σ H Q=>te σ H λ v H1=> ∃x,v=.str x/\x.length<=60/\∀(q:Addr) (H2:Hp) (ps:List (Str×Nat)) (n:Nat),(ps.map (·.1)).Perm (aB (cE x) x.cps.size)->sortedS (ps.map (·.1))=true->zb n ps->H1 q=none->ak H1 H2->H2 q=some (.lst (ps.map tv))->Q (.ref q) H2 n
theorem xS {e:Expr}{te:TE}{p1 p2 pos1 pos2:Pos}(hh:X.A.handled=none) (he:PE X e te) (hm1:X.mg "sorted"=none) (hm2:X.mg "set"=none) (hg1:Gl X "sorted":=by rfl) (hg2:Gl X "set":=by rfl)
  (hs1:starEach [.Call (.Name "set" p2) [e] [] pos2] X.env=(false,eval (.Call (.Name "set" p2) [e] [] pos2) X.env)::starEach [] X.env:=by rfl) (hs2:starEach [e] X.env=(false,eval e X.env)::starEach [] X.env:=by rfl)
  (hp1:backTo pos1 (starEach [] X.env)=[]:=by rfl) (hp2:backTo pos2 (starEach [] X.env)=[]:=by rfl):
  PEt X (.Call (.Name "sorted" p1) [.Call (.Name "set" p2) [e] [] pos2] [] pos1) (tSS te):=by
 intro pins s σ H Q h1 I h;refine wpAny_Call_Name_kw (eF I hg1 hm1 c7 ?_ (by decide) (by decide));refine PyProof.Rows.callWith_builtin1 ?_ hs1 (by rw [hp1];rfl);rw [hs1];show wpAny _ _ (spliced ((false,eval (.Call (.Name "set" p2) [e] [] pos2) X.env)::backTo pos1 (starEach [] X.env))) _ _ s;rw [hp1];refine Calls.spliced_cons (wpAny_Call_Name_kw (eF I hg2 hm2 gT ?_ (by decide) (by decide)));refine PyProof.Rows.callWith_type1 ?_ hs2 (by rw [hp2];rfl);rw [hs2];show wpAny _ _ (spliced ((false,eval e X.env)::backTo pos2 (starEach [] X.env))) _ _ s;rw [hp2];refine Calls.spliced_cons (gE h1 (he pins s σ H _ I h) λ u s1 k1 ⟨v,H1,I1,r1,x,ev,lx,q1⟩=>Calls.spliced_nil ?_);subst ev;obtain ⟨t,rfl⟩:=r1;have sb:scanBound=4096:=rfl;have lx':x.cps.size<=60:=lx;refine oU hh k1 (by omega) λ h2 tk ht hS kp=>Calls.spliced_nil ?_;have k2:∀b u,s1.heap.get? b=some u->h2.get? b=some u:=λ b u e=>kp b u (Heap.lt_size e) e;have ho:∃o,h2.get? s1.heap.objs.size=some o:=let ⟨_,_,_,⟨o,h1,_⟩,_⟩:=hS;⟨o,h1⟩;have I2:=I1.laid (t':=tk) k2 (Gc _) (show bg X.prog X.w _ h2 _ (.ext λ h=>en (lh X.prog X.w) (Zt tk) h s1.heap.objs.size (λ y=>decide (y∈aB (cE x) x.cps.size)) (aB (cE x) x.cps.size).length) from ⟨hS,ho,λ h1 h2 e k=>e.keep k⟩);have fr:=I1.hok.fresh (a:=s1.heap.objs.size) (Gc _);refine lf (s:={s1 with heap:=h2,toks:=tk}) hh hS (ie _ _) (by have:=cM (cE x) x.cps.size;omega) λ out ns' h3 a e d tk3 a1 a2 a3 aZ k3 hle ha ht3=>?_;obtain ⟨ps,e1,rv,tl⟩:=tz a1 aZ;subst e1;have hl:=a2.length_eq;have hz':(ps.map tv).length<=sizeLine:=by have:=cM (cE x) x.cps.size;rw [Eu] at hl ⊢;rw [hl,sizeLine_eq];omega
 have I3:=(I2.drawn d).laid (t':=tk3) k3 hle (show bg X.prog X.w _ h3 _ (.lst (ps.map tv)) from ⟨hz',out.toList,e,rv,by simpa [seqObj] using ha⟩);have s1':ak H1 (upd H1 s1.heap.objs.size (.ext λ h=>en (lh X.prog X.w) (Zt tk) h s1.heap.objs.size (λ y=>decide (y∈aB (cE x) x.cps.size)) (aB (cE x) x.cps.size).length)):=(ak.refl H1).upd fr;have f3:=I2.hok.fresh hle;exact ⟨.ref a,_,tk,ht3,I3,rfl,q1 a _ ps tk a2 a3 tl (s1'.free f3) (s1'.upd f3) af⟩
end
end L2
namespace L2
open PySem PySem.Spec PyProof.Rows
theorem mQ {M:Model}{A:Around}{E:Value->Shared->Prop}{s:Shared}{scope:Scope}{globals:Addr}{binds:List (Str×Value)}{qual:Str}{func:Option Addr}{code:Value}{builtins:Addr}{Q:Env->Shared->Prop}
  (hk:scope.kind=.function) (hc:∀x∈scope.names,x.2≠.cell) (hl:∀x∈binds,scope.names.lookup x.1=some .local)
  (hQ:∀env,env=newEnv scope s.heap.objs.size globals (cellsFrom (s.heap.objs.size+1) scope.names []) qual func code none builtins->
   ∀s',s.toks+binds.length<=s'.toks->InCallC s env.locals (bindL env.kindOf binds λ _=>none) env.cells (bindC env.kindOf binds λ _=>none) s'->Q env s'):
  wpAny M A (newFunctionEnv scope globals [] binds qual func code none builtins) Q E s:=
 wpAny_mono (oC (E:=E) (E':=λ _ _=>True) (wpAny_newFunctionEnv_cells (Q:=λ env s'=>env=newEnv scope s.heap.objs.size globals (cellsFrom (s.heap.objs.size+1) scope.names []) qual func code none builtins/\
   InCallC s env.locals (bindL env.kindOf binds λ _=>none) env.cells (bindC env.kindOf binds λ _=>none) s') hk (λ x hx=>.inl (hl x hx)) λ env he s' x=>⟨he,x⟩)
  (wpAny_newFunctionEnv hc hl (Q:=λ _ s'=>s.toks+binds.length<=s'.toks) (λ h' _ _=>Gc _) hk)) (λ env s' ⟨⟨he,x⟩,ht⟩=>hQ env he s' ht x) λ _ _ x=>x.1
abbrev zj:=List V->Hp->QT->Prop
def CRt (outer:List Env) (P:Program) (w:World) (H:Hp) (s:Shared) (Q:QT) (r:Result) (s':Shared):Prop:=
 match r with
 | .ok (.ret u)=> ∃n,n<=s'.toks/\CE outer P w H s (λ v H'=>Q v H' n) u s'
 | _=>False
structure tf (P:Program) (w:World) (K:Frag) (mg:Str->Option Value) (base:Heap) (k:Nat) (f:Addr) (fd:FuncData) (ps:List Str) (sp:zj):Prop where
 len:∀vs H Q,sp vs H Q->vs.length=ps.length
 run:∀(A:Around) (outer:List Env) (s:Shared) (H:Hp) (args:Args) (us:List Value) (vs:List V) (Q:QT),bQ k A->l7 P w K mg base A outer s H->BindsTo s fd args (ps.zip us)->aQ vs us->sp vs H Q->
  codeAny (model P w) A (.call (.ref f) args) (CRt outer P w H s Q) s
def SPt (X:Cx) (pins:List (Addr×Obj)) (Q:QT) (fl:Flow) (s':Shared):Prop:=
 match fl with
 | .ret u=> ∃v σ' H' n,n<=s'.toks/\aq X pins σ' H' s'/\aH v u/\Q v H' n
 | _=>False
theorem bU.okT {P:Program}{w:World}{K:Frag}{mg:Str->Option Value}{base:Heap}{x qual:Str}{st:Stmt}{f:Addr}{fd:FuncData}{N ps:List Str}{k:Nat}{sp:zj}(F:bU K x qual st f fd) (S:ay N ps (ae st))
  (len:∀vs H Q,sp vs H Q->vs.length=ps.length) (hc:∀x∈(ae st).names,x.2≠.cell) (hl:∀n∈ps,(ae st).names.lookup n=some .local) (h1:1<=ps.length)
  (hbody:∀(cdv:Value) (A:Around) (outer:List Env) (s:Shared) (H:Hp) (vs:List V) (Q:QT),bQ k (A.deeper (envOfC qual (ae st) s.heap.objs.size f cdv))->sp vs H Q->∀s1,1<=s1.toks->
   aq (iU dv P w K mg base N qual (ae st) f cdv A outer s H E0).nox [] (fI N vs) H s1->
   wpAny (model P w) (iU dv P w K mg base N qual (ae st) f cdv A outer s H E0).nox.A (execs (cN st) (iU dv P w K mg base N qual (ae st) f cdv A outer s H E0).nox.env) (SPt (iU dv P w K mg base N qual (ae st) f cdv A outer s H E0).nox [] Q) (λ _ _=>False) s1):
  tf P w K mg base (k+1) f fd ps sp:=by
 obtain ⟨oc,od,kV,doc,pm,an,cdv,ct,osl,rfl,lk,hcd⟩:=F.ex;refine ⟨len,λ A outer s H args us vs Q hr e0 hb r hsp=>?_⟩;have hl':=len _ _ _ hsp;have KX:K.In s.heap:=e0.mod.kin.keeps λ b o e=>(e0.bs b o e).1;have lim:s.heap.NoLimit:=e0.mod.nolimit.keeps λ b o e=>(e0.bs b o e).1;refine codeAny_call_function hr.depth (KX _ _ lk) rfl S.co S.gen rfl (Hx KX hcd) (hb _ _ _ _ ?_);refine mQ S.kind hc (λ y hy=>hl y.1 (Fh (show (y.1,y.2)∈ps.zip us from hy)).1) λ env he s1 ht x=>?_;subst he;refine ⟨lim.keeps x.toInCall.keep,codeAny_func ?_⟩;have I:aq (iU dv P w K mg base N qual (ae st) f cdv A outer s H E0) [] (fI N vs) H s1:=jx S hr.hd e0 hl' r x;have ht1:1<=s1.toks:=by have e1:=r.length;rw [List.length_zip,<-e1,hl',Nat.min_self] at ht;omega
 refine wpAny_mono (hbody cdv A outer s H vs Q (hr.deeper _) hsp s1 ht1 (I.wish _)) (λ fl s' hs=>?_) λ e s' hs=>hs.elim;cases fl with
 | ret u=>
   obtain ⟨v,σ',H',n,hn,J,rv,q⟩:=hs;exact ⟨n,hn,v,H',J.os,J.bare,J.base,J.hok,rv,q⟩
 | next=>exact hs.elim
 | brk=>exact hs.elim
 | cont=>exact hs.elim
structure ze (P:Program) (w:World) (K:Frag) (mg:Str->Option Value) (base:Heap) (name:Str) (ps:List Str) (k:Nat) (sp:zj):Prop where
 ex:∃f fd,tf P w K mg base k f fd ps sp/\mg name=some (.ref f)/\Ha K (.ref f)=true/\eQ K fd ps []
section
variable {X:Cx}
def nE (sp:zj) (t:TA):tp:=λ σ H Q=>t σ H λ vs H1=>sp vs H1 Q
theorem qO {name:Str}{ps:List Str}{k j:Nat}{sp:zj}{p pos:Pos}{e:Expr}{es:List Expr}{t:TA}(C:ze X.prog X.w X.K X.mg X.base name ps k sp) (hr:bQ j X.A) (hkj:k<=j) (ha:PA X (e::es) t) (hg:Gl X name:=by rfl) (hdb:(name == ("__debug__":Str))=false:=by decide)
  (he:starEach (e::es) X.env=(false,eval e X.env)::starEach es X.env:=by rfl) (hpl:(backTo pos (starEach es X.env)).any (·.1)=false:=by rfl):zo X (.Call (.Name name p) (e::es) [] pos) (nE sp t):=by
 obtain ⟨f,fd,F,hm,hk,hb⟩:=C.ex;intro pins s σ H Q I h;refine wpAny_Call_Name_kw (ii I hg hm ?_ hdb);refine Hl (h₀:=X.base) I.ok.mod.kin hk (bx (ha pos pins s σ H _ I h) λ us s1 ⟨vs,H1,I1,r,q⟩=>⟨I1.kIn,?_⟩) he hpl;have hl:us.length=ps.length:=by rw [<-r.length];exact F.len _ _ _ q
 refine wpAny_call (codeAny_mono (F.run X.A X.stack s1 H1 ⟨us,[]⟩ us vs Q (hr.mono hkj) I1.env0 (by have:=hb s1 us I1.kIn (by rw [ET];exact hl);rw [ET] at this;exact this) r q) λ r s' hq=>?_);cases r with
 | error e=>exact hq.elim
 | ok fl=>
   cases fl with
   | ret u=>
     obtain ⟨n,hn,hq⟩:=hq;obtain ⟨v,H',I',rv,q'⟩:=I1.after hq;exact ⟨v,H',n,hn,I',rv,q'⟩
   | next=>exact False.elim hq
   | brk=>exact False.elim hq
   | cont=>exact False.elim hq
def tE (tc:TT) (ta tb:tp):tp:=λ σ H Q=>tc σ H λ d H1=>if d=true then ta σ H1 Q else tb σ H1 Q
theorem pd {c a b:Expr}{tc:TT}{ta tb:tp}{pos:Pos}(hc:PT X c tc) (ha:zo X a ta) (hb:zo X b tb):zo X (.IfExp c a b pos) (tE tc ta tb):=by
 intro pins s σ H Q I h;refine wpAny_IfExp (bx (hc pins s σ H _ I h) λ d s1 ⟨H1,I1,q1⟩=>?_);cases d with
 | true=>exact ha pins s1 σ H1 Q I1 (by simpa using q1)
 | false=>exact hb pins s1 σ H1 Q I1 (by simpa using q1)
theorem tM {pins:List (Addr×Obj)}{s:Shared}{σ:St}{H:Hp}{Q:QT}{i:Nat}{x:Str}{e:Expr}{te:tp}{rest:List Stmt}{t:TS}{pos pos':Pos}(hN:X.N.Nodup) (hi:X.N[i]? =some x) (hx:xx X.env.scope x) (he:PEt X e te) (hr:l9 X rest t)
  (h1:1<=s.toks) (I:aq X pins σ H s) (h:te σ H λ v H1 n=>t {nx:=λ _ _=>False,rt:=λ v H'=>Q v H' n} (σ.set i (some v)) H1)
  (hs:swapsWith e (some (.Name x pos')) pos.line X.env=pure false:=by rfl) (hf:X.fn x=true\/X.env.scope.names.lookup x=some .local:=by first | exact .inl rfl | exact .inr rfl | assumption):
  wpAny (model X.prog X.w) X.A (execs (.Assign [.Name x pos'] e pos::rest) X.env) (SPt X pins Q) X.xe s:=by
 refine wpAny_execs_cons (wpAny_Assign_Name (bx (he pins s σ H _ h1 I h) λ v s1 ⟨y,H1,n,hn,I1,r1,q1⟩=>wpAny_with_toks hn (fb I1 hN hi hx r1 (λ s2 I2 hn2=>?_) hf)) hs);refine gE hn2 (hr pins s2 _ H1 _ I2 q1) λ fl s3 k3 q=>?_;cases fl with
 | ret u=>
   obtain ⟨v,σ',H',J,rv,q⟩:=q;exact ⟨v,σ',H',n,k3,J,rv,q⟩
 | next=>
   obtain ⟨_,_,_,q⟩:=q;exact q.elim
 | brk=>
   obtain ⟨_,_,_,q⟩:=q;exact q.elim
 | cont=>
   obtain ⟨_,_,_,q⟩:=q;exact q.elim
def nA (i:Nat) (te:tp) (t2:Nat->TE):TS:=λ D σ H=>te σ H λ v H1 n=>t2 n (σ.set i (some v)) H1 λ _ H2=>D.nx (σ.set i (some v)) H2
theorem qL {i:Nat}{x:Str}{e e2:Expr}{te:tp}{t2:Nat->TE}{pos pos' pos2:Pos}(hN:X.N.Nodup) (hi:X.N[i]? =some x) (hx:xx X.env.scope x) (he:zo X e te) (h2:∀n,PEf n X e2 (t2 n))
  (hs:swapsWith e (some (.Name x pos')) pos.line X.env=pure false:=by rfl) (hs2:swapsWith e2 none pos2.line X.env=pure false:=by rfl) (hf:X.fn x=true\/X.env.scope.names.lookup x=some .local:=by first | exact .inl rfl | exact .inr rfl | assumption):
  l9 X [.Assign [.Name x pos'] e pos,.Expr e2 pos2] (nA i te t2):=by
 intro pins s σ H D I h;refine wpAny_execs_cons (wpAny_Assign_Name (bx (he pins s σ H _ I h) λ v s1 ⟨y,H1,n,hn,I1,r1,q1⟩=>wpAny_with_toks hn (fb I1 hN hi hx r1 (λ s2 I2 hn2=>?_) hf)) hs);refine wpAny_execs_cons (wpAny_Expr_any (bx (h2 n pins s2 _ H1 _ hn2 I2 q1) λ v s3 ⟨z,H3,I3,r3,q3⟩=>?_) I2.quiet hs2);exact wpAny_execs_nil ⟨_,H3,I3,q3⟩
theorem tU {n:Nat}{o e:Expr}{to te:TE}{apos cpos:Pos}(ho:PE X o to) (he:PEf n X e te) (hbase:attributeBase o "extend" X.env (eval o X.env)=eval o X.env:=by rfl)
  (hfew:((backTo cpos (starEach [e] X.env)).all (λ x=> !x.1)&&(backToKw cpos (keywordEach [] X.env)).all (λ x=>x.1.isSome)
   &&decide ([e].length+([]:List Keyword).length+(if ([]:List Keyword).isEmpty then 0 else 1)<30))=true:=by rfl)
  (hline:(apos.endLine == cpos.line)=true:=by rfl) (hs:starEach [e] X.env=(false,eval e X.env)::starEach [] X.env:=by rfl) (hnil:backTo cpos (starEach [] X.env)=[]:=by rfl):
  PEf n X (.Call (.Attribute o "extend" apos) [e] [] cpos) (sO to te):=by
 intro pins s σ H Q hn I h;refine wpAny_Call_method_late hbase hfew hline rfl (gE hn (ho pins s σ H _ I h) λ v s1 k1 ⟨x,H1,I1,r1,q1⟩=>?_);cases x with
 | ref l=>
   obtain ⟨⟨xs0,e0⟩,q1⟩:=q1;have ty:xA X.K "list" (.ref l) H1:=.inl ⟨rfl,xs0,aL.of e0⟩;obtain ⟨h1,h2⟩:=gD I1 r1 ty;refine ⟨"list","list.extend",PySem.F.plainAttrs_list,PySem.F.slot_list_extend,PySem.F.type_list_extend,h1,h2,?_⟩;rw [hs];refine Calls.callWith_builtin (by show (false||(backTo cpos (starEach [] X.env)).any (·.1))=false;rw [hnil]<;>rfl) (Calls.evalArgs_plain ?_)
   show wpAny _ _ (spliced ((false,eval e X.env)::backTo cpos (starEach [] X.env))) _ _ s1;rw [hnil];refine Calls.spliced_cons (bx (he pins s1 σ H1 _ k1 I1 q1) λ u s2 ⟨y,H2,I2,r2,b,xs,zs,ey,e1,e2,lz,q⟩=>Calls.spliced_nil ?_);subst ey;exact pC pins s2 σ H2 _ [.ref b] v [u] Q I2 r1 (.cons r2 .nil) ⟨l,b,xs,zs,rfl,rfl,e1,e2,lz,q⟩
 | _=>exact q1.elim
end
end L2
namespace L2
open PySem PySem.Spec PyProof.Rows
section
variable {X:Cx}{tg:Expr}
end
section
variable {prog:Program}{w:World}{A:Around}{E:Value->Shared->Prop}{s:Shared}{R:Result->Shared->Prop}
variable {I:Addr}{fp wr:List Addr}{G:Array GenState->Array GenState->Prop}{n:Nat}{P:Nat->Value->Prop}{St:Nat->Shared->Prop}
end
end L2
namespace L2
open PySem PySem.Spec PyProof.Rows
section
variable {X:Cx}{e:Expr}{te:TE}
end
end L2
namespace L2
open PySem PySem.Spec PyProof.Rows
section
variable {X:Cx}{o e:Expr}{to te:TE}
end
end L2
namespace L2
open PySem PySem.Spec PyProof.Rows
end L2
namespace L2
open PySem PySem.Spec PyProof.Rows
end L2
namespace L2
open PySem PySem.Spec PyProof.Rows
end L2
namespace L2
open PySem PySem.Spec PyProof.Rows
section
variable {K:Frag}{σ:St}{H:Hp}{n n' m m':Nat}{ta tb te:TE}
theorem rY {d:Addr}{cs:List Nat}(ha:Ev ta σ H (.str "")) (hb:Ev tb σ H (.ref d)) (h:H d=some (.lst (cs.map c5))) (hl:cs.length<=1000):Ev (Dd (fQ K) ta (aC tb bu)) σ H (.str ⟨cs.toArray⟩):=λ Q q=>ha _ (hb _ (by
 show fQ K (.str "") [.ref d] H Q;rw [qI];refine ⟨cs.map one,aL.of (by rw [EC];exact h),?_,?_⟩
 ·rw [EC];have es:∀l:List Nat,(l.map ((λ x:Str=>x.length)∘one)).sum=l.length:=λ l=>by
   induction l with
   | nil=>rfl
   | cons a r ih=>rw [EJ,E8,ih,EA];show 1+r.length=_;omega
  have ez:("":Str).length=0:=by decide+kernel
  rw [es,ez];show cs.length+(cs.map one).length*0<=16777216;omega
 ·rw [jw];exact q))
end
end L2
namespace L2
open PySem PySem.Spec PyProof.Rows
end L2
namespace L2
open PySem PySem.Spec PyProof.Rows
end L2
namespace L2
open PySem PySem.Spec PyProof.Rows
end L2
namespace L2
open PySem PySem.Spec PyProof.Rows
end L2
namespace L2
open PySem PySem.Spec PyProof.Rows
end L2
namespace L2
open PySem PySem.Spec PyProof.Rows
section
variable {prog:Program}{w:World}{A:Around}{E:Value->Shared->Prop}{s:Shared}
end
section
variable {X:Cx}{pos:Pos}
end
end L2
namespace L2
open PySem PySem.Spec PyProof.Rows
end L2
namespace L2
open PySem PySem.Spec PyProof.Rows
section
variable {prog:Program}{w:World}{A:Around}{E:Value->Shared->Prop}{s:Shared}
variable {K:Type} [DecidableEq K] {knd:KeyKind prog w K}
end
end L2
namespace L2
open PySem PySem.Spec PyProof.Rows
section
variable {X:Cx}{p pos pos2:Pos}{a b:Expr}{elts:List Expr}{k0:Nat}{ta tb:TE}
end
section
variable {X:Cx}{a b:Expr}
end
end L2
namespace L2
open PySem PySem.Spec PyProof.Rows
end L2
namespace L2
open PySem PySem.Spec PyProof.Rows
section
variable {prog:Program}{w:World}{A:Around}{E:Value->Shared->Prop}{s:Shared}
end
section
variable {X:Cx}
end
end L2
namespace L2
open PySem PySem.Spec PyProof.Rows
section
variable {X:Cx}{N:List Str}{src:List (Option Nat)}{scope:Scope}{elt tg iter:Expr}{ifs:List Expr}{pos:Pos}{wi:TI}{g:TG}{tt:TT}{te:TE}
theorem pN {fl:Nat}(hc:X.calm=true) (S:bn X N src scope) (hg:∀s H ex,PG (cxC X scope N s H ex) tg g) (ht:∀s H ex,jk (cxC X scope N s H ex) ifs tt) (he:∀s H ex,PEf fl (cxC X scope N s H ex) elt te)
  {pins:List (Addr×Obj)} {σ:St} {Q:VK} {itv:Value} {s2:Shared} {E:Value->Shared->Prop} (hfl:fl<=s2.toks) (h:DB X pins σ tg (dZ g tt te src σ Q) itv s2):
  wpAny (model X.prog X.w) X.A (newList []) (λ acc s₃=>wpAny (model X.prog X.w) X.A (newFunctionEnv scope X.env.globals (fG X.env scope.names []) [] X.env.qual none .none (some X.env)) (λ cenv s₄=>
   codeAny (model X.prog X.w) X.A (.compStart (.ListComp elt [⟨tg,iter,ifs,0⟩] scope pos) 0 itv acc {cenv with scope:=relabel scope X.env}) (ip X pins σ Q acc cenv.locals) s₄) E s₃) E s2:=by
 obtain ⟨it,fp,tn,J,H1,e,I2,T,st2,f2,W,⟨m0,w0⟩,turn⟩:=h;subst e;refine wpAny_newObj_type (wpAny_newFunctionEnv S.nocell (by intro y hy;simp at hy) (λ h₁ hns₁ hsb₁=>?_) S.kind);dsimp only at hns₁ hsb₁ ⊢;generalize hH2:s2.heap.push {cls:=.type "list",dict:=none,data:=.seq ([]:List Value).toArray}=H2 at hns₁ hsb₁ ⊢;have hC:H2.objs.size=s2.heap.objs.size+1:=by rw [<-hH2,Heap.size_push]
 have push:∀b o,s2.heap.get? b=some o->H2.get? b=some o:=λ b o e=>hH2▸Heap.get?_push_of_some _ e;have hD2:H2.get? s2.heap.objs.size=some (bY [] 0):=hH2▸Heap.get?_push_size _ rfl;have hk:∀b o,H2.get? b=some o->h₁.get? b=some o:=λ b o e=>hsb₁.extBut b o (Gb (Heap.lt_size e)) (Heap.get?_push_of_some _ e);generalize hD:s2.heap.objs.size=D at*;have I3:aq X pins σ H1 {s2 with heap:=H2}:=I2.kept (t':=s2.toks) push;have fD:eV X pins H1 D:=I2.fpOk (Go hD) (I2.hok.fresh (Go hD));have fpl:∀b∈fp,b<D:=λ b hb=>by obtain ⟨o,e,_⟩:=T.obj _ _ st2 b hb;rw [<-hD];exact Heap.lt_size e
 have fex:∀b∈D::fp,eV X pins H1 b:=λ b hb=>by
  rcases Ew.mp hb with z | z
  ·rw [z];exact fD
  ·exact f2 b z
 have lex:∀b∈D::fp,b<({s2 with heap:=H2}:Shared).heap.objs.size:=λ b hb=>by
  show b<H2.objs.size
  rcases Ew.mp hb with z | z
  ·rw [z,hC];exact Gk _
  ·rw [hC];exact Gm (fpl b z)
 have I4:=I3.enterC (N:=N) S fex lex (h1:=h₁) (tk:=s2.toks+([]:List (Str×Value)).length) hns₁ hk;generalize hY:cxC X scope N {s2 with heap:=H2} H1 (D::fp)=Y at*;have yP:Y.prog=X.prog:=by rw [<-hY];rfl
 have yw:Y.w=X.w:=by rw [<-hY];rfl
 have yA:Y.A=X.A:=by rw [<-hY];rfl
 have yC:Y.env.locals=H2.objs.size:=by rw [<-hY];rfl
 have yK:Y.K=X.K:=by rw [<-hY];rfl
 have yc:Y.calm=true:=by rw [<-hY];exact hc
 have yfs:Y.fs=lN X.stack:=by rw [<-hY];rfl
 have yex:Y.ex=D::fp:=by rw [<-hY];rfl
 have ypn:Y.pn=[]:=by rw [<-hY];rfl
 have yxe:Y.xe=λ _ _=>False:=by rw [<-hY];rfl
 have ycl:∀x c,Y.env.cells.lookup x=some c->X.env.cells.lookup x=some c:=by rw [<-hY];exact λ x c e=>gu X.env _ _ x c (λ y d z=>by simp at z) e
 have ye:Y.env=compEnvC scope (fG X.env scope.names []) H2.objs.size X.env:=by rw [<-hY];rfl
 have ys0:Y.s₀={s2 with heap:=H2}:=by rw [<-hY];rfl
 have yH0:Y.H₀=H1:=by rw [<-hY];rfl
 have hgY:PG Y tg g:=by rw [<-hY];exact hg _ _ _
 have htY:jk Y ifs tt:=by rw [<-hY];exact ht _ _ _
 have heY:PEf fl Y elt te:=by rw [<-hY];exact he _ _ _
 have nfs:∀b∈D::fp,b∉Y.fs:=λ b hb z=>by
  rw [yfs] at z;obtain ⟨f0,f1,f2',_⟩:=fex b hb
  rcases Ew.mp (I2.stkSub b z) with q | q
  ·exact f1 q
  ·exact f2' q
 have ncl:∀b∈D::fp,∀x c,Y.env.cells.lookup x=some c->c≠b:=λ b hb x c e=>(fex b hb).2.2.2.2.1 x c (ycl x c e);have nC:∀b∈D::fp,b≠Y.env.locals:=λ b hb=>by rw [yC];exact Gb (lex b hb)
 have stat:∀{H':Hp} {us:List Value} {k:Nat},(∀b∈fp,H' b=none)->∀b∈fp,eV Y [(D,bY us k)] H' b:=λ {H' us k} hn b hb=>
  ⟨hn b hb,nC b (Ez _ hb),nfs b (Ez _ hb),.inl (by rw [yex];exact Ez _ hb),ncl b (Ez _ hb),λ p hp=>by
   rw [ypn] at hp;have hp1:p=(D,bY us k):=by simpa using hp
   rw [hp1];exact Gj (fpl b hb)⟩
 have pinD:∀{σ':St} {H':Hp} {s':Shared} {pl:List (Addr×Obj)} {us:List Value} {k:Nat},aq Y pl σ' H' s'->s'.heap.get? D=some (bY us k)->H' D=none->aq Y [(D,bY us k)] σ' H' s':=λ {σ' H' s' pl us k} I' e n=>
  I'.pins_of λ p hp=>by
   have hp1:p=(D,bY us k):=by simpa using hp
   subst hp1;exact ⟨e,n,nC D ED,nfs D ED,λ v z=>by cases z⟩
 have I4':aq Y [(D,bY [] 0)] (cY src σ) H1 {s2 with heap:=h₁,toks:=s2.toks+([]:List (Str×Value)).length}:=pinD I4 (hk _ _ hD2) fD.1;have loop:codeAny (model X.prog X.w) X.A (.compLoop (.ListComp elt [⟨tg,iter,ifs,0⟩] scope pos) 0 (.ref it) (.ref D) Y.env) (ip X pins σ Q (.ref D) H2.objs.size) {s2 with heap:=h₁,toks:=s2.toks+([]:List (Str×Value)).length}:=by
  refine gt (λ n s'=>fl<=s'.toks/\∃i ys us k σ' H',aq Y [(D,bY us k)] σ' H' s'/\tn i s'.heap/\(∀b∈fp,H' b=none)/\aQ ys us/\ys.length<=sizeLine/\W i n ys σ' H') ?_ m0
   ⟨hfl,0,[],[],0,_,H1,I4',T.keep _ _ _ st2 λ b hb o e=>hk _ _ (push b o e),λ b hb=>(f2 b hb).1,.nil,Gd _,w0⟩
  rintro n s3 ⟨k3,i,ys,us,k,σ3,H3,I3',st3,fr3,rv,hz,w3⟩
  rcases turn i n ys σ3 H3 w3 with ⟨stop,q⟩ | ⟨go,hlen,step⟩
  ·have hd:=T.done Y yP yw yK yc i _ s3 σ3 H3 (λ _ _=>False) I3' (stat fr3) st3 stop;rw [yA] at hd;refine bx hd λ r s4 ⟨hr,I4⟩=>?_;subst hr;obtain ⟨eD,nD,_⟩:=I4.pin (D,bY us k) (by simp);have eD:s4.heap.get? D=some (bY us k):=eD;have nD:H3 D=none:=nD;have base:Un (lN X.stack) (D::fp) H1 H3 H2 s4.heap:=by have b:=I4.base;rw [yex,yH0,ys0,yfs] at b;exact b
   have hnD:∀b o,s2.heap.get? b=some o->b≠D:=λ b o e=>by rw [<-hD];exact Gb (Heap.lt_size e)
   have nx:∀b o,s2.heap.get? b=some o->b∉fp->b∉D::fp:=λ b o e hb z=>(Ew.mp z).elim (hnD b o e) hb;have un:Un (lN X.stack) fp H1 (upd H3 D (.lst ys)) s2.heap s4.heap:=
    ⟨λ b o e n hb hx=>base.keep b o (push b o e) n hb (nx b o e hx),λ b o e n hb hx=>base.slot b o (push b o e) n hb (nx b o e hx),λ b o e n hx=>by rw [ah (hnD b o e)];exact base.free b o (push b o e) n (nx b o e hx),
     λ b o e hx=>base.there b o (push b o e) (nx b o e hx),λ b xs e=>by rw [ah (ag e fD.1)];exact base.tups b xs e,λ b o u e=>by rw [ah (ag e fD.1)];exact base.frzs b o u e,
     λ b ps e=>by rw [ah (ag e fD.1)];exact base.tbls b ps e⟩
   have hok:hG X.prog X.w (upd H3 D (.lst ys)) s4.heap:=λ b u e=>by
    by_cases hb:b=D
    ·subst hb;rw [af] at e;cases e;exact ⟨hz,us,k,rv,eD⟩
    ·rw [ah hb] at e;have x:=I4.hok b u e;rw [yP,yw] at x;exact x.stay (λ c v _ z=>z) (λ c z=>by rw [ah (ag z nD)];exact z) λ c xs z=>by rw [ah (ag z nD)];exact z
   have ho:s4.os=s2.os:=by rw [I4.os,ys0]
   have J':aq X pins σ (upd H3 D (.lst ys)) s4:=I2.call' (ch:=fp) ho un hok I4.bare λ b hb=>⟨(f2 b hb).2.2.2.1,(f2 b hb).2.1,(f2 b hb).2.2.2.2.1,(f2 b hb).2.2.2.2.2⟩;refine ⟨⟨_,rfl⟩,D,_,rfl,J',?_,?_,q D nD⟩
   ·obtain ⟨m,hm,_⟩:=I4.loc;rw [yC] at hm;exact ⟨m,hm⟩
   ·refine I2.fpOk (by rw [hC,hD];exact Gg _) ?_;rw [ah (by rw [hC];exact Gp D)];have z:=I4.free;rw [yC] at z;exact z
  ·have hd:=T.item Y yP yw yK yc i _ s3 σ3 H3 (λ _ _=>False) I3' (stat fr3) st3 go;rw [yA] at hd;refine gE k3 hd λ r s4 k4 ⟨u,hr,h4⟩=>?_;subst hr;refine gE k4 h4 λ _ s5 k5 ⟨x,H5,I5,r5,y5,st5,fr5⟩=>?_;have I5':=I5.pinned (stat fr5) (T.obj _ _ st5);have hg':=hgY _ s5 σ3 H5 x u _ I5' r5 (step x H5 y5);rw [yP,yw,yA,yxe] at hg';refine gE k5 hg' λ _ s6 k6 ⟨σ6,H6,I6,q6⟩=>?_;have ht':=htY _ s6 σ6 H6 _ I6 q6;rw [yP,yw,yA,yxe] at ht';refine gE k6 ht' λ ok s7 k7 ⟨H7,I7,q7⟩=>?_;have again:∀{σ8:St} {H8:Hp} {s8:Shared} {ys':List V} {us':List Value} {k' m':Nat},aq Y ([(D,bY us' k')]++cS fp s5.heap) σ8 H8 s8->fl<=s8.toks->aQ ys' us'->ys'.length<=sizeLine->m'<n->W (i+1) m' ys' σ8 H8->
     ∃m,m<n/\fl<=s8.toks/\∃i ys us k σ' H',aq Y [(D,bY us k)] σ' H' s8/\tn i s8.heap/\(∀b∈fp,H' b=none)/\aQ ys us/\ys.length<=sizeLine/\W i m ys σ' H':=λ {σ8 H8 s8 ys' us' k' m'} I8 k8 rv' hz' hm w8=>by
    refine ⟨m',hm,k8,i+1,ys',us',k',σ8,H8,I8.unpinned,T.keep _ _ _ st5 λ b hb o e=>(I8.pin (b,o) (EG _ (EG _ (cI hb e)))).1,λ b hb=>?_,rv',hz',w8⟩;obtain ⟨o,e,d⟩:=T.obj _ _ st5 b hb;exact (I8.pin (b,o) (EG _ (EG _ (cI hb e)))).2.1
   cases ok with
   | false=>
     obtain ⟨m',hm,w8⟩:=q7;exact again I7 k7 rv hz hm w8
   | true=>
     rw [if_pos rfl];have he':=heY _ s7 σ6 H7 _ k7 I7 q7;rw [yP,yw,yA,yxe] at he';refine gE k7 he' λ u8 s8 k8 ⟨v,H8,I8,r8,m',hm,w8⟩=>?_;obtain ⟨eD,nD,_⟩:=I8.pin (D,bY us k) (by simp);have eD:s8.heap.get? D=some (bY us k):=eD;have nD:H8 D=none:=nD;have hl:=rv.length;refine call_meets F.slot_list_append ⟨_,eD,rfl⟩ F.entry_list_append (F.args_list_append_2 _ _) (PySem.list_append D us.toArray k u8 (by rw [Ey];omega)) ⟨eD,?_⟩;have q:=PySem.IsL.update eD (λ a=>a.push u8);have eu:us.toArray.push u8=(us++[u8]).toArray:=by simp
     rw [eu] at q;obtain ⟨k',q⟩:∃k',(s8.heap.update D (Obj.mapSeq λ a=>a.push u8)).get? D=some (bY (us++[u8]) k'):=⟨_,q⟩;have I8':aq Y (cS fp s5.heap) σ6 H8 s8:=I8.pins_of λ p hp=>I8.pin p (EG _ (EG _ hp));have I9:aq Y (cS fp s5.heap) σ6 H8 {s8 with heap:=s8.heap.update D (Obj.mapSeq λ a=>a.push u8)}:=I8'.turned (it:=D) (t':=s8.toks) (λ b o hb e=>(Heap.get?_update_other s8.heap _ (Ne.symm hb)).trans e) nD (nC D ED)
      (.inl (by rw [yex];exact ED)) (ncl D ED) λ p hp=>by
       rw [ypn] at hp;have hp:p∈cS fp s5.heap:=by simpa using hp
       exact Gb (fpl _ (gN hp).1)
     refine again (us':=us++[u8]) (ys':=ys++[v]) (m':=m') (k':=k') (I9.pins_of λ p hp=>?_) k8 (rv.append (.cons r8 .nil)) (by rw [EF,Fk];omega) hm w8
     rcases ES.mp hp with z | z
     ·have hp1:p=(D,bY (us++[u8]) k'):=by simpa using z
      subst hp1;exact ⟨q,nD,nC D ED,nfs D ED,λ v z=>by cases z⟩
     ·exact I9.pin p (EG _ z)
 rw [ye] at loop;exact codeAny_compStart_list loop (T.self _ 0 _ _ _ (T.keep _ _ _ st2 λ b hb o e=>hk _ _ (push b o e)) loop)
theorem qQ {fl:Nat}(hc:X.calm=true) (S:bn X N src scope) (hi:PI X tg iter wi) (hg:∀s H ex,PG (cxC X scope N s H ex) tg g) (ht:∀s H ex,jk (cxC X scope N s H ex) ifs tt) (he:∀s H ex,PEf fl (cxC X scope N s H ex) elt te)
  (hs:∀x,foldedSetIterable iter X.env x=pure x:=by intro _;rfl):PEf fl X (.ListComp elt [⟨tg,iter,ifs,0⟩] scope pos) (tComp wi g tt te src):=by
 intro pins s σ H Q hfl I h;rw [eval_ListComp];refine wpAny_comprehension_free (use:=none) rfl hs (fR (S.cells I.ok)) S.kind S.names (gE hfl (hi pins s σ H _ I h) λ v s1 k1 h1=>gE k1 h1 λ it s2 k2 h2=>?_);refine bx (pN hc S hg ht he k2 h2) λ acc s3 h3=>bx h3 λ cenv s4 h4=>codeAny_mono h4 λ r s' hr=>?_;obtain ⟨⟨f,rfl⟩,D,H',rfl,J,⟨m,hm⟩,hf,q⟩:=hr;refine ⟨m,hm,λ h' sb=>?_⟩;exact ⟨.ref D,H',J.turned (t':=s'.toks) (λ b o hb e=>(sb.2 b hb).trans e) hf.1 hf.2.1 hf.2.2.2.1 hf.2.2.2.2.1 hf.2.2.2.2.2,rfl,q⟩
end
end L2
namespace L2
open PySem PySem.Spec PyProof.Rows
def eraS (x:Str) (c:Nat):Str:=⟨(x.cps.toList.erase c).toArray⟩
theorem g8:∀(l:List Nat) (i c:Nat),l[i]? =some c->(∀k,k<i->l[k]?≠some c)->l.take i++l.drop (i+1)=l.erase c
 | [],i,c,h,_=>by simp at h
 | a::l,0,c,h,_=>by
   have:a=c:=by simpa using h
   subst this;simp
 | a::l,i+1,c,h,hk=>by have hne:a≠c:=λ e=>hk 0 (Nat.succ_pos i) (by simp [e]);have ih:=g8 l i c (by simpa using h) (λ k hk'=>by simpa using hk (k+1) (Nat.succ_lt_succ hk'));rw [EW,if_neg (by simpa using hne),<-ih];simp
theorem rL (x:Str) (i:Nat) (hi:i<x.cps.size):Builtin.Str.glued Str.empty (Builtin.Str.partsBetween x [i] 1)=⟨(x.cps.toList.take i++x.cps.toList.drop (i+1)).toArray⟩:=by
 have e:Builtin.Str.partsBetween x [i] 1=[Builtin.Str.strSub x 0 i,Builtin.Str.strSub x (i+1) x.length]:=rfl;rw [e];show (⟨(Builtin.Str.strSub x 0 i).cps++Str.empty.cps++(Builtin.Str.strSub x (i+1) x.length).cps⟩:Str)=_;congr 1;apply GP.mp;have hz:(x.cps.toList.drop (i+1)).length=x.length - (i+1):=by rw [List.length_drop];rfl
 show ((x.cps.extract 0 i)++ #[]++(x.cps.extract (i+1) x.length)).toList=_;rw [GS,GS,GT,GT,FV,FV];simp only [Array.append_empty,List.drop_zero,Nat.sub_zero,ET];rw [List.take_of_length_le (l:=x.cps.toList.drop (i+1)) (by rw [hz];exact Gc _)]
theorem lC (x:Str) (c:Nat):(c∉x.cps.toList/\Builtin.Str.occurrences x ⟨#[c]⟩ 0 x.length 1=[])\/∃i,i<x.cps.size/\Builtin.Str.occurrences x ⟨#[c]⟩ 0 x.length 1=[i]/\x.cps.toList.take i++x.cps.toList.drop (i+1)=x.cps.toList.erase c:=by
 rcases StrLaws.occ_head x ⟨#[c]⟩ 1 (Gc _) with ⟨h0,hn⟩ | ⟨i,r,h0,ha,hn⟩
 ·refine .inl ⟨λ hm=>?_,h0⟩;obtain ⟨i,hi⟩:=FW.mp hm;exact hn i ((StrLaws.subAt_one x c i).mpr hi)
 ·have hl:=StrLaws.occ_length_le x ⟨#[c]⟩ 0 x.length 1;rw [h0,EA] at hl;have hr:r=[]:=Fe.mp (by omega);subst hr;have hi:=(StrLaws.subAt_one x c i).mp ha;refine .inr ⟨i,?_,h0,g8 _ i c hi λ k hk e=>hn k hk ((StrLaws.subAt_one x c k).mpr e)⟩;have:=(EH.mp hi).1;simpa using this
section
variable {prog:Program}{w:World}{A:Around}{E:Value->Shared->Prop}{s:Shared}
theorem iD (x y z:Str) (t u v k:Tok):Builtin.«str.replace» ⟨[.str x t,.str y u,.str z v,.int 1 k],[]⟩=
  (if ((Builtin.Str.occurrences x y 0 x.length 1).isEmpty||(y.length == 0&&z.length == 0))=true then (do rule "str.replace.nothing";ret (.str x t)) else
        (do let same<-isSame (.str y u) (.str z v)
            if same=true then (do rule "str.replace.old-is-new";ret (.str x t)) else
            if Builtin.Str.tooLong (x.length+(Builtin.Str.occurrences x y 0 x.length 1).length*z.length)=true then unsupported "str.replace:memory" else
            retStr (Builtin.Str.glued z (Builtin.Str.partsBetween x (Builtin.Str.occurrences x y 0 x.length 1) y.length)))):=by
 show (do let limit<-Builtin.Str.countLimit "str.replace" (some (.int 1 k)) (x.length+1);_)=_;rw [countLimit_int "str.replace" 1 k (x.length+1) (by decide)];rfl
theorem mB {x:Str}{c:Nat}{t u v k:Tok}{Q:Value->Shared->Prop}(hu:c∈x.cps.toList->u≠0/\v≠0/\u≠v) (hb:x.length<=1000) (hq:∀k' tk,Q (.str (eraS x c) k') {s with toks:=tk}):
  wpAny (model prog w) A (call (.builtin "str.replace") [.str x t,.str ⟨#[c]⟩ u,.str Str.empty v,.int 1 k]) Q E s:=by
 rcases lC x c with ⟨hn,h0⟩ | ⟨i,hi,h0,he⟩
 ·have g:Gives (Builtin.«str.replace» ⟨[.str x t,.str ⟨#[c]⟩ u,.str Str.empty v,.int 1 k],[]⟩) (.val (.str x t)):=by rw [iD,h0];exact .rule (.of_eq rfl)
  have e:eraS x c=x:=by unfold eraS;rw [E2 hn]
  rw [e] at hq;exact call_gives PySem.F.slot_str_replace (typeIs_str _ _ _) PySem.F.entry_str_replace (PySem.F.args_str_replace_4 _ _ _ _) g (hq _ s.toks)
 ·have hm:c∈x.cps.toList:=by have h1:=StrLaws.found_one x c;rw [h0] at h1;exact of_decide_eq_true h1.symm
  obtain ⟨u0,v0,uv⟩:=hu hm;have hl:Builtin.Str.tooLong (x.length+([i]:List Nat).length*Str.empty.length)=false:=by unfold Builtin.Str.tooLong sizeLine;exact decide_eq_false (by show¬(x.length+1*0 > 16777216);omega)
  have ne:((⟨#[c]⟩:Str) == Str.empty)=false:=beq_eq_false_iff_ne.mpr λ e=>by have:=congrArg (λ z:Str=>z.cps.size) e;simp [Str.empty] at this
  have g:Gives (Builtin.«str.replace» ⟨[.str x t,.str ⟨#[c]⟩ u,.str Str.empty v,.int 1 k],[]⟩) (.str (eraS x c)):=by
   rw [iD,h0,if_neg (by show¬((false||(1 == 0&&_))=true);simp),isSame_str_other _ _ u v (by simp [u0,v0]) (by simpa using uv) ne,hl]
   have e:Builtin.Str.glued Str.empty (Builtin.Str.partsBetween x [i] (⟨#[c]⟩:Str).length)=eraS x c:=by show Builtin.Str.glued Str.empty (Builtin.Str.partsBetween x [i] 1)=_;rw [rL x i hi,he];rfl
   rw [e];exact .of_eq rfl
  refine call_gives PySem.F.slot_str_replace (typeIs_str _ _ _) PySem.F.entry_str_replace (PySem.F.args_str_replace_4 _ _ _ _) g ⟨?_,hq _ _⟩;show (eraS x c).length<=_;have:(eraS x c).length<=x.length:=by show (x.cps.toList.erase c).toArray.size<=x.cps.size;rw [Ey];exact FB
  rw [sizeLine_eq];omega
end
def zk (y:V) (c:Nat):Prop:=y=.str ⟨#[c]⟩\/∃t,y=.tok ⟨#[c]⟩ t
section
variable {X:Cx}
def jm (ta tb:TE):TE:=λ σ H Q=>ta σ H λ x H1=>tb σ H1 λ y H2=> ∃a c,x=.str a/\zk y c/\a.length<=1000/\Q (.str (a++⟨#[c]⟩)) H2
theorem t4 {a b:Expr}{ta tb:TE}{pos:Pos}(ha:PE X a ta) (hb:PE X b tb):PE X (.BinOp a .Add b pos) (jm ta tb):=by
 have ho:fH X (binaryOp .Add) (λ x y H Q=> ∃a c,x=.str a/\zk y c/\a.length<=1000/\Q (.str (a++⟨#[c]⟩)) H):=by
  intro pins s σ H x y v u Q I rx ry h;obtain ⟨a,c,rfl,sg,hz,q⟩:=h;have:∃t,u=Value.str ⟨#[c]⟩ t:=by
   rcases sg with rfl | ⟨t,rfl⟩
   ·exact ry
   ·exact ⟨t,ry⟩
  obtain ⟨t',rfl⟩:=this;obtain ⟨t,rfl⟩:=rx;exact add_str (λ t' tk=>⟨.str (a++⟨#[c]⟩),H,I.tok _,⟨_,rfl⟩,q⟩) (by show a.length+1<=sizeLine;rw [sizeLine_eq];omega)
 exact xg ho ha hb
def oK (n:Nat) (to ty:TE):TE:=λ σ H Q=>to σ H λ x H1=> ∃a,x=.str a/\ty σ H1 λ y H2=> ∃c,zk y c/\a.length<=1000/\(c∈a.cps.toList->∃t,y=.tok ⟨#[c]⟩ t/\1<=t/\t<n)/\Q (.str (eraS a c)) H2
theorem tT {n:Nat}{o e1:Expr}{to t1:TE}{apos cpos p1 p2:Pos}{j1 j2:Nat}(ho:PE X o to) (h1:PE X e1 t1)
  (hbase:attributeBase o "replace" X.env (eval o X.env)=eval o X.env:=by rfl)
  (hfew:((backTo cpos (starEach [e1,.Constant (.str "") j1 p1,.Constant (.int 1) j2 p2] X.env)).all (λ x=> !x.1)&&(backToKw cpos (keywordEach [] X.env)).all (λ x=>x.1.isSome)
   &&decide ([e1,.Constant (.str "") j1 p1,.Constant (.int 1) j2 p2].length+([]:List Keyword).length+(if ([]:List Keyword).isEmpty then 0 else 1)<30))=true:=by rfl)
  (hline:(apos.endLine == cpos.line)=true:=by rfl) (hs:backTo cpos (starEach [e1,.Constant (.str "") j1 p1,.Constant (.int 1) j2 p2] X.env)=[(false,eval e1 X.env),(false,eval (.Constant (.str "") j1 p1) X.env),(false,eval (.Constant (.int 1) j2 p2) X.env)]:=by rfl):
  PEf n X (.Call (.Attribute o "replace" apos) [e1,.Constant (.str "") j1 p1,.Constant (.int 1) j2 p2] [] cpos) (oK n to t1):=by
 intro pins s σ H Q hn I h;refine wpAny_Call_method_late hbase hfew hline rfl (gE hn (ho pins s σ H _ I h) λ v s1 k1 ⟨x,H1,I1,r1,a,ex,q1⟩=>?_);subst ex;obtain ⟨g1,g2⟩:=gD I1 r1 (show xA X.K "str" (.str a) H1 from rfl);refine ⟨"str","str.replace",PySem.F.plainAttrs_str,PySem.F.slot_str_replace,PySem.F.type_str_replace,g1,g2,?_⟩;rw [hs];refine Calls.callWith_builtin rfl (Calls.evalArgs_plain (Calls.spliced_cons (gE k1 (h1 pins s1 σ H1 _ I1 q1) λ iv s2 k2 ⟨y,H2,I2,ry,c,sg,la,hc,q2⟩=>Calls.spliced_cons (Calls.Constant_str (Calls.spliced_cons (wpAny_Constant_int (Calls.spliced_nil ?_)))))));obtain ⟨ta,rfl⟩:=r1;have hv:∃u,iv=Value.str ⟨#[c]⟩ u/\(c∈a.cps.toList->u≠0/\s2.toks≠0/\u≠s2.toks):=by
  rcases sg with rfl | ⟨t,rfl⟩
  ·obtain ⟨u,rfl⟩:=ry;refine ⟨u,rfl,λ hm=>?_⟩;obtain ⟨t,e,_⟩:=hc hm;cases e
  ·refine ⟨t,ry,λ hm=>?_⟩;obtain ⟨t',e,l1,l2⟩:=hc hm;cases e;exact ⟨Gj l1,Gj (Gf (Gs (Gd _) l2) k2),Gb (Gf l2 k2)⟩
 obtain ⟨u,rfl,hu⟩:=hv;exact mB hu la λ k tk=>⟨.str (eraS a c),H2,(I2.tok _),⟨_,rfl⟩,q2⟩
end
end L2
namespace L2
open PySem PySem.Spec PyProof.Rows
section
variable {prog:Program}{w:World}{A:Around}{E:Value->Shared->Prop}{s:Shared}
theorem oQ {x:Str}{t:Tok}{Q:Value->Shared->Prop}(hh:A.handled=none) (hb:x.cps.size+1<scanBound)
  (k:∀(h2:Heap) (tk:Nat),eN (lh prog w) h2 s.heap.objs.size (λ y=>decide (y∈aB (cE x) x.cps.size)) (aB (cE x) x.cps.size).length->(∀b o,b<s.heap.objs.size->s.heap.get? b=some o->h2.get? b=some o)->Q (.ref s.heap.objs.size) {s with heap:=h2,toks:=tk}):
  wpAny (model prog w) A (call (.type "set") [.str x t]) Q E s:=by
 obtain ⟨c0,tl0,hmro⟩:=F.called_set.mro;have hmade:=F.called_set.made;have hsub:=F.called_set.sub;have n1:=F.called_set.notType;have n2:=F.called_set.canCreate;have n3:=F.typeCall_set_1 (.str x t);refine wpAny_call (codeAny_of_tree ?_);show wpAny _ _ (callAny (.type "set") _) _ _ _;refine wpAny_pure ⟨Code.quiet_builtin _ (by decide+kernel),codeAny_builtin F.entry_type_call ?_⟩;rw [Around.under_plain (weight_type_call_type "set" [.str x t] []) rfl]
 repeat (any_goals (first | assumption | wp_step))
 refine codeAny_mono (jr (.str x t) (E:=E) (Q1:=λ o s1=>o=.ref s.heap.objs.size/\s1={s with heap:=s.heap.push (bj (!w.params.followText "set-order"))}) ⟨rfl,rfl⟩) λ r s1 hr=>?_;cases r with
 | error e=>exact hr
 | ok fl=>
   cases fl with
   | ret ob=>
     obtain ⟨rfl,rfl⟩:=hr;generalize hld:(!w.params.followText "set-order")=led;have g0:(s.heap.push (bj led)).get? s.heap.objs.size=some (bj led):=Heap.get?_push_size _ rfl;have ty:Shared.TypeIs {s with heap:=s.heap.push (bj led)} (.ref s.heap.objs.size) "set":=⟨_,g0,rfl⟩;have m1:=F.called_set.init.lookup;have m2:=F.called_set.init.bind (.ref s.heap.objs.size)
     repeat (any_goals (first | assumption | wp_step))
     refine codeAny_mono (codeAny_call_builtin (R:=wants (λ r s2=>r=.none/\∃h2 tk,s2={s with heap:=h2,toks:=tk}/\eN (lh prog w) h2 s.heap.objs.size (λ y=>decide (y∈aB (cE x) x.cps.size)) (aB (cE x) x.cps.size).length/\
       (∀b o,b<s.heap.objs.size->s.heap.get? b=some o->h2.get? b=some o)) E) F.called_set.init.plain F.entry_set_init (check_set_init_1 ty ?_)) λ r2 s2 hr2=>?_
     ·have b1:=gZ;have b2:=dw;have b3:(Value.type "str" == Value.type "dict")=false:=by decide
      unfold Builtin.«set.__init__» noKeywords Builtin.Frozenset.updateFrom;generalize hPI:pyIter=PI
      wp_walk
      subst hPI;refine wpAny_pyIter_str λ ob St W st0=>(wpAny_bind (wpAny_runValue ?_));have h3:A.in1.in1.in1.handled=none:=by simp [hh]
      have sz:(s.heap.push (bj led)).objs.size=s.heap.objs.size+1:=Heap.size_push ..;have ne2:s.heap.objs.size∉[(s.heap.push (bj led)).objs.size]:=by rw [sz];intro z;exact Gp _ (EL.mp z).symm
      refine oS (knd:=lh prog w) ((W _ h3).toS) s.heap.objs.size ne2 (cE x) (λ i v hv=>?_) hb (x.cps.size - 0) 0 _ (by omega) (Gd _) st0 ?_ (λ s3 hm hS3=>?_)
      ·obtain ⟨c,u,hc,rfl⟩:=hv;have e:cE x i=⟨#[c]⟩:=by unfold cE;rw [GN,hc];rfl
       rw [e];exact ⟨by simp [PySem.strKind,Value.isStrOf],rfl⟩
      ·refine ⟨#[],0,.fresh 0 0 led,⟨_,Heap.get?_push_of_some _ g0,⟨rfl,rfl,rfl⟩,rfl⟩,λ e he=>by simp at he,λ x=>?_,by show (0:Nat)<scanBound;decide,by rw [hld];exact SG.fresh led,rfl⟩;show decide (x∈([]:List Str))=true<->_;simp
      ·obtain ⟨hh3,gg3,dd3,tk3,os3⟩:=s3;obtain rfl:gg3=s.gens:=hm.gens;obtain rfl:dd3=s.drawn:=hm.drawn;obtain rfl:os3=s.os:=hm.os;show wpAny _ _ _ _ _ _;refine wpAny_pure ?_;show wpAny _ _ (ret Value.none) _ _ _;refine wpAny_pure ⟨rfl,hh3,tk3,rfl,hS3,λ b o hb2 e=>?_⟩;refine hm.heap b o ?_ (Heap.get?_push_of_some _ (Heap.get?_push_of_some _ e));rw [sz];intro z
       rcases Ew.mp z with z | z
       ·exact Gb hb2 z
       ·exact Gb (Gm hb2) (EL.mp z)
     ·cases r2 with
      | error e=>exact hr2
      | ok fl2=>
        cases fl2 with
        | ret r3=>
          obtain ⟨rfl,h2,tk,rfl,hS2,kp⟩:=hr2
          repeat (any_goals (first | assumption | wp_step))
          exact k _ _ hS2 kp
        | _=>exact hr2.elim
   | _=>exact hr.elim
end
section
variable {X:Cx}
def qG (P:Program) (w:World) (xs:List V) (H:Hp) (Q:VK):Prop:= ∃x,xs=[.str x]/\x.length<=60/\∀q,H q=none->Q (.ref q) (upd H q (.ext λ h=>eN (lh P w) h q (λ y=>decide (y∈aB (cE x) x.cps.size)) (aB (cE x) x.cps.size).length))
theorem m6 (hh:X.A.handled=none):aI X (.type "set") (qG X.prog X.w):=by intro pins s σ H xs us Q I r h;obtain ⟨x,rfl,hb,q⟩:=h;obtain ⟨u,rfl,rx⟩:=cr r;obtain ⟨t,rfl⟩:=rx;have sb:scanBound=4096:=rfl;have hb':x.cps.size<=60:=hb;refine oQ hh (by omega) λ h2 tk hS kp=>?_;have k2:∀b u,s.heap.get? b=some u->h2.get? b=some u:=λ b u e=>kp b u (Heap.lt_size e) e;have ho:∃o,h2.get? s.heap.objs.size=some o:=let ⟨_,_,_,⟨o,h1,_⟩,_⟩:=hS;⟨o,h1⟩;exact ⟨.ref s.heap.objs.size,_,I.laid (t':=tk) k2 (Gc _) (show bg X.prog X.w _ h2 _ (.ext _) from ⟨hS,ho,λ h1 h2 e k=>e.keep k⟩),rfl,q _ (I.hok.fresh (Gc _))⟩
theorem xk (P:Program) (w:World) {j:Nat}(hr:bQ j X.A) (hP:X.prog=P:=by rfl) (hw:X.w=w:=by rfl):aI X (.type "set") (qG P w):=by subst hP hw;exact m6 hr.hd
def El:V->List V->Hp->VK->Prop:=λ x vs H Q=> ∃a c,x=.str a/\vs=[.str ⟨#[c]⟩]/\Q (.int (a.cps.toList.count c)) H
theorem jG (c:Nat):∀l:List Nat,cnt c l=(l.count c:Int)
 | []=>rfl
 | a::l=>by
   rw [cnt_cons,jG c l,EI]
   by_cases h:a=c
   ·subst h;simp;omega
   ·have h':¬c=a:=λ e=>h e.symm;simp [h,h']
theorem yh:qb X "str.count" El:=by intro pins s σ H x vs v us Q I rx rv h;obtain ⟨a,c,rfl,rfl,q⟩:=h;obtain ⟨u,rfl,ru⟩:=cr rv;obtain ⟨t,rfl⟩:=rx;obtain ⟨t',rfl⟩:=ru;refine SC.count ?_;rw [count_cnt,jG];exact ⟨.int _,H,I.tok _,⟨_,rfl⟩,q⟩
theorem qP {n:Nat}{a b:Expr}{ta tb:TE}{x1}{pos:Pos}(ha:PE X a ta) (hb:PEf n X b tb) (hs:backTo pos (starEach [a,b] X.env)=[(false,eval a X.env),(false,eval b X.env)]:=by rfl):PEf n X (.Tuple [a,b] x1 pos) (kO (aC ta (aC tb bu))):=by intro pins s σ H Q hn I hq;refine wpAny_Tuple_spliced ?_;rw [hs];refine Calls.spliced_cons (gE hn (ha pins s σ H _ I hq) λ u s0 k0 ⟨x,H0,I0,rx,q0⟩=>Calls.spliced_cons (bx (hb pins s0 σ H0 _ k0 I0 q0) λ v s1 ⟨y,H1,I1,ry,z,q⟩=>Calls.spliced_nil ?_));have hf:H1 s1.heap.objs.size=none:=I1.hok.fresh (Gc _);refine ⟨z,?_⟩;refine ⟨.ref s1.heap.objs.size,upd H1 s1.heap.objs.size (.tup [x,y]),I1.laid (t':=s1.toks) (λ b u e=>Heap.get?_push_of_some _ e) (Gc _) ?_,rfl,q _ hf⟩;exact ⟨z,[u,v],.cons rx (.cons ry .nil),⟨_,Heap.get?_push_size _ rfl,rfl,_,rfl⟩⟩
end
end L2
namespace L2
open PySem PySem.Spec PyProof.Rows
end L2
namespace L2
open PySem PySem.Spec PyProof.Rows
end L2
namespace L2
theorem kS:∀{l l':List Nat},l.Perm l'->l.Pairwise (·<=·)->l'.Pairwise (·<=·)->l=l'
 | [],l',h,_,_=>(List.nil_perm.mp h).symm
 | a::l,[],h,_,_=>by have:=h.length_eq;simp at this
 | a::l,b::l',h,h1,h2=>by
   have p1:=EN.mp h1;have p2:=EN.mp h2;have e:a=b:=by
    have m1:a∈b::l':=h.mem_iff.mp ED;have m2:b∈a::l:=h.mem_iff.mpr ED
    rcases Ew.mp m1 with e | m1
    ·exact e
    ·rcases Ew.mp m2 with e | m2
     ·exact e.symm
     ·exact Nat.le_antisymm (p1.1 b m2) (p2.1 a m1)
   subst e;rw [kS (List.Perm.cons_inv h) p1.2 p2.2]
end L2
namespace L2
open PySem PySem.Spec PyProof.Rows
theorem nX:∀(a:Nat) (l:List Nat),risingS (one a) (l.map one)=true->(a::l).Pairwise (·<=·)
 | a,[],_=>List.pairwise_singleton ..
 | a,b::r,h=>by
   have h:(!ltCps [b] [a]&&risingS (one b) (r.map one))=true:=h;rw [GB] at h;have ih:=nX b r h.2;have ab:a<=b:=by have h1:=h.1;rw [ltCps_eq,GF] at h1;have:=of_decide_eq_false h1;rw [ra] at this;omega
   refine EN.mpr ⟨λ x hx=>?_,ih⟩
   rcases Ew.mp hx with rfl | hx
   ·exact ab
   ·exact Ge ab ((EN.mp ih).1 x hx)
theorem nR {l:List Nat}(h:sortedS (l.map one)=true):l.Pairwise (·<=·):=by
 cases l with
 | nil=>exact .nil
 | cons a l=>exact nX a l h
theorem ub {ss:List Str}{cs:List Nat}(h:ss.Perm (cs.map one)):∃cs':List Nat,ss=cs'.map one/\cs'.Perm cs:=by
 have e:ss=(ss.map λ z=>z.cps.toList.getD 0 0).map one:=by
  rw [EC]
  conv=>lhs;rw [<-FC ss]
  refine E4 λ z hz=>?_;obtain ⟨c,_,rfl⟩:=EE.mp (h.mem_iff.mp hz);rfl
 refine ⟨_,e,?_⟩;have:=h.map λ z:Str=>z.cps.toList.getD 0 0;rw [EC] at this;have e2:cs.map ((λ z:Str=>z.cps.toList.getD 0 0)∘one)=cs:=by
  conv=>rhs;rw [<-FC cs]
  exact E4 λ c _=>rfl
 rwa [e2] at this
theorem iu:∀{cs:List Nat}{us:List Value},aQ (cs.map c5) us->StrsAre us (cs.map one)
 | [],_,.nil=>.nil
 | c::cs,_,.cons r t=>by obtain ⟨tk,rfl⟩:=r;exact .cons _ _ (iu t)
theorem oG {vs:List Value}{cs:List Nat}(h:StrsAre vs (cs.map one)):aQ (cs.map c5) vs:=by
 have:=jl h
 rwa [EC] at this
section
variable {X:Cx}{o e:Expr}{to te:TE}
def iz (K:Frag) (xs:List V) (H:Hp) (Q:VK):Prop:= ∃(d:Addr) (cs:List Nat),xs=[.ref d]/\aL K H d (cs.map c5)/\cs.length<64/\∀(cs':List Nat) q,cs'.Perm cs->cs'.Pairwise (·<=·)->H q=none->Q (.ref q) (upd H q (.lst (cs'.map c5)))
theorem lW:aI X (.builtin "sorted") (iz X.K):=by
 intro pins s σ H xs us Q I r h;obtain ⟨d,cs,rfl,hq,hb,q⟩:=h;obtain ⟨u,rfl,rx⟩:=cr r;cases rx;obtain ⟨its,r',pl,hz⟩:=I.list hq;have hlen:=r'.length;rw [Eu] at hlen;refine sorted_strs pl.isList (iu r') (by omega) λ out ss' a1 a2 a3=>?_;obtain ⟨cs',rfl,a4⟩:=ub a2;obtain ⟨e,he⟩:=sortedAll_at s.heap its out;have hl:=a4.length_eq;have hz':(cs'.map c5).length<=sizeLine:=by rw [Eu,hl,sizeLine_eq];omega
 exact ⟨.ref (s.heap.objs.size+1),_,I.laid (t':=s.toks) (λ _ _=>sortedAll_old) (Gg _) (show bg X.prog X.w _ _ _ (.lst (cs'.map c5)) from ⟨hz',out.toList,e,oG a1,by simpa [seqObj] using he⟩),rfl,q cs' _ a4 (nR a3) (I.hok.fresh (Gg _))⟩
theorem ri (K:Frag) (hK:X.K=K:=by rfl):aI X (.builtin "sorted") (iz K):=by subst hK;exact lW
end
section
variable {K:Frag}{σ:St}{H:Hp}{Q:VK}{ta tb te to:TE}
end
section
variable {K:Frag}{cB cG:Addr}{H:Hp}{g b kq p mv:Addr}{row:Str}{sd s gl t wi hi:Int}{hs:List Int}{ks:List Nat}{us:List (sY×Addr)}{ts es:List ((Str×Str)×Addr)}{st:Str}
end
end L2
namespace L2
open PySem PySem.Spec PyProof.Rows
section
variable {X:Cx}{pos:Pos}
end
section
variable {X:Cx}{o e:Expr}{to te:TE}
def Dh (to:TE):TE:=λ σ H Q=>to σ H λ x H1=>match x with
 | .ref l=>(∃xs,H1 l=some (.lst xs))/\qJ (.ref l) [] H1 Q
 | _=>False
theorem sJ {apos cpos:Pos}(ho:PE X o to) (hbase:attributeBase o "clear" X.env (eval o X.env)=eval o X.env:=by rfl) (hline:(apos.endLine == cpos.line)=true:=by rfl):
  PE X (.Call (.Attribute o "clear" apos) [] [] cpos) (Dh to):=by
 intro pins s σ H Q I h;refine wpAny_Call_method0_late hbase hline (bx (ho pins s σ H _ I h) λ v s1 ⟨x,H1,I1,r1,q1⟩=>?_);cases x with
 | ref l=>
   obtain ⟨⟨xs0,e0⟩,q1⟩:=q1;have ty:xA X.K "list" (.ref l) H1:=.inl ⟨rfl,xs0,aL.of e0⟩;obtain ⟨h1,h2⟩:=gD I1 r1 ty;exact ⟨"list","list.clear",PySem.F.plainAttrs_list,PySem.F.slot_list_clear,PySem.F.type_list_clear,h1,h2,Calls.callWith_builtin rfl (PySem.evalArgs_none (qY pins s1 σ H1 _ [] v [] Q I1 r1 .nil q1))⟩
 | _=>exact q1.elim
end
end L2
namespace L2
open PySem PySem.Spec PyProof.Rows
theorem C5 {to:TE}{u:TS}{D:bZ}{σ:St}{H:Hp}{l:Addr}{xs:List V}(ho:Ev to σ H (.ref l)) (hl:H l=some (.lst xs)) (h:u D σ (upd H l (.lst []))):bV (kP (Dh to)) u D σ H:=ho _ ⟨⟨xs,hl⟩,⟨l,xs,rfl,rfl,hl,h⟩⟩
theorem jL {H:Hp}{a:Addr}(h:H a=some (.lst [])):dq H 2 (.ref a):=⟨.inl ⟨[],h⟩,λ ys hy=>by
 rcases hy with z | z
 ·simp only [tupOf,h] at z;cases z
 ·simp only [lstOf,h] at z;cases z;intro x hx;cases hx⟩
end L2
seal L2.PE L2.PT L2.PA L2.PS L2.l9 L2.PG L2.zm L2.PI L2.PO L2.jk L2.PW L2.aI L2.qb L2.fH L2.Eo L2.oy L2.SlR
namespace L2
open PySem PySem.Spec PyProof.Rows
section
variable {P:Program}{w:World}{K:Frag}{mg:Str->Option Value}{base:Heap}
end
end L2
namespace K28
open PySem L2
def bC (i:Nat):Stmt:=PySem.Challenge.pw_playboard_k28_placings.main.body.getD i (.Pass ⟨0,0,0,0⟩)
abbrev nU:Stmt:=bC 0
abbrev da:Stmt:=bC 2
theorem lj:ay ["thing"] ["thing"] (ae da):=fX
abbrev cO:Stmt:=bC 3
theorem jS:ay ["thing"] ["thing"] (ae cO):=fX
abbrev db:Stmt:=bC 4
theorem lm:ay ["thing","least","most"] ["thing","least","most"] (ae db):=fX
abbrev dP:Stmt:=bC 13
theorem mo:ay ["thing","words"] ["thing","words"] (ae dP):=fX
abbrev bX:Stmt:=bC 14
theorem iB:ay ["thing","many"] ["thing","many"] (ae bX):=fX
abbrev cx:Stmt:=bC 15
theorem i8:ay ["thing","least","most"] ["thing","least","most"] (ae cx):=fX
abbrev dQ:Stmt:=bC 16
theorem iC:ay ["sort","across","up","longest"] ["sort","across","up"] (ae dQ):=fX
abbrev dR:Stmt:=bC 17
theorem fT:ay ["thing","kinds","sort","aim"] ["thing","kinds"] (ae dR):=fX
abbrev dS:Stmt:=bC 18
theorem mq:ay ["thing","firsts","seconds"] ["thing","firsts","seconds"] (ae dS):=fX
abbrev ck:Stmt:=bC 19
theorem jV:ay ["thing","firsts","seconds"] ["thing","firsts","seconds"] (ae ck):=fX
abbrev cc:Stmt:=bC 20
theorem g4:ay ["thing","kinds","firsts"] ["thing","kinds"] (ae cc):=fX
abbrev dU:Stmt:=bC 21
theorem mr:ay ["thing","kinds"] ["thing","kinds"] (ae dU):=fX
abbrev cm:Stmt:=bC 22
theorem jW:ay ["thing"] ["thing"] (ae cm):=fX
abbrev cj:Stmt:=bC 23
theorem jU:ay ["thing","kinds"] ["thing","kinds"] (ae cj):=fX
abbrev ci:Stmt:=bC 27
theorem jT:ay ["board"] ["board"] (ae ci):=fX
abbrev bA:Stmt:=bC 29
theorem bL:ay ["many","chosen","found","step"] ["many","chosen"] (ae bA):=fX
abbrev bE:Stmt:=bC 30
theorem aU:ay ["game","material","free","found","sign","alike"] ["game","material"] (ae bE):=fX
abbrev cw:Stmt:=bC 31
theorem fJ:ay ["rest","free","signs"] ["rest","free"] (ae cw):=fX
abbrev cb:Stmt:=bC 32
theorem bc:ay ["game","material","free","parts","under","longer","row","rest","signs"] ["game","material"] (ae cb):=fX
abbrev cn:Stmt:=bC 39
theorem jX:ay ["thing","many"] ["thing","many"] (ae cn):=fX
abbrev bh:Stmt:=dA (bC 40) 0
theorem gf:ay ["self","wide","high","holes"] ["self","wide","high","holes"] (ae bh):=fX
abbrev cP:Stmt:=dA (bC 40) 1
theorem jY:ay ["self","square"] ["self","square"] (ae cP):=fX
abbrev bm:Stmt:=dA (bC 40) 2
theorem gJ:ay ["self"] ["self"] (ae bm):=fX
abbrev fM:Stmt:=dA (bC 40) 3
abbrev eP:Stmt:=dA (bC 40) 4
abbrev bF:Stmt:=dA (bC 42) 0
theorem gI:ay ["self","board","kinds","rules","turns","ends","stuck"] ["self","board","kinds","rules","turns","ends","stuck"] (ae bF):=fX
abbrev eO:Stmt:=dA (bC 42) 1
abbrev fL:Stmt:=dA (bC 42) 2
abbrev dW:Stmt:=bC 44
theorem ms:ay ["_law_script","_law_k"] ["_law_script","_law_k"] (ae dW):=fX
abbrev cz:Stmt:=bC 45
theorem bw:ay ["_law_cell","_law_wide","_law_high","_law_holes","_law_k","_law_hole"] ["_law_cell"] (ae cz):=fX
abbrev bR:Stmt:=bC 46
theorem dG:ay ["_law_cell","_law_many","_law_letters","_law_step"] ["_law_cell","_law_many"] (ae bR):=fX
abbrev cy:Stmt:=bC 47
theorem bW:ay ["_law_cell","_law_kinds_here","_law_many","_law_signs_here","_law_k","_law_number","_law_kind"] ["_law_cell","_law_kinds_here","_law_many"] (ae cy):=fX
abbrev cH:Stmt:=bC 48
theorem bd:ay ["_law_many","_law_material","_law_due_here","_law_free","_law_sign","_law_count","_law_k"] ["_law_many","_law_material"] (ae cH):=fX
abbrev cp:Stmt:=bC 49
theorem ge:ay ["_law_row","_law_board_here","_law_material","_law_square"] ["_law_row","_law_board_here","_law_material"] (ae cp):=fX
abbrev fK:Stmt:=bC 50
theorem dF:ay ["_law_script","_law_board_here","_law_kinds_here","_law_game","_law_material","_law_found","_law_k","_law_many","_law_free","_law_kept"] ["_law_script"] (ae fK):=fX
structure Txt (mg:Str->Option Value) (aS aA aE aW:Addr):Prop where
 isinstance:mg "isinstance"=none
 int:mg "int"=none
 bool:mg "bool"=none
 str:mg "str"=none
 list:mg "list"=none
 tuple:mg "tuple"=none
 len:mg "len"=none
 range:mg "range"=none
 all:mg "all"=none
 any:mg "any"=none
 set:mg "set"=none
 sorted:mg "sorted"=none
 max:mg "max"=none
 dict:mg "dict"=none
 enumerate:mg "enumerate"=none
 EMPTY:∃u,mg "EMPTY"=some u/\aH (.str ".") u
 HOLE:∃u,mg "HOLE"=some u/\aH (.str "#") u
 MOST_PAIRS:∃u,mg "MOST_PAIRS"=some u/\aH (.int 6) u
 MOST_KINDS:∃u,mg "MOST_KINDS"=some u/\aH (.int 6) u
 MOST_RULES:∃u,mg "MOST_RULES"=some u/\aH (.int 24) u
 LONGEST:∃u,mg "LONGEST"=some u/\aH (.int 8) u
 SORTS:∃u,mg "SORTS"=some u/\aH (.ref aS) u
 AIMS:∃u,mg "AIMS"=some u/\aH (.ref aA) u
 END_WORDS:∃u,mg "END_WORDS"=some u/\aH (.ref aE) u
 STUCK_WORDS:∃u,mg "STUCK_WORDS"=some u/\aH (.ref aW) u
section
variable {P:Program}{w:World}{K:Frag}{mg:Str->Option Value}{base:Heap}{aS aA aE aW:Addr}
theorem lw {f:Addr}{fd:FuncData}(F:bU K "is_whole" "is_whole" da f fd) (T:Txt mg aS aA aE aW):bi P w K mg base dv 1 f fd ["thing"] ix:=by
 refine F.ok lj (λ vs H Q E h=>?_) (λ cdv A outer s H vs Q E hr h=>?_)
 ·obtain ⟨v,rfl,_⟩:=h;rfl
 ·obtain ⟨v,rfl,t,q⟩:=h;refine ⟨_,(aj (av (cW (rn .int T.isinstance T.int ni (cv 0)) (dg (yR (rn .bool T.isinstance T.bool ow (cv 0))))))),?_⟩;show dt _ _ [some v] H;refine aK (bO (jB (ev_v rfl) t) (λ _=>yE (jB (ev_v rfl) t))) ?_;rw [qg t];exact q
theorem lA {f:Addr}{fd:FuncData}(F:bU K "is_among" "is_among" db f fd) (T:Txt mg aS aA aE aW) (C:RG0 P w K mg base):bi P w K mg base dv 2 f fd ["thing","least","most"] iy:=by
 refine F.ok lm (λ vs H Q E h=>?_) (λ cdv A outer s H vs Q E hr h=>?_)
 ·obtain ⟨v,a,b,rfl,_⟩:=h;rfl
 ·obtain ⟨v,a,b,rfl,t,q⟩:=h;have hu:=cD hr;refine ⟨_,(aj (av (cW (aJ C.is_whole hr (aw (cv 0) pa_nil)) (dg (mV K hu (cv 1) (cv 0) (cv 2)))))),?_⟩;show dt _ _ [some v,oJ a,oJ b] H;have hc:=aG (sp:=ix) (σ:=[some v,oJ a,oJ b]) (H:=H) (aa (ev_v (n:=0) rfl) ap) (λ Q q=>⟨v,rfl,t,q⟩);cases v with
  | int i=>exact aK (bO hc (λ _=>oj (ev_v rfl) (ev_v rfl) (λ _=>ev_v rfl))) q
  | _=>exact aK (bO (b:=false) hc (λ h=>by cases h)) q
theorem mJ {f:Addr}{fd:FuncData}(F:bU K "is_word" "is_word" dP f fd) (T:Txt mg aS aA aE aW):bi P w K mg base dv 1 f fd ["thing","words"] (fB K):=by
 refine F.ok mo (λ vs H Q E h=>?_) (λ cdv A outer s H vs Q E hr h=>?_)
 ·obtain ⟨v,d,ws,rfl,_⟩:=h;rfl
 ·obtain ⟨v,d,ws,rfl,t,hw,q⟩:=h;have hu:=cD hr;refine ⟨_,(aj (av (cW (rn .str T.isinstance T.str nh (cv 0)) (dg (fW K hu (cv 0) (cv 1)))))),?_⟩;show dt _ _ [some v,oR d] H;have hs:=jB (T:=.str) (te:=aR 0) (σ:=[some v,oR d]) (ev_v rfl) t;rw [qr t] at hs;cases v with
  | str z=>exact aK (bO hs (λ _=>se (ev_v rfl) (ev_v rfl) hw)) q
  | _=>exact aK (bO (b:=false) hs (λ h=>by cases h)) q
theorem iH {f:Addr}{fd:FuncData}(F:bU K "is_tuple_of" "is_tuple_of" bX f fd) (T:Txt mg aS aA aE aW):bi P w K mg base dv 1 f fd ["thing","many"] gH:=by
 refine F.ok iB (λ vs H Q E h=>?_) (λ cdv A outer s H vs Q E hr h=>?_)
 ·obtain ⟨v,n,rfl,_⟩:=h;rfl
 ·obtain ⟨v,n,rfl,t,q⟩:=h;have hu:=cD hr;refine ⟨_,(aj (av (cW (rn .tuple T.isinstance T.tuple sQ (cv 0)) (dg (fW K hu (kB (du K) aX T.len (aw (cv 0) pa_nil)) (cv 1)))))),?_⟩;show dt _ _ [some v,oJ n] H;have hs:=jB (T:=.tuple) (te:=aR 0) (σ:=[some v,oJ n]) (ev_v rfl) t;rw [xB t] at hs;unfold tupB at q;cases e:tupOf H v with
  | none=>
    rw [e] at hs q;exact aK (bO (b:=false) hs (λ h=>by cases h)) q
  | some xs=>
    rw [e] at hs q;obtain ⟨a,rfl,ha⟩:=eo e;exact aK (bO hs (λ _=>xu (cV (ev_v rfl) (.inr (fF.of ha))) (ev_v rfl))) q
theorem jb {f:Addr}{fd:FuncData}(F:bU K "is_list_of" "is_list_of" cx f fd) (T:Txt mg aS aA aE aW):bi P w K mg base dv 1 f fd ["thing","least","most"] jP:=by
 refine F.ok i8 (λ vs H Q E h=>?_) (λ cdv A outer s H vs Q E hr h=>?_)
 ·obtain ⟨v,a,b,rfl,_⟩:=h;rfl
 ·obtain ⟨v,a,b,rfl,t,q⟩:=h;have hu:=cD hr;refine ⟨_,(aj (av (cW (rn .list T.isinstance T.list dC (cv 0)) (dg (mV K hu (cv 1) (kB (du K) aX T.len (aw (cv 0) pa_nil)) (cv 2)))))),?_⟩;show dt _ _ [some v,oJ a,oJ b] H;have hs:=jB (T:=.list) (te:=aR 0) (σ:=[some v,oJ a,oJ b]) (ev_v rfl) t;rw [yj t] at hs;unfold gO at q;cases e:lstOf H v with
  | none=>
    rw [e] at hs q;exact aK (bO (b:=false) hs (λ h=>by cases h)) q
  | some xs=>
    rw [e] at hs q;obtain ⟨d,rfl,hd⟩:=dh e;exact aK (bO hs (λ _=>oj (ev_v rfl) (cV (ev_v rfl) (.inl (aL.of hd))) (λ _=>ev_v rfl))) q
theorem mK {f:Addr}{fd:FuncData}(F:bU K "is_step" "is_step" dQ f fd) (T:Txt mg aS aA aE aW) (C:RG1 P w K mg base):bi P w K mg base dv 3 f fd ["sort","across","up"] nH:=by
 refine F.ok iC (λ vs H Q E h=>?_) (λ cdv A outer s H vs Q E hr h=>?_)
 ·obtain ⟨so,x,y,rfl,_⟩:=h;rfl
 ·obtain ⟨so,x,y,rfl,tx,ty,q⟩:=h;have hu:=cD hr;refine ⟨_,(ac (aD (i:=3) iC.nd rfl (Or.inl rfl) (gj (cC K hu (cv 0) cA) al al))
   (ac (bH (PW.pt (fO (bb (aV (aJ C.is_among hr (aw (cv 1) (aw (sI (cv 3)) (aw (cv 3) pa_nil)))))) (eA (bb (aV (aJ C.is_among hr (aw (cv 2) (aw (sI (cv 3)) (aw (cv 3) pa_nil))))))))) (aj (av cZ)) aM)
   (aj (av (C7 (fW K hu (cv 1) al) (dg (fW K hu (cv 2) al))))))),?_⟩
  show bV _ _ _ [oT so,some x,some y,none] H;refine bM (v:=.int (limS so)) (λ Q q=>?_) ?_
  ·refine il (xr (bD (gQ (ev_v rfl) au)) (λ _=>au) (λ _=>au)) ?_;unfold limS at q
   by_cases h:so="leap"
   ·rw [if_pos h] at q;rw [decide_eq_true h];exact q
   ·rw [if_neg h] at q;rw [decide_eq_false h];exact q
  unfold kQ at q;generalize limS so=l at q ⊢;refine cu (fZ (bK (bD (aG (aa (ev_v rfl) (aa (rW (ev_v rfl)) (aa (ev_v rfl) ap))) (λ Q q=>⟨x, -l,l,rfl,tx,q⟩)))) (λ _=>bK (bD (aG (aa (ev_v rfl) (aa (rW (ev_v rfl)) (aa (ev_v rfl) ap))) (λ Q q=>⟨y, -l,l,rfl,ty,q⟩))))) (λ h=>?_) (λ h=>?_)
  ·refine aK au ?_;have e:(amongB x (-l) l&&amongB y (-l) l&& !(decide (x=.int 0)&&decide (y=.int 0)))=false:=by cases h1:amongB x (-l) l<;>cases h2:amongB y (-l) l<;>simp_all
   rw [e] at q;exact q
  ·have h1:amongB x (-l) l=true:=by cases h1:amongB x (-l) l<;>simp_all
   have h2:amongB y (-l) l=true:=by cases h2:amongB y (-l) l<;>simp_all
   cases x with
   | int i=>
     cases y with
     | int j=>
       refine aK (C1 (oi (ev_v rfl) au) (λ _=>oi (ev_v rfl) au)) ?_;rw [h1,h2] at q;have ei:∀k:Int,decide (V.int k=V.int 0)=decide (k=0):=λ k=>by
        by_cases e:k=0
        ·rw [decide_eq_true e,decide_eq_true (congrArg V.int e)]
        ·rw [decide_eq_false e,decide_eq_false (λ z=>e (by injection z))]
       rw [ei,ei] at q;have e:(true&&true&& !(decide (i=0)&&decide (j=0)))=(!decide (i=0)|| !decide (j=0)):=by cases decide (i=0)<;>cases decide (j=0)<;>rfl
       rw [e] at q;exact q
     | _=>cases h2
   | _=>cases h1
theorem mM {f:Addr}{fd:FuncData}(F:bU K "is_pair" "is_pair" dS f fd) (T:Txt mg aS aA aE aW) (C:RG2 P w K mg base):bi P w K mg base dv 2 f fd ["thing","firsts","seconds"] (nJ K):=by
 refine F.ok mq (λ vs H Q E h=>?_) (λ cdv A outer s H vs Q E hr h=>?_)
 ·obtain ⟨v,d,e,A,B,rfl,_⟩:=h;rfl
 ·obtain ⟨v,d,e,A,B,rfl,t,hA,hB,q⟩:=h;have hu:=cD hr;refine ⟨_,(aj (av (cW (aJ C.is_tuple_of hr (aw (cv 0) (aw al pa_nil))) (cW (aJ C.is_word hr (aw (kx K (cv 0) al) (aw (cv 1) pa_nil))) (dg (aJ C.is_word hr (aw (kx K (cv 0) al) (aw (cv 2) pa_nil)))))))),?_⟩;show dt _ _ [some v,oR d,oR e] H;have hc:=aG (sp:=gH) (σ:=[some v,oR d,oR e]) (H:=H) (x:=.bl (tupB H v 2)) (aa (ev_v (n:=0) rfl) (aa (au (x:=.int 2)) ap)) (λ Q q=>⟨v,2,rfl,t.thg,q⟩);unfold cR at q;unfold tupB at hc;cases e1:tupOf H v with
  | none=>
    rw [e1] at hc q;exact aK (bO (b:=false) hc (λ h=>by cases h)) q
  | some xs=>
    rw [e1] at hc q;obtain ⟨a,rfl,ha⟩:=eo e1;have tx:=t.2 xs (.inl e1)
    by_cases hl:(xs.length:Int)=2
    ·match xs,hl,e1,ha,tx,q,hc with
     | [x,y],_,e1,ha,tx,q,hc=>
       exact aK (bO hc (λ _=>bO (aG (aa (di (ev_v rfl) au (.inr (fF.of ha)) (bq (j:=0) rfl)) (aa (ev_v rfl) ap)) (λ Q q=>⟨x,d,A,rfl,tx x (by simp),hA,q⟩))
        (λ _=>aG (aa (di (ev_v rfl) au (.inr (fF.of ha)) (bq (j:=1) rfl)) (aa (ev_v rfl) ap)) (λ Q q=>⟨y,e,B,rfl,tx y (by simp),hB,q⟩)))) q
    ·have e2:lu xs A B=false:=by
      unfold lu;split
      ·exact absurd rfl hl
      ·rfl
     have hc2:Ev (iY gH (aC (aR 0) (aC (tC (.int 2)) bu))) [some (.ref a),some (.ref d),some (.ref e)] H (.bl (decide ((xs.length:Int)=2))):=hc;rw [decide_eq_false hl] at hc2;have q2:Q (.bl (lu xs A B)) H:=q;rw [e2] at q2;exact aK (bO (b:=false) hc2 (λ h=>by cases h)) q2
theorem mL {f:Addr}{fd:FuncData}(F:bU K "is_rule" "is_rule" dR f fd) (T:Txt mg aS aA aE aW) (hS:∀H,eT K H aS sortsL) (hA:∀H,eT K H aA aimsL) (C:RG3 P w K mg base):bi P w K mg base dv 4 f fd ["thing","kinds"] (nI K):=by
 refine F.ok fT (λ vs H Q E h=>?_) (λ cdv A outer s H vs Q E hr h=>?_)
 ·obtain ⟨v,d,ws,rfl,_⟩:=h;rfl
 ·obtain ⟨v,d,ws,rfl,t,hw,q⟩:=h;have hu:=cD hr;refine ⟨_,(ac (bH (PW.pt (fO (bb (aV (aJ C.is_tuple_of hr (aw (cv 0) (aw al pa_nil))))) (eA (bb (aV (aJ C.is_word hr (aw (kx K (cv 0) al) (aw (cv 1) pa_nil)))))))) (aj (av cZ)) aM)
   (ac (aD (i:=2) fT.nd rfl (Or.inl rfl) (kx K (cv 0) al))
   (ac (aD (i:=3) fT.nd rfl (Or.inl rfl) (kx K (cv 0) al))
   (ac (bH (PW.pt (fO (bb (aV (aJ C.is_word hr (aw (cv 2) (aw (kg T.SORTS) pa_nil))))) (eA (bb (aV (aJ C.is_word hr (aw (cv 3) (aw (kg T.AIMS) pa_nil)))))))) (aj (av cZ)) aM)
   (ac (bH (PW.pt (qK (cC K hu (cv 2) cA) (nY (cC K hu (cv 3) cA)))) (aj (av cZ)) aM)
   (aj (av (aJ C.is_step hr (aw (cv 2) (aw (kx K (cv 0) al) (aw (kx K (cv 0) al) pa_nil))))))))))),?_⟩
  show bV _ _ _ [some v,oR d,none,none] H;have rb:tupB H v 5=false->cQ H v ws=false:=λ h=>by
   unfold tupB at h;unfold cQ;cases e1:tupOf H v with
   | none=>rfl
   | some xs=>
     rw [e1] at h;have h:¬(xs.length:Int)=5:=of_decide_eq_false h;show gg xs ws=false;unfold gg;split
     ·exact absurd rfl h
     ·rfl
  cases hb0:tupB H v 5 with
  | false=>
    rw [rb hb0] at q;refine cu (fZ (b:=false) (bK (bD (aG (sp:=gH) (x:=.bl (tupB H v 5)) (aa (ev_v rfl) (aa au ap)) (λ Q q=>⟨v,5,rfl,t.thg,q⟩)))) (λ h=>?_)) (λ _=>aK au q) (λ h=>?_)
    ·rw [hb0] at h;cases h
    ·rw [hb0] at h;cases h
  | true=>
    obtain ⟨xs,e1,hl⟩:∃xs,tupOf H v=some xs/\(xs.length:Int)=5:=by
     unfold tupB at hb0;cases e1:tupOf H v with
     | none=>rw [e1] at hb0;cases hb0
     | some xs=>rw [e1] at hb0;exact ⟨xs,rfl,of_decide_eq_true hb0⟩
    unfold cQ at q;rw [e1] at q;have q:Q (.bl (gg xs ws)) H:=q;obtain ⟨a,rfl,ha⟩:=eo e1;have tx:=t.2 xs (.inl e1)
    match xs,hl,e1,ha,tx,q with
    | [k,so,ai,x,y],_,e1,ha,tx,q=>
      have hq:fF K H a [k,so,ai,x,y]:=fF.of ha;have hb:tupB H (.ref a) 5=true:=by unfold tupB;rw [e1];rfl
      refine cu (fZ (bK (bD (aG (sp:=gH) (x:=.bl (tupB H (.ref a) 5)) (aa (ev_v rfl) (aa au ap)) (λ Q q=>⟨.ref a,5,rfl,t.thg,q⟩)))) (λ _=>bK (bD (aG (sp:=fB K) (aa (di (ev_v rfl) au (.inr hq) (bq (j:=0) rfl)) (aa (ev_v rfl) ap)) (λ Q q=>⟨k,d,ws,rfl,tx k (by simp),hw,q⟩))))) (λ h=>?_) (λ h=>?_)
      ·rw [hb] at h;have hk:wordB k ws=false:=by
        cases hk:wordB k ws
        ·rfl
        ·rw [hk] at h;cases h
       refine aK au ?_;have e2:gg [k,so,ai,x,y] ws=false:=by
        unfold gg;split
        ·rename_i z;cases z;rw [hk];simp
        ·rfl
       rw [e2] at q;exact q
      ·rw [hb] at h;have hk:wordB k ws=true:=by
        cases hk:wordB k ws
        ·rw [hk] at h;cases h
        ·rfl
       refine bM (v:=so) (di (ev_v rfl) au (.inr hq) (bq (j:=1) rfl)) ?_;refine bM (v:=ai) (di (ev_v rfl) au (.inr hq) (bq (j:=2) rfl)) ?_;refine cu (fZ (bK (bD (aG (sp:=fB K) (aa (ev_v rfl) (aa au ap)) (λ Q q=>⟨so,aS,sortsL,rfl,tx so (by simp),hS H,q⟩)))) (λ _=>bK (bD (aG (sp:=fB K) (aa (ev_v rfl) (aa au ap)) (λ Q q=>⟨ai,aA,aimsL,rfl,tx ai (by simp),hA H,q⟩))))) (λ h=>?_) (λ h=>?_)
       ·refine aK au ?_;have e2:gg [k,so,ai,x,y] ws=false:=by
         unfold gg;split
         ·rename_i k' so' ai' x' y' z;cases z;have h:(!decide (so'∈sortsL)|| !decide (ai'∈aimsL))=true:=h
          cases h1:decide (so'∈sortsL)<;>cases h2:decide (ai'∈aimsL)<;>simp_all
         ·rfl
        rw [e2] at q;exact q
       ·have h1:wordB so sortsL=true:=by cases h1:wordB so sortsL<;>simp_all
        have h2:wordB ai aimsL=true:=by cases h2:wordB ai aimsL<;>simp_all
        cases so with
        | str so=>
          cases ai with
          | str ai=>
            have h1:decide (so∈sortsL)=true:=h1;have h2:decide (ai∈aimsL)=true:=h2;have eR:gg [k,.str so,.str ai,x,y] ws=(!(decide (so="jump")&& !decide (ai="hit"))&&kQ so x y):=by show (wordB k ws&&decide (so∈sortsL)&&decide (ai∈aimsL)&& !(decide (so="jump")&& !decide (ai="hit"))&&kQ so x y)=_;rw [hk,h1,h2];simp
            rw [eR] at q;refine cu (qk (bD (gQ (ev_v rfl) au)) (λ _=>bD (yF (ev_v rfl) au))) (λ h=>?_) (λ h=>?_)
            ·refine aK au ?_;rw [h] at q;exact q
            ·rw [h] at q;exact fS (aa (ev_v rfl) (aa (di (ev_v rfl) au (.inr hq) (bq (j:=3) rfl)) (aa (di (ev_v rfl) au (.inr hq) (bq (j:=4) rfl)) ap))) ⟨so,x,y,rfl,tx x (by simp),tx y (by simp),q⟩
          | _=>cases h2
        | _=>cases h1
theorem ke {f:Addr}{fd:FuncData}(F:bU K "are_pairs" "are_pairs" ck f fd) (T:Txt mg aS aA aE aW) (C:RG4 P w K mg base):bi P w K mg base dv 3 f fd ["thing","firsts","seconds"] (kW K):=by
 refine F.ok jV (λ vs H Q E h=>?_) (λ cdv A outer s H vs Q E hr h=>?_)
 ·obtain ⟨v,d,e,A,B,rfl,_⟩:=h;rfl
 ·obtain ⟨v,d,e,A,B,rfl,t,hA,hB,q⟩:=h;have hu:=cD hr;refine ⟨_,(aj (av (cW (aJ C.is_list_of hr (aw (cv 0) (aw al (aw (kg T.MOST_PAIRS) pa_nil)))) (dg (kB (ro K) iZ T.all (aw (dz (cg (N:=["part","firsts","seconds"]) (src:=[none,some 1,some 2]) (ae ck) ["thing","firsts","seconds"]) (qd K (cv 0)) (λ _ _ _=>(ba (i:=0) ["part","firsts","seconds"])) (λ _ _ _=>bI) (λ _ _ _=>(aJ C.is_pair hr (aw (cv 0) (aw (cv 1) (aw (cv 2) pa_nil)))))) pa_nil)))))),?_⟩;show dt _ _ [some v,oR d,oR e] H;refine sT (a:=gO H v 0 6) (aG (aa (ev_v rfl) (aa au (aa au ap))) (λ Q q=>⟨v,0,6,rfl,t.thg,q⟩)) (λ h=>?_) (λ h=>?_)
  ·unfold gO at h;cases e1:lstOf H v with
   | none=>rw [e1] at h;cases h
   | some xs=>
     rw [e1] at h;have h:0<=(xs.length:Int)/\(xs.length:Int)<=6:=of_decide_eq_true h;obtain ⟨a,rfl,ha⟩:=dh e1;have tx:=t.2 xs (.inr e1);refine eI (d:=a) (xs:=xs) (rest:=[oR d,oR e]) (ev_v rfl) (aL.of ha) (by rw [sizeLine_eq];omega) rfl (λ _=>true) (λ x=>.bl (cR H x A B)) (λ x hx=>cL) (λ x hx _=>?_) (λ p hp=>?_)
     ·exact aG (aa (ev_v rfl) (aa (ev_v rfl) (aa (ev_v rfl) ap))) (λ Q q=>⟨x,d,e,A,B,rfl,tx x hx,hA,hB,q⟩)
     ·refine ⟨xs.map (λ x=>cR H x A B),?_,?_⟩
      ·have e2:(xs.filter λ _=>true).map (λ x=>V.bl (cR H x A B))=(xs.map (λ x=>cR H x A B)).map V.bl:=by rw [EU.mpr (λ _ _=>rfl),EC];rfl
       rw [<-e2];exact aL.of af
      ·have k:=q _ ((ak.refl H).upd (o:=.lst ((xs.filter λ _=>true).map (λ x=>V.bl (cR H x A B)))) hp);unfold pairsB at k;rw [e1] at k;have e3:(decide (xs.length<=6)&&xs.all (λ x=>cR H x A B))=(xs.map (λ x=>cR H x A B)).all id:=by rw [decide_eq_true (by omega:xs.length<=6),FD];rfl
       have k:Q (.bl (decide (xs.length<=6)&&xs.all (λ x=>cR H x A B))) _:=k;rw [e3] at k;exact k
  ·have k:=q H (ak.refl H);have e2:pairsB H v A B=false:=by
    unfold pairsB;unfold gO at h;cases e1:lstOf H v with
    | none=>rfl
    | some xs=>
      rw [e1] at h;have h:¬(0<=(xs.length:Int)/\(xs.length:Int)<=6):=of_decide_eq_false h;show (decide (xs.length<=6)&&_)=false;rw [decide_eq_false (by omega:¬xs.length<=6)];rfl
   rw [e2] at k;exact k
theorem mN {f:Addr}{fd:FuncData}(F:bU K "is_ends" "is_ends" dU f fd) (T:Txt mg aS aA aE aW) (hE:∀H,eT K H aE jC) (C:RG5 P w K mg base):bi P w K mg base dv 4 f fd ["thing","kinds"] (nN K):=by
 refine F.ok mr (λ vs H Q E h=>?_) (λ cdv A outer s H vs Q E hr h=>?_)
 ·obtain ⟨v,d,ws,rfl,_⟩:=h;rfl
 ·obtain ⟨v,d,ws,rfl,t,hw,q⟩:=h;refine ⟨_,(aj (av (aJ C.are_pairs hr (aw (cv 0) (aw (kg T.END_WORDS) (aw (cv 1) pa_nil)))))),?_⟩;show dt _ _ [some v,oR d] H;exact fS (aa (ev_v rfl) (aa au (aa (ev_v rfl) ap))) ⟨v,aE,d,jC,ws,rfl,t,hE H,hw,q⟩
theorem ly {f:Addr}{fd:FuncData}(F:bU K "is_turns" "is_turns" cc f fd) (T:Txt mg aS aA aE aW) (C:RG5 P w K mg base):bi P w K mg base dv 4 f fd ["thing","kinds"] (kT K):=by
 refine F.ok g4 (λ vs H Q E h=>?_) (λ cdv A outer s H vs Q E hr h=>?_)
 ·obtain ⟨v,d,ws,rfl,_⟩:=h;rfl
 ·obtain ⟨v,d,ws,rfl,t,hw,q⟩:=h;have hu:=cD hr;refine ⟨_,(ac (bH (bb (aV (aJ C.are_pairs hr (aw (cv 0) (aw (cv 1) (aw (cv 1) pa_nil)))))) (aj (av cZ)) aM)
   (ac (aD (i:=2) g4.nd rfl (Or.inr rfl) (dz (cg (N:=["pair"]) (src:=[none]) (ae cc) ["thing","kinds","firsts"]) (qd K (cv 0)) (λ _ _ _=>(ba (i:=0) ["pair"])) (λ _ _ _=>bI) (λ _ _ _=>(kx K (cv 0) al))))
   (ac (bH (aV (kB (Ee K) yV T.any (aw (dz (cg (N:=["pair","firsts"]) (src:=[none,some 2]) (ae cc) ["thing","kinds","firsts"]) (qd K (cv 0)) (λ _ _ _=>(ba (i:=0) ["pair","firsts"])) (λ _ _ _=>bI) (λ _ _ _=>(fW K hu (kx K (cv 0) al) (cv 1)))) pa_nil))) (aj (av cZ)) aM)
   (aj (av (fW K hu (kB iX aX T.len (aw (rp (xl K hr) gT T.set (aw (cv 2) pa_nil)) pa_nil)) (kB (du K) aX T.len (aw (cv 2) pa_nil)))))))),?_⟩
  show bV _ _ _ [some v,oR d,none] H;refine c9 (λ b H'=>b=(!pairsB H v ws ws)/\ak H H') (λ Q q=>gS (aa (ev_v rfl) (aa (ev_v rfl) (aa (ev_v rfl) ap))) ⟨v,d,d,ws,ws,rfl,t,hw,hw,λ H' s=>q _ _ ⟨rfl,s⟩⟩) (λ H1 h=>?_) (λ H1 h=>?_)
  ·obtain ⟨hb,s1⟩:=h;have k:=q H1 s1;have e0:pairsB H v ws ws=false:=by
    cases z:pairsB H v ws ws
    ·rfl
    ·rw [z] at hb;cases hb
   unfold dE at k;rw [e0] at k;exact aK au k
  ·obtain ⟨hb,s1⟩:=h;have e0:pairsB H v ws ws=true:=by
    cases z:pairsB H v ws ws
    ·rw [z] at hb;cases hb
    ·rfl
   unfold dE at q;rw [e0] at q;obtain ⟨xs,e1,l6,hp⟩:=pi e0;rw [e1] at q;have q:∀H',ak H H'->Q (.bl (!(xs.any λ x=>decide (fc H x∈xs.map (bT H)))&&decide ((xs.map (bT H)).Nodup))) H':=q;obtain ⟨a,rfl,ha⟩:=dh e1;have ha1:=s1 _ _ ha;refine ca (λ u H'=> ∃fq,u=.ref fq/\H' fq=some (.lst ((xs.map (bT H)).map V.str))/\ak H1 H') (λ Q q=>?_) ?_
   ·refine eI (d:=a) (xs:=xs) (rest:=[]) (ev_v rfl) (aL.of ha1) (by rw [sizeLine_eq];omega) rfl (λ _=>true) (λ x=>.str (bT H x)) (λ x hx=>cL) (λ x hx _=>?_) (λ p hp'=>?_)
    ·obtain ⟨c,f1,f2,rfl,hc⟩:=hp x hx;have e:bT H (.ref c)=f1:=by simp only [bT,tupOf,hc]
     rw [e];exact di (ev_v rfl) au (.inr (fF.of (s1 _ _ hc))) (bq (j:=0) rfl)
    ·have e:(xs.filter λ _=>true).map (λ x=>V.str (bT H x))=(xs.map (bT H)).map V.str:=by rw [EU.mpr (λ _ _=>rfl),EC];rfl
     rw [e];exact q _ _ ⟨p,rfl,af,(ak.refl H1).upd hp'⟩
   rintro _ H2 ⟨fq,rfl,hf,s2⟩;have ha2:=s2 _ _ ha1;refine c9 (λ b H'=>b=(xs.any λ x=>decide (fc H x∈xs.map (bT H)))/\ak H2 H') (λ Q q=>?_) (λ H3 h=>?_) (λ H3 h=>?_)
   ·refine eI (d:=a) (xs:=xs) (rest:=[oR fq]) (ev_v rfl) (aL.of ha2) (by rw [sizeLine_eq];omega) rfl (λ _=>true) (λ x=>.bl (decide (fc H x∈xs.map (bT H)))) (λ x hx=>cL) (λ x hx _=>?_) (λ p hp'=>?_)
    ·obtain ⟨c,f1,f2,rfl,hc⟩:=hp x hx;have e:fc H (.ref c)=f2:=by simp only [fc,tupOf,hc]
     rw [e];exact se (di (ev_v rfl) au (.inr (fF.of (s2 _ _ (s1 _ _ hc)))) (bq (j:=1) rfl)) (ev_v rfl) (.inl (aL.of hf))
    ·refine ⟨xs.map (λ x=>decide (fc H x∈xs.map (bT H))),?_,?_⟩
     ·have e2:(xs.filter λ _=>true).map (λ x=>V.bl (decide (fc H x∈xs.map (bT H))))=(xs.map (λ x=>decide (fc H x∈xs.map (bT H)))).map V.bl:=by rw [EU.mpr (λ _ _=>rfl),EC];rfl
      rw [<-e2];exact aL.of af
     ·have e3:(xs.map (λ x=>decide (fc H x∈xs.map (bT H)))).any id=xs.any λ x=>decide (fc H x∈xs.map (bT H)):=by rw [Fw];rfl
      rw [e3];exact q _ _ ⟨rfl,(ak.refl H2).upd hp'⟩
   ·have k:=q H3 ((s1.trans s2).trans h.2);rw [<-h.1] at k;exact aK au k
   ·have s03:=(s1.trans s2).trans h.2;show dt _ _ [oR a,oR d,oR fq] H3;have hf3:=h.2 _ _ hf;refine sE (lG (ss:=xs.map (bT H)) (ev_v rfl) (aL.of hf3) (by rw [Eu];omega) (λ H4 s4=>?_));refine il (cV (ev_v rfl) (.inl (aL.of (s4 _ _ hf3)))) ?_;have k:=q H4 (s03.trans s4);rw [<-h.1] at k;have e4:decide ((((gY (xs.map (bT H))).length:Nat):Int)=((((xs.map (bT H)).map V.str).length:Nat):Int))=decide ((xs.map (bT H)).Nodup):=by
     rw [Eu (f:=V.str)]
     by_cases hn:(xs.map (bT H)).Nodup
     ·rw [decide_eq_true hn,decide_eq_true (by rw [(fA _).mpr hn])]
     ·rw [decide_eq_false hn,decide_eq_false (λ z=>hn ((fA _).mp (by omega)))]
    show Q (.bl (decide ((((gY (xs.map (bT H))).length:Nat):Int)=((((xs.map (bT H)).map V.str).length:Nat):Int)))) H4;rw [e4];exact k
theorem ka {f:Addr}{fd:FuncData}(F:bU K "is_letter" "is_letter" cO f fd) (T:Txt mg aS aA aE aW):bi P w K mg base dv 1 f fd ["thing"] jp:=by
 refine F.ok jS (λ vs H Q E h=>?_) (λ cdv A outer s H vs Q E hr h=>?_)
 ·obtain ⟨v,rfl,_⟩:=h;rfl
 ·obtain ⟨v,rfl,t,q⟩:=h;have hu:=cD hr;refine ⟨_,(aj (av (cW (rn .str T.isinstance T.str nh (cv 0)) (cW (fW K hu (kB (du K) aX T.len (aw (cv 0) pa_nil)) al) (dg (mV K hu cA (cv 0) cA)))))),?_⟩;show dt _ _ [some v] H;have hs:=jB (T:=.str) (te:=aR 0) (σ:=[some v]) (ev_v rfl) t;rw [qr t] at hs;cases v with
  | str z=>
    refine aK (bO hs (λ _=>bO (xu (im (ev_v rfl) (Ge (show z.length<=1000 from t) (by decide))) au) (λ _=>uz au (ev_v rfl) au))) ?_;rw [Cg,Cf];have e:(true&&(decide ((z.length:Int)=1)&&(!decide (z.cps.toList<[97])&& !decide ([122]<z.cps.toList))))=letB (.str z):=by
     rw [tI]
     match e:z.cps.toList with
     | [c]=>
       simp only [letB,e,ra];rw [GD];simp
     | []=>simp only [letB,e];rfl
     | _::_::r=>
       simp only [letB,e];rw [decide_eq_false (by simp only [EA];omega)];rfl
    have q2:=q;rw [<-e] at q2;exact q2
  | _=>exact aK (bO (b:=false) hs (λ h=>by cases h)) q
theorem kh {f:Addr}{fd:FuncData}(F:bU K "are_kinds" "are_kinds" cm f fd) (T:Txt mg aS aA aE aW) (C:Et P w K mg base):bi P w K mg base dv 2 f fd ["thing"] kX:=by
 refine F.ok jW (λ vs H Q E h=>?_) (λ cdv A outer s H vs Q E hr h=>?_)
 ·obtain ⟨v,rfl,_⟩:=h;rfl
 ·obtain ⟨v,rfl,t,q⟩:=h;have hu:=cD hr;refine ⟨_,(ac (bH (PW.pt (fO (bb (aV (aJ C.is_list_of hr (aw (cv 0) (aw al (aw (kg T.MOST_KINDS) pa_nil)))))) (eA (bb (aV (kB (ro K) iZ T.all (aw (dz (cg (N:=["part"]) (src:=[none]) (ae cm) ["thing"]) (qd K (cv 0)) (λ _ _ _=>(ba (i:=0) ["part"])) (λ _ _ _=>bI) (λ _ _ _=>(aJ C.is_letter hr (aw (cv 0) pa_nil)))) pa_nil))))))) (aj (av cZ)) aM)
   (aj (av (fW K hu (kB iX aX T.len (aw (rp (xl K hr) gT T.set (aw (cv 0) pa_nil)) pa_nil)) (kB (du K) aX T.len (aw (cv 0) pa_nil)))))),?_⟩
  show bV _ _ _ [some v] H;have eL:Ev (iY jP (aC (aR 0) (aC (tC (.int 1)) (aC (tC (.int 6)) bu)))) [some v] H (.bl (gO H v 1 6)):=aG (aa (ev_v rfl) (aa au (aa au ap))) (λ Q q=>⟨v,1,6,rfl,t.thg,q⟩);unfold iO at q;cases e1:lstOf H v with
  | none=>
    have hb:gO H v 1 6=false:=by unfold gO;rw [e1]
    rw [hb] at eL;rw [e1] at q;refine cu (b:=true) (λ Q q=>bK (bD eL) _ (hU q)) (λ _=>aK au (q H (ak.refl H))) (λ h=>by cases h)
  | some xs=>
    rw [e1] at q;have q:∀H',ak H H'->Q (.bl (decide (1<=xs.length/\xs.length<=6)&&xs.all letB&&decide ((xs.map eZ).Nodup))) H':=q;obtain ⟨a,rfl,ha⟩:=dh e1;have tx:=t.2 xs (.inr e1);have hb:gO H (.ref a) 1 6=decide (1<=xs.length/\xs.length<=6):=by unfold gO;rw [e1];show decide ((1:Int)<=xs.length/\(xs.length:Int)<=6)=_;rw [decide_eq_decide];omega
    rw [hb] at eL
    by_cases hl:1<=xs.length/\xs.length<=6
    ·rw [decide_eq_true hl] at eL q;refine c9 (λ b H'=>b=(!xs.all letB)/\ak H H') (λ Q q=>?_) (λ H1 h=>?_) (λ H1 h=>?_)
     ·refine Cb (bK (bD eL)) ?_;refine eI (d:=a) (xs:=xs) (rest:=[]) (ev_v rfl) (aL.of ha) (by rw [sizeLine_eq];omega) rfl (λ _=>true) (λ x=>.bl (letB x)) (λ x hx=>cL) (λ x hx _=>?_) (λ p hp=>?_)
      ·exact aG (aa (ev_v rfl) ap) (λ Q q=>⟨x,rfl,tx x hx,q⟩)
      ·refine ⟨xs.map letB,?_,?_⟩
       ·have e2:(xs.filter λ _=>true).map (λ x=>V.bl (letB x))=(xs.map letB).map V.bl:=by rw [EU.mpr (λ _ _=>rfl),EC];rfl
        rw [<-e2];exact aL.of af
       ·have e3:(xs.map letB).all id=xs.all letB:=by rw [FD];rfl
        rw [e3];exact q _ _ ⟨rfl,(ak.refl H).upd hp⟩
     ·have k:=q H1 h.2;have e0:xs.all letB=false:=by
       cases z:xs.all letB
       ·rfl
       ·rw [z] at h;cases h.1
      rw [e0] at k;exact aK au k
     ·obtain ⟨hq,s1⟩:=h;have e0:xs.all letB=true:=by
       cases z:xs.all letB
       ·rw [z] at hq;cases hq
       ·rfl
      have e5:xs=(xs.map eZ).map V.str:=by
       rw [EC];have:∀x∈xs,x=(V.str∘eZ) x:=λ x hx=>by obtain ⟨c,rfl,_⟩:=rf (EV.mp e0 x hx);rfl
       exact (FC xs).symm.trans (E4 this)
      have ha1:=s1 _ _ ha;rw [e5] at ha1;show dt _ _ [oR a] H1;refine sE (lG (ss:=xs.map eZ) (ev_v rfl) (aL.of ha1) (by rw [Eu];omega) (λ H4 s4=>?_));refine il (cV (ev_v rfl) (.inl (aL.of (s4 _ _ ha1)))) ?_;have k:=q H4 (s1.trans s4);rw [e0] at k;have e4:decide ((((gY (xs.map eZ)).length:Nat):Int)=((((xs.map eZ).map V.str).length:Nat):Int))=decide ((xs.map eZ).Nodup):=by
       rw [Eu (f:=V.str)]
       by_cases hn:(xs.map eZ).Nodup
       ·rw [decide_eq_true hn,decide_eq_true (by rw [(fA _).mpr hn])]
       ·rw [decide_eq_false hn,decide_eq_false (λ z=>hn ((fA _).mp (by omega)))]
      show Q (.bl (decide ((((gY (xs.map eZ)).length:Nat):Int)=((((xs.map eZ).map V.str).length:Nat):Int)))) H4;rw [e4];exact k
    ·rw [decide_eq_false hl] at eL q;exact cu (b:=true) (λ Q q=>bK (bD eL) _ (hU q)) (λ _=>aK au (q H (ak.refl H))) (λ h=>by cases h)
theorem kc {f:Addr}{fd:FuncData}(F:bU K "are_rules" "are_rules" cj f fd) (T:Txt mg aS aA aE aW) (C:Et P w K mg base):bi P w K mg base dv 5 f fd ["thing","kinds"] (kU K):=by
 refine F.ok jU (λ vs H Q E h=>?_) (λ cdv A outer s H vs Q E hr h=>?_)
 ·obtain ⟨v,d,ws,rfl,_⟩:=h;rfl
 ·obtain ⟨v,d,ws,rfl,t,hw,q⟩:=h;have hu:=cD hr;refine ⟨_,(aj (av (cW (aJ C.is_list_of hr (aw (cv 0) (aw al (aw (kg T.MOST_RULES) pa_nil)))) (dg (kB (ro K) iZ T.all (aw (dz (cg (N:=["part","kinds"]) (src:=[none,some 1]) (ae cj) ["thing","kinds"]) (qd K (cv 0)) (λ _ _ _=>(ba (i:=0) ["part","kinds"])) (λ _ _ _=>bI) (λ _ _ _=>(aJ C.is_rule hr (aw (cv 0) (aw (cv 1) pa_nil))))) pa_nil)))))),?_⟩;show dt _ _ [some v,oR d] H;refine sT (a:=gO H v 0 24) (aG (aa (ev_v rfl) (aa au (aa au ap))) (λ Q q=>⟨v,0,24,rfl,t.thg,q⟩)) (λ h=>?_) (λ h=>?_)
  ·unfold gO at h;cases e1:lstOf H v with
   | none=>rw [e1] at h;cases h
   | some xs=>
     rw [e1] at h;have h:0<=(xs.length:Int)/\(xs.length:Int)<=24:=of_decide_eq_true h;obtain ⟨a,rfl,ha⟩:=dh e1;have tx:=t.2 xs (.inr e1);refine eI (d:=a) (xs:=xs) (rest:=[oR d]) (ev_v rfl) (aL.of ha) (by rw [sizeLine_eq];omega) rfl (λ _=>true) (λ x=>.bl (cQ H x ws)) (λ x hx=>cL) (λ x hx _=>?_) (λ p hp=>?_)
     ·exact aG (aa (ev_v rfl) (aa (ev_v rfl) ap)) (λ Q q=>⟨x,d,ws,rfl,tx x hx,hw,q⟩)
     ·refine ⟨xs.map (λ x=>cQ H x ws),?_,?_⟩
      ·have e2:(xs.filter λ _=>true).map (λ x=>V.bl (cQ H x ws))=(xs.map (λ x=>cQ H x ws)).map V.bl:=by rw [EU.mpr (λ _ _=>rfl),EC];rfl
       rw [<-e2];exact aL.of af
      ·have k:=q _ ((ak.refl H).upd (o:=.lst ((xs.filter λ _=>true).map (λ x=>V.bl (cQ H x ws)))) hp);unfold dc at k;rw [e1] at k;have e3:(decide (xs.length<=24)&&xs.all (λ x=>cQ H x ws))=(xs.map (λ x=>cQ H x ws)).all id:=by rw [decide_eq_true (by omega:xs.length<=24),FD];rfl
       have k:Q (.bl (decide (xs.length<=24)&&xs.all (λ x=>cQ H x ws))) _:=k;rw [e3] at k;exact k
  ·have k:=q H (ak.refl H);have e2:dc H v ws=false:=by
    unfold dc;unfold gO at h;cases e1:lstOf H v with
    | none=>rfl
    | some xs=>
      rw [e1] at h;have h:¬(0<=(xs.length:Int)/\(xs.length:Int)<=24):=of_decide_eq_false h;show (decide (xs.length<=24)&&_)=false;rw [decide_eq_false (by omega:¬xs.length<=24)];rfl
   rw [e2] at k;exact k
theorem kl {f cG:Addr}{fd:FuncData}(F:bU K "__init__" "Game.__init__" bF f fd) (T:Txt mg aS aA aE aW) (hW:∀H,eT K H aW jM) (B:Dt K cG) (C:GG2 P w K mg base):bi P w K mg base dv 6 f fd ["self","board","kinds","rules","turns","ends","stuck"] (nM K cG):=by
 refine F.ok gI (λ vs H Q E h=>?_) (λ cdv A outer s H vs Q E hr h=>?_)
 ·obtain ⟨p,b,kd,rd,td,ed,dx,ws,rs,ts,es,st,rfl,_⟩:=h;rfl
 ·obtain ⟨p,b,kd,rd,td,ed,dx,ws,rs,ts,es,st,rfl,hp,hk,hr',ht,he,tk,tr,tt,te,bk,br,bt,be,hst,lst',q⟩:=h;have hu:=cD hr;have wk:∀H',ak H H'->eT K H' kd ws:=λ H' s=>.inl (aL.of (s _ _ hk));refine ⟨_,(ac (bH (bb (aV (aJ C.are_kinds hr (aw (cv 2) pa_nil)))) (aj de) aM)
   (ac (bH (bb (aV (aJ C.are_rules hr (aw (cv 3) (aw (cv 2) pa_nil))))) (aj de) aM)
   (ac (bH (bb (aV (aJ C.is_turns hr (aw (cv 4) (aw (cv 2) pa_nil))))) (aj de) aM)
   (ac (bH (bb (aV (aJ C.is_ends hr (aw (cv 5) (aw (cv 2) pa_nil))))) (aj de) aM)
   (ac (bH (bb (aV (aJ C.is_word hr (aw (cv 6) (aw (kg T.STUCK_WORDS) pa_nil))))) (aj de) aM)
   (ac (fP K (cv 0) (cv 1))
   (ac (fP K (cv 0) (rp (lI K) dC T.list (aw (cv 2) pa_nil)))
   (ac (fP K (cv 0) (rp (lI K) dC T.list (aw (cv 3) pa_nil)))
   (ac (fP K (cv 0) (rp (lI K) dC T.list (aw (cv 4) pa_nil)))
   (ac (fP K (cv 0) (rp (lI K) dC T.list (aw (cv 5) pa_nil)))
   (aj (fP K (cv 0) (cv 6))))))))))))),?_⟩
  show bV _ _ _ [oR p,oR b,oR kd,oR rd,oR td,oR ed,oT st] H;refine c9 (λ b H'=>b=false/\ak H H') (λ Q q=>gS (aa (ev_v rfl) ap) ⟨.ref kd,rfl,tk,λ H' s=>?_⟩) (λ H' h=>by cases h.1) (λ H1 h=>?_)
  ·rw [bk];exact q _ _ ⟨rfl,s⟩
  obtain ⟨_,s1⟩:=h;have eqR:dc H1 (.ref rd) ws=dc H (.ref rd) ws:=ln tr s1;refine c9 (λ b H'=>b=false/\ak H1 H') (λ Q q=>gS (aa (ev_v rfl) (aa (ev_v rfl) ap)) ⟨.ref rd,kd,ws,rfl,tr.same s1,wk _ s1,λ H' s=>?_⟩) (λ H' h=>by cases h.1) (λ H2 h=>?_)
  ·rw [eqR,br];exact q _ _ ⟨rfl,s⟩
  obtain ⟨_,s2⟩:=h;have s02:=s1.trans s2;have eqT:dE H2 (.ref td) ws=dE H (.ref td) ws:=kM tt s02;refine c9 (λ b H'=>b=false/\ak H2 H') (λ Q q=>gS (aa (ev_v rfl) (aa (ev_v rfl) ap)) ⟨.ref td,kd,ws,rfl,tt.same s02,wk _ s02,λ H' s=>?_⟩) (λ H' h=>by cases h.1) (λ H3 h=>?_)
  ·rw [eqT,bt];exact q _ _ ⟨rfl,s⟩
  obtain ⟨_,s3⟩:=h;have s03:=s02.trans s3;have eqE:pairsB H3 (.ref ed) jC ws=pairsB H (.ref ed) jC ws:=g5 te s03;refine c9 (λ b H'=>b=false/\ak H3 H') (λ Q q=>gS (aa (ev_v rfl) (aa (ev_v rfl) ap)) ⟨.ref ed,kd,ws,rfl,te.same s03,wk _ s03,λ H' s=>?_⟩) (λ H' h=>by cases h.1) (λ H4 h=>?_)
  ·rw [eqE,be];exact q _ _ ⟨rfl,s⟩
  obtain ⟨_,s4⟩:=h;have s04:=s03.trans s4;refine cu (bK (bD (aG (aa (ev_v rfl) (aa au ap)) (λ Q q=>⟨.str st,aW,jM,rfl,lst',hW H4,q⟩)))) (λ h=>?_) (λ _=>?_)
  ·have e:wordB (.str st) jM=true:=decide_eq_true hst;rw [e] at h;cases h
  have gl:=λ b k r t e=>yB (b:=b) (k:=k) (r:=r) (t:=t) (e:=e);have nk:p≠kd:=dX hp hk (by intro z;cases z);have nr:p≠rd:=dX hp hr' (by intro z;cases z);have nt:p≠td:=dX hp ht (by intro z;cases z);have ne':p≠ed:=dX hp he (by intro z;cases z);have h4:∀(G:Hp),SameBut p H G->G kd=some (.lst (ws.map V.str))/\G rd=some (.lst rs)/\G td=some (.lst ts)/\G ed=some (.lst es):=λ G sb=>⟨sb _ _ hk nk.symm,sb _ _ hr' nr.symm,sb _ _ ht nt.symm,sb _ _ he ne'.symm⟩;refine mi (ev_v rfl) (ev_v rfl) (s04 _ _ hp) B.cl B.board (by decide) ?_;generalize hG5:upd H4 p (HO.ins cG dx (putF "board" (V.ref b) []))=G5;have p5:G5 p=some (.ins cG dx (gf1 b)):=hG5▸af;have b5:SameBut p H G5:=hG5▸s04.but.self;have nfree:∀(G:Hp) (q:Addr),SameBut p H G->G p≠none->G q=none->H q=none:=λ G q sb hpp hq=>by
   cases e:H q with
   | none=>rfl
   | some o=>
     by_cases z:q=p
     ·rw [z] at hq;exact absurd hq hpp
     ·have:=sb q o e z;rw [hq] at this;cases this
  refine ic (ev_v rfl) (h4 _ b5).1 (λ H'=>ev_v rfl) p5 B.cl B.kinds (by have:=(gl b 0 0 0 0).1;omega) (λ kq hkq=>?_);have nkq:p≠kq:=ag p5 hkq;generalize hG6:upd (upd G5 kq (HO.lst (ws.map V.str))) p (HO.ins cG dx (putF "kinds" (V.ref kq) (gf1 b)))=G6;have p6:G6 p=some (.ins cG dx (gf2 b kq)):=hG6▸af;have k6:G6 kq=some (.lst (ws.map V.str)):=by rw [<-hG6,ah nkq.symm,af]
  have b6:SameBut p H G6:=hG6▸(b5.new (nfree _ _ b5 (by rw [p5];simp) hkq)).self;refine ic (ev_v rfl) (h4 _ b6).2.1 (λ H'=>ev_v rfl) p6 B.cl B.rules (by have:=(gl b kq 0 0 0).2.1;omega) (λ rq hrq=>?_);have nrq:p≠rq:=ag p6 hrq;generalize hG7:upd (upd G6 rq (HO.lst rs)) p (HO.ins cG dx (putF "rules" (V.ref rq) (gf2 b kq)))=G7;have p7:G7 p=some (.ins cG dx (gf3 b kq rq)):=hG7▸af;have r7:G7 rq=some (.lst rs):=by rw [<-hG7,ah nrq.symm,af]
  have k7:G7 kq=some (.lst (ws.map V.str)):=by rw [<-hG7,ah nkq.symm,ah (ag k6 hrq)];exact k6
  have b7:SameBut p H G7:=hG7▸(b6.new (nfree _ _ b6 (by rw [p6];simp) hrq)).self;refine ic (ev_v rfl) (h4 _ b7).2.2.1 (λ H'=>ev_v rfl) p7 B.cl B.turns (by have:=(gl b kq rq 0 0).2.2.1;omega) (λ tq htq=>?_);have ntq:p≠tq:=ag p7 htq;generalize hG8:upd (upd G7 tq (HO.lst ts)) p (HO.ins cG dx (putF "turns" (V.ref tq) (gf3 b kq rq)))=G8;have p8:G8 p=some (.ins cG dx (gf4 b kq rq tq)):=hG8▸af;have t8:G8 tq=some (.lst ts):=by rw [<-hG8,ah ntq.symm,af]
  have r8:G8 rq=some (.lst rs):=by rw [<-hG8,ah nrq.symm,ah (ag r7 htq)];exact r7
  have k8:G8 kq=some (.lst (ws.map V.str)):=by rw [<-hG8,ah nkq.symm,ah (ag k7 htq)];exact k7
  have b8:SameBut p H G8:=hG8▸(b7.new (nfree _ _ b7 (by rw [p7];simp) htq)).self;refine ic (ev_v rfl) (h4 _ b8).2.2.2 (λ H'=>ev_v rfl) p8 B.cl B.ends (by have:=(gl b kq rq tq 0).2.2.2.1;omega) (λ eq heq=>?_);have neq:p≠eq:=ag p8 heq;generalize hG9:upd (upd G8 eq (HO.lst es)) p (HO.ins cG dx (putF "ends" (V.ref eq) (gf4 b kq rq tq)))=G9;have p9:G9 p=some (.ins cG dx (CU b kq rq tq eq)):=hG9▸af;have e9:G9 eq=some (.lst es):=by rw [<-hG9,ah neq.symm,af]
  have t9:G9 tq=some (.lst ts):=by rw [<-hG9,ah ntq.symm,ah (ag t8 heq)];exact t8
  have r9:G9 rq=some (.lst rs):=by rw [<-hG9,ah nrq.symm,ah (ag r8 heq)];exact r8
  have k9:G9 kq=some (.lst (ws.map V.str)):=by rw [<-hG9,ah nkq.symm,ah (ag k8 heq)];exact k8
  have b9:SameBut p H G9:=hG9▸(b8.new (nfree _ _ b8 (by rw [p8];simp) heq)).self;refine nG (λ v H'=>v=.str st/\H'=G9) (λ Q q=>il (v:=.str st) (ev_v rfl) (q _ _ ⟨rfl,rfl⟩)) p cG dx (λ H' Q q=>ev_v rfl Q q) B.cl B.stuck ?_;rintro _ _ ⟨rfl,rfl⟩;refine ⟨_,p9,by have:=(gl b kq rq tq eq).2.2.2.2;omega,?_⟩;refine q _ ⟨dx,kq,rq,tq,eq,af,?_,?_,?_,?_⟩ b9.self
  ·rw [ah nkq.symm];exact k9
  ·rw [ah nrq.symm];exact r9
  ·rw [ah ntq.symm];exact t9
  ·rw [ah neq.symm];exact e9
end
end K28
namespace K28
open PySem L2
section
variable {P:Program}{w:World}{K:Frag}{mg:Str->Option Value}{base:Heap}{aS aA aE aW:Addr}
theorem ki {f:Addr}{fd:FuncData}(F:bU K "are_holes" "are_holes" cn f fd) (T:Txt mg aS aA aE aW) (C:CA P w K mg base):bi P w K mg base dv 3 f fd ["thing","many"] kY:=by
 refine F.ok jX (λ vs H Q E h=>?_) (λ cdv A outer s H vs Q E hr h=>?_)
 ·obtain ⟨d,m,hs,rfl,_⟩:=h;rfl
 ·obtain ⟨d,m,hs,rfl,hd,good,nd,hl,m64,k⟩:=h;have hu:=cD hr;have hS:aL K H d (hs.map V.int):=aL.of hd;refine ⟨_,(ac (bH (PW.pt (fO (bb (aV (rn .list T.isinstance T.list dC (cv 0)))) (eA (cC K hu (kB (du K) aX T.len (aw (cv 0) pa_nil)) (cv 1))))) (aj (av cZ)) aM)
   (ac (bH (bb (aV (kB (ro K) iZ T.all (aw (dz (cg (N:=["hole","many"]) (src:=[none,some 1]) (ae cn) ["thing","many"]) (qd K (cv 0)) (λ _ _ _=>(ba (i:=0) ["hole","many"])) (λ _ _ _=>bI) (λ _ _ _=>(aJ C.is_among hr (aw (cv 0) (aw al (aw (ao (cv 1) al) pa_nil)))))) pa_nil)))) (aj (av cZ)) aM)
   (aj (av (fW K hu (kB na aX T.len (aw (rp (Ec K hr) gT T.set (aw (cv 0) pa_nil)) pa_nil)) (kB (du K) aX T.len (aw (cv 0) pa_nil))))))),?_⟩
  show bV _ _ _ [oR d,oJ m] H;refine cu (fZ (bK (bD (r0 (ev_v rfl) hd))) (λ _=>(bD (C4 (cV (ev_v rfl) (.inl hS)) (ev_v rfl))))) (λ h=>?_) (λ _=>?_)
  ·have h:decide (m<=((hs.map V.int).length:Int))=true:=h;have h:=of_decide_eq_true h;rw [Eu] at h;omega
  refine c9 (λ b H'=>b=false/\ak H H') (λ Q q=>?_) (λ H' h=>by cases h.1) (λ H1 h=>?_)
  ·refine eI (d:=d) (xs:=hs.map V.int) (rest:=[oJ m]) (ev_v rfl) hS (by rw [Eu,sizeLine_eq];omega) rfl (λ _=>true) (λ _=>.bl true) (λ x hx=>cL) (λ x hx _=>?_) (λ d' hd'=>?_)
   ·obtain ⟨z,hz,rfl⟩:=EE.mp hx;have g:=good z hz;refine aG (aa (ev_v rfl) (aa au (aa (fo (ev_v rfl) au) ap))) (λ Q q=>⟨z,0,m - 1,rfl,?_⟩);rw [decide_eq_true (by omega:0<=z/\z<=m - 1)];exact q
   ·refine ⟨List.replicate hs.length true,?_,?_⟩
    ·have e:((hs.map V.int).filter λ _=>true).map (λ _=>V.bl true)=(List.replicate hs.length true).map V.bl:=by rw [EU.mpr (λ _ _=>rfl),EC,List.map_replicate];show hs.map (λ _=>V.bl true)=_;rw [List.map_const']
     rw [<-e];exact aL.of af
    ·have e:(List.replicate hs.length true).all id=true:=by simp
     rw [e];exact q _ _ ⟨rfl,(ak.refl H).upd hd'⟩
  obtain ⟨_,s1⟩:=h;have hS1:=s1.seq hS;simp only [dt,cK,cB,aC,bu];refine il (ev_v rfl) ?_;refine ⟨hs,hS1,by have:scanBound=4096:=rfl;omega,λ q hq=>?_⟩;refine ⟨_,_,af,?_⟩;have s2:ak H1 (upd H1 q (.set (λ k=>(oH hs).any (· == k)) (oH hs).length)):=(ak.refl H1).upd hq;refine il (v:=.ref d) (ev_v rfl) ⟨_,.inl (s2.seq hS1),?_⟩;rw [Eu,(qj hs).mpr nd];show Q (.bl (decide ((hs.length:Int)=hs.length))) _;rw [decide_eq_true rfl];exact k _ (s1.trans ((ak.refl H1).upd hq))
theorem jf {f cB:Addr}{fd:FuncData}(F:bU K "__init__" "Board.__init__" bh f fd) (T:Txt mg aS aA aE aW) (B:gX K cB) (C:CB2 P w K mg base):bi P w K mg base dv 4 f fd ["self","wide","high","holes"] (nQ K cB):=by
 refine F.ok gf (λ vs H Q E h=>?_) (λ cdv A outer s H vs Q E hr h=>?_)
 ·obtain ⟨p,d,dx,wi,hi,hs,rfl,_⟩:=h;rfl
 ·obtain ⟨p,d,dx,wi,hi,hs,rfl,hp,hd,w1,w8,h1,h8,good,nd,hl,k⟩:=h;have hu:=cD hr;have m1:wi*hi<=8*8:=Gw w8 h8 (by omega) (by omega);have m0:0<=wi*hi:=Int.mul_nonneg (by omega) (by omega);have npd:p≠d:=dX hp hd (by intro z;cases z);refine ⟨_,(ac (bH (PW.pt (fO (bb (aV (aJ C.is_among hr (aw (cv 1) (aw al (aw (kg T.LONGEST) pa_nil)))))) (eA (bb (aV (aJ C.is_among hr (aw (cv 2) (aw al (aw (kg T.LONGEST) pa_nil))))))))) (aj de) aM)
   (ac (bH (bb (aV (aJ C.are_holes hr (aw (cv 3) (aw (ao (cv 1) (cv 2)) pa_nil))))) (aj de) aM)
   (ac (fP K (cv 0) (cv 1))
   (ac (fP K (cv 0) (cv 2))
   (ac (fP K (cv 0) (kB (CI K) c7 T.sorted (aw (cv 3) pa_nil)))
   (aj (fP K (cv 0) (dz (cg (N:=["square","self"]) (src:=[none,some 0]) (ae bh) ["self","wide","high","holes"]) (uf T.range (aw (ao (cv 1) (cv 2)) pa_nil)) (λ _ _ _=>(ba (i:=0) ["square","self"])) (λ _ _ _=>bI) (λ _ _ _=>(fW K hu (cv 0) (fV K (cv 1)))))))))))),?_⟩
  show bV _ _ _ [oR p,oJ wi,oJ hi,oR d] H;refine cu (fZ (bK (bD (aG (aa (ev_v rfl) (aa au (aa au ap))) (λ Q q=>⟨wi,1,8,rfl,q⟩)))) (λ _=>(bK (bD (aG (aa (ev_v rfl) (aa au (aa au ap))) (λ Q q=>⟨hi,1,8,rfl,q⟩)))))) (λ h=>?_) (λ _=>?_)
  ·rw [decide_eq_true (⟨w1,w8⟩:1<=wi/\wi<=8),decide_eq_true (⟨h1,h8⟩:1<=hi/\hi<=8)] at h;cases h
  refine c9 (λ b H'=>b=false/\ak H H') (λ Q q=>?_) (λ H' h=>by cases h.1) (λ H1 h=>?_)
  ·exact gS (aa (ev_v rfl) (aa (cJ (ev_v rfl) (ev_v rfl) (.inl ⟨by omega,by omega⟩)) ap)) ⟨d,wi*hi,hs,rfl,hd,good,nd,hl,by omega,λ H' s=>q _ _ ⟨rfl,s⟩⟩
  obtain ⟨_,s1⟩:=h;refine mi (ev_v rfl) (ev_v rfl) (s1 _ _ hp) B.cl B.wide (by decide) ?_;have a1:=bf "wide" (V.int wi) [];have a2:=bf "high" (V.int hi) (putF "wide" (V.int wi) []);simp only [FE] at a1;refine mi (ev_v rfl) (ev_v rfl) af B.cl B.high (by omega) ?_;generalize hH3:upd (upd H1 p (HO.ins cB dx (putF "wide" (V.int wi) []))) p (HO.ins cB dx (putF "high" (V.int hi) (putF "wide" (V.int wi) [])))=H3;have p3:H3 p=some (.ins cB dx (putF "high" (V.int hi) (putF "wide" (V.int wi) []))):=hH3▸af;have s3:SameBut p H H3:=hH3▸(s1.but.self.self);have d3:H3 d=some (.lst (hs.map V.int)):=s3 _ _ hd npd.symm;refine tK (λ v H'=> ∃(hs':List Int) (q:Addr),v=.ref q/\hs'.Perm hs/\hs'.Pairwise (·<=·)/\H3 q=none/\H'=upd H3 q (.lst (hs'.map V.int))) (λ Q q=>?_) p cB dx (λ H' Q q=>ev_v rfl Q q) B.cl B.holes ?_
  ·exact yX (ev_v rfl) ⟨hs,aL.of d3,by omega,λ hs' q' h1 h2 h3=>q _ _ ⟨hs',q',rfl,h1,h2,h3,rfl⟩⟩
  rintro _ _ ⟨hs',q,rfl,pm,sr,hq,rfl⟩;have npq:p≠q:=ag p3 hq;have a3:=bf "holes" (V.ref q) (putF "high" (V.int hi) (putF "wide" (V.int wi) []));refine ⟨_,(by rw [ah npq];exact p3),(by omega),?_⟩;generalize hH4:upd (upd H3 q (HO.lst (hs'.map V.int))) p (HO.ins cB dx (putF "holes" (V.ref q) (putF "high" (V.int hi) (putF "wide" (V.int wi) []))))=H4;have p4:H4 p=some (.ins cB dx (putF "holes" (V.ref q) (putF "high" (V.int hi) (putF "wide" (V.int wi) [])))):=hH4▸af;have q4:H4 q=some (.lst (hs'.map V.int)):=by rw [<-hH4,ah npq.symm,af]
  have hqH:H q=none:=by
   cases e:H q with
   | none=>rfl
   | some o=>
     have:=s3 q o e npq.symm;rw [hq] at this;cases this
  have s4:SameBut p H H4:=hH4▸((s3.new hqH).self);have f4:Fl K H4 p "holes" (.ref q):=⟨cB,dx,_,p4,B.cl,B.holes,by rw [am,if_pos rfl]⟩;refine nG (λ v H'=> ∃(pf:Addr),v=.ref pf/\H4 pf=none/\H'=upd H4 pf (.lst ((firmL wi hi hs').map V.bl))) (λ Q k'=>?_) p cB dx (λ H' Q q=>ev_v rfl Q q) B.cl B.firm ?_
  ·refine iV (n:=wi*hi) (rest:=[oR p]) (aa (cJ (ev_v rfl) (ev_v rfl) (.inl ⟨by omega,by omega⟩)) ap) m0 (by rw [sizeLine_eq];omega) (by omega) rfl (λ _=>true) (λ x=>match x with | .int i=>.bl (!decide (i∈hs')) | _=>.non) (λ i hi=>cL) (λ i hi _=>?_) (λ d' hd'=>?_)
   ·exact (rV (ev_v rfl) (ce (ev_v rfl) (f4)) (.inl (aL.of q4)))
   ·refine k' _ _ ⟨d',rfl,hd',?_⟩;have e:(((List.range (wi*hi).toNat).map λ (i:Nat)=>V.int (0+(i:Int))).filter λ _=>true).map (λ x=>match x with | .int i=>V.bl (!decide (i∈hs')) | _=>.non)=(firmL wi hi hs').map V.bl:=by rw [EU.mpr (λ _ _=>rfl),EC];unfold firmL;rw [EC];refine E4 λ i _=>?_;show V.bl (!decide (0+(i:Int)∈hs'))=V.bl (!decide ((i:Int)∈hs'));rw [Gv]
    rw [e]
  rintro _ _ ⟨pf,rfl,hpf,rfl⟩;have npf:p≠pf:=ag p4 hpf;have nqf:q≠pf:=ag q4 hpf;have hfH:H pf=none:=by
   cases e:H pf with
   | none=>rfl
   | some o=>
     have:=s4 pf o e npf.symm;rw [hpf] at this;cases this
  refine ⟨_,(by rw [ah npf];exact p4),(by omega),?_⟩;refine k hs' _ pm ⟨⟨dx,q,pf,af,by rw [ah npq.symm,ah nqf];exact q4,by rw [ah npf.symm,af]⟩,w1,w8,h1,h8,λ h hh=>good h (pm.mem_iff.mp hh),sr,pm.nodup_iff.mpr nd⟩ ((s4.new hfH).self)
theorem km {f cB:Addr}{fd:FuncData}(F:bU K "has" "Board.has" cP f fd) (T:Txt mg aS aA aE aW) (B:gX K cB) (C:CA P w K mg base):bi P w K mg base dv 3 f fd ["self","square"] (xa K cB):=by
 refine F.ok jY (λ vs H Q E h=>?_) (λ cdv A outer s H vs Q E hr h=>?_)
 ·obtain ⟨p,wi,hi,hs,sq,rfl,_⟩:=h;rfl
 ·obtain ⟨p,wi,hi,hs,sq,rfl,O,k⟩:=h;have hu:=cD hr;obtain ⟨pf,ff,hf⟩:=O.firm B;have mm:=O.many;have hl:(((firmL wi hi hs).map V.bl).length:Int)=wi*hi:=by rw [Eu,lP];omega
  refine ⟨_,(aj (av (cW (aJ C.is_among hr (aw (cv 1) (aw al (aw (ao (kB (du K) aX T.len (aw (fV K (cv 0)) pa_nil)) al) pa_nil)))) (dg (kx K (fV K (cv 0)) (cv 1)))))),?_⟩;show dt _ _ [oR p,oJ sq] H;refine aK (bO (b:= !decide (sq∈hs)) (aG (aa (ev_v rfl) (aa au (aa (fo (cV (ce (ev_v rfl) ff) (.inl (aL.of hf))) au) ap))) (λ Q q=>⟨sq,0,_,rfl,q⟩)) (λ h=>?_)) ?_
  ·have h:=of_decide_eq_true h;rw [hl] at h;exact di (ce (ev_v rfl) ff) (ev_v rfl) (.inl (aL.of hf)) (uw h.1 (by omega))
  ·rw [hl];have e:(decide (0<=sq/\sq<=wi*hi - 1)&& !decide (sq∈hs))=decide (0<=sq/\sq<wi*hi/\¬sq∈hs):=by
    rw [GD];simp only [GB,decide_eq_true_eq,GF,decide_eq_false_iff_not]
    constructor
    ·rintro ⟨⟨a,b⟩,c⟩;exact ⟨a,by omega,c⟩
    ·rintro ⟨a,b,c⟩;exact ⟨⟨a,by omega⟩,c⟩
   show Q (.bl (decide (0<=sq/\sq<=wi*hi - 1)&& !decide (sq∈hs))) H;rw [e];exact k
theorem kb {f cB:Addr}{fd:FuncData}(F:bU K "empty_row" "empty_row" ci f fd) (T:Txt mg aS aA aE aW) (B:gX K cB) (C:CP2 P w K mg base cB):bi P w K mg base dv 4 f fd ["board"] (nO K cB):=by
 refine F.ok jT (λ vs H Q E h=>?_) (λ cdv A outer s H vs Q E hr h=>?_)
 ·obtain ⟨p,wi,hi,hs,rfl,_⟩:=h;rfl
 ·obtain ⟨p,wi,hi,hs,rfl,O,k⟩:=h;have hu:=cD hr;have mm:=O.many;have fw:=O.wide B;have fh:=O.high B;have w8:=O.w8;have w1:=O.w1;refine ⟨_,(aj (av (Dy PySem.F.slot_str_join PySem.F.type_str_join (rm K) cA (aw (dz (cg (N:=["square","board"]) (src:=[none,some 0]) (ae ci) ["board"]) (uf T.range (aw (ao (fV K (cv 0)) (fV K (cv 0))) pa_nil)) (λ _ _ _=>(ba (i:=0) ["square","board"])) (λ _ _ _=>bI) (λ _ _ _=>(gj (aV (CJ C.Board_has hr (cv 1) (aw (cv 0) pa_nil))) (kg T.EMPTY) (kg T.HOLE)))) pa_nil)))),?_⟩;show dt _ _ [oR p] H;refine Ci au ?_;refine iV (n:=wi*hi) (rest:=[oR p]) (aa (cJ (ce (ev_v rfl) fw) (ce (ev_v rfl) fh) (.inl ⟨by omega,by omega⟩)) ap) (by omega) (by rw [sizeLine_eq];omega) (by omega) rfl (λ _=>true)
   (λ x=>match x with | .int i=>if i∈hs then .str (one 35) else .str (one 46) | _=>.non) (λ i hi=>cL) (λ i hi' _=>?_) (λ d hd=>?_)
  ·have e:(if decide (0<=0+(i:Int)/\0+(i:Int)<wi*hi/\¬(0+(i:Int))∈hs)=true then V.str (one 46) else V.str (one 35))=(if 0+(i:Int)∈hs then V.str (one 35) else V.str (one 46)):=by
    by_cases m:0+(i:Int)∈hs
    ·rw [if_pos m,if_neg (by rw [decide_eq_true_eq];exact λ z=>z.2.2 m)]
    ·rw [if_neg m,if_pos (by rw [decide_eq_true_eq];exact ⟨by omega,by omega,m⟩)]
   show Ev _ _ _ (if 0+(i:Int)∈hs then V.str (one 35) else V.str (one 46));rw [<-e];exact xr (bD (uy (p:=p) (ev_v rfl) O.no (aa (ev_v rfl) ap) (λ Q q=>⟨p,wi,hi,hs,_,rfl,O,q⟩))) (λ _=>sh) (λ _=>io)
  ·have e:(((List.range (wi*hi).toNat).map λ (i:Nat)=>V.int (0+(i:Int))).filter λ _=>true).map (λ x=>match x with | .int i=>if i∈hs then V.str (one 35) else V.str (one 46) | _=>.non)=(((List.range (wi*hi).toNat).map λ (s:Nat)=>if (s:Int)∈hs then 35 else 46).map one).map V.str:=by rw [EU.mpr (λ _ _=>rfl),EC,EC,EC];refine E4 λ i _=>?_;show (if 0+(i:Int)∈hs then V.str (one 35) else V.str (one 46))=V.str (one (if (i:Int)∈hs then 35 else 46));rw [Gv];split<;>rfl
   rw [e];show fQ K (.str "") [.ref d] _ Q;rw [qI];refine ⟨_,aL.of af,?_,?_⟩
   ·rw [EC];have es:∀l:List Nat,(l.map ((λ x:Str=>x.length)∘one)).sum=l.length:=λ l=>by
     induction l with
     | nil=>rfl
     | cons a r ih=>rw [EJ,E8,ih,EA];show 1+r.length=_;omega
    have ez:("":Str).length=0:=by decide+kernel
    rw [es,ez,Eu,EK];omega
   ·rw [jw];exact k _ ((ak.refl H).upd hd)
theorem gM {f cB:Addr}{fd:FuncData}(F:bU K "squares" "Board.squares" bm f fd) (T:Txt mg aS aA aE aW) (B:gX K cB):bi P w K mg base dv 1 f fd ["self"] (qz K cB):=by
 refine F.ok gJ (λ vs H Q E h=>?_) (λ cdv A outer s H vs Q E hr h=>?_)
 ·obtain ⟨p,wi,hi,hs,rfl,_⟩:=h;rfl
 ·obtain ⟨p,wi,hi,hs,rfl,O,k⟩:=h;have hu:=cD hr;obtain ⟨pf,ff,hf⟩:=O.firm B;have mm:=O.many;refine ⟨_,(aj (av (dz (cg (N:=["square","firm"]) (src:=[none,none]) (ae bm) ["self"]) (CK K T.enumerate (fV K (cv 0))) (λ _ _ _=>(kgt K (n:=2) (gi (ba (i:=0) ["square","firm"]) (gi (ba (i:=1) ["square","firm"]) nZ)))) (λ _ _ _=>(iE (aV (cv 1)))) (λ _ _ _=>(cv 0))))),?_⟩;show dt _ _ [oR p] H;refine mz (pP (l:=firmL wi hi hs) (rest:=[]) (ce (ev_v rfl) ff) hf (by rw [lP];omega) rfl λ H' d s hd=>?_);rw [rT];exact k d _ (s.free hd) af (s.upd hd)
theorem mO {f:Addr}{fd:FuncData}(F:bU K "_law_at" "_law_at" dW f fd) (T:Txt mg aS aA aE aW):bi P w K mg base dv 1 f fd ["_law_script","_law_k"] (lc K):=by
 refine F.ok ms (λ vs H Q E h=>?_) (λ cdv A outer s H vs Q E hr h=>?_)
 ·obtain ⟨a,ns,k,rfl,_⟩:=h;rfl
 ·obtain ⟨a,ns,k,rfl,hS,k0,q⟩:=h;have hu:=cD hr;refine ⟨_,(ac (bH (cC K hu (cv 1) (kB (du K) aX T.len (aw (cv 0) pa_nil))) (aj (av (kx K (cv 0) (cv 1)))) aM)
   (aj (av al))),?_⟩
  show bV _ _ _ [oR a,oJ k] H;unfold sG at q;refine cu (bD (rX (ev_v rfl) (cV (ev_v rfl) (.inl hS)))) (λ h=>?_) (λ h=>?_)
  ·have h:=of_decide_eq_true h;rw [Eu] at h;have hlt:k.toNat<ns.length:=by omega
   have e:(ns.map V.int)[k.toNat]? =some (.int (ns.getD k.toNat 0)):=by rw [EB,EQ,Ex hlt];rfl
   have e2:=bq e;have ei:((k.toNat:Nat):Int)=k:=by omega
   rw [ei] at e2;exact aK (di (ev_v rfl) (ev_v rfl) (.inl hS) e2) q
  ·have h:=of_decide_eq_false h;rw [Eu] at h;rw [EQ,E1 (by omega)] at q;exact aK au q
end
end K28
namespace K28
open PySem L2 PyProof.Rows
def Cj (z:Str) (f:Int) (ps:List (Str×Nat)):List V:=(if (z.length:Int)<f then [V.str (one 46)] else [])++ps.map tv
def jO:zj:=λ vs H Q=> ∃(z:Str) (f:Int),vs=[.str z,.int f]/\z.length<=60/\∀(q:Addr) (H':Hp) (ps:List (Str×Nat)) (n:Nat),(ps.map (·.1)).Perm (aB (cE z) z.cps.size)->sortedS (ps.map (·.1))=true->zb n ps->H q=none->ak H H'->H' q=some (.lst (Cj z f ps))->Q (.ref q) H' n
section
variable {P:Program}{w:World}{K:Frag}{mg:Str->Option Value}{base:Heap}{aS aA aE aW:Addr}
theorem ja {f:Addr}{fd:FuncData}(F:bU K "next_signs" "next_signs" cw f fd) (T:Txt mg aS aA aE aW):tf P w K mg base 1 f fd ["rest","free"] jO:=by
 refine F.okT fJ (λ vs H Q h=>?_) (by decide+kernel) (by decide+kernel) (by decide) (λ cdv A outer s H vs Q hr h s1 k1 I=>?_)
 ·obtain ⟨z,f,rfl,_⟩:=h;rfl
 ·obtain ⟨z,fr,rfl,hz,q⟩:=h;have hu:=cD hr;refine tM (i:=2) fJ.nd rfl (Or.inl rfl) (xS hr.hd (cv 0) T.sorted T.set) (aj (av (gj (cC K hu (kB (du K) aX T.len (aw (cv 0) pa_nil)) (cv 1)) (ao (cT (aw (kg T.EMPTY) pa_nil)) (cv 2)) (cv 2)))) k1 I ?_;show aR 0 [some (.str z),some (.int fr),none] H _;refine il (v:=.str z) (ev_v rfl) ⟨z,rfl,hz,λ d H2 ps n pm so tl hd s2 e2=>?_⟩;show dt _ _ [oT z,oJ fr,oR d] H2;have hl:=pm.length_eq;rw [Eu] at hl;have hm:=cM (cE z) z.cps.size;have hz':z.cps.size<=60:=hz;have tst:Tv (dn (cK K .Lt (cB (ku K) (aC (aR 0) bu)) (aR 1))) [some (.str z),some (.int fr),some (.ref d)] H2 (decide ((z.length:Int)<fr)):=bD (rX (λ Q q=>yX (v:=.str z) (ev_v rfl) (show ku K [.str z] H2 Q from ⟨by rw [sizeLine_eq];omega,q⟩)) (ev_v rfl));refine tst _ ?_
  by_cases hlt:(z.length:Int)<fr
  ·rw [decide_eq_true hlt];refine Db (gp (ft sh (dy ⟨by decide,λ p hp=>?_⟩)));have s3:ak H2 (upd H2 p (.lst [V.str (one 46)])):=(ak.refl H2).upd hp;refine il (v:=.ref d) (ev_v rfl) (uD af (s3.get e2) (by rw [Eu];show 1+_<=1000;omega) λ r hr'=>?_);have s4:=s3.trans ((ak.refl _).upd (o:=.lst ([V.str (one 46)]++ps.map tv)) hr');refine q r _ ps n pm so tl ((s2.trans s3).free hr') (s2.trans s4) ?_;rw [af];unfold Cj;rw [if_pos hlt]
  ·rw [decide_eq_false hlt];show aR 2 [some (.str z),some (.int fr),some (.ref d)] H2 (λ v H'=>Q v H' n);refine il (v:=.ref d) (ev_v rfl) (q d _ ps n pm so tl hd s2 ?_);rw [e2];unfold Cj;rw [if_neg hlt];rfl
end
end K28
namespace K28
def eS (c:Nat):List Nat->List Nat
 | []=>[c]
 | a::l=>if c<a then c::a::l else if c=a then a::l else a::eS c l
def sgN (l:List Nat):List Nat:=l.foldr eS []
theorem iL {x c:Nat}:∀{l:List Nat},x∈eS c l<->x=c\/x∈l
 | []=>by simp [eS]
 | a::l=>by
   unfold eS;split
   ·simp
   ·split
    ·rename_i h;subst h;simp
    ·simp only [Ew,iL (l:=l)]
     constructor
     ·rintro (h | h | h)
      ·exact .inr (.inl h)
      ·exact .inl h
      ·exact .inr (.inr h)
     ·rintro (h | h | h)
      ·exact .inr (.inl h)
      ·exact .inl h
      ·exact .inr (.inr h)
theorem n8 {c:Nat}:∀{l:List Nat},l.Pairwise (· < ·)->(eS c l).Pairwise (· < ·)
 | [],_=>by simp [eS]
 | a::l,h=>by
   obtain ⟨h1,h2⟩:=EN.mp h;unfold eS;split
   ·rename_i hc;refine EN.mpr ⟨λ x hx=>?_,h⟩
    rcases Ew.mp hx with rfl | hx
    ·exact hc
    ·exact Gh hc (h1 x hx)
   ·split
    ·exact h
    ·rename_i n1 n2;refine EN.mpr ⟨λ x hx=>?_,n8 h2⟩
     rcases iL.mp hx with rfl | hx
     ·omega
     ·exact h1 x hx
theorem ig {x:Nat}:∀{l:List Nat},x∈sgN l<->x∈l
 | []=>by simp [sgN]
 | a::l=>by show x∈eS a (sgN l)<->_;rw [iL,ig,Ew]
theorem jQ:∀l:List Nat,(sgN l).Pairwise (· < ·)
 | []=>.nil
 | _::l=>n8 (jQ l)
theorem re:∀{a b:List Nat},a.Pairwise (· < ·)->b.Pairwise (· < ·)->(∀x,x∈a<->x∈b)->a=b
 | [],[],_,_,_=>rfl
 | [],y::b,_,_,h=>by have:=(h y).mpr (by simp);cases this
 | x::a,[],_,_,h=>by have:=(h x).mp (by simp);cases this
 | x::a,y::b,ha,hb,h=>by
   obtain ⟨a1,a2⟩:=EN.mp ha;obtain ⟨b1,b2⟩:=EN.mp hb;have e:x=y:=by
    rcases Ew.mp ((h x).mp (by simp)) with e | e
    ·exact e
    ·rcases Ew.mp ((h y).mpr (by simp)) with e' | e'
     ·exact e'.symm
     ·have:=b1 x e;have:=a1 y e';omega
   subst e;rw [re a2 b2 λ z=>?_]
   constructor
   ·intro hz
    rcases Ew.mp ((h z).mp (Ez _ hz)) with e | e
    ·subst e;exact absurd (a1 _ hz) (Gi _)
    ·exact e
   ·intro hz
    rcases Ew.mp ((h z).mpr (Ez _ hz)) with e | e
    ·subst e;exact absurd (b1 _ hz) (Gi _)
    ·exact e
def bo (u f:Nat) (rest:List Nat):List Nat:=if u=35 then [35] else (if rest.length<f then [46] else [])++sgN rest
def nf (u f:Nat):Nat:=if u=35 then f else f - 1
def dO (u f:Nat) (ps:List (List Nat×List Nat)):List (List Nat×List Nat):=ps.flatMap λ p=>(bo u f p.2).map λ c=>(p.1++[c],p.2.erase c)
def i9:List Nat->Nat->List (List Nat×List Nat)->List (List Nat×List Nat)
 | [],_,ps=>ps
 | u::us,f,ps=>i9 us (nf u f) (dO u f ps)
def fm:List Nat->Nat->List Nat->List (List Nat)
 | [],_,_=>[[]]
 | u::us,f,rest=>(bo u f rest).flatMap λ c=>(fm us (nf u f) (rest.erase c)).map (c:: ·)
theorem js:∀(us:List Nat) (f:Nat) (ps:List (List Nat×List Nat)),(i9 us f ps).map (·.1)=ps.flatMap λ p=>(fm us f p.2).map (p.1++ ·)
 | [],f,ps=>by
   show ps.map (·.1)=_
   induction ps with
   | nil=>rfl
   | cons p ps ih=>rw [EJ,ih,Fp];simp [fm]
 | u::us,f,ps=>by show (i9 us (nf u f) (dO u f ps)).map (·.1)=_;rw [js us];unfold dO;rw [List.flatMap_assoc];congr 1;funext p;show ((bo u f p.2).map λ c=>(p.1++[c],p.2.erase c)).flatMap (λ q=>(fm us (nf u f) q.2).map (q.1++ ·))=((bo u f p.2).flatMap λ c=>(fm us (nf u f) (p.2.erase c)).map (c:: ·)).map (p.1++ ·);rw [List.flatMap_map,List.map_flatMap];congr 1;funext c;rw [EC];congr 1;funext r;simp
def opn (us:List Nat):Nat:=(us.filter λ u=>u != 35).length
theorem iG (u:Nat) (us:List Nat):opn (u::us)=(if u=35 then opn us else opn us+1):=by
 unfold opn
 by_cases h:u=35
 ·rw [if_pos h,FF (by simp [h])]
 ·rw [if_neg h,FX (by simp [h]),EA]
def qc (l:List Nat):Prop:= ∀c∈l,46<c
theorem pE {u f c:Nat}{rest:List Nat}(h:c∈bo u f rest):(u=35/\c=35)\/(u≠35/\((c=46/\rest.length<f)\/c∈rest)):=by
 unfold bo at h;split at h
 ·rename_i hu;exact .inl ⟨hu,by simpa using h⟩
 ·rename_i hu;refine .inr ⟨hu,?_⟩
  rcases ES.mp h with h | h
  ·split at h
   ·rename_i hl;exact .inl ⟨by simpa using h,hl⟩
   ·cases h
  ·exact .inr (ig.mp h)
structure l4 (us rest r:List Nat):Prop where
 len:r.length=us.length
 hole:∀i:Nat,r[i]? =some 35<->us[i]? =some 35
 sg:(r.filter λ c=>c != 35&&c != 46).Perm rest
theorem ik:∀(us:List Nat) (f:Nat) (rest:List Nat),opn us=f->rest.length<=f->qc rest->∀r∈fm us f rest,l4 us rest r
 | [],f,rest,ho,hl,_,r,hr=>by
   have e:r=[]:=by simpa [fm] using hr
   have:f=0:=by rw [<-ho];rfl
   have e2:rest=[]:=Fe.mp (by omega);subst e e2;exact ⟨rfl,λ i=>by simp,by simp⟩
 | u::us,f,rest,ho,hl,hb,r,hr=>by
   obtain ⟨c,hc,hr⟩:=List.mem_flatMap.mp hr;obtain ⟨r',hr',rfl⟩:=EE.mp hr;rw [iG] at ho
   rcases pE hc with ⟨hu,rfl⟩ | ⟨hu,hc⟩
   ·subst hu;rw [if_pos rfl] at ho;have hn:(35:Nat)∉rest:=λ z=>absurd (hb _ z) (by decide);rw [E2 hn] at hr';have ih:=ik us f rest ho hl hb r' (by simpa [nf] using hr');refine ⟨by rw [EA,EA,ih.len],λ i=>?_,?_⟩
    ·cases i with
     | zero=>simp
     | succ i=>simpa using ih.hole i
    ·rw [FF (by simp)];exact ih.sg
   ·rw [if_neg hu] at ho;have hf:nf u f=opn us:=by unfold nf;rw [if_neg hu];omega
    rw [hf] at hr';have c35:c≠35:=by
     rcases hc with ⟨h,_⟩ | h
     ·omega
     ·have:=hb c h;omega
    have hole:∀{r'},l4 us (rest.erase c) r'->∀i:Nat,(c::r')[i]? =some 35<->(u::us)[i]? =some 35:=λ {r'} ih i=>by
     cases i with
     | zero=>simp [c35,hu]
     | succ i=>simpa using ih.hole i
    rcases hc with ⟨rfl,hl'⟩ | hm
    ·have hn:(46:Nat)∉rest:=λ z=>absurd (hb _ z) (by decide);have ih:=ik us (opn us) (rest.erase 46) rfl (by rw [E2 hn];omega) (by rw [E2 hn];exact hb) r' hr';refine ⟨by rw [EA,EA,ih.len],hole ih,?_⟩;rw [FF (by simp)];have:=ih.sg
     rwa [E2 hn] at this
    ·have c46:46<c:=hb c hm;have he:=List.length_erase_of_mem hm;have hp:=List.length_pos_of_mem hm;have ih:=ik us (opn us) (rest.erase c) rfl (by omega) (λ x hx=>hb x (FY hx)) r' hr';refine ⟨by rw [EA,EA,ih.len],hole ih,?_⟩;rw [FX (by simp;omega)];exact (ih.sg.cons c).trans (FU hm).symm
theorem qt {u f:Nat}{rest:List Nat}(hb:qc rest):(bo u f rest).Pairwise (· < ·):=by
 unfold bo;split
 ·simp
 ·split
  ·refine EN.mpr ⟨λ x hx=>hb x (ig.mp hx),jQ rest⟩
  ·exact jQ rest
theorem gU {rest:List Nat}(hb:qc rest) (c:Nat):qc (rest.erase c):=λ x hx=>hb x (FY hx)
theorem og:∀(us:List Nat) (f:Nat) (rest:List Nat),qc rest->(fm us f rest).Pairwise (· < ·)
 | [],_,_,_=>by simp [fm]
 | u::us,f,rest,hb=>by
   show ((bo u f rest).flatMap λ c=>(fm us (nf u f) (rest.erase c)).map (c:: ·)).Pairwise (· < ·);rw [List.pairwise_flatMap];refine ⟨λ c _=>?_,(qt hb).imp λ {a b} h x hx y hy=>?_⟩
   ·rw [Ff];exact (og us _ _ (gU hb c)).imp λ h=>FZ.mpr (.inr ⟨rfl,h⟩)
   ·obtain ⟨x',_,rfl⟩:=EE.mp hx;obtain ⟨y',_,rfl⟩:=EE.mp hy;exact FZ.mpr (.inl h)
def dk:Nat->List Nat->Nat
 | 0,_=>1
 | f+1,rest=>(if rest.length<f+1 then dk f rest else 0)+((sgN rest).map λ c=>dk f (rest.erase c)).sum
theorem gq:∀(us:List Nat) (f:Nat) (rest:List Nat),opn us=f->qc rest->(fm us f rest).length=dk f rest
 | [],f,rest,ho,_=>by
   have:f=0:=by rw [<-ho];rfl
   subst this;rfl
 | u::us,f,rest,ho,hb=>by
   show ((bo u f rest).flatMap λ c=>(fm us (nf u f) (rest.erase c)).map (c:: ·)).length=_;rw [List.length_flatMap];rw [iG] at ho
   by_cases hu:u=35
   ·subst hu;rw [if_pos rfl] at ho;have hn:(35:Nat)∉rest:=λ z=>absurd (hb _ z) (by decide);have e:bo 35 f rest=[35]:=rfl;rw [e,EJ,Fb,Eu,E2 hn];have ih:=gq us f rest ho hb;show (fm us f rest).length+0=_;rw [ih];rfl
   ·rw [if_neg hu] at ho;have hf:nf u f=opn us:=by unfold nf;rw [if_neg hu];omega
    subst ho;have e:bo u (opn us+1) rest=(if rest.length<opn us+1 then [46] else [])++sgN rest:=by unfold bo;rw [if_neg hu]
    rw [e,hf,EM,FG];have hn:(46:Nat)∉rest:=λ z=>absurd (hb _ z) (by decide);show _=(if rest.length<opn us+1 then dk (opn us) rest else 0)+((sgN rest).map λ c=>dk (opn us) (rest.erase c)).sum;congr 1
    ·split
     ·rw [EJ,Fb,Eu,E2 hn,gq us (opn us) rest rfl hb];rfl
     ·rfl
    ·congr 1;refine E4 λ c _=>?_;rw [Eu,gq us (opn us) _ rfl (gU hb c)]
theorem cnt_cons (f:Nat) (rest sg:List Nat) (h:sgN rest=sg) (hl:rest.length<f+1):dk (f+1) rest=dk f rest+(sg.map λ c=>dk f (rest.erase c)).sum:=by subst h;show (if rest.length<f+1 then dk f rest else 0)+_=_;rw [if_pos hl]
theorem dj (f:Nat) (rest sg:List Nat) (h:sgN rest=sg) (hl:¬rest.length<f+1):dk (f+1) rest=(sg.map λ c=>dk f (rest.erase c)).sum:=by subst h;show (if rest.length<f+1 then dk f rest else 0)+_=_;rw [if_neg hl,Nat.zero_add]
theorem yO:∀f,dk f []=1
 | 0=>rfl
 | f+1=>by rw [cnt_cons f [] [] rfl (by simp),yO f];rfl
section
variable {x y z:Nat}
theorem Cn:sgN [x]=[x]:=rfl
theorem Cm:sgN [x,x]=[x]:=by simp [sgN,eS]
theorem Ck:sgN [x,x,x]=[x]:=by simp [sgN,eS]
theorem qD (h:x<y):sgN [x,y]=[x,y]:=by simp [sgN,eS,h]
theorem qB (h:x<y):sgN [x,x,y]=[x,y]:=by simp [sgN,eS,h]
theorem qC (h:x<y):sgN [x,y,y]=[x,y]:=by simp [sgN,eS,h]
theorem li (h:x<y) (h2:y<z):sgN [x,y,z]=[x,y,z]:=by simp [sgN,eS,h,h2]
def t2:Nat->Nat | 0=>1 | f+1=>t2 f+(f+2)
def t3:Nat->Nat | 0=>1 | f+1=>t3 f+t2 (f+1)
def tH:Nat->Nat | 0=>2 | f+1=>tH f+((f+2)+(f+2))
def tG:Nat->Nat | 0=>3 | f+1=>tG f+(tH (f+1)+t2 (f+1))
def qq:Nat->Nat | 0=>6 | f+1=>qq f+(tH (f+1)+(tH (f+1)+tH (f+1)))
theorem c1:∀f,dk (f+1) [x]=f+1
 | 0=>by rw [dj 0 [x] [x] Cn (by simp)];simp [dk]
 | f+1=>by rw [cnt_cons (f+1) [x] [x] Cn (by simp),c1 f];simp [yO]
theorem c2:∀f,dk (f+2) [x,x]=t2 f
 | 0=>by rw [dj 1 [x,x] [x] Cm (by simp)];simp [c1,t2]
 | f+1=>by rw [cnt_cons (f+2) [x,x] [x] Cm (by simp),c2 f];have:=c1 (x:=x) (f+1);simp [t2,this]
theorem c3:∀f,dk (f+3) [x,x,x]=t3 f
 | 0=>by rw [dj 2 [x,x,x] [x] Ck (by simp)];have:=c2 (x:=x) 0;simp [t3,this];rfl
 | f+1=>by rw [cnt_cons (f+3) [x,x,x] [x] Ck (by simp),c3 f];have:=c2 (x:=x) (f+1);simp [t3,this]
theorem qe (h:x<y):∀f,dk (f+2) [x,y]=tH f
 | 0=>by rw [dj 1 [x,y] [x,y] (qD h) (by simp)];have h1:=c1 (x:=x) 0;have h2:=c1 (x:=y) 0;have hn:x≠y:=Gb h;simp [tH,EW,hn,h1,h2]
 | f+1=>by rw [cnt_cons (f+2) [x,y] [x,y] (qD h) (by simp),qe h f];have h1:=c1 (x:=x) (f+1);have h2:=c1 (x:=y) (f+1);have hn:x≠y:=Gb h;simp [tH,EW,hn,h1,h2]
theorem c21 (h:x<y):∀f,dk (f+3) [x,x,y]=tG f
 | 0=>by rw [dj 2 [x,x,y] [x,y] (qB h) (by simp)];have h1:=qe h 0;have h2:=c2 (x:=x) 0;have hn:x≠y:=Gb h;simp [tG,EW,hn,h1,h2];rfl
 | f+1=>by rw [cnt_cons (f+3) [x,x,y] [x,y] (qB h) (by simp),c21 h f];have h1:=qe h (f+1);have h2:=c2 (x:=x) (f+1);have hn:x≠y:=Gb h;simp [tG,EW,hn,h1,h2]
theorem c12 (h:x<y):∀f,dk (f+3) [x,y,y]=tG f
 | 0=>by rw [dj 2 [x,y,y] [x,y] (qC h) (by simp)];have h1:=qe h 0;have h2:=c2 (x:=y) 0;have hn:x≠y:=Gb h;simp [tG,EW,hn,h1,h2];rfl
 | f+1=>by rw [cnt_cons (f+3) [x,y,y] [x,y] (qC h) (by simp),c12 h f];have h1:=qe h (f+1);have h2:=c2 (x:=y) (f+1);have hn:x≠y:=Gb h;simp [tG,EW,hn,h1,h2];omega
theorem Di (h:x<y) (h':y<z):∀f,dk (f+3) [x,y,z]=qq f
 | 0=>by rw [dj 2 [x,y,z] [x,y,z] (li h h') (by simp)];have h1:=qe h 0;have h2:=qe h' 0;have h3:=qe (Gh h h') 0;have n1:x≠y:=Gb h;have n2:y≠z:=Gb h';have n3:x≠z:=Gb (Gh h h');simp [qq,EW,n1,n2,n3,h1,h2,h3];rfl
 | f+1=>by rw [cnt_cons (f+3) [x,y,z] [x,y,z] (li h h') (by simp),Di h h' f];have h1:=qe h (f+1);have h2:=qe h' (f+1);have h3:=qe (Gh h h') (f+1);have n1:x≠y:=Gb h;have n2:y≠z:=Gb h';have n3:x≠z:=Gb (Gh h h');simp [qq,EW,n1,n2,n3,h1,h2,h3]
end
end K28
namespace K28
open PySem L2 PyProof.Rows
theorem uA {K:Frag}{tl:TE}{σ:L2.St}{H:Hp}{Q:VK}{l:Addr}{n:Nat}{vs:List V}{cs:List Nat}{a z:Str}(hl:Ev tl σ H (.ref l)) (e:H l=some (.lst vs)) (hn:cs.length<=1000) (hlen:vs.length=cs.length) (la:a.length<=900) (lz:z.length<=900)
  (hv:∀(i c:Nat),cs[i]? =some c->∃v,vs[i]? =some v/\zk v c/\(c∈z.cps.toList->∃t,v=.tok ⟨#[c]⟩ t/\1<=t/\t<n)) (hs:cY [none,some 6,some 7] σ=[none,some (.str a),some (.str z)])
  (q:∀d H' (ps:List Addr),ps.length=cs.length->(∀(i c:Nat) (p:Addr),cs[i]? =some c->ps[i]? =some p->H' p=some (.tup [.str (a++⟨#[c]⟩),.str (eraS z c)]))->ak H H'->H' d=none->Q (.ref d) (upd H' d (.lst (ps.map V.ref)))):
  tComp (fj K tl) (bN 0) ga (kO (aC (jm (aR 1) (aR 0)) (aC (oK n (aR 2) (aR 0)) bu))) [none,some 6,some 7] σ H Q:=by
 refine hl _ ⟨l,rfl,⟨_,aL.of e⟩,?_⟩;refine gr cs.length (λ i ys σ' H'=>ak H H'/\(∃v,σ'=[v,oT a,oT z])/\∃ps:List Addr,ys=ps.map V.ref/\ps.length=i/\∀(j c:Nat) (p:Addr),cs[j]? =some c->ps[j]? =some p->H' p=some (.tup [.str (a++⟨#[c]⟩),.str (eraS z c)])) (by rw [sizeLine_eq];omega) ?_ ?_ ?_ ?_ ?_ ?_
 ·rintro i ys σ' H' ⟨_,_,ps,rfl,hl,_⟩;rw [Eu];omega
 ·rintro i ys σ' H' ⟨s,_⟩ hi;exact ⟨_,_,aL.of (s _ _ e),Ex (by omega)⟩
 ·rintro ys σ' H' ⟨s,_⟩;exact ⟨_,aL.of (s _ _ e),by omega⟩
 ·exact ⟨ak.refl H,⟨_,hs⟩,[],rfl,rfl,λ j z p _ h=>by simp at h⟩
 ·rintro i ys _ H' x H2 hi ⟨s,⟨v0,rfl⟩,ps,rfl,hl,hq⟩ ⟨rfl,hy⟩ Kt Kf ht hf;have ey:=hy _ (aL.of (s _ _ e));obtain ⟨v,ev,sg,tk⟩:=hv i cs[i] (Ex hi);rw [ev] at ey;obtain rfl:v=x:=Option.some.inj ey;simp only [bN,ga,FP,if_true,kO,aC,bu,jm,oK];refine il (v:=.str a) (ev_v rfl) (il (v:=v) (ev_v rfl) ⟨a,cs[i],rfl,sg,by omega,?_⟩);refine il (v:=.str z) (ev_v rfl) ⟨z,rfl,il (v:=v) (ev_v rfl) ⟨cs[i],sg,by omega,tk,?_⟩⟩;refine ⟨by show 2<=sizeLine;decide,λ p hp=>?_⟩;have sl:=(ak.refl H2).upd (o:=.tup [.str (a++⟨#[cs[i]]⟩),.str (eraS z cs[i])]) hp;refine ht _ _ _ ⟨s.trans sl,⟨_,rfl⟩,ps++[p],by rw [EM];rfl,by rw [EF];show _+1=_;omega,λ j c p' hz hj=>?_⟩
  by_cases c':j<ps.length
  ·rw [Fi c'] at hj;exact sl _ _ (hq j c p' hz hj)
  ·rw [Fv (by omega)] at hj;have e0:j - ps.length=0:=by have:=(EH.mp hj).1;simp only [EA,FE] at this;omega
   rw [e0] at hj;obtain rfl:p=p':=Option.some.inj hj;have ej:j=i:=by omega
   subst ej;rw [Ex hi] at hz;obtain rfl:=Option.some.inj hz;exact af
 ·rintro ys σ' H' d ⟨s,_,ps,rfl,hl,hq⟩ hd;exact q d H' ps hl hq s hd
theorem ue {z:Str}{x:Str}:x∈aB (cE z) z.cps.size<->∃c∈z.cps.toList,x=one c:=by
 rw [iK]
 constructor
 ·intro h;obtain ⟨i,hi,rfl⟩:=EE.mp h;have hi:=ER.mp hi;refine ⟨z.cps[i],by simp,?_⟩;unfold cE;rw [GN,GK hi];rfl
 ·rintro ⟨c,hc,rfl⟩;obtain ⟨i,hi,rfl⟩:=List.getElem_of_mem hc;have hi':i<z.cps.size:=by simpa using hi
  refine EE.mpr ⟨i,ER.mpr hi',?_⟩;unfold cE;rw [GN,GK hi'];rfl
theorem gm {a b:Nat}(h:one a=one b):a=b:=by have:=congrArg (λ s:Str=>s.cps.toList) h;simpa [one] using this
theorem kR {z:Str}{ss:List Str}(pm:ss.Perm (aB (cE z) z.cps.size)) (so:sortedS ss=true):ss=(sgN z.cps.toList).map one:=by
 have hm:∀x,x∈ss<->∃c∈z.cps.toList,x=one c:=λ x=>pm.mem_iff.trans ue;obtain ⟨l,rfl⟩:∃l:List Nat,ss=l.map one:=by
  have:∀ss:List Str,(∀x∈ss,∃c:Nat,x=one c)->∃l:List Nat,ss=l.map one:=λ ss=>by
   induction ss with
   | nil=>exact λ _=>⟨[],rfl⟩
   | cons x ss ih=>
     intro h;obtain ⟨c,rfl⟩:=h x (by simp);obtain ⟨l,rfl⟩:=ih λ x hx=>h x (Ez _ hx);exact ⟨c::l,rfl⟩
  exact this ss λ x hx=>let ⟨c,_,e⟩:=(hm x).mp hx;⟨c,e⟩
 have nd:(l.map one).Nodup:=pm.nodup_iff.mpr (ie _ _);have le:=nR so;have nd':l.Nodup:=by rw [Fq,Ff] at nd;exact nd.imp λ h e=>h (by rw [e])
 have lt:l.Pairwise (· < ·):=by rw [Fq] at nd';exact (le.and nd').imp λ ⟨a,b⟩=>Nat.lt_of_le_of_ne a b
 rw [re lt (jQ z.cps.toList) λ x=>?_];rw [ig]
 constructor
 ·intro h;obtain ⟨c,hc,e⟩:=(hm (one x)).mp (EE.mpr ⟨x,h,rfl⟩);rw [gm e];exact hc
 ·intro h;obtain ⟨y,hy,e⟩:=EE.mp ((hm (one x)).mpr ⟨x,h,rfl⟩);rw [<-gm e];exact hy
end K28
namespace K28
open PySem L2 PyProof.Rows
def sL (l:List Nat):Str:=⟨l.toArray⟩
theorem tO (l:List Nat) (c:Nat):sL l++⟨#[c]⟩=sL (l++[c]):=by show (⟨l.toArray++ #[c]⟩:Str)=⟨(l++[c]).toArray⟩;congr 1;simp
theorem xI (l:List Nat) (c:Nat):eraS (sL l) c=sL (l.erase c):=rfl
theorem lK (c:Nat):∀l:List Nat,(eS c l).length<=l.length+1
 | []=>Gc _
 | a::l=>by
   unfold eS;split
   ·exact Gc _
   ·split
    ·exact Gg _
    ·have:=lK c l;rw [EA,EA];omega
theorem gc:∀l:List Nat,(sgN l).length<=l.length
 | []=>Gc _
 | a::l=>by have h1:=lK a (sgN l);have h2:=gc l;show (eS a (sgN l)).length<=_;rw [EA];omega
theorem jo (u f:Nat) (rest:List Nat):(bo u f rest).length<=rest.length+1:=by
 have:=gc rest;unfold bo;split
 ·show 1<=_;omega
 ·rw [EF];split
  ·show 1+_<=_;omega
  ·show 0+_<=_;omega
theorem CY {to te:TE}{σ:L2.St}{H:Hp}{Q:VK}{l:Addr}{xs:List V}(ho:Ev to σ H (.ref l)) (hl:H l=some (.lst xs)) (h:te σ H λ y H2=> ∃b xs zs,y=.ref b/\H2 l=some (.lst xs)/\H2 b=some (.lst zs)/\xs.length+zs.length<=sizeLine/\Q .non (upd H2 l (.lst (xs++zs)))):sO to te σ H Q:=ho _ ⟨⟨xs,hl⟩,h⟩
theorem t5 {K:Frag}{D:bZ}{H:Hp}{x0 x1 x3 x8:Option V}{u fn:Nat}{lq:Addr}{r rest:List Nat}{xs:List V}(hq:H lq=some (.lst xs)) (lx:xs.length<=1000000) (lr:r.length<=100) (le:rest.length<=50) (hb:qc rest)
  (k:∀(v:V) (H':Hp) (as:List Addr),as.length=(bo u fn rest).length->(∀(i c:Nat) (p:Addr),(bo u fn rest)[i]? =some c->as[i]? =some p->H' p=some (.tup [.str (sL (r++[c])),.str (sL (rest.erase c))]))->
   H' lq=some (.lst (xs++as.map V.ref))->SameBut lq H H'->D.nx [x0,x1,some (.int fn),x3,some (.str (one u)),some (.ref lq),some (.str (sL r)),some (.str (sL rest)),some v] H'):
  nA 8 (tE (dn (cK K .Eq (aR 4) (tC (.str "#")))) (λ σ H Q=>oM (aC (tC (.str "#")) bu) σ H λ v H'=>Q v H' 0) (nE jO (aC (aR 7) (aC (aR 2) bu))))
   (λ n=>sO (aR 5) (tComp (fj K (aR 8)) (bN 0) ga (kO (aC (jm (aR 1) (aR 0)) (aC (oK n (aR 2) (aR 0)) bu))) [none,some 6,some 7])) D [x0,x1,some (.int fn),x3,some (.str (one u)),some (.ref lq),some (.str (sL r)),some (.str (sL rest)),x8] H:=by
 have lz:(sL rest).length=rest.length:=by show rest.toArray.size=_;simp
 have la:(sL r).length=r.length:=by show r.toArray.size=_;simp
 have go:∀(n:Nat) (d:Addr) (H1:Hp) (vs:List V),ak H H1->H1 d=some (.lst vs)->vs.length=(bo u fn rest).length->(∀(i c:Nat),(bo u fn rest)[i]? =some c->∃v,vs[i]? =some v/\zk v c/\(c∈(sL rest).cps.toList->∃t,v=.tok ⟨#[c]⟩ t/\1<=t/\t<n))->
   sO (aR 5) (tComp (fj K (aR 8)) (bN 0) ga (kO (aC (jm (aR 1) (aR 0)) (aC (oK n (aR 2) (aR 0)) bu))) [none,some 6,some 7]) [x0,x1,some (.int fn),x3,some (.str (one u)),some (.ref lq),some (.str (sL r)),some (.str (sL rest)),some (.ref d)] H1
    (λ _ H2=>D.nx [x0,x1,some (.int fn),x3,some (.str (one u)),some (.ref lq),some (.str (sL r)),some (.str (sL rest)),some (.ref d)] H2):=λ n d H1 vs s1 e1 hl hv=>by
  have hcs:(bo u fn rest).length<=1000:=by have:=jo u fn rest;omega
  refine CY (ev_v rfl) (s1.get hq) ?_;refine uA (ev_v rfl) e1 hcs hl (by omega) (by omega) hv rfl λ q H2 ps hps htp s2 hq2=>?_;have s3:=s2.upd (o:=.lst (ps.map V.ref)) hq2;refine ⟨q,xs,ps.map V.ref,rfl,s3.get (s1.get hq),af,by rw [Eu,sizeLine_eq];omega,?_⟩;refine k _ _ ps hps (λ i c p hc hp=>?_) af ((s1.trans s3).but.self);have hpt:=htp i c p hc hp;have npl:p≠lq:=λ e=>by rw [e,s2.get (s1.get hq)] at hpt;cases hpt
  rw [ah npl,<-tO,<-xI];exact ((ak.refl H2).upd hq2) _ _ hpt
 have tst:Tv (dn (cK K .Eq (aR 4) (tC (.str "#")))) [x0,x1,some (.int fn),x3,some (.str (one u)),some (.ref lq),some (.str (sL r)),some (.str (sL rest)),x8] H (decide (one u=one 35)):=bD (gQ (ev_v rfl) io);unfold nA tE;refine tst _ ?_;unfold nE;have z35:(35:Nat)∉rest:=λ z=>absurd (hb _ z) (by decide);have z46:(46:Nat)∉rest:=λ z=>absurd (hb _ z) (by decide);have zl:(sL rest).cps.toList=rest:=by show rest.toArray.toList=rest;simp
 by_cases hu:u=35
 ·rw [decide_eq_true (by rw [hu]),if_pos rfl];have es:bo u fn rest=[35]:=by unfold bo;rw [if_pos hu]
  refine gp (ft io (dy ⟨by show 1<=sizeLine;decide,λ p hp=>?_⟩));refine go 0 p _ [.str (one 35)] ((ak.refl H).upd hp) af (by rw [es];rfl) λ i c hc=>?_;rw [es] at hc;have hi:i=0/\c=35:=by
   cases i with
   | zero=>exact ⟨rfl,by simpa using hc.symm⟩
   | succ i=>simp at hc
  obtain ⟨rfl,rfl⟩:=hi;exact ⟨.str (one 35),rfl,.inl rfl,λ hm=>absurd (zl▸hm) z35⟩
 ·rw [decide_eq_false (λ e=>hu (gm e)),if_neg Gz];have es:bo u fn rest=(if rest.length<fn then [46] else [])++sgN rest:=by unfold bo;rw [if_neg hu]
  refine ft (ev_v rfl) (ft (ev_v rfl) (dy ⟨sL rest,fn,rfl,by omega,λ q H' ps n pm so tl _ s e=>?_⟩));have ec:=kR pm so;rw [zl] at ec;have el:ps.length=(sgN rest).length:=by have:=congrArg List.length ec;simpa using this
  have es2:Cj (sL rest) fn ps=(if rest.length<fn then [V.str (one 46)] else [])++ps.map tv:=by
   unfold Cj;rw [lz]
   by_cases h:rest.length<fn
   ·rw [if_pos h,if_pos (by omega)]
   ·rw [if_neg h,if_neg (by omega)]
  have tk:∀(i c:Nat),(sgN rest)[i]? =some c->∃v,(ps.map tv)[i]? =some v/\zk v c/\(c∈(sL rest).cps.toList->∃t,v=.tok ⟨#[c]⟩ t/\1<=t/\t<n):=λ i c hc=>by
   have h1:(ps.map (·.1))[i]? =some (one c):=by rw [ec,EB,hc];rfl
   rw [EB] at h1;obtain ⟨p,hp,e1⟩:=GU.mp h1;have hm:=tl p (EX hp);have e2:tv p=.tok ⟨#[c]⟩ p.2:=by unfold tv;rw [e1]<;>rfl
   exact ⟨tv p,by rw [EB,hp];rfl,.inr ⟨p.2,e2⟩,λ _=>⟨p.2,e2,hm.1,hm.2⟩⟩
  rw [es2] at e;refine go n q H' _ s e ?_ λ i c hc=>?_
  ·rw [es,EF,EF,Eu,el];split<;>rfl
  ·rw [es] at hc
   by_cases h:rest.length<fn
   ·rw [if_pos h] at hc ⊢;cases i with
    | zero=>
      have:c=46:=by simpa using hc.symm
      subst this;exact ⟨.str (one 46),rfl,.inl rfl,λ hm=>absurd (zl▸hm) z46⟩
    | succ i=>exact tk i c (by simpa using hc)
   ·rw [if_neg h] at hc ⊢;exact tk i c (by simpa using hc)
end K28
namespace K28
open PySem L2 PyProof.Rows
def dD (H:Hp) (q:Addr) (ps:List (List Nat×List Nat)):Prop:= ∃as:List Addr,H q=some (.lst (as.map V.ref))/\as.length=ps.length/\∀(i:Nat) (p:List Nat×List Nat) (a:Addr),ps[i]? =some p->as[i]? =some a->H a=some (.tup [.str (sL p.1),.str (sL p.2)])
def nv (n:Nat) (ps:List (List Nat×List Nat)):Prop:= ∀p∈ps,p.1.length=n/\p.2.length<=3/\qc p.2
theorem nv.step {n u f:Nat}{ps:List (List Nat×List Nat)}(h:nv n ps):nv (n+1) (dO u f ps):=λ p hp=>by obtain ⟨q,hq,hp⟩:=List.mem_flatMap.mp hp;obtain ⟨c,_,rfl⟩:=EE.mp hp;obtain ⟨a,b,d⟩:=h q hq;refine ⟨by rw [EF,a];rfl,Ge FB b,gU d c⟩
theorem gF {n u f:Nat}:∀{ps:List (List Nat×List Nat)},nv n ps->(dO u f ps).length<=4*ps.length
 | [],_=>Gd _
 | p::ps,h=>by have ih:=gF (u:=u) (f:=f) (ps:=ps) λ q hq=>h q (Ez _ hq);have h1:=jo u f p.2;have h2:=(h p ED).2.1;show (List.flatMap _ (p::ps)).length<=_;rw [Fp,EF,Eu,EA];have ih':(List.flatMap (λ p=>(bo u f p.2).map λ c=>(p.1++[c],p.2.erase c)) ps).length<=4*ps.length:=ih;omega
theorem mh (u f:Nat) (ps:List (List Nat×List Nat)) (p:List Nat×List Nat):dO u f (ps++[p])=dO u f ps++(bo u f p.2).map λ c=>(p.1++[c],p.2.erase c):=by unfold dO;rw [List.flatMap_append,Fp,List.flatMap_nil,ET]
theorem dD.add {H H':Hp}{q:Addr}{ps:List (List Nat×List Nat)}{r rest cs:List Nat}{as bs:List Addr}(e:H q=some (.lst (as.map V.ref))) (hl:as.length=ps.length) (ht:∀(i:Nat) (p:List Nat×List Nat) (a:Addr),ps[i]? =some p->as[i]? =some a->H a=some (.tup [.str (sL p.1),.str (sL p.2)]))
  (sb:SameBut q H H') (e':H' q=some (.lst (as.map V.ref++bs.map V.ref))) (hb:bs.length=cs.length) (hn:∀(i c:Nat) (p:Addr),cs[i]? =some c->bs[i]? =some p->H' p=some (.tup [.str (sL (r++[c])),.str (sL (rest.erase c))])):
  dD H' q (ps++cs.map λ c=>(r++[c],rest.erase c)):=by
 refine ⟨as++bs,by rw [e',EM],by rw [EF,EF,Eu,hl,hb],λ i p a hp ha=>?_⟩
 by_cases c:i<ps.length
 ·rw [Fi c] at hp;rw [Fi (by omega)] at ha;have h1:=ht i p a hp ha;exact sb _ _ h1 λ z=>by rw [z,e] at h1;cases h1
 ·rw [Fv (by omega)] at hp ha;rw [EB] at hp;obtain ⟨d,hd,rfl⟩:=GU.mp hp;rw [hl] at ha;exact hn _ d a hd ha
theorem uo {K:Frag}{D:bZ}{H:Hp}{x0 x1 x6 x7 x8:Option V}{u fn n:Nat}{q lq:Addr}{ps:List (List Nat×List Nat)}(hp:dD H q ps) (hq:H lq=some (.lst [])) (hne:q≠lq) (hk:nv n ps) (hn:n<=8) (hl:ps.length<=100000)
  (k:∀(y6 y7 y8:Option V) (H':Hp),dD H' lq (dO u fn ps)->SameBut lq H H'->D.nx [x0,x1,some (.int fn),some (.ref q),some (.str (one u)),some (.ref lq),y6,y7,y8] H'):
  tFor (fj K (aR 3)) (ut K 2 (lM (bN 6) (lM (bN 7) yD))) (nA 8 (tE (dn (cK K .Eq (aR 4) (tC (.str "#")))) (λ σ H Q=>oM (aC (tC (.str "#")) bu) σ H λ v H'=>Q v H' 0) (nE jO (aC (aR 7) (aC (aR 2) bu))))
   (λ n=>sO (aR 5) (tComp (fj K (aR 8)) (bN 0) ga (kO (aC (jm (aR 1) (aR 0)) (aC (oK n (aR 2) (aR 0)) bu))) [none,some 6,some 7]))) D [x0,x1,some (.int fn),some (.ref q),some (.str (one u)),some (.ref lq),x6,x7,x8] H:=by
 obtain ⟨as,e,la,ht⟩:=hp;refine lO (λ v H'=>v=.ref q/\H=H') (λ Q hQ=>il (v:=.ref q) (ev_v rfl) (hQ _ _ ⟨rfl,rfl⟩)) ?_;rintro _ _ ⟨rfl,rfl⟩;refine ⟨q,as.map V.ref,rfl,aL.of e,λ j σ' H'=> ∃y6 y7 y8,σ'=[x0,x1,oJ fn,oR q,oT (one u),oR lq,y6,y7,y8]/\SameBut lq H H'/\dD H' lq (dO u fn (ps.take j)),⟨x6,x7,x8,rfl,(ak.refl H).but,[],hq,rfl,λ i p a h _=>by simp [dO] at h⟩,?_,?_,?_⟩
 ·rintro i σ' H' _ ⟨_,_,_,_,sb,_⟩;exact aL.of (sb _ _ e hne)
 ·rintro j x σ' H' hx ⟨y6,y7,y8,rfl,sb,bs,eb,lb,hb⟩;rw [EB] at hx;obtain ⟨a,ha,rfl⟩:=GU.mp hx;have hj:j<ps.length:=by have:=(EH.mp ha).1;omega
  have hpj:ps[j]? =some ps[j]:=Ex hj;have ta:=ht j ps[j] a hpj ha;have nal:a≠lq:=λ z=>by rw [z,hq] at ta;cases ta
  obtain ⟨b1,b2,b3⟩:=hk ps[j] (EZ hj);refine ⟨a,_,rfl,fF.of (sb _ _ ta nal),rfl,_,_,rfl,_,_,rfl,rfl,?_⟩;have lt:=gF (u:=u) (f:=fn) (ps:=ps.take j) (λ p hp=>hk p (List.mem_of_mem_take hp));have lt2:=FH j ps;refine t5 (r:=ps[j].1) (rest:=ps[j].2) eb (by rw [Eu];omega) (by omega) (by omega) b3 λ v H2 cs hcs hct hcl sb2=>?_;refine ⟨_,_,_,rfl,?_,?_⟩
  ·exact λ b o hb' hn'=>sb2 b o (sb b o hb' hn') hn'
  ·have et:ps.take (j+1)=ps.take j++[ps[j]]:=by rw [Fo,hpj];rfl
   rw [et,mh];exact dD.add eb lb hb sb2 hcl hcs hct
 ·rintro σ' H' ⟨y6,y7,y8,rfl,sb,pt⟩;rw [Eu,la,E7] at pt;exact k _ _ _ _ pt sb
end K28
namespace K28
open PySem L2 PyProof.Rows
def codeE (wi hi:Int) (hs:List Int):List Nat:=(gR wi hi hs).cps.toList
theorem bP (wi hi:Int) (hs:List Int):codeE wi hi hs=(List.range (wi*hi).toNat).map λ (s:Nat)=>if (s:Int)∈hs then 35 else 46:=by unfold codeE gR;simp
theorem jy (wi hi:Int) (hs:List Int):(rP wi hi hs).length=opn (codeE wi hi hs):=by
 unfold rP opn;rw [bP,Eu,List.filter_map,Eu];congr 2;funext s;show (!decide ((s:Int)∈hs))=((if (s:Int)∈hs then 35 else 46) != 35)
 by_cases h:(s:Int)∈hs
 ·rw [if_pos h,decide_eq_true h];rfl
 ·rw [if_neg h,decide_eq_false h];rfl
def plc (us z:List Nat):List (List Nat):=if z.length<=opn us then fm us (opn us) z else []
structure CPl (P:Program) (w:World) (K:Frag) (mg:Str->Option Value) (base:Heap) (cB:Addr):Prop where
 Board_squares:ny P w K mg base cB "squares" ["self"] 1 (qz K cB)
 empty_row:eW P w K mg base "empty_row" ["board"] 4 (nO K cB)
 next_signs:ze P w K mg base "next_signs" ["rest","free"] 1 jO
def Ch (K:Frag) (cB cG:Addr):Sp:=λ vs H Q _=> ∃(g b:Addr) (ks rs ts es:List V) (st:Str) (wi hi:Int) (hs:List Int) (z:List Nat),vs=[.ref g,.str (sL z)]/\kL cG H g b ks rs ts es st/\bJ K cB H b wi hi hs/\wi*hi<=8/\z.length<=3/\qc z/\
 ∀(q:Addr) (H':Hp),H q=none->H' q=some (.lst ((plc (codeE wi hi hs) z).map λ r=>V.str (sL r)))->ak H H'->Q (.ref q) H'
theorem qU {us:List Nat}{i c:Nat}(h:us[i]? =some c):opn (us.drop i)=(if c=35 then opn (us.drop (i+1)) else opn (us.drop (i+1))+1):=by
 have hi:=(EH.mp h).1;have e:us.drop i=c::us.drop (i+1):=by rw [Fy hi];rw [Ex hi] at h;rw [Option.some.inj h]
 rw [e,iG]
theorem sy {te:TE}{ta:TA}{σ:L2.St}{H:Hp}{R:List V->Hp->Prop}(P:V->Hp->Prop) (h:∀Q:VK,(∀v H',P v H'->Q v H')->te σ H Q) (q:∀v H',P v H'->ta σ H' (λ xs H2=>R (v::xs) H2)):aC te ta σ H R:=h _ q
theorem pY {r:List V->Hp->VK->Prop}{te:TE}{σ:L2.St}{H:Hp}{Q:VK}(h:te σ H λ v H1=>r [v] H1 Q):L2.cB r (aC te bu) σ H Q:=h
theorem n6 {C a:Addr}{m:Str}{sp:Sp}{to:TE}{σ:L2.St}{H:Hp}{Q:VK}(ho:Ev to σ H (.ref a)) (hn:oz C m H a) (q:sp [.ref a] H Q E0):oq C m sp to bu σ H Q:=ho _ ⟨hn,q⟩
theorem dD.same {H H':Hp}{q:Addr}{ps:List (List Nat×List Nat)}(h:dD H q ps) (s:ak H H'):dD H' q ps:=by obtain ⟨as,e,l,t⟩:=h;exact ⟨as,s _ _ e,l,λ i p a h1 h2=>s _ _ (t i p a h1 h2)⟩
theorem rQ {tl:TE}{g:TG}{tB:TS}{D:bZ}{σ:L2.St}{H:Hp}{z:Str}(htl:∀Q:VK,(∀H',ak H H'->Q (.str z) H')->tl σ H Q) (Pv:Nat->L2.St->Hp->Prop) (hp0:∀H',ak H H'->Pv 0 σ H')
  (hs:∀(i c:Nat) σ' H',z.cps.toList[i]? =some c->Pv i σ' H'->g (.str (one c)) σ' H' λ σ2 H2=>tB {D with nx:=Pv (i+1),ct:=Pv (i+1),bk:=D.nx} σ2 H2) (hd:∀σ' H',Pv z.length σ' H'->D.nx σ' H'):tFor (yv tl) g tB D σ H:=by
 refine htl _ λ H1 s1=>?_;refine ⟨λ i m σ' H'=>m=z.length - i/\i<=z.length/\Pv i σ' H',⟨_,rfl,Gd _,hp0 H1 s1⟩,?_⟩;rintro i m σ' H' ⟨rfl,hi,pv⟩
 by_cases hlt:i<z.length
 ·refine .inr ⟨hlt,Pv (i+1),λ σ2 H2 p2=>⟨z.length - (i+1),by omega,rfl,hlt,p2⟩,?_⟩;rintro x H2 ⟨rfl,c,hc,rfl⟩;exact hs i c σ' _ hc pv
 ·have e:i=z.length:=by omega
  subst e;exact .inl ⟨Gc _,hd σ' H' pv⟩
theorem Ca {t:TA}{σ:L2.St}{H:Hp}{Q:VK}(q:t σ H (λ vs H2=>vs.length<=sizeLine/\∀p,H2 p=none->Q (.ref p) (upd H2 p (.tup vs)))):kO t σ H Q:=q
section
variable {P:Program}{w:World}{K:Frag}{mg:Str->Option Value}{base:Heap}{aS aA aE aW:Addr}
theorem lv {f cB cG:Addr}{fd:FuncData}(F:bU K "placings" "placings" cb f fd) (T:Txt mg aS aA aE aW) (B:gX K cB) (G:Dt K cG) (C:CPl P w K mg base cB):bi P w K mg base dv 6 f fd ["game","material"] (Ch K cB cG):=by
 refine F.ok bc (λ vs H Q E h=>?_) (λ cdv A outer s H vs Q E hr h=>?_)
 ·obtain ⟨g,b,ks,rs,ts,es,st,wi,hi,hs,z,rfl,_⟩:=h;rfl
 ·obtain ⟨g,b,ks,rs,ts,es,st,wi,hi,hs,z,rfl,GA,O,m8,lz,bz,q⟩:=h;have hu:=cD hr;refine ⟨_,(ac (aD (i:=2) bc.nd rfl (Or.inl rfl) (kB (du K) aX T.len (aw (rk C.Board_squares hr (fV K (cv 0))) pa_nil)))
   (ac (bH (cC K hu (kB (du K) aX T.len (aw (cv 1) pa_nil)) (cv 2)) (aj (av (cT pa_nil))) aM)
   (ac (aD (i:=3) bc.nd rfl (Or.inl rfl) (cT (aw (xU (aw cA (aw (cv 1) pa_nil))) pa_nil)))
   (ac (df PassesOwn.never rfl (mF (aJ C.empty_row hr (aw (fV K (cv 0)) pa_nil))) (bS (i:=4) bc.nd rfl (Or.inl rfl)) (ac (aD (i:=5) bc.nd rfl (Or.inl rfl) (cT pa_nil))
   (ac (df PassesOwn.never rfl (qd K (cv 3)) (kgt K (n:=2) (gi (bS (i:=6) bc.nd rfl (Or.inr rfl)) (gi (bS (i:=7) bc.nd rfl (Or.inr rfl)) nZ))) (qL (i:=8) bc.nd rfl (Or.inl rfl) (pd (cC K hu (cv 4) (kg T.HOLE)) (xR (cT (aw (kg T.HOLE) pa_nil))) (qO C.next_signs hr (by decide) (aw (cv 7) (aw (cv 2) pa_nil)))) (λ n=>tU (cv 5) (qQ rfl (cg (N:=["sign","row","rest"]) (src:=[none,some 6,some 7]) (ae cb) ["game","material","free","parts","under","longer","row","rest","signs"]) (qd K (cv 8)) (λ _ _ _=>(ba (i:=0) ["sign","row","rest"])) (λ _ _ _=>bI) (λ _ _ _=>(qP (t4 (cv 1) (cv 0)) (tT (cv 2) (cv 0))))))))
   (ac (aD (i:=3) bc.nd rfl (Or.inl rfl) (cv 5))
   (aj (qN (i:=2) bc.nd rfl (Or.inl rfl) (gj (cC K hu (cv 4) (kg T.HOLE)) al al) rC))))))
   (aj (av (dz (cg (N:=["part"]) (src:=[none]) (ae cb) ["game","material","free","parts","under","longer","row","rest","signs"]) (qd K (cv 3)) (λ _ _ _=>(ba (i:=0) ["part"])) (λ _ _ _=>bI) (λ _ _ _=>(kx K (cv 0) al))))))))),?_⟩
  show bV _ _ _ [oR g,oT (sL z),none,none,none,none,none,none,none] H;have zl:(sL z).length=z.length:=by show z.toArray.size=_;simp
  generalize hus:codeE wi hi hs=us at q;have lus:us.length<=8:=by rw [<-hus,bP,Eu,EK];omega
  refine ca (λ v H'=>v=.int (opn us)/\ak H H') (λ Q k=>?_) ?_
  ·refine pY (n6 (ce (ev_v rfl) (GA.board G)) O.no ⟨b,wi,hi,hs,rfl,O,λ q1 H1 hq1 e1 s1=>⟨_,.inl (aL.of e1),?_⟩⟩);rw [Eu,jy,hus];exact k _ _ ⟨rfl,s1⟩
  rintro _ H1 ⟨rfl,s1⟩;refine cu (b:=decide ((opn us:Int)<z.length)) (bD (by
   have e1:Ev (L2.cB (ku K) (aC (aR 1) bu)) [some (.ref g),some (.str (sL z)),some (.int (opn us)),none,none,none,none,none,none] H1 (.int z.length):=λ Q q=>yX (v:=.str (sL z)) (ev_v rfl) (show ku K [.str (sL z)] H1 Q from ⟨by rw [sizeLine_eq];omega,by rw [zl];exact q⟩);exact xt e1 (ev_v rfl))) (λ h=>?_) (λ h=>?_)
  ·have h:=of_decide_eq_true h;refine gp (dy ⟨Gd _,λ p hp=>?_⟩);refine q p _ (s1.free hp) ?_ (s1.upd hp);rw [af];unfold plc;rw [if_neg (by omega)];rfl
  have h:=of_decide_eq_false h;have hzl:z.length<=opn us:=by omega
  refine ca (λ v H'=> ∃pq,v=.ref pq/\H1 pq=none/\ak H1 H'/\dD H' pq [([],z)]) (λ Q k=>?_) ?_
  ·have e0:(Str.ofString "":Str)=sL []:=by decide+kernel
   refine gp (sy (P:=λ v H'=> ∃a,v=.ref a/\H'=upd H1 a (.tup [.str (sL []),.str (sL z)])/\H1 a=none) (λ R r=>?_) ?_)
   ·refine Ca (ft (show Ev (tC (.str "")) _ _ (.str (sL [])) from e0▸au) (ft (ev_v rfl) (dy ⟨by show 2<=sizeLine;decide,λ a ha=>?_⟩)));exact r _ _ ⟨a,rfl,rfl,ha⟩
   ·rintro _ _ ⟨a,rfl,rfl,ha⟩;refine dy ⟨by show 1<=sizeLine;decide,λ p hp=>?_⟩;have sa:ak H1 (upd H1 a (.tup [.str (sL []),.str (sL z)])):=(ak.refl H1).upd ha;refine k _ _ ⟨p,rfl,sa.free hp,sa.upd hp,[a],af,rfl,λ i p' a' h1 h2=>?_⟩;have hi:i=0:=by have:=(EH.mp h1).1;simp only [EA,FE] at this;omega
    subst hi;obtain rfl:=Option.some.inj h1;obtain rfl:=Option.some.inj h2;rw [ah (ag af hp)];exact af
  rintro _ H2 ⟨pq,rfl,np,s2,pt⟩;have le:(gR wi hi hs).length=us.length:=by rw [<-hus];show _=(gR wi hi hs).cps.toList.length;rw [GO];rfl
  have O2:=O.same (s1.trans s2);have G2:=GA.same (s1.trans s2);refine b0 (λ σ' H'=> ∃q ps y4 y5 y6 y7 y8,σ'=[oR g,oT (sL z),oJ 0,oR q,y4,y5,y6,y7,y8]/\ak H H'/\dD H' q ps/\ps.length<=4 ^ 8/\i9 us (opn us) [([],z)]=ps) (λ KK hK=>?_) ?_
  ·refine rQ (z:=gR wi hi hs) (λ Q k=>?_) (λ i σ' H'=> ∃q ps y4 y5 y6 y7 y8,σ'=[oR g,oT (sL z),oJ (opn (us.drop i)),oR q,y4,y5,y6,y7,y8]/\ak H H'/\dD H' q ps/\nv i ps/\ps.length<=4 ^ i/\i9 us (opn us) [([],z)]=i9 (us.drop i) (opn (us.drop i)) ps) (λ H3 s3=>?_) (λ i c σ' H' hc=>?_) ?_
   ·exact sy (P:=λ v H'=>v=.ref b/\H'=H2) (λ R r=>(show Ev (yT K (aR 0) "board") _ H2 (.ref b) from ce (ev_v rfl) (G2.board G)) _ (r _ _ ⟨rfl,rfl⟩)) (by
     rintro _ _ ⟨rfl,rfl⟩;exact dy ⟨b,wi,hi,hs,rfl,O2,k⟩)
   ·exact ⟨pq,[([],z)],none,none,none,none,none,rfl,(s1.trans s2).trans s3,pt.same s3,λ p hp=>by rw [EL.mp hp];exact ⟨rfl,lz,bz⟩,Gc _,rfl⟩
   ·rintro ⟨q5,ps,y4,y5,y6,y7,y8,rfl,sH,pt,ok,lp,er⟩;have hc':us[i]? =some c:=by rw [<-hus];exact hc
    have hi8:i<8:=by have:=(EH.mp hc').1;omega
    have p4:(4:Nat) ^ i<=4 ^ 7:=Gr (by decide) (by omega);have p47:(4:Nat) ^ 7=16384:=by decide
    show bV _ _ _ [oR g,oT (sL z),oJ (opn (us.drop i)),oR q5,oT (one c),y5,y6,y7,y8] H';refine ca (λ v H3=> ∃lq,v=.ref lq/\H' lq=none/\H3=upd H' lq (.lst [])) (λ Q k=>gp (dy ⟨Gd _,λ p hp=>k _ _ ⟨p,rfl,hp,rfl⟩⟩)) ?_;rintro _ _ ⟨lq,rfl,nl,rfl⟩;have sU:ak H' (upd H' lq (.lst [])):=(ak.refl H').upd nl;have hne:q5≠lq:=by obtain ⟨as,e,_⟩:=pt;exact ag e nl
    refine b0 (λ σ4 H4=> ∃a6 a7 a8,σ4=[some (.ref g),some (.str (sL z)),some (.int (opn (us.drop i))),some (.ref q5),some (.str (one c)),some (.ref lq),a6,a7,a8]/\dD H4 lq (dO c (opn (us.drop i)) ps)/\SameBut lq (upd H' lq (.lst [])) H4) (λ KK hK2=>uo (pt.same sU) af hne ok (by omega) (by omega) (λ a6 a7 a8 H4 p4 sb=>hK2 _ _ ⟨a6,a7,a8,rfl,p4,sb⟩)) ?_;rintro σ4 H4 ⟨a6,a7,a8,rfl,pt4,sb⟩;have s4:ak H' H4:=λ b o e=>sb b o (sU b o e) (ag e nl);refine bM (ev_v rfl) ?_;have tst:Tv (dn (cK K .Eq (aR 4) (tC (.str "#")))) [some (.ref g),some (.str (sL z)),some (.int (opn (us.drop i))),some (.ref lq),some (.str (one c)),some (.ref lq),a6,a7,a8] H4 (decide (one c=one 35)):=bD (gQ (ev_v rfl) io);have od:=qU hc';have ed:us.drop i=c::us.drop (i+1):=by have hlt:=(EH.mp hc').1;rw [Fy hlt];rw [Ex hlt] at hc';rw [Option.some.inj hc']
    have lp':=gF (u:=c) (f:=opn (us.drop i)) ok;have fin:∀fz:Int,fz=opn (us.drop (i+1))->nf c (opn (us.drop i))=opn (us.drop (i+1))->∃q ps y4 y5 y6 y7 y8,[some (.ref g),some (.str (sL z)),some (.int fz),some (.ref lq),some (.str (one c)),some (.ref lq),a6,a7,a8]=[some (.ref g),some (.str (sL z)),some (.int (opn (us.drop (i+1)))),some (.ref q),y4,y5,y6,y7,y8]/\ak H H4/\dD H4 q ps/\nv (i+1) ps/\ps.length<=4 ^ (i+1)/\i9 us (opn us) [([],z)]=i9 (us.drop (i+1)) (opn (us.drop (i+1))) ps:=λ fz e1 e2=>by
     refine ⟨lq,_,_,_,_,_,_,by rw [e1],sH.trans s4,pt4,ok.step,by rw [Nat.pow_succ];omega,?_⟩;rw [er];have:∀f,i9 (us.drop i) f ps=i9 (us.drop (i+1)) (nf c f) (dO c f ps):=λ f=>by rw [ed];rfl
     rw [this,e2]
    show xF 2 _ _ _ [some (.ref g),some (.str (sL z)),some (.int (opn (us.drop i))),some (.ref lq),some (.str (one c)),some (.ref lq),a6,a7,a8] H4;refine ⟨.int (opn (us.drop i)),rfl,tst _ ?_⟩
    by_cases hu35:c=35
    ·rw [decide_eq_true (by rw [hu35]),if_pos rfl];rw [if_pos hu35] at od;exact ⟨_,0,rfl,rfl,fin _ (by show ((opn (us.drop i):Nat):Int) - 0=_;omega) (by unfold nf;rw [if_pos hu35];exact od)⟩
    ·rw [decide_eq_false (λ e=>hu35 (gm e)),if_neg Gz];rw [if_neg hu35] at od;exact ⟨_,1,rfl,rfl,fin _ (by show ((opn (us.drop i):Nat):Int) - 1=_;omega) (by unfold nf;rw [if_neg hu35];omega)⟩
   ·rintro σ' H' ⟨q5,ps,y4,y5,y6,y7,y8,rfl,sH,pt,ok,lp,er⟩;rw [le,List.drop_length] at er ⊢;rw [le] at lp;exact hK _ _ ⟨q5,ps,y4,y5,y6,y7,y8,rfl,sH,pt,Ge lp (Gr (by decide) lus),er⟩
  ·rintro σ' H' ⟨q5,ps,y4,y5,y6,y7,y8,rfl,sH,⟨as,e,la,ht⟩,lp,er⟩;have p48:(4:Nat) ^ 8=65536:=by decide
   have hp:∀(j:Nat) a,as[j]? =some a->∃p,ps[j]? =some p/\H' a=some (.tup [.str (sL p.1),.str (sL p.2)]):=λ j a ha=>by
    have hj:=(EH.mp ha).1;have hj':j<ps.length:=by omega
    exact ⟨ps[j],Ex hj',ht j _ a (Ex hj') ha⟩
   refine eI (d:=q5) (xs:=as.map V.ref) (rest:=[]) (ev_v rfl) (aL.of e) (by rw [Eu,sizeLine_eq];omega) rfl (λ _=>true) (λ x=>match x with | .ref a=>(match H' a with | some (.tup (v::_))=>v | _=>.non) | _=>.non) (λ x hx=>cL) (λ x hx _=>?_) (λ d hd=>?_)
   ·obtain ⟨a,ha,rfl⟩:=EE.mp hx;obtain ⟨j,hj⟩:=FW.mp ha;obtain ⟨p,_,h⟩:=hp j a hj;show Ev _ _ _ (match H' a with | some (.tup (v::_))=>v | _=>V.non)
    rw [h];exact di (ev_v rfl) au (.inr (fF.of h)) rfl
   ·refine q d _ (sH.free hd) ?_ (sH.upd hd);rw [af];congr 2;have ef:plc us z=ps.map (·.1):=by have h1:=js us (opn us) [([],z)];rw [er] at h1;unfold plc;rw [if_pos hzl,h1];simp
    rw [ef,EU.mpr (λ _ _=>rfl),EC,EC];apply Fc;intro j;rw [EB,EB];cases ha:as[j]? with
    | none=>
      have:ps[j]? =none:=by have:=List.getElem?_eq_none_iff.mp ha;exact E1 (by omega)
      rw [this];rfl
    | some a=>
      obtain ⟨p,h1,h⟩:=hp j a ha;rw [h1];show some (match H' a with | some (.tup (v::_))=>v | _=>V.non)=some (V.str (sL p.1))
      rw [h]
end
end K28
namespace K28
open PySem L2 PyProof.Rows
def ar (m:Int):Nat->Int
 | 0=>1
 | n+1=>ar m n*(m - n) / (n+1)
def qu:Sp:=λ vs H Q _=> ∃(m:Int) (k:Nat),vs=[.int m,.int k]/\k<=100/\-1000<=m/\m<=1000/\Q (.int (ar m k)) H
section
variable {P:Program}{w:World}{K:Frag}{mg:Str->Option Value}{base:Heap}{aS aA aE aW:Addr}
theorem gn {f:Addr}{fd:FuncData}(F:bU K "ways_to_choose" "ways_to_choose" bA f fd) (T:Txt mg aS aA aE aW):bi P w K mg base dv 1 f fd ["many","chosen"] qu:=by
 refine F.ok bL (λ vs H Q E h=>?_) (λ cdv A outer s H vs Q E hr h=>?_)
 ·obtain ⟨m,k,rfl,_⟩:=h;rfl
 ·obtain ⟨m,k,rfl,hk,m1,m2,q⟩:=h;have hu:=cD hr;refine ⟨_,(ac (aD (i:=2) bL.nd rfl (Or.inl rfl) al)
   (ac (df PassesOwn.never rfl (uf T.range (aw (cv 1) pa_nil)) (bS (i:=3) bL.nd rfl (Or.inl rfl)) (aj (aD (i:=2) bL.nd rfl (Or.inl rfl) (ao (ao (cv 2) (ao (cv 0) (cv 3))) (ao (cv 3) al)))))
   (aj (av (cv 2))))),?_⟩
  show bV _ _ _ [oJ m,oJ k,none,none] H;refine bM au ?_;refine b0 (λ σ' H'=> ∃y,σ'=[oJ m,oJ k,oJ (ar m k),y]/\H'=H) (λ KK hK=>?_) ?_
  ·refine dY k (λ Q q=>il (v:=.int k) (ev_v rfl) q) (by omega) (by omega) (λ i σ' H'=> ∃y,σ'=[oJ m,oJ k,oJ (ar m i),y]/\H'=H) ⟨none,rfl,rfl⟩ ?_ ?_
   ·rintro i _ H0 hi ⟨y,rfl,e0⟩;subst e0;show oN _ (bN 2) _ [some (.int m),some (.int k),some (.int (ar m i)),some (.int (0+i))] _;have e:Ev (ia .FloorDiv (ia .Mult (aR 2) (ia .Sub (aR 0) (aR 3))) (ia .Add (aR 3) (tC (.int 1)))) [some (.int m),some (.int k),some (.int (ar m i)),some (.int (0+i))] H0 (.int (ar m i*(m - (0+i)) / (0+i+1))):=
     dJ (cJ (ev_v rfl) (fo (ev_v rfl) (ev_v rfl)) (.inr ⟨by omega,by omega⟩)) (dL (ev_v rfl) au) ⟨by omega,by omega⟩
    refine e _ ?_;refine ⟨some (.int (0+i)),?_,rfl⟩;show [some (V.int m),some (V.int k),some (V.int (ar m i*(m - (0+i)) / (0+i+1))),some (V.int (0+i))]=[some (V.int m),some (V.int k),some (V.int (ar m i*(m - i) / (i+1))),some (V.int (0+i))];simp only [Gv]
   ·rintro _ _ ⟨y,rfl,rfl⟩;exact hK _ _ ⟨y,by rw [Gu],rfl⟩
  ·rintro _ _ ⟨y,rfl,rfl⟩;exact aK (ev_v rfl) q
end
end K28
namespace K28
open PySem L2 PyProof.Rows
def aF (z:List Nat):List Nat->Int->Int->Int
 | [],_,a=>a
 | c::cs,f,a=>aF z cs (f - z.count c) (a*ar f (z.count c))
theorem iM (z:List Nat):∀(cs ds:List Nat) (f a:Int),aF z (cs++ds) f a=aF z ds (f - (cs.map λ c=>(z.count c:Int)).sum) (aF z cs f a)
 | [],ds,f,a=>by simp [aF]
 | c::cs,ds,f,a=>by show aF z (cs++ds) (f - z.count c) (a*ar f (z.count c))=_;rw [iM z cs ds,EJ,E8];show aF z ds (f - z.count c - _) (aF z cs (f - z.count c) (a*ar f (z.count c)))=aF z ds (f - (z.count c+_)) (aF z cs (f - z.count c) (a*ar f (z.count c)));rw [Gx]
theorem xp {K:Frag}{P:Program}{w:World}{te:TE}{g:TG}{tb:TS}{D:bZ}{σ:L2.St}{H:Hp}{z:List Nat}(hx:Ev te σ H (.str (sL z))) (hz:z.length<=50)
  (hkeep:∀(q:Addr) (H0:Hp),ak H H0->H0 q=some (.lst ((sgN z).map λ c=>V.str (one c)))->∃Pw:Nat->L2.St->Hp->Prop,Pw 0 σ H0/\(∀i σ' H',Pw i σ' H'->H' q=some (.lst ((sgN z).map λ c=>V.str (one c))))/\
   (∀(i c:Nat) σ' H',(sgN z)[i]? =some c->Pw i σ' H'->g (.str (one c)) σ' H' λ σ2 H2=>tb {D with nx:=Pw (i+1),ct:=Pw (i+1),bk:=D.nx} σ2 H2)/\(∀σ' H',Pw (sgN z).length σ' H'->D.nx σ' H')):
  tFor (fj K (L2.cB (mj P w) (aC (L2.cB (qG P w) (aC te bu)) bu))) g tb D σ H:=by
 have zl:(sL z).cps.toList=z:=by show z.toArray.toList=z;simp
 have zn:(sL z).length=z.length:=by show z.toArray.size=_;simp
 have zn':(sL z).cps.size=z.length:=zn;refine lO (λ v H'=> ∃q,v=.ref q/\ak H H'/\H' q=some (.lst ((sgN z).map λ c=>V.str (one c)))) (λ Q k=>?_) ?_
 ·refine pY (pY (il (v:=.str (sL z)) hx ⟨sL z,rfl,by omega,λ p hp=>⟨p,_,rfl,af,ie _ _,by have:=cM (cE (sL z)) (sL z).cps.size;omega,λ ss r pm so hr=>?_⟩⟩));have ec:=kR pm so;rw [zl] at ec;subst ec;have s1:ak H _:=(ak.refl H).upd (o:=HO.ext λ h=>eN (lh P w) h p (λ y=>decide (y∈aB (cE (sL z)) (sL z).cps.size)) (aB (cE (sL z)) (sL z).cps.size).length) hp;refine k _ _ ⟨r,rfl,s1.upd hr,?_⟩;rw [af,EC];rfl
 ·rintro _ H0 ⟨q,rfl,s0,e0⟩;obtain ⟨Pw,a,b,c,d⟩:=hkeep q H0 s0 e0;refine ⟨q,_,rfl,aL.of e0,Pw,a,λ i σ' H' _ h=>aL.of (b i σ' H' h),λ i x σ' H' hx' h=>?_,λ σ' H' h=>d σ' H' (by rw [Eu] at h;exact h)⟩;rw [EB] at hx';obtain ⟨y,hy,rfl⟩:=GU.mp hx';exact c i y σ' H' hy h
end K28
namespace K28
open PySem L2 PyProof.Rows
structure CMy (P:Program) (w:World) (K:Frag) (mg:Str->Option Value) (base:Heap) (cB:Addr):Prop where
 Board_squares:ny P w K mg base cB "squares" ["self"] 1 (qz K cB)
 ways_to_choose:eW P w K mg base "ways_to_choose" ["many","chosen"] 1 qu
def qw (K:Frag) (cB cG:Addr):Sp:=λ vs H Q _=> ∃(g b:Addr) (ks rs ts es:List V) (st:Str) (wi hi:Int) (hs:List Int) (z:List Nat),vs=[.ref g,.str (sL z)]/\kL cG H g b ks rs ts es st/\bJ K cB H b wi hi hs/\wi*hi<=8/\z.length<=3/\
 ∀H',ak H H'->Q (.int (aF z (sgN z) (opn (codeE wi hi hs)) 1)) H'
theorem iF (us:List Nat):opn us<=us.length:=Fd _ _
theorem xy {f:Int}{k:Nat}(h1: -9<=f) (h2:f<=8) (hk:k<=3): -1000<=ar f k/\ar f k<=1000:=by
 have h:∀(n:Fin 18) (k:Fin 4), -1000<=ar ((n.val:Int) - 9) k.val/\ar ((n.val:Int) - 9) k.val<=1000:=by decide
 have:=h ⟨(f+9).toNat,by omega⟩ ⟨k,by omega⟩;have e:((f+9).toNat:Int) - 9=f:=by omega
 simp only [e] at this;exact this
section
variable {P:Program}{w:World}{K:Frag}{mg:Str->Option Value}{base:Heap}{aS aA aE aW:Addr}
theorem gK {f cB cG:Addr}{fd:FuncData}(F:bU K "many_placings" "many_placings" bE f fd) (T:Txt mg aS aA aE aW) (B:gX K cB) (G:Dt K cG) (C:CMy P w K mg base cB):bi P w K mg base dv 2 f fd ["game","material"] (qw K cB cG):=by
 refine F.ok aU (λ vs H Q E h=>?_) (λ cdv A outer s H vs Q E hr h=>?_)
 ·obtain ⟨g,b,ks,rs,ts,es,st,wi,hi,hs,z,rfl,_⟩:=h;rfl
 ·obtain ⟨g,b,ks,rs,ts,es,st,wi,hi,hs,z,rfl,GA,O,m8,lz,q⟩:=h;have hu:=cD hr;refine ⟨_,(ac (aD (i:=2) aU.nd rfl (Or.inl rfl) (kB (du K) aX T.len (aw (rk C.Board_squares hr (fV K (cv 0))) pa_nil)))
   (ac (aD (i:=3) aU.nd rfl (Or.inl rfl) al)
   (ac (df PassesOwn.never rfl (qd K (kB (rj P w hr) c7 T.sorted (aw (rp (xk P w hr) gT T.set (aw (cv 1) pa_nil)) pa_nil))) (bS (i:=4) aU.nd rfl (Or.inl rfl)) (ac (aD (i:=5) aU.nd rfl (Or.inl rfl) (Dy PySem.F.slot_str_count PySem.F.type_str_count yh (cv 1) (aw (cv 4) pa_nil)))
   (ac (aD (i:=3) aU.nd rfl (Or.inl rfl) (ao (cv 3) (aJ C.ways_to_choose hr (aw (cv 2) (aw (cv 5) pa_nil)))))
   (aj (qN (i:=2) aU.nd rfl (Or.inl rfl) (cv 5) rC)))))
   (aj (av (cv 3)))))),?_⟩
  show bV _ _ _ [oR g,oT (sL z),none,none,none,none] H;have zl:(sL z).cps.toList=z:=by show z.toArray.toList=z;simp
  generalize hus:codeE wi hi hs=us at q;have lus:us.length<=8:=by rw [<-hus,bP,Eu,EK];omega
  have lo:=iF us;refine ca (λ v H'=>v=.int (opn us)/\ak H H') (λ Q k=>?_) ?_
  ·refine pY (n6 (ce (ev_v rfl) (GA.board G)) O.no ⟨b,wi,hi,hs,rfl,O,λ q1 H1 hq1 e1 s1=>⟨_,.inl (aL.of e1),?_⟩⟩);rw [Eu,jy,hus];exact k _ _ ⟨rfl,s1⟩
  rintro _ H1 ⟨rfl,s1⟩;refine bM au ?_;refine b0 (λ σ' H'=> ∃y2 y4 y5,σ'=[oR g,oT (sL z),y2,oJ (aF z (sgN z) (opn us) 1),y4,y5]/\ak H H') (λ KK hK=>?_) ?_
  ·refine xp (z:=z) (ev_v rfl) (by omega) λ q0 H0 s0 e0=>⟨λ i σ' H'=> ∃y4 y5,σ'=[oR g,oT (sL z),oJ (opn us - (((sgN z).take i).map λ c=>(z.count c:Int)).sum),oJ (aF z ((sgN z).take i) (opn us) 1),y4,y5]/\H'=H0,⟨none,none,by simp [aF],rfl⟩,?_,?_,?_⟩
   ·rintro i _ _ ⟨_,_,_,rfl⟩;exact e0
   ·rintro i c _ H2 hc ⟨y4,y5,rfl,eH⟩;subst eH;have hi:=(EH.mp hc).1;have hsl:=gc z;have et:(sgN z).take (i+1)=(sgN z).take i++[c]:=by rw [Fo,hc];rfl
    have cl:z.count c<=z.length:=Fs;have sb:∀l:List Nat,0<=(l.map λ c=>(z.count c:Int)).sum/\(l.map λ c=>(z.count c:Int)).sum<=3*l.length:=λ l=>by
     induction l with
     | nil=>simp
     | cons a l ih=>
       have:z.count a<=z.length:=Fs;rw [EJ,E8,EA];omega
    have sb2:=sb ((sgN z).take i);have lt:=FH i (sgN z);generalize hS:(((sgN z).take i).map λ c=>(z.count c:Int)).sum=S at sb2 ⊢;show bV _ _ _ [oR g,oT (sL z),oJ (opn us - S),oJ (aF z ((sgN z).take i) (opn us) 1),oT (one c),y5] H2;refine bM (v:=.int (z.count c)) (λ Q q=>?_) ?_
    ·refine (ev_v rfl:Ev (aR 1) _ H2 (.str (sL z))) _ (ft (ev_v rfl) (dy ⟨sL z,c,rfl,rfl,?_⟩));rw [zl];exact q
    refine bM (v:=.int (aF z ((sgN z).take i) (opn us) 1*ar (opn us - S) (z.count c))) ?_ ?_
    ·refine cJ (ev_v rfl) (aG (aa (ev_v rfl) (aa (ev_v rfl) ap)) (λ Q q=>⟨_,z.count c,rfl,by omega,by omega,by omega,q⟩)) ?_;have wb:=xy (f:=opn us - S) (k:=z.count c) (by omega) (by omega) (by omega);exact .inr ⟨by omega,by omega⟩
    show xF 2 _ _ _ [some (.ref g),some (.str (sL z)),some (.int (opn us - S)),some (.int (aF z ((sgN z).take i) (opn us) 1*ar (opn us - S) (z.count c))),some (.str (one c)),some (.int (z.count c))] H2;refine ⟨.int (opn us - S),rfl,il (v:=.int (z.count c)) (ev_v rfl) ⟨_,_,rfl,rfl,some (.str (one c)),some (.int (z.count c)),?_,rfl⟩⟩;rw [et,EM,FG,hS,iM];show [some (V.ref g),some (V.str (sL z)),some (V.int (opn us - S - z.count c)),_,_,_]=[some (V.ref g),some (V.str (sL z)),some (V.int (opn us - (S+(z.count c+0)))),_,_,_];rw [hS,Int.add_zero,Gx];rfl
   ·rintro _ H2 ⟨y4,y5,rfl,eH⟩;subst eH;rw [E7];exact hK _ _ ⟨_,_,_,rfl,s1.trans s0⟩
  ·rintro _ H2 ⟨y2,y4,y5,rfl,s2⟩;exact aK (ev_v rfl) (q _ s2)
end
end K28
namespace K28
open L2
theorem yN {x f:Nat}(h:1<=f):dk f [x]=f:=by obtain ⟨g,rfl⟩:∃g,f=g+1:=⟨f - 1,by omega⟩;exact c1 g
theorem lE {z:List Nat}{f:Nat}(hz:z.Pairwise (·<=·)) (l3:z.length<=3) (h8:f<=8):((if z.length<=f then dk f z else 0:Nat):Int)=aF z (sgN z) f 1:=by
 match z,hz,l3 with
 | [],_,_=>simp [yO,sgN,aF]
 | [x],_,_=>
   have h:∀f:Fin 9,((if 1<=f.val then f.val else 0:Nat):Int)=1*ar f.val 1:=by decide
   have:=h ⟨f,by omega⟩;have e:aF [x] (sgN [x]) f 1=1*ar f 1:=by simp [Cn,aF]
   rw [e,<-this]
   by_cases hf:1<=f
   ·simp [hf,yN hf]
   ·simp [hf]
 | [x,y],hz,_=>
   have hxy:x<=y:=by simpa using hz
   rcases Gn hxy with hlt | rfl
   ·have h:∀f:Fin 9,((if 2<=f.val then tH (f.val - 2) else 0:Nat):Int)=1*ar f.val 1*ar (f.val - 1) 1:=by decide
    have:=h ⟨f,by omega⟩;have n1:x≠y:=Gb hlt;have e:aF [x,y] (sgN [x,y]) f 1=1*ar f 1*ar (f - 1) 1:=by simp [qD hlt,aF,EI,n1,n1.symm]
    rw [e,<-this]
    by_cases hf:2<=f
    ·obtain ⟨g,rfl⟩:∃g,f=g+2:=⟨f - 2,by omega⟩;simp [qe hlt g]
    ·simp [hf]
   ·have h:∀f:Fin 9,((if 2<=f.val then t2 (f.val - 2) else 0:Nat):Int)=1*ar f.val 2:=by decide
    have:=h ⟨f,by omega⟩;have e:aF [x,x] (sgN [x,x]) f 1=1*ar f 2:=by simp [Cm,aF,EI]
    rw [e,<-this]
    by_cases hf:2<=f
    ·obtain ⟨g,rfl⟩:∃g,f=g+2:=⟨f - 2,by omega⟩;simp [c2 g]
    ·simp [hf]
 | [x,y,w],hz,_=>
   have hxy:x<=y:=by simp at hz;omega
   have hyw:y<=w:=by simp at hz;omega
   rcases Gn hxy with h1 | rfl
   ·rcases Gn hyw with h2 | rfl
    ·have h:∀f:Fin 9,((if 3<=f.val then qq (f.val - 3) else 0:Nat):Int)=1*ar f.val 1*ar (f.val - 1) 1*ar (f.val - 1 - 1) 1:=by decide
     have:=h ⟨f,by omega⟩;have n1:x≠y:=Gb h1;have n2:y≠w:=Gb h2;have n3:x≠w:=Gb (Gh h1 h2);have e:aF [x,y,w] (sgN [x,y,w]) f 1=1*ar f 1*ar (f - 1) 1*ar (f - 1 - 1) 1:=by simp [li h1 h2,aF,EI,n1,n1.symm,n2,n2.symm,n3,n3.symm]
     rw [e,<-this]
     by_cases hf:3<=f
     ·obtain ⟨g,rfl⟩:∃g,f=g+3:=⟨f - 3,by omega⟩;simp [Di h1 h2 g]
     ·simp [hf]
    ·have h:∀f:Fin 9,((if 3<=f.val then tG (f.val - 3) else 0:Nat):Int)=1*ar f.val 1*ar (f.val - 1) 2:=by decide
     have:=h ⟨f,by omega⟩;have n1:x≠y:=Gb h1;have e:aF [x,y,y] (sgN [x,y,y]) f 1=1*ar f 1*ar (f - 1) 2:=by simp [qC h1,aF,EI,n1,n1.symm]
     rw [e,<-this]
     by_cases hf:3<=f
     ·obtain ⟨g,rfl⟩:∃g,f=g+3:=⟨f - 3,by omega⟩;simp [c12 h1 g]
     ·simp [hf]
   ·rcases Gn hyw with h2 | rfl
    ·have h:∀f:Fin 9,((if 3<=f.val then tG (f.val - 3) else 0:Nat):Int)=1*ar f.val 2*ar (f.val - 2) 1:=by decide
     have:=h ⟨f,by omega⟩;have n1:x≠w:=Gb h2;have e:aF [x,x,w] (sgN [x,x,w]) f 1=1*ar f 2*ar (f - 2) 1:=by simp [qB h2,aF,EI,n1,n1.symm]
     rw [e,<-this]
     by_cases hf:3<=f
     ·obtain ⟨g,rfl⟩:∃g,f=g+3:=⟨f - 3,by omega⟩;simp [c21 h2 g]
     ·simp [hf]
    ·have h:∀f:Fin 9,((if 3<=f.val then t3 (f.val - 3) else 0:Nat):Int)=1*ar f.val 3:=by decide
     have:=h ⟨f,by omega⟩;have e:aF [x,x,x] (sgN [x,x,x]) f 1=1*ar f 3:=by simp [Ck,aF,EI]
     rw [e,<-this]
     by_cases hf:3<=f
     ·obtain ⟨g,rfl⟩:∃g,f=g+3:=⟨f - 3,by omega⟩;simp [c3 g]
     ·simp [hf]
 | _::_::_::_::_,_,l3=>simp only [EA] at l3;omega
theorem q8 {us z:List Nat}(hz:z.Pairwise (·<=·)) (hb:qc z) (l3:z.length<=3) (h8:opn us<=8):((plc us z).length:Int)=aF z (sgN z) (opn us) 1:=by
 rw [<-lE hz l3 h8];unfold plc;split
 ·rw [gq us (opn us) z rfl hb]
 ·rfl
end K28
namespace K28
open PySem L2
def qx:Sp:=λ vs H Q _=> ∃(c n:Int),vs=[.int c,.int n]/\1<=n/\n<=3/\∀(q:Addr) (ks:List Nat) (H':Hp),gz H' q ks->H q=none->ak H H'->Q (.ref q) H'
section
variable {P:Program}{w:World}{K:Frag}{mg:Str->Option Value}{base:Heap}{aS aA aE aW:Addr}
theorem jd {f:Addr}{fd:FuncData}(F:bU K "_law_kinds" "_law_kinds" bR f fd) (T:Txt mg aS aA aE aW):bi P w K mg base dv 1 f fd ["_law_cell","_law_many"] qx:=by
 refine F.ok dG (λ vs H Q E h=>?_) (λ cdv A outer s H vs Q E hr h=>?_)
 ·obtain ⟨c,n,rfl,_⟩:=h;rfl
 ·obtain ⟨c,n,rfl,n1,n3,q⟩:=h;have hu:=cD hr;refine ⟨_,(ac (aD (i:=2) dG.nd rfl (Or.inr rfl) cA)
   (ac (aD (i:=3) dG.nd rfl (Or.inr rfl) (kx K (cT (pp rfl)) (ao (ao (cv 0) al) al)))
   (aj (av (dz (cg (N:=["_law_k","_law_letters","_law_cell","_law_step"]) (src:=[none,some 2,some 0,some 3]) (ae bR) ["_law_cell","_law_many","_law_letters","_law_step"]) (uf T.range (aw (cv 1) pa_nil)) (λ _ _ _=>(ba (i:=0) ["_law_k","_law_letters","_law_cell","_law_step"])) (λ _ _ _=>bI) (λ _ _ _=>(kx K (cv 1) (ao (ao (cv 2) (ao (cv 0) (cv 3))) al)))))))),?_⟩
  show bV _ _ _ [oJ c,oJ n,none,none] H;refine bM au ?_;refine ca (λ v H'=> ∃st:Int,v=.int st/\st∈([1,3,5,7,9,11,15]:List Int)/\ak H H') (λ Q q=>?_) ?_
  ·obtain ⟨n,e,hn⟩:=Ct (ns:=[1,3,5,7,9,11,15]) (i:=c / 26 % 7) (by omega) (by show _<(7:Int);omega);exact xi Dk (by decide) (λ H'=>(dI (dJ (ev_v rfl) au ⟨by decide,by decide⟩) au (by decide))) e (λ H' s=>q _ _ ⟨n,rfl,hn,s⟩)
  rintro _ H1 ⟨st,rfl,hst,s1⟩;show dt _ _ [oJ c,oJ n,oT ("abcdefghijklmnopqrstuvwxyz"),oJ st] H1;refine iV (n:=n) (rest:=[oT ("abcdefghijklmnopqrstuvwxyz"),oJ c,oJ st]) (aa (ev_v rfl) ap) (by omega) (by rw [sizeLine_eq];omega) (by omega) rfl (λ _=>true)
   (λ x=>match x with | .int i=>c5 (97+((c+i*st) % 26).toNat) | _=>.non) (λ i hi=>cL) (λ i hi _=>?_) (λ d hd=>?_)
  ·have hlt:0<=0+(i:Int)/\0+(i:Int)<3:=by omega
   exact rZ (ev_v rfl) (dI (dL (ev_v rfl) (cJ (ev_v rfl) (ev_v rfl) (.inl ⟨by omega,by omega⟩))) au (by decide)) (by decide) (za (by omega) (by omega))
  ·refine q d ((List.range n.toNat).map λ (i:Nat)=>97+((c+(0+(i:Int))*st) % 26).toNat) _ ⟨?_,?_,?_,?_,?_⟩ (s1.free hd) (s1.upd hd)
   ·rw [af,EU.mpr (λ _ _=>rfl),EC,EC];rfl
   ·intro x hx;obtain ⟨i,_,rfl⟩:=EE.mp hx
    constructor<;>omega
   ·rw [Eu,EK];omega
   ·rw [Eu,EK];omega
   ·rw [Fq,Ff,Fx];intro x y hx hy hxy e;rw [EK] at hx hy;rw [F0,F0] at e;simp only [Ew,E5,or_false] at hst;have ex:(c+(0+(x:Int))*st) % 26=(c+(0+(y:Int))*st) % 26:=by omega
    rcases hst with rfl | rfl | rfl | rfl | rfl | rfl | rfl
    all_goals omega
end
end K28
namespace K28
open PySem L2
def LetA (c:Nat):Prop:=(65<=c/\c<=90)\/(97<=c/\c<=122)
def qv:Sp:=λ vs H Q _=> ∃(c n:Int) (d:Addr) (ks:List Nat),vs=[.int c,.ref d,.int n]/\gz H d ks/\0<=n/\n<=3/\∀(q:Addr) (cs:List Nat) (H':Hp),(cs.length:Int)=n->(∀x∈cs,LetA x)->H q=none->H' q=some (.lst ((cs.map one).map V.str))->ak H H'->Q (.ref q) H'
section
variable {P:Program}{w:World}{K:Frag}{mg:Str->Option Value}{base:Heap}{aS aA aE aW:Addr}
theorem jc {f:Addr}{fd:FuncData}(F:bU K "_law_signs" "_law_signs" cy f fd) (T:Txt mg aS aA aE aW):bi P w K mg base dv 1 f fd ["_law_cell","_law_kinds_here","_law_many"] qv:=by
 refine F.ok bW (λ vs H Q E h=>?_) (λ cdv A outer s H vs Q E hr h=>?_)
 ·obtain ⟨c,n,d,ks,rfl,_⟩:=h;rfl
 ·obtain ⟨c,n,d,ks,rfl,hk,n0,n3,q⟩:=h;have hu:=cD hr;refine ⟨_,(ac (aD (i:=3) bW.nd rfl (Or.inl rfl) (cT pa_nil))
   (ac (df PassesOwn.never rfl (uf T.range (aw (cv 2) pa_nil)) (bS (i:=4) bW.nd rfl (Or.inl rfl)) (ac (aD (i:=5) bW.nd rfl (Or.inl rfl) (ao (ao (cv 0) (ao (cv 4) al)) (ao al (cv 4))))
   (ac (aD (i:=6) bW.nd rfl (Or.inl rfl) (kx K (cv 1) (ao (ao (cv 5) al) (kB (du K) aX T.len (aw (cv 1) pa_nil)))))
   (aj (j5 (sM (cv 3) (kx K (cT (aw (yQ PySem.F.slot_str_upper PySem.F.type_str_upper yg (cv 6)) (aw (cv 6) pa_nil))) (ao (cv 5) al))))))))
   (aj (av (cv 3))))),?_⟩
  show bV _ _ _ [oJ c,oR d,oJ n,none,none,none,none] H;refine ca (λ v H'=> ∃p,v=.ref p/\H p=none/\H'=upd H p (.lst [])) (λ Q k=>gp (dy ⟨Gd _,λ p hp=>k _ _ ⟨p,rfl,hp,rfl⟩⟩)) ?_;rintro _ _ ⟨p,rfl,np,rfl⟩;have ndp:d≠p:=ag hk.at_ np;refine b0 (λ σ' H'=> ∃y4 y5 y6,σ'=[oJ c,oR d,oJ n,oR p,y4,y5,y6]/\ak H H'/\∃cs:List Nat,H' p=some (.lst ((cs.map one).map V.str))/\(cs.length:Int)=n/\∀x∈cs,LetA x) (λ KK hK=>?_) ?_
  ·refine dY n (λ Q q=>il (v:=.int n) (ev_v rfl) q) (by omega) (by omega) (λ i σ' H'=> ∃y4 y5 y6,σ'=[oJ c,oR d,oJ n,oR p,y4,y5,y6]/\ak H H'/\∃cs:List Nat,H' p=some (.lst ((cs.map one).map V.str))/\cs.length=i/\∀x∈cs,LetA x) ⟨none,none,none,rfl,(ak.refl H).upd np,[],af,rfl,λ x hx=>by cases hx⟩ ?_ ?_
   ·rintro i _ H1 hi ⟨y4,y5,y6,rfl,s1,cs,e1,l1,a1⟩;show bV _ _ _ [oJ c,oR d,oJ n,oR p,oJ (0+i),y5,y6] H1;have hk1:=hk.same s1;refine bM (v:=.int (c / (0+i+1)+3*(0+i))) (dL (dJ (ev_v rfl) (dL (ev_v rfl) au) (⟨by omega,by omega⟩)) (cJ au (ev_v rfl) (.inl ⟨by decide,by decide⟩))) ?_;generalize c / (0+(i:Int)+1)+3*(0+i)=m;obtain ⟨k,hkm,ek⟩:=hk1.pick (m / 2);have lp:(0:Int)<((ks.map c5).length:Int):=by rw [Eu];have:=hk.l1;omega
    have lp2:((ks.map c5).length:Int)<=6:=by rw [Eu];have:=hk.l6;omega
    refine bM (v:=c5 k) ?_ ?_
    ·exact di (ev_v rfl) (dI (dJ (ev_v rfl) au ⟨by decide,by decide⟩) (cV (ev_v rfl) (.inl (aL.of hk1.at_))) lp) (.inl (aL.of hk1.at_)) ek
    have hl:=hk.ltr k hkm;obtain ⟨x,ex,hx⟩:∃x,atI [V.str (one (k - 32)),V.str (one k)] (m % 2)=some (.str (one x))/\LetA x:=by
     unfold Dq at hl
     rcases (by omega:m % 2=0\/m % 2=1) with h | h
     ·rw [h];exact ⟨k - 32,rfl,.inl ⟨by omega,by omega⟩⟩
     ·rw [h];exact ⟨k,rfl,.inr ⟨by omega,by omega⟩⟩
    show kP (uE _ _) _ [some (.int c),some (.ref d),some (.int n),some (.ref p),some (.int (0+i)),some (.int m),some (c5 k)] H1;refine Dl (ev_v rfl) ⟨_,e1⟩ (xi (aa (CZ (ev_v rfl) hl) (aa (ev_v rfl) ap)) (by show 2<=1000;decide) (λ H'=>dI (ev_v rfl) au (by decide)) ex (λ H2 s2=>?_));refine ⟨_,s2.get e1,by rw [Eu,Eu,sizeLine_eq];omega,_,_,_,rfl,?_,cs++[x],?_,by rw [EF,l1];rfl,λ y hy=>?_⟩
    ·exact λ b o e=>by rw [ah (ag e np)];exact s2 _ _ (s1 _ _ e)
    ·rw [af,EM,EM];rfl
    ·rcases ES.mp hy with h | h
     ·exact a1 y h
     ·rw [EL.mp h];exact hx
   ·rintro _ H1 ⟨y4,y5,y6,rfl,s1,cs,e1,l1,a1⟩;exact hK _ _ ⟨y4,y5,y6,rfl,s1,cs,e1,by omega,a1⟩
  ·rintro _ H1 ⟨y4,y5,y6,rfl,s1,cs,e1,l1,a1⟩;exact aK (ev_v rfl) (q p cs H1 l1 a1 np e1 s1)
end
end K28
namespace K28
open PySem L2 PyProof.Rows
def mulD (f:Int):Nat->Int->Int
 | 0,a=>a
 | n+1,a=>mulD f n a*(f - n)
def cf:Nat->Int->Int
 | 0,a=>a
 | n+1,a=>cf n a / (n+1)
def dueI (z:List Nat):List Nat->Int->Int->Int
 | [],_,a=>a
 | c::cs,f,a=>dueI z cs (f - z.count c) (cf (z.count c) (mulD f (z.count c) a))
theorem jD (z:List Nat):∀(cs ds:List Nat) (f a:Int),dueI z (cs++ds) f a=dueI z ds (f - (cs.map λ c=>(z.count c:Int)).sum) (dueI z cs f a)
 | [],ds,f,a=>by simp [dueI]
 | c::cs,ds,f,a=>by show dueI z (cs++ds) (f - z.count c) _=_;rw [jD z cs ds,EJ,E8];show dueI z ds (f - z.count c - _) (dueI z cs (f - z.count c) _)=dueI z ds (f - (z.count c+_)) (dueI z cs (f - z.count c) _);rw [Gx]
theorem sw {z:List Nat}{f:Nat}(hz:z.Pairwise (·<=·)) (l3:z.length<=3) (h8:f<=8) (hf:z.length<=f):dueI z (sgN z) f 1=aF z (sgN z) f 1:=by
 match z,hz,l3,hf with
 | [],_,_,_=>simp [sgN,aF,dueI]
 | [x],_,_,hf=>
   have h:∀f:Fin 9,1<=f.val->cf 1 (mulD f.val 1 1)=1*ar f.val 1:=by decide
   have e:aF [x] (sgN [x]) f 1=1*ar f 1:=by simp [Cn,aF]
   have e':dueI [x] (sgN [x]) f 1=cf 1 (mulD f 1 1):=by simp [Cn,dueI]
   rw [e,e'];exact h ⟨f,by omega⟩ hf
 | [x,y],hz,_,hf=>
   have hxy:x<=y:=by simpa using hz
   rcases Gn hxy with hlt | rfl
   ·have h:∀f:Fin 9,2<=f.val->cf 1 (mulD (f.val - 1) 1 (cf 1 (mulD f.val 1 1)))=1*ar f.val 1*ar (f.val - 1) 1:=by decide
    have n1:x≠y:=Gb hlt;have e:aF [x,y] (sgN [x,y]) f 1=1*ar f 1*ar (f - 1) 1:=by simp [qD hlt,aF,EI,n1,n1.symm]
    have e':dueI [x,y] (sgN [x,y]) f 1=cf 1 (mulD (f - 1) 1 (cf 1 (mulD f 1 1))):=by simp [qD hlt,dueI,EI,n1,n1.symm]
    rw [e,e'];exact h ⟨f,by omega⟩ hf
   ·have h:∀f:Fin 9,2<=f.val->cf 2 (mulD f.val 2 1)=1*ar f.val 2:=by decide
    have e:aF [x,x] (sgN [x,x]) f 1=1*ar f 2:=by simp [Cm,aF,EI]
    have e':dueI [x,x] (sgN [x,x]) f 1=cf 2 (mulD f 2 1):=by simp [Cm,dueI,EI]
    rw [e,e'];exact h ⟨f,by omega⟩ hf
 | [x,y,w],hz,_,hf=>
   have hxy:x<=y:=by simp at hz;omega
   have hyw:y<=w:=by simp at hz;omega
   rcases Gn hxy with h1 | rfl
   ·rcases Gn hyw with h2 | rfl
    ·have h:∀f:Fin 9,3<=f.val->cf 1 (mulD (f.val - 1 - 1) 1 (cf 1 (mulD (f.val - 1) 1 (cf 1 (mulD f.val 1 1)))))=1*ar f.val 1*ar (f.val - 1) 1*ar (f.val - 1 - 1) 1:=by decide
     have n1:x≠y:=Gb h1;have n2:y≠w:=Gb h2;have n3:x≠w:=Gb (Gh h1 h2);have e:aF [x,y,w] (sgN [x,y,w]) f 1=1*ar f 1*ar (f - 1) 1*ar (f - 1 - 1) 1:=by simp [li h1 h2,aF,EI,n1,n1.symm,n2,n2.symm,n3,n3.symm]
     have e':dueI [x,y,w] (sgN [x,y,w]) f 1=cf 1 (mulD (f - 1 - 1) 1 (cf 1 (mulD (f - 1) 1 (cf 1 (mulD f 1 1))))):=by simp [li h1 h2,dueI,EI,n1,n1.symm,n2,n2.symm,n3,n3.symm]
     rw [e,e'];exact h ⟨f,by omega⟩ hf
    ·have h:∀f:Fin 9,3<=f.val->cf 2 (mulD (f.val - 1) 2 (cf 1 (mulD f.val 1 1)))=1*ar f.val 1*ar (f.val - 1) 2:=by decide
     have n1:x≠y:=Gb h1;have e:aF [x,y,y] (sgN [x,y,y]) f 1=1*ar f 1*ar (f - 1) 2:=by simp [qC h1,aF,EI,n1,n1.symm]
     have e':dueI [x,y,y] (sgN [x,y,y]) f 1=cf 2 (mulD (f - 1) 2 (cf 1 (mulD f 1 1))):=by simp [qC h1,dueI,EI,n1,n1.symm]
     rw [e,e'];exact h ⟨f,by omega⟩ hf
   ·rcases Gn hyw with h2 | rfl
    ·have h:∀f:Fin 9,3<=f.val->cf 1 (mulD (f.val - 2) 1 (cf 2 (mulD f.val 2 1)))=1*ar f.val 2*ar (f.val - 2) 1:=by decide
     have n1:x≠w:=Gb h2;have e:aF [x,x,w] (sgN [x,x,w]) f 1=1*ar f 2*ar (f - 2) 1:=by simp [qB h2,aF,EI,n1,n1.symm]
     have e':dueI [x,x,w] (sgN [x,x,w]) f 1=cf 1 (mulD (f - 2) 1 (cf 2 (mulD f 2 1))):=by simp [qB h2,dueI,EI,n1,n1.symm]
     rw [e,e'];exact h ⟨f,by omega⟩ hf
    ·have h:∀f:Fin 9,3<=f.val->cf 3 (mulD f.val 3 1)=1*ar f.val 3:=by decide
     have e:aF [x,x,x] (sgN [x,x,x]) f 1=1*ar f 3:=by simp [Ck,aF,EI]
     have e':dueI [x,x,x] (sgN [x,x,x]) f 1=cf 3 (mulD f 3 1):=by simp [Ck,dueI,EI]
     rw [e,e'];exact h ⟨f,by omega⟩ hf
 | _::_::_::_::_,_,l3,_=>simp only [EA] at l3;omega
def nP:Sp:=λ vs H Q _=> ∃(f:Int) (z:List Nat),vs=[.int f,.str (sL z)]/\z.length<=3/\-100<=f/\f<=100/\∀H',ak H H'->Q (.int (dueI z (sgN z) f 1)) H'
section
variable {P:Program}{w:World}{K:Frag}{mg:Str->Option Value}{base:Heap}{aS aA aE aW:Addr}
theorem lB {f:Addr}{fd:FuncData}(F:bU K "_law_due" "_law_due" cH f fd) (T:Txt mg aS aA aE aW):bi P w K mg base dv 1 f fd ["_law_many","_law_material"] nP:=by
 refine F.ok bd (λ vs H Q E h=>?_) (λ cdv A outer s H vs Q E hr h=>?_)
 ·obtain ⟨m,z,rfl,_⟩:=h;rfl
 ·obtain ⟨m,z,rfl,lz,m0,m1,q⟩:=h;have hu:=cD hr;refine ⟨_,(ac (aD (i:=2) bd.nd rfl (Or.inl rfl) al)
   (ac (aD (i:=3) bd.nd rfl (Or.inl rfl) (cv 0))
   (ac (df PassesOwn.never rfl (qd K (kB (rj P w hr) c7 T.sorted (aw (rp (xk P w hr) gT T.set (aw (cv 1) pa_nil)) pa_nil))) (bS (i:=4) bd.nd rfl (Or.inr rfl)) (ac (aD (i:=5) bd.nd rfl (Or.inl rfl) (kB (du K) aX T.len (aw (dz (cg (N:=["_law_one","_law_sign"]) (src:=[none,some 4]) (ae cH) ["_law_many","_law_material","_law_due_here","_law_free","_law_sign","_law_count","_law_k"]) (mF (cv 1)) (λ _ _ _=>(ba (i:=0) ["_law_one","_law_sign"])) (λ _ _ _=>(iE (cC K hu (cv 0) (cv 1)))) (λ _ _ _=>(cv 0))) pa_nil)))
   (ac (df PassesOwn.never rfl (uf T.range (aw (cv 5) pa_nil)) (bS (i:=6) bd.nd rfl (Or.inl rfl)) (aj (aD (i:=2) bd.nd rfl (Or.inl rfl) (ao (cv 2) (ao (cv 3) (cv 6))))))
   (ac (df PassesOwn.never rfl (uf T.range (aw (cv 5) pa_nil)) (bS (i:=6) bd.nd rfl (Or.inl rfl)) (aj (aD (i:=2) bd.nd rfl (Or.inl rfl) (ao (cv 2) (ao (cv 6) al)))))
   (aj (aD (i:=3) bd.nd rfl (Or.inl rfl) (ao (cv 3) (cv 5))))))))
   (aj (av (cv 2)))))),?_⟩
  show bV _ _ _ [oJ m,oT (sL z),none,none,none,none,none] H;have zl:(sL z).cps.toList=z:=by show z.toArray.toList=z;simp
  have zn:(sL z).length=z.length:=by show z.toArray.size=_;simp
  refine bM au ?_;refine bM (v:=.int m) (ev_v rfl) ?_;refine b0 (λ σ' H'=> ∃y3 y4 y5 y6,σ'=[oJ m,oT (sL z),oJ (dueI z (sgN z) m 1),y3,y4,y5,y6]/\ak H H') (λ KK hK=>?_) ?_
  ·refine xp (z:=z) (ev_v rfl) (by omega) λ q0 H0 s0 e0=>⟨λ i σ' H'=> ∃y4 y5 y6,σ'=[oJ m,oT (sL z),oJ (dueI z ((sgN z).take i) m 1),oJ (m - (((sgN z).take i).map λ c=>(z.count c:Int)).sum),y4,y5,y6]/\ak H0 H',⟨none,none,none,by simp [dueI],ak.refl H0⟩,?_,?_,?_⟩
   ·rintro i _ _ ⟨_,_,_,_,s1⟩;exact s1 _ _ e0
   ·rintro i c _ H2 hc ⟨y4,y5,y6,rfl,s2⟩;have hi:=(EH.mp hc).1;have hsl:=gc z;have et:(sgN z).take (i+1)=(sgN z).take i++[c]:=by rw [Fo,hc];rfl
    have cl:z.count c<=z.length:=Fs;have sb:∀l:List Nat,0<=(l.map λ c=>(z.count c:Int)).sum/\(l.map λ c=>(z.count c:Int)).sum<=3*l.length:=λ l=>by
     induction l with
     | nil=>simp
     | cons a l ih=>
       have:z.count a<=z.length:=Fs;rw [EJ,E8,EA];omega
    have sb2:=sb ((sgN z).take i);have lt:=FH i (sgN z);generalize hS:(((sgN z).take i).map λ c=>(z.count c:Int)).sum=S at sb2 ⊢;generalize hA:dueI z ((sgN z).take i) m 1=A0;show bV _ _ _ [oJ m,oT (sL z),oJ A0,oJ (m - S),oT (one c),y5,y6] H2;generalize hn:z.count c=n at cl;refine ca (λ v H'=>v=.int (n:Int)/\ak H2 H') (λ Q k=>?_) ?_
    ·refine pY (jF (z:=sL z) (rest:=[oT (one c)]) (ev_v rfl) (by omega) rfl (λ x=>decide (one x=one c)) (λ x=>.str (one x)) (λ x H' _ _ R r=>?_) (λ x H' _ _ _=>ev_v rfl) (λ H' d s hd=>⟨_,.inl (aL.of af),?_⟩))
     ·exact (bD (gQ (ev_v rfl) (ev_v rfl)):Tv _ _ H' _) _ (r _ (ak.refl _))
     ·refine k _ _ ⟨?_,s.upd hd⟩;rw [Eu,zl,<-hn,List.count_eq_length_filter];rw [show (λ x=>decide (one x=one c))=λ x=>x == c from funext λ x=>by rw [GD,decide_eq_true_iff,mI,beq_iff_eq]]
    rintro _ H3 ⟨rfl,s3⟩;refine b0 (λ σ' H'=> ∃y6,σ'=[oJ m,oT (sL z),oJ (mulD (m - S) n A0),oJ (m - S),oT (one c),oJ (n:Int),y6]/\H'=H3) (λ KK hK=>?_) ?_
    ·refine dY n (λ Q q=>il (v:=.int n) (ev_v rfl) q) (by omega) (by omega) (λ i σ' H'=> ∃y6,σ'=[oJ m,oT (sL z),oJ (mulD (m - S) i A0),oJ (m - S),oT (one c),oJ (n:Int),y6]/\H'=H3) ⟨_,rfl,rfl⟩ ?_ ?_
     ·rintro j _ H4 hj ⟨y,rfl,e4⟩;subst e4;refine ib (v:=.int (mulD (m - S) j A0*(m - S - (0+j)))) (cJ (ev_v rfl) (fo (ev_v rfl) (ev_v rfl)) (.inr ⟨by omega,by omega⟩)) ⟨some (.int (0+(j:Int))),?_,rfl⟩;rw [Gv];rfl
     ·rintro _ _ ⟨y,rfl,rfl⟩;exact hK _ _ ⟨y,by rw [Gu],rfl⟩
    rintro _ H4 ⟨y,rfl,e4⟩;subst e4;generalize hB:mulD (m - S) n A0=B0;refine b0 (λ σ' H'=> ∃y6,σ'=[oJ m,oT (sL z),oJ (cf n B0),oJ (m - S),oT (one c),oJ (n:Int),y6]/\H'=H4) (λ KK hK=>?_) ?_
    ·refine dY n (λ Q q=>il (v:=.int n) (ev_v rfl) q) (by omega) (by omega) (λ i σ' H'=> ∃y6,σ'=[oJ m,oT (sL z),oJ (cf i B0),oJ (m - S),oT (one c),oJ (n:Int),y6]/\H'=H4) ⟨_,rfl,rfl⟩ ?_ ?_
     ·rintro j _ H5 hj ⟨y,rfl,e5⟩;subst e5;refine ib (v:=.int (cf j B0 / (0+j+1))) (dJ (ev_v rfl) (dL (ev_v rfl) au) ⟨by omega,by omega⟩) ⟨some (.int (0+(j:Int))),?_,rfl⟩;rw [Gv];rfl
     ·rintro _ _ ⟨y,rfl,rfl⟩;exact hK _ _ ⟨y,by rw [Gu],rfl⟩
    rintro _ H5 ⟨y,rfl,e5⟩;subst e5;refine ib (v:=.int (m - S - n)) (fo (ev_v rfl) (ev_v rfl)) ⟨some (.str (one c)),some (.int (n:Int)),y,?_,s2.trans s3⟩;rw [et,EM,FG,hS,jD,hS,hA];show [_,_,some (V.int (cf n B0)),some (V.int (m - S - n)),_,_,_]=[_,_,some (V.int (cf (z.count c) (mulD (m - S) (z.count c) A0))),some (V.int (m - (S+(z.count c+0)))),_,_,_];rw [hn,hB,Int.add_zero,Gx]
   ·rintro _ H2 ⟨y4,y5,y6,rfl,s2⟩;rw [E7];exact hK _ _ ⟨_,_,_,_,rfl,s0.trans s2⟩
  ·rintro _ H2 ⟨y3,y4,y5,y6,rfl,s2⟩;exact aK (ev_v rfl) (q _ s2)
end
end K28
namespace K28
open PySem L2 PyProof.Rows
def qy (K:Frag) (cB:Addr):Sp:=λ vs H Q _=> ∃c:Int,vs=[.int c]/\∀(b:Addr) (wi hi:Int) (hs:List Int) (H':Hp),bJ K cB H' b wi hi hs->wi*hi<=8->ak H H'->Q (.ref b) H'
structure CBd (P:Program) (w:World) (K:Frag) (mg:Str->Option Value) (base:Heap) (cB:Addr):Prop where
 Board:l5 P w K mg base "Board" cB ["self","wide","high","holes"] 4 (nQ K cB)
section
variable {P:Program}{w:World}{K:Frag}{mg:Str->Option Value}{base:Heap}{aS aA aE aW:Addr}
theorem je {f cB:Addr}{fd:FuncData}(F:bU K "_law_board" "_law_board" cz f fd) (T:Txt mg aS aA aE aW) (C:CBd P w K mg base cB):bi P w K mg base dv 6 f fd ["_law_cell"] (qy K cB):=by
 refine F.ok bw (λ vs H Q E h=>?_) (λ cdv A outer s H vs Q E hr h=>?_)
 ·obtain ⟨c,rfl,_⟩:=h;rfl
 ·obtain ⟨c,rfl,q⟩:=h;have hu:=cD hr;refine ⟨_,(ac (aD (i:=1) bw.nd rfl (Or.inl rfl) (ao al (ao (cv 0) al)))
   (ac (aD (i:=2) bw.nd rfl (Or.inl rfl) (ao al (ao (ao (cv 0) al) al)))
   (ac (qM PassesOwn.never (cC K hu (ao (cv 1) (cv 2)) al) (aj (aD (i:=2) bw.nd rfl (Or.inl rfl) (ao (cv 2) al))))
   (ac (aD (i:=3) bw.nd rfl (Or.inl rfl) (cT pa_nil))
   (ac (df PassesOwn.never rfl (uf T.range (aw (ao (ao (cv 0) al) al) pa_nil)) (bS (i:=4) bw.nd rfl (Or.inl rfl)) (ac (aD (i:=5) bw.nd rfl (Or.inl rfl) (ao (ao (ao (cv 0) al) (ao (cv 4) al)) (ao (cv 1) (cv 2))))
   (aj (bH (PW.pt (qK (cC K hu (cv 5) (cv 3)) (nY (cC K hu (ao (kB (du K) aX T.len (aw (cv 3) pa_nil)) al) (ao (cv 1) (cv 2)))))) (aj (j5 (sM (cv 3) (cv 5)))) aM))))
   (aj (av (xm C.Board hr (aw (cv 1) (aw (cv 2) (aw (cv 3) pa_nil))))))))))),?_⟩
  show bV _ _ _ [oJ c,none,none,none,none,none] H;refine bM (dL au (dI (ev_v rfl) au (by decide))) ?_;have w0:1<=1+c % 4/\1+c % 4<=4:=by omega
  generalize 1+c % 4=wi at w0 ⊢;refine bM (v:=.int (1+c / 4 % 4)) (dL au (dI (dJ (ev_v rfl) au ⟨by decide,by decide⟩) au (by decide))) ?_;have h0:1<=1+c / 4 % 4/\1+c / 4 % 4<=4:=by omega
  generalize 1+c / 4 % 4=hi0 at h0 ⊢;refine b0 (λ σ' H'=> ∃hi:Int,1<=hi/\hi<=4/\wi*hi<=8/\σ'=[oJ c,oJ wi,oJ hi,none,none,none]/\H'=H) (λ KK hK=>?_) ?_
  ·refine ⟨λ m σ' H'=> ∃hi:Int,m=hi.toNat/\1<=hi/\hi<=4/\σ'=[oJ c,oJ wi,oJ hi,none,none,none]/\H'=H,⟨_,hi0,rfl,h0.1,h0.2,rfl,rfl⟩,?_⟩;rintro m _ H1 ⟨hi,rfl,a1,a2,rfl,e1⟩;subst e1;refine (bD (xt (cJ (ev_v rfl) (ev_v rfl) (.inl ⟨by omega,by omega⟩)) au):Tv _ _ _ (decide (8<wi*hi))) _ ?_
   by_cases h:8<wi*hi
   ·rw [decide_eq_true h];have hn1:hi≠1:=λ e=>by subst e;omega
    refine hU ⟨λ σ' H'=>σ'=[oJ c,oJ wi,oJ (hi - 1),none,none,none]/\H'=H1,?_,ib (v:=.int (hi - 1)) (fo (ev_v rfl) au) ⟨rfl,rfl⟩⟩;rintro _ _ ⟨rfl,rfl⟩;exact ⟨_,by omega,hi - 1,rfl,by omega,by omega,rfl,rfl⟩
   ·rw [decide_eq_false h];exact hV (hK _ _ ⟨hi,a1,a2,by omega,rfl,rfl⟩)
  rintro _ H1 ⟨hi,h1,h4,m8,rfl,e1⟩;subst e1;have m1:1*1<=wi*hi:=Gw w0.1 h1 (by omega) (by omega);refine xG λ q1 hq1=>?_;have sm:ak H1 (upd H1 q1 (.lst [])):=(ak.refl H1).upd hq1;refine b0 (λ σ' H'=> ∃hs:List Int,(∃o5 o6,σ'=[oJ c,oJ wi,oJ hi,oR q1,o5,o6])/\H' q1=some (.lst (hs.map V.int))/\(∀h∈hs,0<=h/\h<wi*hi)/\hs.Nodup/\(hs.length:Int)<wi*hi/\ak H1 H') (λ K' hK=>?_) ?_
  ·refine dY (c / 16 % 3) (λ Q q=>(aa (dI (dJ (ev_v rfl) au ⟨by decide,by decide⟩) au (by decide)) ap) _ q) (by omega) (by omega)
    (λ i σ' H'=> ∃hs:List Int,(∃o5 o6,σ'=[oJ c,oJ wi,oJ hi,oR q1,o5,o6])/\H' q1=some (.lst (hs.map V.int))/\(∀h∈hs,0<=h/\h<wi*hi)/\hs.Nodup/\(hs.length:Int)<wi*hi/\ak H1 H')
    ⟨[],⟨_,_,rfl⟩,af,(λ h hh=>by cases hh),List.nodup_nil,by show (0:Int)<_;omega,sm⟩ ?_ (λ σ' H' h=>hK _ _ h)
   rintro i _ H3 hi3 ⟨hs,⟨o5,o6,rfl⟩,h3,gd,nd,hl,s3⟩;show bV _ _ _ [oJ c,oJ wi,oJ hi,oR q1,oJ (0+(i:Int)),o6] H3;have i64:0<=0+(i:Int)/\0+(i:Int)<64:=by omega
   generalize 0+(i:Int)=j at i64 ⊢;refine bM (dI (dJ (dJ (ev_v rfl) au ⟨by decide,by decide⟩) (dL (ev_v rfl) au) (⟨by omega,by omega⟩)) (cJ (ev_v rfl) (ev_v rfl) (.inl ⟨by omega,by omega⟩)) (by omega)) ?_;generalize hsq:c / 48 / (j+1) % (wi*hi)=sq;have sq0:0<=sq:=hsq▸Int.emod_nonneg _ (by omega);have sq1:sq<wi*hi:=hsq▸Gy _ (by omega);refine jN (b:= !decide (sq∈hs)&&decide ((hs.length:Int)+1<wi*hi)) (qk (bD (rV (ev_v rfl) (ev_v rfl) (.inl (aL.of h3)))) (λ _=>bD (rX (dL (by rw [<-Eu V.int (as:=hs)];exact cV (ev_v rfl) (.inl (aL.of h3))) au) (cJ (ev_v rfl) (ev_v rfl) (.inl ⟨by omega,by omega⟩))))) (λ h=>?_) (λ _=>⟨hs,⟨_,_,rfl⟩,h3,gd,nd,hl,s3⟩);rw [GB,GF,decide_eq_false_iff_not,decide_eq_true_iff] at h;refine tL (ev_v rfl) (ev_v rfl) h3 (by rw [Eu,sizeLine_eq];omega) ⟨hs++[sq],⟨_,_,rfl⟩,?_,λ x hx=>?_,?_,?_,s3.put hq1⟩
   ·rw [af,EM];rfl
   ·rcases ES.mp hx with z | z
    ·exact gd x z
    ·rw [EL.mp z];exact ⟨sq0,sq1⟩
   ·rw [Fn];refine ⟨nd,by simp,λ x hx y hy e=>?_⟩;rw [EL.mp hy] at e;exact h.1 (e▸hx)
   ·rw [EF];show ((hs.length+1:Nat):Int)<_;omega
  rintro _ H3 ⟨hs,⟨o5,o6,rfl⟩,h3,gd,nd,hl,s3⟩;refine Co (xh (lS (ev_v rfl) (lS (ev_v rfl) (lS (ev_v rfl) (Ea λ x dx nx ndx ne=>?_)))));exact ⟨x,q1,dx,wi,hi,hs,rfl,af,by rw [ah (ag h3 nx),ah (ag h3 ndx)];exact h3,w0.1,by omega,h1,by omega,gd,nd,hl,λ hs' H' pm O sb=>⟨rfl,q x wi hi hs' H' O m8 (jv s3 nx ndx sb)⟩⟩
end
end K28
namespace K28
open PySem L2 PyProof.Rows
def kZ (K:Frag) (cB:Addr):Sp:=λ vs H Q _=> ∃(b:Addr) (wi hi:Int) (hs:List Int) (z r:List Nat),vs=[.str (sL r),.ref b,.str (sL z)]/\bJ K cB H b wi hi hs/\wi*hi<=8/\l4 (codeE wi hi hs) z r/\z.Pairwise (·<=·)/\∀H',ak H H'->Q (.bl true) H'
theorem yG {K:Frag}{ta tb:TE}{σ:L2.St}{H:Hp}{a b:Bool}(ha:Ev ta σ H (.bl a)) (hb:Ev tb σ H (.bl b)):Ev (cK K .NotEq ta tb) σ H (.bl (!decide (a=b))):=λ Q q=>ha _ (hb _ q)
theorem ux {K:Frag}{ta tb:TE}{σ:L2.St}{H:Hp}{x y:Str}(ha:Ev ta σ H (.str x)) (hb:Ev tb σ H (.str y)):Ev (cK K .NotIn ta tb) σ H (.bl (!(!(Builtin.Str.occurrences y x 0 y.length 1).isEmpty))):=λ Q q=>ha _ (hb _ q)
theorem yf (c:Nat):(!(!(Builtin.Str.occurrences ("#.":Str) (one c) 0 ("#.":Str).length 1).isEmpty))=(c != 35&&c != 46):=by
 have e:("#.":Str).cps.toList=[35,46]:=by decide+kernel
 have es:("#.":Str).cps.size=2:=by decide+kernel
 rw [Bool.not_not]
 rcases lC ("#.":Str) c with ⟨h,o⟩ | ⟨i,hi,o,h⟩
 ·have o':Builtin.Str.occurrences ("#.":Str) (one c) 0 ("#.":Str).length 1=[]:=o;rw [o'];rw [e] at h;simp at h;simp [h]
 ·have o':Builtin.Str.occurrences ("#.":Str) (one c) 0 ("#.":Str).length 1=[i]:=o;rw [o',GD];refine ⟨(λ z=>by cases z),λ z=>?_⟩;rw [e] at h;simp at z;rw [es] at hi;have l:=congrArg List.length h;rw [E2 (by simp;exact z),EF,Fa,List.length_drop] at l;simp at l;omega
theorem CM {K:Frag}{tc:TE}{σ:L2.St}{H:Hp}{Q:VK}(h:tc σ H λ v H1=>iz K [v] H1 λ v2 H2=>fQ K (.str "") [v2] H2 Q):Dd (fQ K) (tC (.str "")) (aC (L2.cB (iz K) (aC tc bu)) bu) σ H Q:=h
theorem rA {K:Frag}{H:Hp}{Q:VK}{d:Addr}{cs:List Nat}(e:H d=some (.lst (cs.map c5))) (l:cs.length<64) (q:∀(cs':List Nat) (H2:Hp),cs'.Perm cs->cs'.Pairwise (·<=·)->ak H H2->Q (.str (sL cs')) H2):iz K [.ref d] H λ v2 H2=>fQ K (.str "") [v2] H2 Q:=by refine ⟨d,cs,rfl,aL.of e,l,λ cs' p pm so hp=>?_⟩;have:=pm.length_eq;exact rY (σ:=[]) (ta:=tC (.str "")) (tb:=tC (.ref p)) au au af (by omega) _ (q cs' _ pm so ((ak.refl _).upd hp))
theorem m4 {K:Frag}{op:CmpOp}{ta tb:TE}{σ:L2.St}{H:Hp}{Q:VK}(h:ta σ H λ x H1=>tb σ H1 λ y H2=>fY K op x y H2 Q):cK K op ta tb σ H Q:=h
theorem uB {K:Frag}{x:Str}{H:Hp}{Q:VK}(q:Q (.bl true) H):fY K .Eq (.str x) (.str x) H Q:=by show Q (.bl (decide (x=x))) H;rw [decide_eq_true rfl];exact q
section
variable {P:Program}{w:World}{K:Frag}{mg:Str->Option Value}{base:Heap}{aS aA aE aW:Addr}
theorem kj {f cB:Addr}{fd:FuncData}(F:bU K "_law_fits" "_law_fits" cp f fd) (T:Txt mg aS aA aE aW) (B:gX K cB):bi P w K mg base dv 1 f fd ["_law_row","_law_board_here","_law_material"] (kZ K cB):=by
 refine F.ok ge (λ vs H Q E h=>?_) (λ cdv A outer s H vs Q E hr h=>?_)
 ·obtain ⟨b,wi,hi,hs,z,r,rfl,_⟩:=h;rfl
 ·obtain ⟨b,wi,hi,hs,z,r,rfl,O,m8,R,so,q⟩:=h;have hu:=cD hr;have mm:=O.many;have w8:=O.w8;have w1:=O.w1;obtain ⟨ph,fh,eh⟩:=O.holes B;have rl:r.length=(wi*hi).toNat:=by rw [R.len,bP,Eu,EK]
  have rz:(sL r).length=r.length:=by show r.toArray.size=_;simp
  have rc:(sL r).cps.toList=r:=by show r.toArray.toList=r;simp
  refine ⟨_,(ac (bH (PW.pt (fO (bb (aV (rn .str T.isinstance T.str nh (cv 0)))) (eA (cC K hu (kB (du K) aX T.len (aw (cv 0) pa_nil)) (ao (fV K (cv 1)) (fV K (cv 1))))))) (aj (av cZ)) aM)
   (ac (df PassesOwn.never rfl (uf T.range (aw (kB (du K) aX T.len (aw (cv 0) pa_nil)) pa_nil)) (bS (i:=3) ge.nd rfl (Or.inl rfl)) (aj (bH (cC K hu (fW K hu (kx K (cv 0) (cv 3)) cA) (fW K hu (cv 3) (fV K (cv 1)))) (aj (av cZ)) aM)))
   (aj (av (fW K hu (Dy PySem.F.slot_str_join PySem.F.type_str_join (rm K) cA (aw (kB (ri K) c7 T.sorted (aw (dz (cg (N:=["_law_sign"]) (src:=[none]) (ae cp) ["_law_row","_law_board_here","_law_material","_law_square"]) (mF (cv 0)) (λ _ _ _=>(ba (i:=0) ["_law_sign"])) (λ _ _ _=>(iE (cC K hu (cv 0) cA))) (λ _ _ _=>(cv 0))) pa_nil)) pa_nil)) (cv 2)))))),?_⟩
  show bV _ _ _ [oT (sL r),oR b,oT (sL z),none] H;refine cu (fZ (bK (bD (yI (ev_v rfl)))) (λ _=>bD (oi (im (ev_v rfl) (by rw [sizeLine_eq];omega)) (cJ (ce (ev_v rfl) (O.wide B)) (ce (ev_v rfl) (O.high B)) (.inl ⟨by omega,by omega⟩))))) (λ h=>?_) (λ _=>?_)
  ·exfalso;have:((sL r).length:Int)=wi*hi:=by omega
   rw [decide_eq_true this] at h;exact absurd h (by decide)
  refine b0 (λ σ' H'=> ∃y,σ'=[oT (sL r),oR b,oT (sL z),y]/\H'=H) (λ KK hK=>?_) ?_
  ·refine dY ((sL r).length:Int) (λ Q q=>(aa (im (ev_v rfl) (by rw [sizeLine_eq];omega)) ap) _ q) (by omega) (by omega) (λ i σ' H'=> ∃y,σ'=[oT (sL r),oR b,oT (sL z),y]/\H'=H) ⟨_,rfl,rfl⟩ ?_ (λ σ' H' h=>hK _ _ h);rintro i _ H1 hi1 ⟨y,rfl,e1⟩;subst e1;have hil:i<r.length:=by omega
   have ei:r[i]? =some r[i]:=Ex hil;have ea:atI (sL r).cps.toList (0+(i:Int))=some r[i]:=by rw [Gv,rc];exact bq ei
   refine jN (b:=false) ?_ (λ h=>by cases h) (λ _=>⟨_,rfl,rfl⟩);have hb:(!decide (decide ((⟨#[r[i]]⟩:Str)="#")=decide (0+(i:Int)∈hs)))=false:=by
    rw [GH,decide_eq_true_iff,GD,decide_eq_true_iff,decide_eq_true_iff,Gv,rJ];show one r[i]=one 35<->_;rw [mI];have hh:=R.hole i;rw [ei,bP,EB,E3 (by omega)] at hh;simp only [Option.map_some,Option.some.injEq] at hh;rw [hh]
    by_cases hm:(i:Int)∈hs<;>simp [hm]
   rw [<-hb];exact bD (yG (gQ (rZ (ev_v rfl) (ev_v rfl) (by rw [sizeLine_eq];omega) ea) au) (C3 (ev_v rfl) (ce (ev_v rfl) fh) (.inl (aL.of eh))))
  rintro _ H1 ⟨y,rfl,e1⟩;subst e1;refine mz (m4 (CM (jF (z:=sL r) (rest:=[]) (ev_v rfl) (by omega) rfl (λ c=>c != 35&&c != 46) c5 (λ c H' _ _ R' r'=>?_) (λ c H' _ _ _=>ev_v rfl) (λ H' d s hd=>?_))))
  ·have e:Tv (dn (cK K .NotIn (aR 0) (tC (.str "#.")))) [some (.str (one c))] H' (c != 35&&c != 46):=by rw [<-yf c];exact bD (ux (ev_v rfl) au)
   exact e _ (r' _ (ak.refl _))
  ·refine rA af (by rw [rc];have:=Fd (λ c=>c != 35&&c != 46) r;omega) (λ cs' H2 pm so' s2=>?_);rw [rc] at pm;have ez:=kS (pm.trans R.sg) so' so;subst ez;exact il (v:=.str (sL cs')) (ev_v rfl) (uB (q _ ((s.upd hd).trans s2)))
end
end K28
namespace K28
open PySem L2 PyProof.Rows
def nK (K:Frag):Sp:=λ vs H Q _=> ∃(a:Addr) (ns:List Int),vs=[.ref a]/\aL K H a (ns.map V.int)/\ns.length<=63/\∀H',Q (.bl true) H'
structure CL (P:Program) (w:World) (K:Frag) (mg:Str->Option Value) (base:Heap) (cB cG:Addr):Prop where
 _law_at:eW P w K mg base "_law_at" ["_law_script","_law_k"] 1 (lc K)
 _law_board:eW P w K mg base "_law_board" ["_law_cell"] 6 (qy K cB)
 _law_kinds:eW P w K mg base "_law_kinds" ["_law_cell","_law_many"] 1 qx
 Game:l5 P w K mg base "Game" cG ["self","board","kinds","rules","turns","ends","stuck"] 6 (nM K cG)
 _law_signs:eW P w K mg base "_law_signs" ["_law_cell","_law_kinds_here","_law_many"] 1 qv
 placings:eW P w K mg base "placings" ["game","material"] 6 (Ch K cB cG)
 _law_fits:eW P w K mg base "_law_fits" ["_law_row","_law_board_here","_law_material"] 1 (kZ K cB)
 many_placings:eW P w K mg base "many_placings" ["game","material"] 2 (qw K cB cG)
 _law_due:eW P w K mg base "_law_due" ["_law_many","_law_material"] 1 nP
theorem qT {K:Frag}{cB b:Addr}{H:Hp}{wi hi:Int}{hs:List Int}(O:bJ K cB H b wi hi hs):(opn (codeE wi hi hs):Int)=wi*hi - hs.length:=by
 have mm:=O.many;unfold opn;rw [bP,List.filter_map,Eu];have e1:((List.range (wi*hi).toNat).filter ((λ u=>u != 35)∘λ (s:Nat)=>if (s:Int)∈hs then 35 else 46))=(List.range (wi*hi).toNat).filter (λ (s:Nat)=> !decide ((s:Int)∈hs)):=by
  congr 1;funext s;show ((if (s:Int)∈hs then 35 else 46) != 35)=_
  by_cases h:(s:Int)∈hs<;>simp [h]
 rw [e1];have e2:((List.range (wi*hi).toNat).filter (λ (s:Nat)=>decide ((s:Int)∈hs))).length=hs.length:=by
  rw [<-Eu (as:=hs) Int.toNat];refine List.Perm.length_eq ?_;refine (List.perm_ext_iff_of_nodup (List.Nodup.sublist List.filter_sublist List.nodup_range) ?_).mpr λ x=>?_
  ·rw [Fq,Ff];refine (List.Pairwise.imp_of_mem ?_ O.nd);intro x y hx hy hxy e;have a:=O.good x hx;have c:=O.good y hy;omega
  ·rw [Ft,ER,EE,decide_eq_true_iff]
   constructor
   ·rintro ⟨_,h⟩;exact ⟨_,h,Gu x⟩
   ·rintro ⟨y,hy,rfl⟩;have a:=O.good y hy;refine ⟨by omega,?_⟩
    rwa [Int.toNat_of_nonneg a.1]
 have e3:=List.length_eq_countP_add_countP (λ (s:Nat)=>decide ((s:Int)∈hs)) (l:=List.range (wi*hi).toNat);rw [Ga,Ga,EK,e2] at e3;have e4:((List.range (wi*hi).toNat).filter λ (a:Nat)=>decide (¬(decide ((a:Int)∈hs)=true)))=(List.range (wi*hi).toNat).filter (λ (s:Nat)=> !decide ((s:Int)∈hs)):=by
  congr 1;funext s
  by_cases h:(s:Int)∈hs<;>simp [h]
 rw [e4] at e3;omega
theorem xN {us z r:List Nat}(hb:qc z) (h:r∈plc us z):l4 us z r:=by
 unfold plc at h;split at h
 ·rename_i hl;exact ik us (opn us) z rfl hl hb r h
 ·cases h
theorem xO {us z:List Nat}(hb:qc z):(plc us z).Pairwise (· < ·):=by
 unfold plc;split
 ·exact og us _ z hb
 ·exact List.Pairwise.nil
theorem xq {α β:Type}{g:α->List β}{n:Nat}:∀{l:List α},(∀x∈l,(g x).length<=n)->(l.flatMap g).length<=l.length*n
 | [],_=>by simp
 | a::l,h=>by have ih:=xq (l:=l) λ x hx=>h x (Ez _ hx);have h1:=h a ED;rw [Fp,EF,EA,Nat.succ_mul];omega
theorem oh:∀(us:List Nat) (f:Nat) (rest:List Nat),rest.length<=3->(fm us f rest).length<=4 ^ us.length
 | [],f,rest,_=>by simp [fm]
 | u::us,f,rest,h=>by
   have h1:(bo u f rest).length<=4:=by
    have:=gc rest;unfold bo;split
    ·simp
    ·split
     ·rw [EF];show 1+_<=4;omega
     ·show ([]++sgN rest).length<=4;rw [List.nil_append];omega
   have h2:(fm (u::us) f rest).length<=(bo u f rest).length*4 ^ us.length:=xq λ c _=>by rw [Eu];exact oh us _ _ (Ge (FB) h)
   rw [EA,Nat.pow_succ,Nat.mul_comm];exact Ge h2 (Nat.mul_le_mul_right _ h1)
theorem xP {us z:List Nat}(h:z.length<=3):(plc us z).length<=4 ^ us.length:=by
 unfold plc;split
 ·exact oh us _ z h
 ·exact Gd _
theorem Cc {t u:TT}{σ:L2.St}{H:Hp}{Q:Bool->Hp->Prop}(ht:Tv t σ H false) (h:u σ H Q):Dw t u σ H Q:=ht _ (hV h)
theorem xC {te:TE}{σ:L2.St}{H:Hp}{Q:Bool->Hp->Prop}(h:te σ H (fv λ c H1=>Q (!c) H1)):tD (dn te) σ H Q:=h
theorem yH {K:Frag}{ta tb:TE}{σ:L2.St}{H:Hp}{x y:Str}(ha:Ev ta σ H (.str x)) (hb:Ev tb σ H (.str y)):Ev (cK K .Lt ta tb) σ H (.bl (decide (x.cps.toList<y.cps.toList))):=λ Q q=>ha _ (hb _ q)
theorem Cd {te:TE}{σ:L2.St}{H:Hp}{Q:Bool->Hp->Prop}(h:te σ H (fv Q)):dn te σ H Q:=h
theorem Eb {ta tb:TE}{σ:L2.St}{H:Hp}{Q:VK}(h:ta σ H λ x H1=>tb σ H1 λ y H2=>nj .Mult x y H2 Q):ia .Mult ta tb σ H Q:=h
theorem CG {ta tb:TE}{σ:L2.St}{H:Hp}{Q:VK}{i:Int}(ha:Ev ta σ H (.int i)) (h:tb σ H λ y H2=>qZ [.int i,y] H2 Q):L2.cB qZ (aC ta (aC tb bu)) σ H Q:=ha _ h
theorem yi {i j:Int}{H:Hp}{Q:VK}(q:Q (.int (if j > i then j else i)) H):qZ [.int i,.int j] H Q:=q
theorem yJ {ta:TE}{σ:L2.St}{H:Hp}{a:Bool}(ha:Ev ta σ H (.bl a)):Ev (L2.cB um (aC ta bu)) σ H (.int (if a then 1 else 0)):=λ Q q=>ha _ q
section
variable {P:Program}{w:World}{K:Frag}{mg:Str->Option Value}{base:Heap}{aS aA aE aW:Addr}
theorem yd {f cB cG:Addr}{fd:FuncData}(F:bU K "law" "law" fK f fd) (T:Txt mg aS aA aE aW) (B:gX K cB) (C:CL P w K mg base cB cG):bi P w K mg base dv 8 f fd ["_law_script"] (nK K):=by
 refine F.ok dF (λ vs H Q E h=>?_) (λ cdv A outer s H vs Q E hr h=>?_)
 ·obtain ⟨a,ns,rfl,_⟩:=h;rfl
 ·obtain ⟨a,ns,rfl,hS,hlen,k⟩:=h;have hu:=cD hr;refine ⟨_,(ac (aD (i:=1) dF.nd rfl (Or.inr rfl) (aJ C._law_board hr (aw (aJ C._law_at hr (aw (cv 0) (aw al pa_nil))) pa_nil)))
   (ac (aD (i:=2) dF.nd rfl (Or.inl rfl) (aJ C._law_kinds hr (aw (aJ C._law_at hr (aw (cv 0) (aw al pa_nil))) (aw (ao al (ao (aJ C._law_at hr (aw (cv 0) (aw al pa_nil))) al)) pa_nil))))
   (ac (aD (i:=3) dF.nd rfl (Or.inl rfl) (xm C.Game hr (aw (cv 1) (aw (cv 2) (aw (cT pa_nil) (aw (cT pa_nil) (aw (cT pa_nil) (aw cA pa_nil))))))))
   (ac (aD (i:=4) dF.nd rfl (Or.inr rfl) (Dy PySem.F.slot_str_join PySem.F.type_str_join (rm K) cA (aw (kB (ri K) c7 T.sorted (aw (aJ C._law_signs hr (aw (aJ C._law_at hr (aw (cv 0) (aw al pa_nil))) (aw (cv 2) (aw (ao (ao (aJ C._law_at hr (aw (cv 0) (aw al pa_nil))) al) al) pa_nil)))) pa_nil)) pa_nil)))
   (ac (aD (i:=5) dF.nd rfl (Or.inl rfl) (aJ C.placings hr (aw (cv 3) (aw (cv 4) pa_nil))))
   (ac (bH (PW.pt (fO (bb (aV (rn .list T.isinstance T.list dC (cv 5)))) (eA (bb (aV (kB (ro K) iZ T.all (aw (dz (cg (N:=["_law_row","_law_board_here","_law_material"]) (src:=[none,some 1,some 4]) (ae fK) ["_law_script","_law_board_here","_law_kinds_here","_law_game","_law_material","_law_found","_law_k","_law_many","_law_free","_law_kept"]) (qd K (cv 5)) (λ _ _ _=>(ba (i:=0) ["_law_row","_law_board_here","_law_material"])) (λ _ _ _=>bI) (λ _ _ _=>(aJ C._law_fits hr (aw (cv 0) (aw (cv 1) (aw (cv 2) pa_nil)))))) pa_nil))))))) (aj (av cZ)) aM)
   (ac (df PassesOwn.never rfl (kr2 T.range (aw al (aw (kB (du K) aX T.len (aw (cv 5) pa_nil)) pa_nil))) (bS (i:=6) dF.nd rfl (Or.inl rfl)) (aj (bH (bb (cC K hu (kx K (cv 5) (ao (cv 6) al)) (kx K (cv 5) (cv 6)))) (aj (av cZ)) aM)))
   (ac (aD (i:=7) dF.nd rfl (Or.inl rfl) (aJ C.many_placings hr (aw (cv 3) (aw (cv 4) pa_nil))))
   (ac (bH (PW.pt (fO (bb (aV (rn .int T.isinstance T.int ni (cv 7)))) (fO (aV (rn .bool T.isinstance T.bool ow (cv 7))) (eA (cC K hu (cv 7) (kB (du K) aX T.len (aw (cv 5) pa_nil))))))) (aj (av cZ)) aM)
   (ac (aD (i:=8) dF.nd rfl (Or.inl rfl) (ao (ao (fV K (cv 1)) (fV K (cv 1))) (kB (du K) aX T.len (aw (fV K (cv 1)) pa_nil))))
   (ac (bH (cC K hu (cv 7) (ao (kB (pR rfl) yU T.max (aw al (aw (aJ C._law_due hr (aw (cv 8) (aw (cv 4) pa_nil))) pa_nil))) (rp pU ni T.int (aw (fW K hu (kB (du K) aX T.len (aw (cv 4) pa_nil)) (cv 8)) pa_nil)))) (aj (av cZ)) aM)
   (ac (aD (i:=9) dF.nd rfl (Or.inl rfl) (rp (lI K) dC T.list (aw (cv 5) pa_nil)))
   (ac (j5 (sJ (cv 5)))
   (aj (av (fW K hu (aJ C.placings hr (aw (cv 3) (aw (cv 4) pa_nil))) (cv 9))))))))))))))))),?_⟩
  show bV _ _ _ [oR a,none,none,none,none,none,none,none,none,none] H;refine ca (λ v H'=> ∃(b:Addr) (wi hi:Int) (hs:List Int),v=.ref b/\bJ K cB H' b wi hi hs/\wi*hi<=8/\ak H H') (λ Q q=>?_) ?_
  ·exact fS (aa (aG (aa (ev_v rfl) (aa au ap)) (λ Q q=>⟨a,ns,0,rfl,hS,by decide,q⟩)) ap) ⟨_,rfl,λ b wi hi hs H' O m s=>q _ _ ⟨b,wi,hi,hs,rfl,O,m,s⟩⟩
  rintro _ H1 ⟨b,wi,hi,hs,rfl,O1,m8,s1⟩;have hS1:=s1.seq hS;refine ca (λ v H'=> ∃(kq:Addr) (ks:List Nat),v=.ref kq/\gz H' kq ks/\ak H1 H') (λ Q q=>?_) ?_
  ·exact fS (aa (aG (aa (ev_v rfl) (aa au ap)) (λ Q q=>⟨a,ns,1,rfl,hS1,by decide,q⟩)) (aa (dL au (dI (aG (aa (ev_v rfl) (aa au ap)) (λ Q q=>⟨a,ns,2,rfl,hS1,by decide,q⟩)) au (by decide))) ap)) ⟨_,_,rfl,by omega,by omega,λ kq ks H' Kd nq s=>q _ _ ⟨kq,ks,rfl,Kd,s⟩⟩
  rintro _ H2 ⟨kq,ks,rfl,Kd2,s2⟩;have hS2:=s2.seq hS1;refine ca (λ v H'=> ∃g:Addr,v=.ref g/\kL cG H' g b (ks.map c5) [] [] [] "lost"/\ak H2 H') (λ Q q=>?_) ?_
  ·refine xh (lS (ev_v rfl) (lS (ev_v rfl) (kC (gp (dy ⟨Gd _,λ r hr'=>kC (gp (dy ⟨Gd _,λ t ht=>kC (gp (dy ⟨Gd _,λ e he=>ft au (dy λ g gx ng ngx nne=>?_)⟩))⟩))⟩)))));have sB:=(ak.refl H2).upd (o:=.lst []) hr';have eB:(upd H2 r (.lst [])) r=some (.lst []):=af;generalize upd H2 r (HO.lst [])=HB at sB eB ht he ng ngx ⊢;have sC:=(ak.refl HB).upd (o:=.lst []) ht;have eC:(upd HB t (.lst [])) t=some (.lst []):=af;generalize upd HB t (HO.lst [])=HC at sC eC he ng ngx ⊢;have sD:=(ak.refl HC).upd (o:=.lst []) he;have eD:(upd HC e (.lst [])) e=some (.lst []):=af;generalize upd HC e (HO.lst [])=HD at sD eD ng ngx ⊢;have sF:ak HD (upd (upd HD gx (.own g)) g (.ins cG gx [])):=((ak.refl HD).upd ngx).upd (by rw [ah (Ne.symm nne)];exact ng);have KF:=Kd2.same (((sB.trans sC).trans sD).trans sF);have erF:=((sC.trans sD).trans sF) _ _ eB;have etF:=(sD.trans sF) _ _ eC;have eeF:=sF _ _ eD;have mm:(ks.map one).map V.str=ks.map c5:=by rw [EC];rfl
   refine ⟨g,b,kq,r,t,e,gx,ks.map one,[],[],[],"lost",rfl,af,by rw [mm];exact KF.at_,erF,etF,eeF,yq KF,jL erF,jL etF,jL eeF,pH KF.at_ KF.ltr KF.nd KF.l1 KF.l6,?_,?_,?_,by decide,by decide,λ H'' G sb'=>⟨rfl,?_⟩⟩
   ·unfold dc;rw [kr erF];rfl
   ·unfold dE pairsB;rw [kr etF];rfl
   ·unfold pairsB;rw [kr eeF];rfl
   ·rw [mm] at G;exact q _ _ ⟨g,rfl,G,jv ((sB.trans sC).trans sD) ng ngx sb'⟩
  rintro _ H3 ⟨g,rfl,G3,s3⟩;have hS3:=s3.seq hS2;have Kd3:=Kd2.same s3;refine ca (λ v H'=> ∃z:List Nat,v=.str (sL z)/\z.Pairwise (·<=·)/\qc z/\z.length<=3/\ak H3 H') (λ Q q=>?_) ?_
  ·refine CM (fS (aa (aG (aa (ev_v rfl) (aa au ap)) (λ Q q=>⟨a,ns,3,rfl,hS3,by decide,q⟩)) (aa (ev_v rfl) (aa (dI (dJ (aG (aa (ev_v rfl) (aa au ap)) (λ Q q=>⟨a,ns,2,rfl,hS3,by decide,q⟩)) au ⟨by decide,by decide⟩) au (by decide)) ap))) ⟨_,_,kq,ks,rfl,Kd3,by omega,by omega,λ p cs H' l1 la np e s=>rA (cs:=cs) ?_ (by omega) (λ cs' H2' pm so s2=>q _ _ ⟨cs',rfl,so,λ x hx=>?_,?_,s.trans s2⟩)⟩)
   ·rw [e,EC];rfl
   ·have:=la x (pm.mem_iff.mp hx);unfold LetA at this;omega
   ·have:=pm.length_eq;omega
  rintro _ H4 ⟨z,rfl,so,bz,lz,s4⟩;have G4:=G3.same s4;have O4:=O1.same ((s2.trans s3).trans s4);have fr:=qT O4;have ml:((plc (codeE wi hi hs) z).length:Int)=aF z (sgN z) (opn (codeE wi hi hs)) 1:=q8 so bz lz (by have:=(bP wi hi hs);have h1:=iF (codeE wi hi hs);rw [this,Eu,EK] at h1;rw [this];omega);have mc:=lE (f:=opn (codeE wi hi hs)) so lz (by have:=(bP wi hi hs);have h1:=iF (codeE wi hi hs);rw [this,Eu,EK] at h1;rw [this];omega);have dm:=λ h=>sw (f:=opn (codeE wi hi hs)) so lz (by have:=(bP wi hi hs);have h1:=iF (codeE wi hi hs);rw [this,Eu,EK] at h1;rw [this];omega) h;have o8:opn (codeE wi hi hs)<=8:=by have:=(bP wi hi hs);have h1:=iF (codeE wi hi hs);rw [this,Eu,EK] at h1;rw [this];omega
  have pk:∀r∈plc (codeE wi hi hs) z,l4 (codeE wi hi hs) z r:=λ r h=>xN bz h;have pl:=xO (us:=codeE wi hi hs) bz;have zn:(sL z).length=z.length:=by show z.toArray.size=_;simp
  refine ca (λ v H'=> ∃p:Addr,v=.ref p/\H4 p=none/\H' p=some (.lst ((plc (codeE wi hi hs) z).map λ r=>V.str (sL r)))/\ak H4 H') (λ Q q=>?_) ?_
  ·exact fS (aa (ev_v rfl) (aa (ev_v rfl) ap)) ⟨g,b,_,_,_,_,_,wi,hi,hs,z,rfl,G4,O4,m8,lz,bz,λ p H' n e s=>q _ _ ⟨p,rfl,n,e,s⟩⟩
  rintro _ H5 ⟨p,rfl,np,e5,s5⟩;have plen:(plc (codeE wi hi hs) z).length<=65536:=by
   have h1:(codeE wi hi hs).length<=8:=by rw [bP,Eu,EK];omega
   exact Ge (xP lz) (Ge (Gr (by decide) h1) (by decide))
  have O5:=O4.same s5;refine c9 (λ c H'=>c=false/\ak H5 H') (λ Q q=>?_) (λ H' h=>by cases h.1) (λ H6 h=>?_)
  ·refine Cc (bK (bD (r0 (ev_v rfl) e5))) (xC (pY (pO (rest:=[oR b,oT (sL z)]) (ev_v rfl) e5 (by rw [Eu,sizeLine_eq];omega) rfl (λ _=>.bl true) (λ x hx H' s' Q' q'=>?_) (λ H' d' s' hd'=>⟨(plc (codeE wi hi hs) z).map λ _=>true,aL.of ?_,?_⟩))))
   ·obtain ⟨r,hr',rfl⟩:=EE.mp hx;exact fS (aa (ev_v rfl) (aa (ev_v rfl) (aa (ev_v rfl) ap))) ⟨b,wi,hi,hs,z,r,rfl,O5.same s',m8,pk r hr',so,λ H2' s2'=>q' _ s2'⟩
   ·rw [af,EC,EC];rfl
   ·refine q _ _ ⟨?_,s'.upd hd'⟩;have:((plc (codeE wi hi hs) z).map λ _=>true).all id=true:=by simp
    rw [this];rfl
  obtain ⟨_,s6⟩:=h;have e6:=s6 _ _ e5;refine b0 (λ σ' H'=> ∃y,σ'=[oR a,oR b,oR kq,oR g,oT (sL z),oR p,y,none,none,none]/\H'=H6) (λ KK hK=>?_) ?_
  ·refine rR 1 ((plc (codeE wi hi hs) z).length:Int) (λ Q q=>(aa au (aa (by rw [<-Eu (as:=plc (codeE wi hi hs) z) (λ r=>V.str (sL r))];exact cV (ev_v rfl) (.inl (aL.of e6))) ap)) _ q) (by omega) (λ i σ' H'=> ∃y,σ'=[oR a,oR b,oR kq,oR g,oT (sL z),oR p,y,none,none,none]/\H'=H6) ⟨_,rfl,rfl⟩ ?_ (λ σ' H' h=>hK _ _ h);rintro i _ H7 hi7 ⟨y,rfl,e7⟩;subst e7;have l1:i<(plc (codeE wi hi hs) z).length:=by omega
   have l2:i+1<(plc (codeE wi hi hs) z).length:=by omega
   have a1:atI ((plc (codeE wi hi hs) z).map λ r=>V.str (sL r)) (1+(i:Int) - 1)=some (.str (sL (plc (codeE wi hi hs) z)[i])):=by rw [show 1+(i:Int) - 1=((i:Nat):Int) from by omega];exact bq (by rw [EB,Ex l1];rfl)
   have a2:atI ((plc (codeE wi hi hs) z).map λ r=>V.str (sL r)) (1+(i:Int))=some (.str (sL (plc (codeE wi hi hs) z)[i+1])):=by rw [show 1+(i:Int)=((i+1:Nat):Int) from by omega];exact bq (by rw [EB,Ex l2];rfl)
   have hlt:=Fx.mp pl i (i+1) l1 l2 (Gk i);refine jN (b:=false) ?_ (λ h=>by cases h) (λ _=>⟨_,rfl,rfl⟩);have hb:(!decide ((sL (plc (codeE wi hi hs) z)[i]).cps.toList<(sL (plc (codeE wi hi hs) z)[i+1]).cps.toList))=false:=by rw [GH,decide_eq_true_iff];exact hlt
   rw [<-hb];exact bK (bD (yH (di (ev_v rfl) (fo (ev_v rfl) au) (.inl (aL.of e6)) a1) (di (ev_v rfl) (ev_v rfl) (.inl (aL.of e6)) a2)))
  rintro _ H7 ⟨y,rfl,e7⟩;subst e7;have s46:=s5.trans s6;refine ca (λ v H'=>v=.int ((plc (codeE wi hi hs) z).length:Int)/\ak H7 H') (λ Q q=>?_) ?_
  ·exact fS (aa (ev_v rfl) (aa (ev_v rfl) ap)) ⟨g,b,_,_,_,_,_,wi,hi,hs,z,rfl,G4.same s46,O4.same s46,m8,lz,λ H' s=>q _ _ ⟨by rw [ml],s⟩⟩
  rintro _ H8 ⟨rfl,s8⟩;have e8:=s8 _ _ e6;have O8:=(O4.same s46).same s8;refine cu (fZ (bK (bD (r6 (ev_v rfl)))) (λ _=>fZ (bD (r6 (ev_v rfl))) (λ _=>bD (oi (ev_v rfl) (cV (ev_v rfl) (.inl (aL.of e8))))))) (λ h=>?_) (λ _=>?_)
  ·exfalso;rw [Eu,decide_eq_true rfl] at h;exact absurd h (by decide)
  obtain ⟨ph,fh,eh⟩:=O8.holes B;have w1:=O8.w1;have w8:=O8.w8;refine bM (v:=.int (opn (codeE wi hi hs):Int)) ?_ ?_
  ·rw [fr];exact fo (cJ (ce (ev_v rfl) (O8.wide B)) (ce (ev_v rfl) (O8.high B)) (.inl ⟨by omega,by omega⟩)) (by rw [<-Eu (as:=hs) V.int];exact cV (ce (ev_v rfl) fh) (.inl (aL.of eh)))
  refine c9 (λ c H'=>c=false/\ak H8 H') (λ Q q=>?_) (λ H' h=>by cases h.1) (λ H9 h=>?_)
  ·refine Cd (m4 (il (v:=.int ((plc (codeE wi hi hs) z).length:Int)) (ev_v rfl) (Eb (CG (i:=0) au (fS (aa (ev_v rfl) (aa (ev_v rfl) ap)) ⟨_,z,rfl,lz,by omega,by omega,λ H' s'=>?_⟩)))));refine yi (i:=0) ?_;show L2.cB um _ _ H' _;refine il (v:=.int (if decide (((sL z).length:Int)<=opn (codeE wi hi hs)) then 1 else 0)) (yJ (C2 (im (ev_v rfl) (by rw [sizeLine_eq];omega)) (ev_v rfl))) ?_;refine ⟨.inr ⟨?_,?_⟩,q _ _ ⟨?_,s'⟩⟩
   ·split<;>decide
   ·split<;>decide
   ·rw [GH,decide_eq_true_iff,ml,zn]
    by_cases hle:z.length<=opn (codeE wi hi hs)
    ·rw [<-dm hle,decide_eq_true (by omega)];have d0:0<=dueI z (sgN z) (opn (codeE wi hi hs)) 1:=by rw [dm hle,<-ml];omega
     rw [if_pos rfl,Int.mul_one];split<;>omega
    ·rw [decide_eq_false (by omega),show (if false=true then (1:Int) else 0)=0 from rfl,Int.mul_zero,<-mc,if_neg hle];rfl
  obtain ⟨_,s9⟩:=h;have e9:=s9 _ _ e8;refine ca (λ v H'=> ∃l:Addr,v=.ref l/\H9 l=none/\H' l=some (.lst ((plc (codeE wi hi hs) z).map λ r=>V.str (sL r)))/\ak H9 H') (λ Q q=>CH (ev_v rfl) (.inl (aL.of e9)) λ l hl=>q _ _ ⟨l,rfl,hl,af,(ak.refl H9).upd hl⟩) ?_;rintro _ H10 ⟨l,rfl,nl,el,s10⟩;have e10:=s10 _ _ e9;have npl:l≠p:=λ e=>by rw [e,e9] at nl;cases nl
  refine C5 (ev_v rfl) e10 ?_;have s4p:ak H4 (upd H10 p (.lst [])):=λ d o e=>by rw [ah (ag e np)];exact s10 _ _ (s9 _ _ (s8 _ _ (s46 _ _ e)))
  have elp:(upd H10 p (.lst [])) l=some (.lst ((plc (codeE wi hi hs) z).map λ r=>V.str (sL r))):=by rw [ah npl];exact el
  refine mz (m4 (fS (aa (ev_v rfl) (aa (ev_v rfl) ap)) ⟨g,b,_,_,_,_,_,wi,hi,hs,z,rfl,G4.same s4p,O4.same s4p,m8,lz,bz,λ p2 H' n2 e2 s'=>?_⟩));refine il (v:=.ref l) (ev_v rfl) ⟨true,sk (aL.of e2) (aL.of (s' _ _ elp)) (λ x hx=>?_),k _⟩;obtain ⟨r,_,rfl⟩:=EE.mp hx;rfl
end
end K28
namespace L2
open PySem PySem.W PyProof.Rows
theorem qi {q:Program}{loose:List Str}{XP:(Str->Option Value)->Heap->Prop}{YP:World->Heap->Prop}{α:Type}{Yf:Shared->α}{Ya:World->α}{r:RowW}{d:DefRec}{kwd:List (Str×Expr)}{run:Value->List Value->Sem Value}
  (hY:∀(w:World) (s₀ s₁:Shared),Yf s₀=Ya w->(∀b o,s₀.heap.get? b=some o->s₁.heap.get? b=some o)->YP w s₁.heap) (h:WalkO q loose XP YP r d kwd run):PySem.W.WalkX q loose XP Yf Ya r d kwd run:=
 λ w s₀ s₁ mg mb G y a o pm cd doc dV kV ho hd hcd hD hmg hg args vals as L hpre hlay hrd hwl hlo=>h w s₀ s₁ mg mb G (hY w s₀ s₁ y L.keeps) a o pm cd doc dV kV ho hd hcd hD hmg hg args vals as hpre hlay hrd hwl hlo
theorem yl {P:List Value->Prop}(h:∀a0:Value,P [a0]):∀us:List Value,us.length=1->P us
 | [a0],_=>h a0
theorem mT {P:List Value->Prop}(h:∀a0 a1:Value,P [a0,a1]):∀us:List Value,us.length=2->P us
 | [a0,a1],_=>h a0 a1
theorem yk {P:List Value->Prop}(h:∀a0 a1 a2:Value,P [a0,a1,a2]):∀us:List Value,us.length=3->P us
 | [a0,a1,a2],_=>h a0 a1 a2
theorem ln4 {P:List Value->Prop}(h:∀a0 a1 a2 a3:Value,P [a0,a1,a2,a3]):∀us:List Value,us.length=4->P us
 | [a0,a1,a2,a3],_=>h a0 a1 a2 a3
theorem ln7 {P:List Value->Prop}(h:∀a0 a1 a2 a3 a4 a5 a6:Value,P [a0,a1,a2,a3,a4,a5,a6]):∀us:List Value,us.length=7->P us
 | [a0,a1,a2,a3,a4,a5,a6],_=>h a0 a1 a2 a3 a4 a5 a6
end L2
namespace L2
open PySem PySem.W PyProof.Rows
def mf:Nat->List Obj->Nat->Nat->PySem.W.BT
 | 0,_,_,_=>.nil
 | f+1,l,a,b=>(l[b]?).elim .nil λ o=>.node o (mf f l (2*a) (a+b)) (mf f l (2*a) (2*a+b))
def toT (s:Shared):SharedT:=⟨mf 12 s.heap.objs.toList 1 0,s.heap.objs.size,s.heap.life,s.gens,s.drawn,s.toks,s.os⟩
abbrev CW (name qual:Str) (params:Arguments) (body:List Stmt) (scope:Scope) (globals:Addr) (closure:List (Str×Addr)) (dV kV doc pm:Value) (an:Option Addr) (cdv ct:Value) (bl:Addr):FuncData:=
 {name,qualname:=qual,params,body:=.stmts body,scope,globals,closure,defaults:=dV,kwdefaults:=kV,doc,pyModule:=pm,annotations:=an,code:=cdv,closureTuple:=ct,builtins:=bl}
noncomputable def stT (t:PySem.W.BT) (n k:Nat) (P:Params) (os:OsState):SharedT:=⟨t,n,(boot_heap P).life,Array.mk [],boot_drawn,k,os⟩
theorem pG {p q:Program}{loose:List Str}{Xt:Shared->Bool}{α:Type}{Yf:Shared->α}{Ya:World->α}{N:Nat}{g0:Bool}{H₀:Params->Heap}{gs₀:Array GenState}{d₀:Drawn}{k₀ m₀:Nat}{ann:Option Value}{n0 nb n:Nat}
  {b:List Stmt} {env:Env} {qp p0 p1:Pos} {sa:World->OsState->Shared} {sb:World->OsState->SharedT} {sf:World->OsState->Shared}
  (open_:∀w:World,(fencedOpening treeTable p w N).map (λ s=>(s.heap,s.gens,s.drawn,s.toks))=some (H₀ w.params,gs₀,d₀,k₀))
  (size:∀w:World,((H₀ w.params).isNs mainGlobals&&gs₀.size == 0,(H₀ w.params).objs.size,(H₀ w.params).nsMap mainGlobals "__annotations__")=(true,m₀,ann))
  (pre:∀w os,topGo treeTable p w m₀ ann n0 ⟨H₀ w.params,gs₀,d₀,k₀,os⟩ (topStub p)=some (sa w os,⟨denote treeTable (.body b env),.body b env,p0,[topFrame qp]⟩))
  (block:∀w os,segRun treeTable p w m₀ ann 1 nb (sa w os) (blockOf b env (.body b env) p0 [topFrame qp])=some (.next,(sb w os).abs,.body b env,p1))
  (main:∀w os,topRun treeTable p w m₀ ann n (sb w os).abs (restOf b env (.body b env) p1 [topFrame qp])=some (sf w os))
  (le:Nat.ble (n0+(nb+n)) N=true)
  (looks:∀w os,((staticsOk (importedModules p.main.body) (H₀ w.params) (sf w os).heap&&namesBound p (sf w os).heap&&gensDone (sf w os)&&laidKept (H₀ w.params) (sf w os).heap),
    openSeen q loose (importedModules p.main.body) Xt g0 (sf w os),Yf (sf w os))=(true,openGood q loose,Ya w)):LeftO p q loose Xt Yf Ya N g0:=λ w=>by
 obtain ⟨⟨h,gs,d,k,os⟩,e,e'⟩:=GU.mp (open_ w);obtain ⟨rfl,rfl,rfl,rfl⟩:h=H₀ w.params/\gs=gs₀/\d=d₀/\k=k₀:=by simpa using e'
 obtain ⟨z1,z2,z3⟩:_/\_/\_:=by simpa only [Prod.mk.injEq] using size w
 obtain ⟨l1,l2,l3⟩:_/\_/\_:=by simpa only [Prod.mk.injEq] using looks w os
 have r3:=go_top (pre w os) (piece_block (block w os) (main w os));have r:=topRun_mono (N - (n0+(nb+n))) _ _ _ _ r3;rw [show n0+(nb+n)+(N - (n0+(nb+n)))=N by have:=Nat.le_of_ble_eq_true le;omega] at r;have t:topFrom treeTable p w N ⟨H₀ w.params,gs,d,k,os⟩=some (sf w os):=by
  unfold topFrom;dsimp only;rw [z1,z2,z3,r];show (match staticsOk (importedModules p.main.body) (H₀ w.params) (sf w os).heap&&namesBound p (sf w os).heap&&gensDone (sf w os)&&laidKept (H₀ w.params) (sf w os).heap with | true=>_ | false=>_)=_
  rw [l1]
 unfold openEnds;rw [e];show (topFrom treeTable p w N _).map _=_;rw [t];exact congrArg some (Prod.ext l2 l3)
def oe (as:List Addr) (s:Shared):List (Option Obj):=as.map s.heap.get?
def oa (K:Params->Frag) (w:World):List (Option Obj):=(K w.params).map λ p=>some p.2
theorem CP {K:Params->Frag}{as:List Addr}(e:∀P,as=(K P).map (·.1)) (w:World) (s₀ s₁:Shared) (y:oe as s₀=oa K w) (k:∀b o,s₀.heap.get? b=some o->s₁.heap.get? b=some o):(K w.params).In s₁.heap:=
 InK.keeps w s₀.heap s₁.heap (InK.of e w s₀ y) k
end L2
namespace K28
open PySem L2
abbrev aY (x:Array Value) (n:Nat):Obj:=⟨.type "tuple",none,.seq x n,#[]⟩
noncomputable abbrev eX (a b:Str) (s:Stmt):Obj:=⟨.none,none,.func (L2.CW a b (dB s) (cN s) (ae s) 0 [] .none .none .none .none none .none .none 0),#[]⟩
abbrev iq (a b:Str) (n m l:Nat) (i j k o:Int) (r:Nat) (f:Bool) (p:Int) (q x y z:Nat) (u v:Int) (e:Nat):Obj:=⟨.type "code",none,.fields #[.str a n,.str b m,.str "/claim/cut.py" l,.int i 0,.int j 0,.int 0 0,.int k 0,.int o 0,.ref r,.bool f,.int p 0,.ref q,.none,.ref x,.ref y,.ref z,.int u 0,.int v 0,.str "/claim/cut.py" e],#[]⟩
abbrev zg (a b:Str) (n m l:Nat) (i j k o:Int) (r:Nat) (f:Bool) (p:Int) (q:Nat) (u v:Int) (e:Nat):Obj:=⟨.type "code",none,.fields #[.str a n,.str b m,.str "/claim/cut.py" l,.int i 0,.int j 0,.int 0 0,.int k 0,.int o 0,.ref r,.bool f,.int p 0,.ref q,.none,.none,.none,.none,.int u 0,.int v 0,.str "/claim/cut.py" e],#[]⟩
noncomputable abbrev eY (a b:Str) (s:Stmt) (m:Str) (n c:Nat):Obj:=⟨.type "function",none,.func (Hc a b (dB s) (cN s) (ae s) .none .none .none (.str m n) none (.ref c) .none),#[]⟩
abbrev dN (x:Array Value):Obj:=⟨.none,none,.fields x,#[]⟩
abbrev oB (x:Array Value):Obj:=⟨.type "code",none,.fields x,#[]⟩
abbrev aT (P:Params) (x:Str) (n:Nat) (v:Value):DictEntry:=⟨PyData.keyHash P x,.str x n,v⟩
abbrev aN (x:Obj):PySem.W.BT:=.node x .nil .nil
abbrev az (x:Obj) (a b:PySem.W.BT):PySem.W.BT:=.node x a b
abbrev cq:Value:=.int 0 0
abbrev gB (n:Nat):Value:=.str "/claim/cut.py" n
abbrev aO (n:Int):Value:=.int n 0
abbrev hP:Program:=PySem.Challenge.pw_playboard_k28_placings
noncomputable def hQ:Program:={hP with main:={hP.main with body:=bC 0::bC 2::bC 3::bC 4::bC 6::bC 7::bC 8::bC 9::bC 10::bC 11::bC 12::bC 13::bC 14::bC 15::bC 16::bC 17::bC 18::bC 19::bC 20::bC 21::bC 22::bC 23::bC 25::bC 26::bC 27::bC 29::bC 30::bC 31::bC 32::bC 34::bC 35::bC 36::bC 38::bC 39::bC 40::bC 42::bC 44::bC 45::bC 46::bC 47::bC 48::bC 49::bC 50::[]}}
noncomputable section
variable (P:Params)
def zo3:Obj:=⟨(.type "dict"),none,(.dict #[aT P "__name__" 165 (.str "law_playboard_k28_placings" 560),aT P "__doc__" 166 .none,aT P "__package__" 167 .none,aT P "__loader__" 168 (.builtin "__main__.__loader__#opaque"),aT P "__spec__" 169 .none,aT P "__annotations__" 170 (.ref 6),aT P "__builtins__" 171 (.ref 4),aT P "__file__" 173 (gB 172),aT P "__cached__" 174 .none,aT P "_wall" 193 (.ref 21),aT P "is_whole" 202 (.ref 28),aT P "is_letter" 209 (.ref 35),aT P "is_among" 218 (.ref 42),aT P "SORTS" 224 (.ref 43),aT P "AIMS" 228 (.ref 44),aT P "END_WORDS" 231 (.ref 45),aT P "STUCK_WORDS" 235 (.ref 46),aT P "MOST_KINDS" 237 (.int 6 236),aT P "MOST_RULES" 239 (.int 24 238),aT P "MOST_PAIRS" 241 (.int 6 240),aT P "is_word" 249 (.ref 53),aT P "is_tuple_of" 257 (.ref 60),aT P "is_list_of" 266 (.ref 67),aT P "is_step" 276 (.ref 74),aT P "is_rule" 286 (.ref 81),aT P "is_pair" 295 (.ref 88),aT P "are_pairs" 301 (.ref 93),aT P "is_turns" 307 (.ref 98),aT P "is_ends" 315 (.ref 105),aT P "are_kinds" 321 (.ref 110),aT P "are_rules" 327 (.ref 115),aT P "EMPTY" 331 (.str "." 330),aT P "HOLE" 333 (.str "#" 332),aT P "empty_row" 339 (.ref 120),aT P "ways_to_choose" 351 (.ref 127),aT P "many_placings" 363 (.ref 134),aT P "next_signs" 372 (.ref 141),aT P "placings" 378 (.ref 146),aT P "PlayError" 398 (.ref 156),aT P "BadBoard" 414 (.ref 169),aT P "BadGame" 430 (.ref 181),aT P "LONGEST" 434 (.int 8 433),aT P "are_holes" 440 (.ref 188),aT P "Board" 502 (.ref 229),aT P "Game" 559 (.ref 264),aT P "_law_at" 569 (.ref 275),aT P "_law_board" 581 (.ref 282),aT P "_law_kinds" 587 (.ref 287),aT P "_law_signs" 600 (.ref 294),aT P "_law_due" 606 (.ref 299),aT P "_law_fits" 612 (.ref 304),aT P "law" 618 (.ref 309)] 52),#[]⟩
def D5:Obj:=aY #[] 0
def D4:Obj:=dN #[(aO 1),cq,(.ref 20),(aO 5),cq,(.ref 27),(aO 7),cq,(.ref 34),(aO 9),cq,(.ref 41),(aO 19),cq,(.ref 52),(aO 21),cq,(.ref 59),(aO 23),cq,(.ref 66),(aO 25),cq,(.ref 73),(aO 30),cq,(.ref 80),(aO 40),cq,(.ref 87),(aO 42),cq,(.ref 92),(aO 44),cq,(.ref 97),(aO 51),cq,(.ref 104),(aO 53),cq,(.ref 109),(aO 57),cq,(.ref 114),(aO 62),cq,(.ref 119),(aO 65),cq,(.ref 126),(aO 70),cq,(.ref 133),(aO 78),cq,(.ref 140),(aO 81),cq,(.ref 145),(aO 95),cq,(.ref 152),(aO 97),cq,(.ref 165),(aO 99),cq,(.ref 177),(aO 103),cq,(.ref 187),(aO 109),cq,(.ref 194),(aO 133),cq,(.ref 239),(aO 159),cq,(.ref 274),(aO 163),cq,(.ref 281),(aO 174),cq,(.ref 286),(aO 178),cq,(.ref 293),(aO 185),cq,(.ref 298),(aO 196),cq,(.ref 303),(aO 203),cq,(.ref 308)]
def D3:Obj:=zg "<module>" "<module>" 182 183 184 1 0 0 0 11 false 181 12 185 1 186
def D2:Obj:=⟨(.type "frame"),none,.plain,#[(some (.ref 13)),(some (.ref 3)),(some (.ref 3)),none,(some (.str "__main__" 164)),none,(some (.ref 0))]⟩
def BO:Obj:=aY #[] 0
def D1:Obj:=dN #[]
def BA:Obj:=aY #[(.str "k" 190)] 0
def Br:Obj:=aY #[] 0
def D0:Obj:=eX "_wall" "_wall" nU
def Bd:Obj:=iq "_wall" "_wall" 187 188 189 1 1 0 3 15 true 181 16 17 18 19 191 1 192
def A9:Obj:=eY "_wall" "_wall" nU "__main__" 164 20
def A5:Obj:=aY #[] 0
def DZ:Obj:=dN #[]
def AT:Obj:=aY #[(.str "thing" 199)] 0
def AN:Obj:=aY #[] 0
def DY:Obj:=eX "is_whole" "is_whole" da
def AH:Obj:=iq "is_whole" "is_whole" 196 197 198 5 1 0 3 22 true 181 23 24 25 26 200 5 201
def AD:Obj:=eY "is_whole" "is_whole" da "playboard.words" 194 27
def Ay:Obj:=aY #[] 0
def DX:Obj:=dN #[]
def Ap:Obj:=aY #[(.str "thing" 206)] 0
def Ao:Obj:=aY #[] 0
def DW:Obj:=eX "is_letter" "is_letter" cO
def An:Obj:=iq "is_letter" "is_letter" 203 204 205 7 1 0 3 29 true 181 30 31 32 33 207 7 208
def Am:Obj:=eY "is_letter" "is_letter" cO "playboard.words" 194 34
def Al:Obj:=aY #[] 0
def DV:Obj:=dN #[]
def Ak:Obj:=aY #[(.str "thing" 213),(.str "least" 214),(.str "most" 215)] 0
def Aj:Obj:=aY #[] 0
def DU:Obj:=eX "is_among" "is_among" db
def Ai:Obj:=iq "is_among" "is_among" 210 211 212 9 3 0 3 36 true 181 37 38 39 40 216 9 217
def Ah:Obj:=eY "is_among" "is_among" db "playboard.words" 194 41
def Ag:Obj:=aY #[(.str "leap" 221),(.str "slide" 222),(.str "jump" 223)] 0
def Af:Obj:=aY #[(.str "go" 225),(.str "hit" 226),(.str "any" 227)] 0
def Ae:Obj:=aY #[(.str "without" 229),(.str "home" 230)] 0
def Ad:Obj:=aY #[(.str "lost" 232),(.str "even" 233),(.str "won" 234)] 0
def Ac:Obj:=aY #[] 0
def DT:Obj:=dN #[]
def Ab:Obj:=aY #[(.str "thing" 245),(.str "words" 246)] 0
def Aa:Obj:=aY #[] 0
def DS:Obj:=eX "is_word" "is_word" dP
def zZ:Obj:=iq "is_word" "is_word" 242 243 244 19 2 0 3 47 true 181 48 49 50 51 247 19 248
def zY:Obj:=eY "is_word" "is_word" dP "playboard.rules" 219 52
def zX:Obj:=aY #[] 0
def DR:Obj:=dN #[]
def zW:Obj:=aY #[(.str "thing" 253),(.str "many" 254)] 0
def zV:Obj:=aY #[] 0
def DQ:Obj:=eX "is_tuple_of" "is_tuple_of" bX
def zU:Obj:=iq "is_tuple_of" "is_tuple_of" 250 251 252 21 2 0 3 54 true 181 55 56 57 58 255 21 256
def zT:Obj:=eY "is_tuple_of" "is_tuple_of" bX "playboard.rules" 219 59
def zS:Obj:=aY #[] 0
def DP:Obj:=dN #[]
def zR:Obj:=aY #[(.str "thing" 261),(.str "least" 262),(.str "most" 263)] 0
def zQ:Obj:=aY #[] 0
def DO:Obj:=eX "is_list_of" "is_list_of" cx
def zP:Obj:=iq "is_list_of" "is_list_of" 258 259 260 23 3 0 3 61 true 181 62 63 64 65 264 23 265
def zO:Obj:=eY "is_list_of" "is_list_of" cx "playboard.rules" 219 66
def zN:Obj:=aY #[] 0
def DN:Obj:=dN #[]
def zM:Obj:=aY #[(.str "sort" 270),(.str "across" 271),(.str "up" 272),(.str "longest" 273)] 0
def zL:Obj:=aY #[] 0
def DM:Obj:=eX "is_step" "is_step" dQ
def zK:Obj:=iq "is_step" "is_step" 267 268 269 25 3 0 3 68 true 181 69 70 71 72 274 25 275
def zJ:Obj:=eY "is_step" "is_step" dQ "playboard.rules" 219 73
def zI:Obj:=aY #[] 0
def DL:Obj:=dN #[]
def zH:Obj:=aY #[(.str "thing" 280),(.str "kinds" 281),(.str "sort" 282),(.str "aim" 283)] 0
def zG:Obj:=aY #[] 0
def DK:Obj:=eX "is_rule" "is_rule" dR
def zF:Obj:=iq "is_rule" "is_rule" 277 278 279 30 2 0 3 75 true 181 76 77 78 79 284 30 285
def zE:Obj:=eY "is_rule" "is_rule" dR "playboard.rules" 219 80
def zD:Obj:=aY #[] 0
def DJ:Obj:=dN #[]
def zC:Obj:=aY #[(.str "thing" 290),(.str "firsts" 291),(.str "seconds" 292)] 0
def zB:Obj:=aY #[] 0
def DI:Obj:=eX "is_pair" "is_pair" dS
def zA:Obj:=iq "is_pair" "is_pair" 287 288 289 40 3 0 3 82 true 181 83 84 85 86 293 40 294
def zz:Obj:=eY "is_pair" "is_pair" dS "playboard.rules" 219 87
def zy:Obj:=aY #[] 0
def DH:Obj:=dN #[]
def DG:Obj:=eX "are_pairs" "are_pairs" ck
def zw:Obj:=oB #[(.str "are_pairs" 296),(.str "are_pairs" 297),(gB 298),(aO 42),(aO 3),cq,cq,(aO 3),(.ref 89),(.bool true),(aO 181),(.ref 90),.none,.none,.none,(.ref 91),(aO 299),(aO 42),(gB 300)]
def zu:Obj:=eY "are_pairs" "are_pairs" ck "playboard.rules" 219 92
def zt:Obj:=aY #[] 0
def DF:Obj:=dN #[]
def DE:Obj:=eX "is_turns" "is_turns" cc
def zr:Obj:=oB #[(.str "is_turns" 302),(.str "is_turns" 303),(gB 304),(aO 44),(aO 2),cq,cq,(aO 3),(.ref 94),(.bool true),(aO 181),(.ref 95),.none,.none,.none,(.ref 96),(aO 305),(aO 44),(gB 306)]
def zq:Obj:=eY "is_turns" "is_turns" cc "playboard.rules" 219 97
def zp:Obj:=aY #[] 0
def B8:Obj:=dN #[]
def w6:Obj:=aY #[(.str "thing" 311),(.str "kinds" 312)] 0
def w5:Obj:=aY #[] 0
def B7:Obj:=eX "is_ends" "is_ends" dU
def w4:Obj:=iq "is_ends" "is_ends" 308 309 310 51 2 0 3 99 true 181 100 101 102 103 313 51 314
def wZ:Obj:=eY "is_ends" "is_ends" dU "playboard.rules" 219 104
def wY:Obj:=aY #[] 0
def B6:Obj:=dN #[]
def B5:Obj:=eX "are_kinds" "are_kinds" cm
def wX:Obj:=oB #[(.str "are_kinds" 316),(.str "are_kinds" 317),(gB 318),(aO 53),(aO 1),cq,cq,(aO 3),(.ref 106),(.bool true),(aO 181),(.ref 107),.none,.none,.none,(.ref 108),(aO 319),(aO 53),(gB 320)]
def wW:Obj:=eY "are_kinds" "are_kinds" cm "playboard.rules" 219 109
def wV:Obj:=aY #[] 0
def B4:Obj:=dN #[]
def B3:Obj:=eX "are_rules" "are_rules" cj
def wU:Obj:=oB #[(.str "are_rules" 322),(.str "are_rules" 323),(gB 324),(aO 57),(aO 2),cq,cq,(aO 3),(.ref 111),(.bool true),(aO 181),(.ref 112),.none,.none,.none,(.ref 113),(aO 325),(aO 57),(gB 326)]
def wT:Obj:=eY "are_rules" "are_rules" cj "playboard.rules" 219 114
def wS:Obj:=aY #[] 0
def B2:Obj:=dN #[]
def B1:Obj:=eX "empty_row" "empty_row" ci
def wR:Obj:=oB #[(.str "empty_row" 334),(.str "empty_row" 335),(gB 336),(aO 62),(aO 1),cq,cq,(aO 3),(.ref 116),(.bool true),(aO 181),(.ref 117),.none,.none,.none,(.ref 118),(aO 337),(aO 62),(gB 338)]
def wQ:Obj:=eY "empty_row" "empty_row" ci "playboard.places" 328 119
def wP:Obj:=aY #[] 0
def BZ:Obj:=dN #[]
def wO:Obj:=aY #[(.str "many" 345),(.str "chosen" 346),(.str "found" 347),(.str "step" 348)] 0
def wN:Obj:=aY #[] 0
def BY:Obj:=eX "ways_to_choose" "ways_to_choose" bA
def wM:Obj:=iq "ways_to_choose" "ways_to_choose" 342 343 344 65 2 0 3 121 true 181 122 123 124 125 349 65 350
def wL:Obj:=eY "ways_to_choose" "ways_to_choose" bA "playboard.placings" 340 126
def wK:Obj:=aY #[] 0
def BX:Obj:=dN #[]
def wJ:Obj:=aY #[(.str "game" 355),(.str "material" 356),(.str "free" 357),(.str "found" 358),(.str "sign" 359),(.str "alike" 360)] 0
def wI:Obj:=aY #[] 0
def BW:Obj:=eX "many_placings" "many_placings" bE
def wH:Obj:=iq "many_placings" "many_placings" 352 353 354 70 2 0 3 128 true 181 129 130 131 132 361 70 362
def wG:Obj:=eY "many_placings" "many_placings" bE "playboard.placings" 340 133
def wF:Obj:=aY #[] 0
def BV:Obj:=dN #[]
def wE:Obj:=aY #[(.str "rest" 367),(.str "free" 368),(.str "signs" 369)] 0
def wD:Obj:=aY #[] 0
def BU:Obj:=eX "next_signs" "next_signs" cw
def wC:Obj:=iq "next_signs" "next_signs" 364 365 366 78 2 0 3 135 true 181 136 137 138 139 370 78 371
def wB:Obj:=eY "next_signs" "next_signs" cw "playboard.placings" 340 140
def wA:Obj:=aY #[] 0
def BS:Obj:=dN #[]
def BR:Obj:=eX "placings" "placings" cb
def wz:Obj:=oB #[(.str "placings" 373),(.str "placings" 374),(gB 375),(aO 81),(aO 2),cq,cq,(aO 3),(.ref 142),(.bool true),(aO 181),(.ref 143),.none,.none,.none,(.ref 144),(aO 376),(aO 81),(gB 377)]
def wy:Obj:=eY "placings" "placings" cb "playboard.placings" 340 145
def wx:Obj:=aY #[(.type "ValueError")] 0
def BQ:Obj:=⟨(.type "builtin_function_or_method"),none,(.fields #[(.builtin "type.__prepare__"),(.type "type")]),#[]⟩
def BP:Obj:=⟨(.type "dict"),none,(.dict #[aT P "__module__" 388 (.str "playboard.errors" 379),aT P "__qualname__" 390 (.str "PlayError" 389),aT P "__firstlineno__" 392 (.int 95 391),aT P "__static_attributes__" 393 (.ref 154)] 4),#[]⟩
def BN:Obj:=aY #[] 0
def BM:Obj:=dN #[]
def BL:Obj:=zg "PlayError" "PlayError" 383 384 385 95 0 0 0 150 false 181 151 386 95 387
def BK:Obj:=⟨(.type "frame"),none,.plain,#[(some (.ref 152)),(some (.ref 3)),(some (.ref 149)),none,(some (.str "playboard.errors" 379)),none,(some (.ref 0))]⟩
def ww:Obj:=aY #[] 0
def wv:Obj:=⟨(.type "dict"),none,(.dict #[aT P "__module__" 388 (.str "playboard.errors" 379),aT P "__firstlineno__" 392 (.int 95 391),aT P "__static_attributes__" 393 (.ref 154),aT P "__weakref__" 395 (.ref 157),aT P "__doc__" 396 .none] 3),#[]⟩
def wu:Obj:=⟨(.type "type"),none,(.cls ⟨"PlayError",[(.type "ValueError")],[(.ref 156),(.type "ValueError"),(.type "Exception"),(.type "BaseException"),(.type "object")],155,"PlayError",true,[],[(.ref 169),(.ref 181)],false,none,false⟩),#[(some (.ref 147)),none,(some (.str "PlayError" 381)),(some (.str "PlayError" 389)),(some (.builtin "ValueError.__new__")),(some (.bool true))]⟩
def wt:Obj:=⟨(.type "getset_descriptor"),none,(.fields #[(.str "__weakref__" 394),(.ref 156),(.builtin "ExceptionGroup.__weakref__"),.none]),#[]⟩
def BJ:Obj:=⟨(.type "super"),none,(.fields #[(.ref 156),(.ref 156),(.ref 156)]),#[]⟩
def BI:Obj:=⟨(.type "builtin_function_or_method"),none,(.fields #[(.builtin "object.__init_subclass__"),(.ref 156)]),#[]⟩
def wq:Obj:=aY #[(.ref 156)] 0
def BH:Obj:=⟨(.type "builtin_function_or_method"),none,(.fields #[(.builtin "type.__prepare__"),(.type "type")]),#[]⟩
def BG:Obj:=⟨(.type "dict"),none,(.dict #[aT P "__module__" 406 (.str "playboard.errors" 379),aT P "__qualname__" 408 (.str "BadBoard" 407),aT P "__firstlineno__" 410 (.int 97 409),aT P "__static_attributes__" 411 (.ref 167)] 4),#[]⟩
def BF:Obj:=aY #[] 0
def BE:Obj:=dN #[]
def BD:Obj:=zg "BadBoard" "BadBoard" 401 402 403 97 0 0 0 163 false 181 164 404 97 405
def BB:Obj:=⟨(.type "frame"),none,.plain,#[(some (.ref 165)),(some (.ref 3)),(some (.ref 162)),none,(some (.str "playboard.errors" 379)),none,(some (.ref 0))]⟩
def wo:Obj:=aY #[] 0
def wn:Obj:=⟨(.type "dict"),none,(.dict #[aT P "__module__" 406 (.str "playboard.errors" 379),aT P "__firstlineno__" 410 (.int 97 409),aT P "__static_attributes__" 411 (.ref 167),aT P "__doc__" 412 .none] 2),#[]⟩
def wm:Obj:=⟨(.type "type"),none,(.cls ⟨"BadBoard",[(.ref 156)],[(.ref 169),(.ref 156),(.type "ValueError"),(.type "Exception"),(.type "BaseException"),(.type "object")],168,"BadBoard",true,[],[],false,none,false⟩),#[(some (.ref 160)),none,(some (.str "BadBoard" 399)),(some (.str "BadBoard" 407)),(some (.builtin "ValueError.__new__")),(some (.bool true))]⟩
def Bz:Obj:=⟨(.type "super"),none,(.fields #[(.ref 169),(.ref 169),(.ref 169)]),#[]⟩
def By:Obj:=⟨(.type "builtin_function_or_method"),none,(.fields #[(.builtin "object.__init_subclass__"),(.ref 169)]),#[]⟩
def wl:Obj:=aY #[(.ref 156)] 0
def Bx:Obj:=⟨(.type "builtin_function_or_method"),none,(.fields #[(.builtin "type.__prepare__"),(.type "type")]),#[]⟩
def Bw:Obj:=⟨(.type "dict"),none,(.dict #[aT P "__module__" 422 (.str "playboard.errors" 379),aT P "__qualname__" 424 (.str "BadGame" 423),aT P "__firstlineno__" 426 (.int 99 425),aT P "__static_attributes__" 427 (.ref 179)] 4),#[]⟩
def Bv:Obj:=aY #[] 0
def Bu:Obj:=dN #[]
def Bt:Obj:=zg "BadGame" "BadGame" 417 418 419 99 0 0 0 175 false 181 176 420 99 421
def Bs:Obj:=⟨(.type "frame"),none,.plain,#[(some (.ref 177)),(some (.ref 3)),(some (.ref 174)),none,(some (.str "playboard.errors" 379)),none,(some (.ref 0))]⟩
def wj:Obj:=aY #[] 0
def wg:Obj:=⟨(.type "dict"),none,(.dict #[aT P "__module__" 422 (.str "playboard.errors" 379),aT P "__firstlineno__" 426 (.int 99 425),aT P "__static_attributes__" 427 (.ref 179),aT P "__doc__" 428 .none] 2),#[]⟩
def wf:Obj:=⟨(.type "type"),none,(.cls ⟨"BadGame",[(.ref 156)],[(.ref 181),(.ref 156),(.type "ValueError"),(.type "Exception"),(.type "BaseException"),(.type "object")],180,"BadGame",true,[],[],false,none,false⟩),#[(some (.ref 172)),none,(some (.str "BadGame" 415)),(some (.str "BadGame" 423)),(some (.builtin "ValueError.__new__")),(some (.bool true))]⟩
def Bq:Obj:=⟨(.type "super"),none,(.fields #[(.ref 181),(.ref 181),(.ref 181)]),#[]⟩
def Bp:Obj:=⟨(.type "builtin_function_or_method"),none,(.fields #[(.builtin "object.__init_subclass__"),(.ref 181)]),#[]⟩
def we:Obj:=aY #[] 0
def Bo:Obj:=dN #[]
def Bn:Obj:=eX "are_holes" "are_holes" cn
def wc:Obj:=oB #[(.str "are_holes" 435),(.str "are_holes" 436),(gB 437),(aO 103),(aO 2),cq,cq,(aO 3),(.ref 184),(.bool true),(aO 181),(.ref 185),.none,.none,.none,(.ref 186),(aO 438),(aO 103),(gB 439)]
def wa:Obj:=eY "are_holes" "are_holes" cn "playboard.boards" 431 187
def Bm:Obj:=aY #[] 0
def Bl:Obj:=⟨(.type "builtin_function_or_method"),none,(.fields #[(.builtin "type.__prepare__"),(.type "type")]),#[]⟩
def Bk:Obj:=⟨(.type "dict"),none,(.dict #[aT P "__module__" 448 (.str "playboard.boards" 431),aT P "__qualname__" 450 (.str "Board" 449),aT P "__firstlineno__" 452 (.int 109 451),aT P "__init__" 458 (.ref 200),aT P "has" 466 (.ref 207),aT P "squares" 472 (.ref 212),aT P "moved" 482 (.ref 219),aT P "far_row" 490 (.ref 226),aT P "__static_attributes__" 495 (.ref 227)] 9),#[]⟩
def Bj:Obj:=aY #[] 0
def Bi:Obj:=dN #[(aO 111),(aO 4),(.ref 199),(aO 121),(aO 4),(.ref 206),(aO 124),(aO 4),(.ref 211),(aO 127),(aO 4),(.ref 218),(aO 130),(aO 4),(.ref 225)]
def Bh:Obj:=zg "Board" "Board" 443 444 445 109 0 0 0 192 false 181 193 446 109 447
def Bg:Obj:=⟨(.type "frame"),none,.plain,#[(some (.ref 194)),(some (.ref 3)),(some (.ref 191)),none,(some (.str "playboard.boards" 431)),none,(some (.ref 0))]⟩
def v9:Obj:=aY #[] 0
def Bf:Obj:=dN #[]
def Be:Obj:=eX "__init__" "Board.__init__" bh
def v8:Obj:=oB #[(.str "__init__" 453),(.str "Board.__init__" 454),(gB 455),(aO 111),(aO 4),cq,cq,(aO 3),(.ref 196),(.bool true),(aO 181),(.ref 197),.none,.none,.none,(.ref 198),(aO 456),(aO 111),(gB 457)]
def v7:Obj:=eY "__init__" "Board.__init__" bh "playboard.boards" 431 199
def v6:Obj:=aY #[] 0
def Bc:Obj:=dN #[]
def v5:Obj:=aY #[(.str "self" 462),(.str "square" 463)] 0
def v4:Obj:=aY #[] 0
def Bb:Obj:=eX "has" "Board.has" cP
def v3:Obj:=iq "has" "Board.has" 459 460 461 121 2 0 3 201 true 181 202 203 204 205 464 121 465
def v1:Obj:=eY "has" "Board.has" cP "playboard.boards" 431 206
def vZ:Obj:=aY #[] 0
def Ba:Obj:=dN #[]
def A8:Obj:=eX "squares" "Board.squares" bm
def vY:Obj:=oB #[(.str "squares" 467),(.str "Board.squares" 468),(gB 469),(aO 124),(aO 1),cq,cq,(aO 3),(.ref 208),(.bool true),(aO 181),(.ref 209),.none,.none,.none,(.ref 210),(aO 470),(aO 124),(gB 471)]
def vX:Obj:=eY "squares" "Board.squares" bm "playboard.boards" 431 211
def vW:Obj:=aY #[] 0
def A7:Obj:=dN #[]
def vV:Obj:=aY #[(.str "self" 476),(.str "square" 477),(.str "across" 478),(.str "up" 479)] 0
def vU:Obj:=aY #[] 0
def A6:Obj:=eX "moved" "Board.moved" fM
def vT:Obj:=iq "moved" "Board.moved" 473 474 475 127 4 0 3 213 true 181 214 215 216 217 480 127 481
def vS:Obj:=eY "moved" "Board.moved" fM "playboard.boards" 431 218
def vR:Obj:=aY #[] 0
def A4:Obj:=dN #[]
def vQ:Obj:=aY #[(.str "self" 486),(.str "side" 487)] 0
def vP:Obj:=aY #[] 0
def A3:Obj:=eX "far_row" "Board.far_row" eP
def vO:Obj:=iq "far_row" "Board.far_row" 483 484 485 130 2 0 3 220 true 181 221 222 223 224 488 130 489
def vN:Obj:=eY "far_row" "Board.far_row" eP "playboard.boards" 431 225
def vM:Obj:=aY #[(.str "firm" 491),(.str "high" 492),(.str "holes" 493),(.str "wide" 494)] 0
def vL:Obj:=⟨(.type "dict"),none,(.dict #[aT P "__module__" 448 (.str "playboard.boards" 431),aT P "__firstlineno__" 452 (.int 109 451),aT P "__init__" 458 (.ref 200),aT P "has" 466 (.ref 207),aT P "squares" 472 (.ref 212),aT P "moved" 482 (.ref 219),aT P "far_row" 490 (.ref 226),aT P "__static_attributes__" 495 (.ref 227),aT P "__dict__" 497 (.ref 230),aT P "__weakref__" 499 (.ref 231),aT P "__doc__" 500 .none] 4),#[]⟩
def vK:Obj:=⟨(.type "type"),none,(.cls ⟨"Board",[(.type "object")],[(.ref 229),(.type "object")],228,"Board",true,[],[],false,none,false⟩),#[none,none,(some (.str "Board" 441)),(some (.str "Board" 449)),(some (.builtin "object.__new__")),(some (.bool true))]⟩
def vJ:Obj:=⟨(.type "getset_descriptor"),none,(.fields #[(.str "__dict__" 496),(.ref 229),(.builtin "function.__dict__"),(.builtin "function.__dict__#set")]),#[]⟩
def vI:Obj:=⟨(.type "getset_descriptor"),none,(.fields #[(.str "__weakref__" 498),(.ref 229),(.builtin "ExceptionGroup.__weakref__"),.none]),#[]⟩
def A2:Obj:=⟨(.type "super"),none,(.fields #[(.ref 229),(.ref 229),(.ref 229)]),#[]⟩
def A1:Obj:=⟨(.type "builtin_function_or_method"),none,(.fields #[(.builtin "object.__init_subclass__"),(.ref 229)]),#[]⟩
def AZ:Obj:=aY #[] 0
def AY:Obj:=⟨(.type "builtin_function_or_method"),none,(.fields #[(.builtin "type.__prepare__"),(.type "type")]),#[]⟩
def AX:Obj:=⟨(.type "dict"),none,(.dict #[aT P "__module__" 512 (.str "playboard.games" 503),aT P "__qualname__" 514 (.str "Game" 513),aT P "__firstlineno__" 516 (.int 133 515),aT P "__init__" 529 (.ref 247),aT P "rules_of" 537 (.ref 254),aT P "turned" 545 (.ref 261),aT P "__static_attributes__" 552 (.ref 262)] 7),#[]⟩
def AW:Obj:=aY #[] 0
def AV:Obj:=dN #[(aO 135),(aO 4),(.ref 246),(aO 153),(aO 4),(.ref 253),(aO 156),(aO 4),(.ref 260)]
def AU:Obj:=zg "Game" "Game" 507 508 509 133 0 0 0 237 false 181 238 510 133 511
def AS:Obj:=⟨(.type "frame"),none,.plain,#[(some (.ref 239)),(some (.ref 3)),(some (.ref 236)),none,(some (.str "playboard.games" 503)),none,(some (.ref 0))]⟩
def vH:Obj:=aY #[] 0
def AR:Obj:=dN #[]
def vG:Obj:=aY #[(.str "self" 520),(.str "board" 521),(.str "kinds" 522),(.str "rules" 523),(.str "turns" 524),(.str "ends" 525),(.str "stuck" 526)] 0
def vF:Obj:=aY #[] 0
def AQ:Obj:=eX "__init__" "Game.__init__" bF
def vE:Obj:=iq "__init__" "Game.__init__" 517 518 519 135 7 0 3 241 true 181 242 243 244 245 527 135 528
def vD:Obj:=eY "__init__" "Game.__init__" bF "playboard.games" 503 246
def vC:Obj:=aY #[] 0
def AO:Obj:=dN #[]
def vB:Obj:=aY #[(.str "self" 533),(.str "kind" 534)] 0
def vA:Obj:=aY #[] 0
def AM:Obj:=eX "rules_of" "Game.rules_of" eO
def vz:Obj:=iq "rules_of" "Game.rules_of" 530 531 532 153 2 0 3 248 true 181 249 250 251 252 535 153 536
def vy:Obj:=eY "rules_of" "Game.rules_of" eO "playboard.games" 503 253
def vx:Obj:=aY #[] 0
def AL:Obj:=dN #[]
def vw:Obj:=aY #[(.str "self" 541),(.str "kind" 542)] 0
def vv:Obj:=aY #[] 0
def AK:Obj:=eX "turned" "Game.turned" fL
def vt:Obj:=iq "turned" "Game.turned" 538 539 540 156 2 0 3 255 true 181 256 257 258 259 543 156 544
def vq:Obj:=eY "turned" "Game.turned" fL "playboard.games" 503 260
def vp:Obj:=aY #[(.str "board" 546),(.str "ends" 547),(.str "kinds" 548),(.str "rules" 549),(.str "stuck" 550),(.str "turns" 551)] 0
def vo:Obj:=⟨(.type "dict"),none,(.dict #[aT P "__module__" 512 (.str "playboard.games" 503),aT P "__firstlineno__" 516 (.int 133 515),aT P "__init__" 529 (.ref 247),aT P "rules_of" 537 (.ref 254),aT P "turned" 545 (.ref 261),aT P "__static_attributes__" 552 (.ref 262),aT P "__dict__" 554 (.ref 265),aT P "__weakref__" 556 (.ref 266),aT P "__doc__" 557 .none] 4),#[]⟩
def vn:Obj:=⟨(.type "type"),none,(.cls ⟨"Game",[(.type "object")],[(.ref 264),(.type "object")],263,"Game",true,[],[],false,none,false⟩),#[none,none,(some (.str "Game" 505)),(some (.str "Game" 513)),(some (.builtin "object.__new__")),(some (.bool true))]⟩
def vm:Obj:=⟨(.type "getset_descriptor"),none,(.fields #[(.str "__dict__" 553),(.ref 264),(.builtin "function.__dict__"),(.builtin "function.__dict__#set")]),#[]⟩
def vk:Obj:=⟨(.type "getset_descriptor"),none,(.fields #[(.str "__weakref__" 555),(.ref 264),(.builtin "ExceptionGroup.__weakref__"),.none]),#[]⟩
def AJ:Obj:=⟨(.type "super"),none,(.fields #[(.ref 264),(.ref 264),(.ref 264)]),#[]⟩
def AI:Obj:=⟨(.type "builtin_function_or_method"),none,(.fields #[(.builtin "object.__init_subclass__"),(.ref 264)]),#[]⟩
def vj:Obj:=aY #[] 0
def AG:Obj:=dN #[]
def vi:Obj:=aY #[(.str "_law_script" 565),(.str "_law_k" 566)] 0
def vh:Obj:=aY #[] 0
def AF:Obj:=eX "_law_at" "_law_at" dW
def vg:Obj:=iq "_law_at" "_law_at" 562 563 564 159 2 0 3 269 true 181 270 271 272 273 567 159 568
def vf:Obj:=eY "_law_at" "_law_at" dW "law_playboard_k28_placings" 560 274
def ve:Obj:=aY #[] 0
def AE:Obj:=dN #[]
def vd:Obj:=aY #[(.str "_law_cell" 573),(.str "_law_wide" 574),(.str "_law_high" 575),(.str "_law_holes" 576),(.str "_law_k" 577),(.str "_law_hole" 578)] 0
def vc:Obj:=aY #[] 0
def AC:Obj:=eX "_law_board" "_law_board" cz
def vb:Obj:=iq "_law_board" "_law_board" 570 571 572 163 1 0 3 276 true 181 277 278 279 280 579 163 580
def u9:Obj:=eY "_law_board" "_law_board" cz "law_playboard_k28_placings" 560 281
def u7:Obj:=aY #[] 0
def AB:Obj:=dN #[]
def AA:Obj:=eX "_law_kinds" "_law_kinds" bR
def u6:Obj:=oB #[(.str "_law_kinds" 582),(.str "_law_kinds" 583),(gB 584),(aO 174),(aO 2),cq,cq,(aO 3),(.ref 283),(.bool true),(aO 181),(.ref 284),.none,.none,.none,(.ref 285),(aO 585),(aO 174),(gB 586)]
def uZ:Obj:=eY "_law_kinds" "_law_kinds" bR "law_playboard_k28_placings" 560 286
def uY:Obj:=aY #[] 0
def Az:Obj:=dN #[]
def uX:Obj:=aY #[(.str "_law_cell" 591),(.str "_law_kinds_here" 592),(.str "_law_many" 593),(.str "_law_signs_here" 594),(.str "_law_k" 595),(.str "_law_number" 596),(.str "_law_kind" 597)] 0
def uW:Obj:=aY #[] 0
def Ax:Obj:=eX "_law_signs" "_law_signs" cy
def uV:Obj:=iq "_law_signs" "_law_signs" 588 589 590 178 3 0 3 288 true 181 289 290 291 292 598 178 599
def uU:Obj:=eY "_law_signs" "_law_signs" cy "law_playboard_k28_placings" 560 293
def uT:Obj:=aY #[] 0
def Aw:Obj:=dN #[]
def Au:Obj:=eX "_law_due" "_law_due" cH
def uS:Obj:=oB #[(.str "_law_due" 601),(.str "_law_due" 602),(gB 603),(aO 185),(aO 2),cq,cq,(aO 3),(.ref 295),(.bool true),(aO 181),(.ref 296),.none,.none,.none,(.ref 297),(aO 604),(aO 185),(gB 605)]
def uR:Obj:=eY "_law_due" "_law_due" cH "law_playboard_k28_placings" 560 298
def uQ:Obj:=aY #[] 0
def At:Obj:=dN #[]
def As:Obj:=eX "_law_fits" "_law_fits" cp
def uP:Obj:=oB #[(.str "_law_fits" 607),(.str "_law_fits" 608),(gB 609),(aO 196),(aO 3),cq,cq,(aO 3),(.ref 300),(.bool true),(aO 181),(.ref 301),.none,.none,.none,(.ref 302),(aO 610),(aO 196),(gB 611)]
def uO:Obj:=eY "_law_fits" "_law_fits" cp "law_playboard_k28_placings" 560 303
def uN:Obj:=aY #[] 0
def Ar:Obj:=dN #[]
def Aq:Obj:=eX "law" "law" fK
def uM:Obj:=oB #[(.str "law" 613),(.str "law" 614),(gB 615),(aO 203),(aO 1),cq,cq,(aO 3),(.ref 305),(.bool true),(aO 181),(.ref 306),.none,.none,.none,(.ref 307),(aO 616),(aO 203),(gB 617)]
def uL:Obj:=eY "law" "law" fK "law_playboard_k28_placings" 560 308
end
noncomputable def hK (P:Params):Frag:=(nat_lit 2,Hz P)::(nat_lit 3,zo3 P)::(nat_lit 15,BO)::(nat_lit 17,BA)::(nat_lit 18,Br)::(nat_lit 20,Bd)::(nat_lit 21,A9)::(nat_lit 22,A5)::(nat_lit 24,AT)::(nat_lit 25,AN)::(nat_lit 27,AH)::(nat_lit 28,AD)::(nat_lit 29,Ay)::(nat_lit 31,Ap)::(nat_lit 32,Ao)::(nat_lit 34,An)::(nat_lit 35,Am)::(nat_lit 36,Al)::(nat_lit 38,Ak)::(nat_lit 39,Aj)::(nat_lit 41,Ai)::(nat_lit 42,Ah)::(nat_lit 43,Ag)::(nat_lit 44,Af)::(nat_lit 45,Ae)::(nat_lit 46,Ad)::(nat_lit 47,Ac)::(nat_lit 49,Ab)::(nat_lit 50,Aa)::(nat_lit 52,zZ)::(nat_lit 53,zY)::(nat_lit 54,zX)::(nat_lit 56,zW)::(nat_lit 57,zV)::(nat_lit 59,zU)::(nat_lit 60,zT)::(nat_lit 61,zS)::(nat_lit 63,zR)::(nat_lit 64,zQ)::(nat_lit 66,zP)::(nat_lit 67,zO)::(nat_lit 68,zN)::(nat_lit 70,zM)::(nat_lit 71,zL)::(nat_lit 73,zK)::(nat_lit 74,zJ)::(nat_lit 75,zI)::(nat_lit 77,zH)::(nat_lit 78,zG)::(nat_lit 80,zF)::(nat_lit 81,zE)::(nat_lit 82,zD)::(nat_lit 84,zC)::(nat_lit 85,zB)::(nat_lit 87,zA)::(nat_lit 88,zz)::(nat_lit 89,zy)::(nat_lit 92,zw)::(nat_lit 93,zu)::(nat_lit 94,zt)::(nat_lit 97,zr)::(nat_lit 98,zq)::(nat_lit 99,zp)::(nat_lit 101,w6)::(nat_lit 102,w5)::(nat_lit 104,w4)::(nat_lit 105,wZ)::(nat_lit 106,wY)::(nat_lit 109,wX)::(nat_lit 110,wW)::(nat_lit 111,wV)::(nat_lit 114,wU)::(nat_lit 115,wT)::(nat_lit 116,wS)::(nat_lit 119,wR)::(nat_lit 120,wQ)::(nat_lit 121,wP)::(nat_lit 123,wO)::(nat_lit 124,wN)::(nat_lit 126,wM)::(nat_lit 127,wL)::(nat_lit 128,wK)::(nat_lit 130,wJ)::(nat_lit 131,wI)::(nat_lit 133,wH)::(nat_lit 134,wG)::(nat_lit 135,wF)::(nat_lit 137,wE)::(nat_lit 138,wD)::(nat_lit 140,wC)::(nat_lit 141,wB)::(nat_lit 142,wA)::(nat_lit 145,wz)::(nat_lit 146,wy)::(nat_lit 147,wx)::(nat_lit 154,ww)::(nat_lit 155,wv P)::(nat_lit 156,wu)::(nat_lit 157,wt)::(nat_lit 160,wq)::(nat_lit 167,wo)::(nat_lit 168,wn P)::(nat_lit 169,wm)::(nat_lit 172,wl)::(nat_lit 179,wj)::(nat_lit 180,wg P)::(nat_lit 181,wf)::(nat_lit 184,we)::(nat_lit 187,wc)::(nat_lit 188,wa)::(nat_lit 196,v9)::(nat_lit 199,v8)::(nat_lit 200,v7)::(nat_lit 201,v6)::(nat_lit 203,v5)::(nat_lit 204,v4)::(nat_lit 206,v3)::(nat_lit 207,v1)::(nat_lit 208,vZ)::(nat_lit 211,vY)::(nat_lit 212,vX)::(nat_lit 213,vW)::(nat_lit 215,vV)::(nat_lit 216,vU)::(nat_lit 218,vT)::(nat_lit 219,vS)::(nat_lit 220,vR)::(nat_lit 222,vQ)::(nat_lit 223,vP)::(nat_lit 225,vO)::(nat_lit 226,vN)::(nat_lit 227,vM)::(nat_lit 228,vL P)::(nat_lit 229,vK)::(nat_lit 230,vJ)::(nat_lit 231,vI)::(nat_lit 241,vH)::(nat_lit 243,vG)::(nat_lit 244,vF)::(nat_lit 246,vE)::(nat_lit 247,vD)::(nat_lit 248,vC)::(nat_lit 250,vB)::(nat_lit 251,vA)::(nat_lit 253,vz)::(nat_lit 254,vy)::(nat_lit 255,vx)::(nat_lit 257,vw)::(nat_lit 258,vv)::(nat_lit 260,vt)::(nat_lit 261,vq)::(nat_lit 262,vp)::(nat_lit 263,vo P)::(nat_lit 264,vn)::(nat_lit 265,vm)::(nat_lit 266,vk)::(nat_lit 269,vj)::(nat_lit 271,vi)::(nat_lit 272,vh)::(nat_lit 274,vg)::(nat_lit 275,vf)::(nat_lit 276,ve)::(nat_lit 278,vd)::(nat_lit 279,vc)::(nat_lit 281,vb)::(nat_lit 282,u9)::(nat_lit 283,u7)::(nat_lit 286,u6)::(nat_lit 287,uZ)::(nat_lit 288,uY)::(nat_lit 290,uX)::(nat_lit 291,uW)::(nat_lit 293,uV)::(nat_lit 294,uU)::(nat_lit 295,uT)::(nat_lit 298,uS)::(nat_lit 299,uR)::(nat_lit 300,uQ)::(nat_lit 303,uP)::(nat_lit 304,uO)::(nat_lit 305,uN)::(nat_lit 308,uM)::(nat_lit 309,uL)::[]
noncomputable def hA:List Addr:=nat_lit 2::nat_lit 3::nat_lit 15::nat_lit 17::nat_lit 18::nat_lit 20::nat_lit 21::nat_lit 22::nat_lit 24::nat_lit 25::nat_lit 27::nat_lit 28::nat_lit 29::nat_lit 31::nat_lit 32::nat_lit 34::nat_lit 35::nat_lit 36::nat_lit 38::nat_lit 39::nat_lit 41::nat_lit 42::nat_lit 43::nat_lit 44::nat_lit 45::nat_lit 46::nat_lit 47::nat_lit 49::nat_lit 50::nat_lit 52::nat_lit 53::nat_lit 54::nat_lit 56::nat_lit 57::nat_lit 59::nat_lit 60::nat_lit 61::nat_lit 63::nat_lit 64::nat_lit 66::nat_lit 67::nat_lit 68::nat_lit 70::nat_lit 71::nat_lit 73::nat_lit 74::nat_lit 75::nat_lit 77::nat_lit 78::nat_lit 80::nat_lit 81::nat_lit 82::nat_lit 84::nat_lit 85::nat_lit 87::nat_lit 88::nat_lit 89::nat_lit 92::nat_lit 93::nat_lit 94::nat_lit 97::nat_lit 98::nat_lit 99::nat_lit 101::nat_lit 102::nat_lit 104::nat_lit 105::nat_lit 106::nat_lit 109::nat_lit 110::nat_lit 111::nat_lit 114::nat_lit 115::nat_lit 116::nat_lit 119::nat_lit 120::nat_lit 121::nat_lit 123::nat_lit 124::nat_lit 126::nat_lit 127::nat_lit 128::nat_lit 130::nat_lit 131::nat_lit 133::nat_lit 134::nat_lit 135::nat_lit 137::nat_lit 138::nat_lit 140::nat_lit 141::nat_lit 142::nat_lit 145::nat_lit 146::nat_lit 147::nat_lit 154::nat_lit 155::nat_lit 156::nat_lit 157::nat_lit 160::nat_lit 167::nat_lit 168::nat_lit 169::nat_lit 172::nat_lit 179::nat_lit 180::nat_lit 181::nat_lit 184::nat_lit 187::nat_lit 188::nat_lit 196::nat_lit 199::nat_lit 200::nat_lit 201::nat_lit 203::nat_lit 204::nat_lit 206::nat_lit 207::nat_lit 208::nat_lit 211::nat_lit 212::nat_lit 213::nat_lit 215::nat_lit 216::nat_lit 218::nat_lit 219::nat_lit 220::nat_lit 222::nat_lit 223::nat_lit 225::nat_lit 226::nat_lit 227::nat_lit 228::nat_lit 229::nat_lit 230::nat_lit 231::nat_lit 241::nat_lit 243::nat_lit 244::nat_lit 246::nat_lit 247::nat_lit 248::nat_lit 250::nat_lit 251::nat_lit 253::nat_lit 254::nat_lit 255::nat_lit 257::nat_lit 258::nat_lit 260::nat_lit 261::nat_lit 262::nat_lit 263::nat_lit 264::nat_lit 265::nat_lit 266::nat_lit 269::nat_lit 271::nat_lit 272::nat_lit 274::nat_lit 275::nat_lit 276::nat_lit 278::nat_lit 279::nat_lit 281::nat_lit 282::nat_lit 283::nat_lit 286::nat_lit 287::nat_lit 288::nat_lit 290::nat_lit 291::nat_lit 293::nat_lit 294::nat_lit 295::nat_lit 298::nat_lit 299::nat_lit 300::nat_lit 303::nat_lit 304::nat_lit 305::nat_lit 308::nat_lit 309::[]
noncomputable def hE:Env:={scope:=hP.main.scope,locals:=mainNs,globals:=mainNs,cells:=[],code:=(.ref 13),frame:=some 14}
noncomputable def hB:List Stmt:=PySem.W.behindTheImports hP
noncomputable abbrev hC:Code:=.body hB hE
noncomputable abbrev hN:Option Value:=(some (.ref 6))
noncomputable abbrev hF:List Frame:=[PySem.W.topFrame ⟨0,0,0,0⟩]
noncomputable def hS (w:World) (os:OsState):Shared:=⟨Hn w.params,Array.mk [],PySem.W.boot_drawn,PySem.W.boot_toks,os⟩
noncomputable def CT (w:World) (os:OsState):Shared:=(PySem.W.topGo treeTable hP w 11 hN 12 (hS w os) (HA hP)).elim (hS w os) λ x=>x.1
noncomputable def CS (w:World) (os:OsState):PySem.W.SharedT:=toT ((HE treeTable hP w 11 hN 1 1 (CT w os) (HF hB hE hC ⟨0,0,0,0⟩ hF)).elim (CT w os) λ x=>x.2.1)
theorem hpre (w:World) (os:OsState):PySem.W.topGo treeTable hP w 11 hN 12 (hS w os) (HA hP)=some (CT w os,⟨denote treeTable hC,hC,⟨0,0,0,0⟩,hF⟩):=by kernel_rfl
theorem Ei (w:World) (os:OsState):HE treeTable hP w 11 hN 1 1 (CT w os) (HF hB hE hC ⟨0,0,0,0⟩ hF)=some (.next,(CS w os).abs,hC,⟨0,0,0,0⟩):=by kernel_rfl
noncomputable def hL1 (P:Params):PySem.W.BT:=az (PySem.W.boot_o_0 P) (az (PySem.W.boot_o_1 P) (az (zo3 P) (az (PySem.W.boot_o_7 P) (az BO (az Ap (az zR (az wL (aN vx) .nil) (aN (Bk P))) (az DF (az BI (aN uZ) .nil) (aN vP))) (az Ac (az DK (az BS (aN vi) .nil) (aN v1)) (az wV (az Bv (aN uP) .nil) (aN AU)))) (az DZ (az Aj (az zL (az wF (aN (vo P)) .nil) (aN v8)) (az B7 (az wo (aN uT) .nil) (aN vI))) (az DR (az zA (az BM (aN vc) .nil) (aN vV)) (az wR (aN Bp) (aN vD))))) (az D5 (az D0 (az Am (az zO (az wI (aN AK) .nil) (aN Bg)) (az zp (az BF (aN uW) .nil) (aN vM))) (az DS (az DJ (az wx (aN vf) .nil) (aN vY)) (az wT (az wj (aN Aq) .nil) (aN vG)))) (az AH (az Ag (az zI (az BU (aN AJ) .nil) (aN v5)) (az B6 (az By (aN uR) .nil) (aN AY))) (az zU (az DG (az (wv P) (aN u7) .nil) (aN vS)) (az wO (aN wc) (aN vA)))))) (az (PySem.W.boot_o_5 P) (az (PySem.W.boot_o_9 P) (az BA (az DW (az DO (az BX (aN vw) .nil) (aN Bi)) (az zr (az BH (aN Az) .nil) (aN vO))) (az Ab (az zE (az wz (aN AF) .nil) (aN Ba)) (az B3 (az Bt (aN uN) .nil) (aN vH)))) (az AN (az Ai (az zK (az wE (aN vm) .nil) (aN v6)) (az wZ (az wm (aN Au) .nil) (aN A1))) (az zV (az zy (az BK (aN vb) .nil) (aN A6)) (az wP (aN Bo) (aN AO))))) (az D3 (az A9 (az DV (az DN (az wH (aN vq) .nil) (aN Bf)) (az w6 (az BD (aN uV) .nil) (aN vK))) (az zY (az zB (az (BP P) (aN AE) .nil) (aN vW)) (az B2 (az wf (aN uL) .nil) (aN AQ)))) (az Ay (az Ae (az zH (az wB (aN vj) .nil) (aN Bb)) (az wX (az Bx (aN At) .nil) (aN AW))) (az zS (az zu (az wt (aN AA) .nil) (aN A4)) (az BY (aN Bm) (aN vz))))))) (az (Hz P) (az (PySem.W.boot_o_4 P) (az (PySem.W.boot_o_8 P) (az D1 (az Ao (az zQ (az wK (aN AL) .nil) (aN Bj)) (az DE (az wq (aN uY) .nil) (aN A3))) (az DT (az zF (az BR (aN vh) .nil) (aN vZ)) (az B4 (az Bu (aN uO) .nil) (aN AS)))) (az AT (az DU (az DM (az BV (aN vn) .nil) (aN v7)) (az w4 (az (wn P) (aN Aw) .nil) (aN A2))) (az zW (az zz (az BL (aN AC) .nil) (aN vU)) (az wQ (aN we) (aN vC))))) (az D4 (az Bd (az Al (az zN (az BW (aN vt) .nil) (aN v9)) (az B8 (az BE (aN Ax) .nil) (aN (vL P)))) (az zZ (az zC (az BQ (aN ve) .nil) (aN vX)) (az wS (az (wg P) (aN uM) .nil) (aN vF)))) (az AD (az Af (az DL (az wC (aN AI) .nil) (aN v4)) (az B5 (az wl (aN uQ) .nil) (aN (AX P)))) (az zT (az zw (az wu (aN AB) .nil) (aN vR)) (az wN (aN wa) (aN AM)))))) (az (PySem.W.boot_o_6 P) (az (PySem.W.boot_o_10 P) (az Br (az An (az zP (az wJ (aN vv) .nil) (aN Bh)) (az zq (az (BG P) (aN uX) .nil) (aN vN))) (az Aa (az zD (az wy (aN vg) .nil) (aN A8)) (az wU (az Bs (aN Ar) .nil) (aN AR)))) (az DY (az Ah (az zJ (az wD (aN vk) .nil) (aN Bc)) (az wY (az Bz (aN uS) .nil) (aN AZ))) (az DQ (az DH (az ww (aN u9) .nil) (aN vT)) (az BZ (aN Bn) (aN vB))))) (az D2 (az A5 (az Ak (az zM (az wG (aN vp) .nil) (aN Be)) (az w5 (az BB (aN uU) .nil) (aN vJ))) (az zX (az DI (az BN (aN vd) .nil) (aN A7)) (az B1 (aN Bq) (aN vE)))) (az DX (az Ad (az zG (az wA (aN AG) .nil) (aN v3)) (az wW (az (Bw P) (aN As) .nil) (aN AV))) (az DP (az zt (az BJ (aN u6) .nil) (aN vQ)) (az wM (aN Bl) (aN vy)))))))
noncomputable def Ej (w:World) (os:OsState):PySem.W.SharedT:=stT (hL1 w.params) 310 619 w.params os
noncomputable def hT1:List Stmt:=(hB.drop 0).take 51
theorem CO (w:World):(λ os=>PySem.W.segRunT treeTable hP w 11 hN 1 2249 (CS w os) ⟨(execs hT1 hE).wrap Hs PySem.W.deadEnd id id,hC,⟨0,0,0,0⟩,hF⟩)=λ os=>some (Flow.next,(Ej w os),hC,⟨203,0,222,58⟩):=by
 rw [PySem.W.Fast.te10110043849684766642,PySem.W.Fast.te12563942051412417395,PySem.W.Fast.te14364793385576792824]
 kernel_rfl
noncomputable def uq (tr:(String->Option Builtin)->Program->World->Nat->Option Value->Nat->Shared->Thread->Option Shared) (tb:String->Option Builtin) (w:World) (os:OsState):Shared:=
 (tr tb hP w 11 hN 2 (Ej w os).abs ⟨Hs .next,hC,⟨203,0,222,58⟩,hF⟩).elim (hS w os) id
noncomputable def hX (s:Shared):Bool:=PySem.W.xlAt hQ [] s&&PySem.W.recOk (PySem.W.RowW.records PySem.Challenge.rw_playboard_k28_placings.row.toRowW) s
theorem Eh (w:World):(λ os=>GZ treeTable hP w 11 hN 2 (Ej w os).abs ⟨Hs .next,hC,⟨203,0,222,58⟩,hF⟩)=λ os=>some (uq GZ treeTable w os):=by
 rw [PySem.W.Fast.te14364793385576792824,PySem.W.Fast.te14082659384304107361]
 kernel_rfl
theorem yz (w:World):(λ os=>(PySem.W.staticsOk (importedModules hP.main.body) (Hn w.params) (uq GZ treeTable w os).heap&&PySem.W.namesBound hP (uq GZ treeTable w os).heap&&PySem.W.gensDone (uq GZ treeTable w os)&&PySem.W.laidKept (Hn w.params) (uq GZ treeTable w os).heap))=λ os=>true:=by
 rw [PySem.W.Fast.te14364793385576792824,PySem.W.Fast.te14082659384304107361,PySem.W.Fast.te5923862056798008813]
 kernel_rfl
theorem yy (w:World):(λ os=>PySem.W.openSeen hQ [] (importedModules hP.main.body) hX true (uq GZ treeTable w os))=λ os=>PySem.W.openGood hQ []:=by
 rw [PySem.W.Fast.te14364793385576792824,PySem.W.Fast.te14082659384304107361,PySem.W.Fast.te4187177175401517315,PySem.W.Fast.te5923862056798008813]
 kernel_rfl
theorem yx (w:World):(λ os=>oe hA (uq GZ treeTable w os))=λ os=>oa hK w:=by
 rw [PySem.W.Fast.te14364793385576792824,PySem.W.Fast.te14082659384304107361]
 kernel_rfl
theorem hBe:hB=(hT1++[]):=by kernel_rfl
theorem CQ (w:World) (os:OsState):GZ treeTable hP w 11 hN (2249+2) (CS w os).abs (HG hB hE hC ⟨0,0,0,0⟩ hF)=some (uq GZ treeTable w os):=by have r:=PySem.W.piece_nil (env:=hE) (congrFun (Eh w) os);have r:=PySem.W.piece_app (PySem.W.segRun_of (congrFun (CO w) os)) r;exact (congrArg (λ l=>GZ treeTable hP w 11 hN (2249+2) (CS w os).abs (HG l hE hC ⟨0,0,0,0⟩ hF)) hBe).trans r
theorem hleft:PySem.W.LeftO hP hQ [] hX (oe hA) (oa hK) 4622:=
 pG (n0:=12) (nb:=1) (n:=(2249+2)) (qp:=⟨0,0,0,0⟩) (p0:=⟨0,0,0,0⟩) (p1:=⟨0,0,0,0⟩) (H₀:=Hn) (m₀:=11) (ann:=hN) (b:=hB) (env:=hE) (sa:=CT) (sb:=CS) (sf:=λ w os=>(uq GZ treeTable w os))
  (PySem.W.boot_open (by kernel_rfl) (by decide+kernel) (λ s=>by kernel_rfl)) (λ w=>by kernel_rfl) hpre Ei CQ (by decide+kernel) (λ w os=>by rw [congrFun (yz w) os,congrFun (yy w) os,congrFun (yx w) os])
end K28
namespace K28
open PySem L2
theorem mC (P:Program) (w:World) (base:Heap) {K:Frag}{h:Heap}{mg:Str->Option Value}{name q:Str}{st:Stmt}{ps:List Str}{k:Nat}{sp:Sp}{f:Addr}{fd:FuncData}(X:K.In h) (G:h.Ns mainGlobals mg) (a:GV K mainGlobals name=some (some (.ref f))) (F:bU K name q st f fd) (b:eQ K fd ps []) (o:bi P w K mg base dv k f fd ps sp):eW P w K mg base name ps k sp:=⟨f,_,o,GX X G a,F.kp,b⟩
noncomputable abbrev ζL (o:Value) (d:Option Addr) (a b:Str) (s:Stmt) (k c p:Value) (n:Option Addr) (e t:Value) (l:Array (Option Value)):Obj:=⟨o,d,.func (Hc a b (dB s) (cN s) (ae s) .none k c p n e t),l⟩
theorem all_mk {l:PySem.W.OpenLaw}{w:World}{K:Frag}{h:Heap}{mg:Str->Option Value}{fa f1 f2 f3 f4 f5 f6 f7 f8 f9 f10 f11 f12 f13 f14 f15 f16 f17 f18 f19 f20 f21 f22 f23 f24 f25 f26 f27 f28 f29 f30 f31 cBoard cGame aS aA aE aW:Addr}(X:K.In h) (G:h.Ns mainGlobals mg) (hfa:mg "law"=some (.ref fa))
  {od31 an31:Option Addr} {sl31:Array (Option Value)} {oc31 kV31 dc31 pm31 cd31 ct31:Value} {d1 d2 d3 d4 d5 d6 d7 d8 d9 d10 d11 d12 d13 d14 d15 d16 d17 d18 d19 d20 d21 d22 d23 d24 d25 d26 d27 d28 d29 d30:FuncData} {u0 u1 u2 u3 u4 u5:Value}
  (aCBoard:GV K mainGlobals "Board"=some (some (.ref cBoard)))
  (aCGame:GV K mainGlobals "Game"=some (some (.ref cGame)))
  (a1:GV K mainGlobals "is_whole"=some (some (.ref f1)))
  (F1:bU K "is_whole" "is_whole" da f1 d1)
  (a2:GV K mainGlobals "is_letter"=some (some (.ref f2)))
  (F2:bU K "is_letter" "is_letter" cO f2 d2)
  (a3:GV K mainGlobals "is_among"=some (some (.ref f3)))
  (F3:bU K "is_among" "is_among" db f3 d3)
  (a4:GV K mainGlobals "is_word"=some (some (.ref f4)))
  (F4:bU K "is_word" "is_word" dP f4 d4)
  (a5:GV K mainGlobals "is_tuple_of"=some (some (.ref f5)))
  (F5:bU K "is_tuple_of" "is_tuple_of" bX f5 d5)
  (a6:GV K mainGlobals "is_list_of"=some (some (.ref f6)))
  (F6:bU K "is_list_of" "is_list_of" cx f6 d6)
  (a7:GV K mainGlobals "is_step"=some (some (.ref f7)))
  (F7:bU K "is_step" "is_step" dQ f7 d7)
  (a8:GV K mainGlobals "is_rule"=some (some (.ref f8)))
  (F8:bU K "is_rule" "is_rule" dR f8 d8)
  (a9:GV K mainGlobals "is_pair"=some (some (.ref f9)))
  (F9:bU K "is_pair" "is_pair" dS f9 d9)
  (a10:GV K mainGlobals "are_pairs"=some (some (.ref f10)))
  (F10:bU K "are_pairs" "are_pairs" ck f10 d10)
  (a11:GV K mainGlobals "is_turns"=some (some (.ref f11)))
  (F11:bU K "is_turns" "is_turns" cc f11 d11)
  (a12:GV K mainGlobals "is_ends"=some (some (.ref f12)))
  (F12:bU K "is_ends" "is_ends" dU f12 d12)
  (a13:GV K mainGlobals "are_kinds"=some (some (.ref f13)))
  (F13:bU K "are_kinds" "are_kinds" cm f13 d13)
  (a14:GV K mainGlobals "are_rules"=some (some (.ref f14)))
  (F14:bU K "are_rules" "are_rules" cj f14 d14)
  (a15:GV K mainGlobals "empty_row"=some (some (.ref f15)))
  (F15:bU K "empty_row" "empty_row" ci f15 d15)
  (a16:GV K mainGlobals "ways_to_choose"=some (some (.ref f16)))
  (F16:bU K "ways_to_choose" "ways_to_choose" bA f16 d16)
  (a17:GV K mainGlobals "many_placings"=some (some (.ref f17)))
  (F17:bU K "many_placings" "many_placings" bE f17 d17)
  (a18:GV K mainGlobals "next_signs"=some (some (.ref f18)))
  (F18:bU K "next_signs" "next_signs" cw f18 d18)
  (a19:GV K mainGlobals "placings"=some (some (.ref f19)))
  (F19:bU K "placings" "placings" cb f19 d19)
  (a20:GV K mainGlobals "are_holes"=some (some (.ref f20)))
  (F20:bU K "are_holes" "are_holes" cn f20 d20)
  (a21:GW K (.ref cBoard) "__init__"=some (some (.ref f21))) (iF21:He K (.ref f21)=true)
  (F21:bU K "__init__" "Board.__init__" bh f21 d21)
  (a22:GW K (.ref cBoard) "has"=some (some (.ref f22))) (iF22:He K (.ref f22)=true)
  (F22:bU K "has" "Board.has" cP f22 d22)
  (a23:GW K (.ref cBoard) "squares"=some (some (.ref f23))) (iF23:He K (.ref f23)=true)
  (F23:bU K "squares" "Board.squares" bm f23 d23)
  (a24:GW K (.ref cGame) "__init__"=some (some (.ref f24))) (iF24:He K (.ref f24)=true)
  (F24:bU K "__init__" "Game.__init__" bF f24 d24)
  (a25:GV K mainGlobals "_law_at"=some (some (.ref f25)))
  (F25:bU K "_law_at" "_law_at" dW f25 d25)
  (a26:GV K mainGlobals "_law_board"=some (some (.ref f26)))
  (F26:bU K "_law_board" "_law_board" cz f26 d26)
  (a27:GV K mainGlobals "_law_kinds"=some (some (.ref f27)))
  (F27:bU K "_law_kinds" "_law_kinds" bR f27 d27)
  (a28:GV K mainGlobals "_law_signs"=some (some (.ref f28)))
  (F28:bU K "_law_signs" "_law_signs" cy f28 d28)
  (a29:GV K mainGlobals "_law_due"=some (some (.ref f29)))
  (F29:bU K "_law_due" "_law_due" cH f29 d29)
  (a30:GV K mainGlobals "_law_fits"=some (some (.ref f30)))
  (F30:bU K "_law_fits" "_law_fits" cp f30 d30)
  (a31:GV K mainGlobals "law"=some (some (.ref f31)))
  (l31:K.lookup f31=some (ζL oc31 od31 "law" "law" fK kV31 dc31 pm31 an31 cd31 ct31 sl31)) (c31:Hm K cd31 "law"=true) (k31:Ha K (.ref f31)=true)
  (pgXBoard:Hf K cBoard Str.empty=true)
  (hdXBoard:Hg K cBoard=true)
  (poXBoard:Hi K cBoard=true)
  (saXBoard:GW K (.ref cBoard) "__setattr__"=some (some (.builtin "object.__setattr__")))
  (mkXBoard:Hj K cBoard=true)
  (kcXBoard:Ha K (.ref cBoard)=true)
  (naBoardwide:GW K (.ref cBoard) "wide"=some none)
  (naBoardhigh:GW K (.ref cBoard) "high"=some none)
  (naBoardholes:GW K (.ref cBoard) "holes"=some none)
  (naBoardfirm:GW K (.ref cBoard) "firm"=some none)
  (pgXGame:Hf K cGame Str.empty=true)
  (hdXGame:Hg K cGame=true)
  (poXGame:Hi K cGame=true)
  (saXGame:GW K (.ref cGame) "__setattr__"=some (some (.builtin "object.__setattr__")))
  (mkXGame:Hj K cGame=true)
  (kcXGame:Ha K (.ref cGame)=true)
  (naGameboard:GW K (.ref cGame) "board"=some none)
  (naGamekinds:GW K (.ref cGame) "kinds"=some none)
  (naGamerules:GW K (.ref cGame) "rules"=some none)
  (naGameturns:GW K (.ref cGame) "turns"=some none)
  (naGameends:GW K (.ref cGame) "ends"=some none)
  (naGamestuck:GW K (.ref cGame) "stuck"=some none)
  (z0:GV K mainGlobals "isinstance"=some none)
  (z1:GV K mainGlobals "int"=some none)
  (z2:GV K mainGlobals "bool"=some none)
  (z3:GV K mainGlobals "str"=some none)
  (z4:GV K mainGlobals "list"=some none)
  (z5:GV K mainGlobals "tuple"=some none)
  (z6:GV K mainGlobals "len"=some none)
  (z7:GV K mainGlobals "range"=some none)
  (z8:GV K mainGlobals "all"=some none)
  (z9:GV K mainGlobals "any"=some none)
  (z10:GV K mainGlobals "set"=some none)
  (z11:GV K mainGlobals "sorted"=some none)
  (z12:GV K mainGlobals "max"=some none)
  (z13:GV K mainGlobals "dict"=some none)
  (z14:GV K mainGlobals "enumerate"=some none)
  (kg0:GV K mainGlobals "EMPTY"=some (some u0)) (rv0:aH (.str ".") u0)
  (kg1:GV K mainGlobals "HOLE"=some (some u1)) (rv1:aH (.str "#") u1)
  (kg2:GV K mainGlobals "MOST_PAIRS"=some (some u2)) (rv2:aH (.int 6) u2)
  (kg3:GV K mainGlobals "MOST_KINDS"=some (some u3)) (rv3:aH (.int 6) u3)
  (kg4:GV K mainGlobals "MOST_RULES"=some (some u4)) (rv4:aH (.int 24) u4)
  (kg5:GV K mainGlobals "LONGEST"=some (some u5)) (rv5:aH (.int 8) u5)
  {tO0:Value} {tD0:Option Addr} {tI0:Array Value} {tN0:Nat} {tS0:Array (Option Value)} (kt0:GV K mainGlobals "SORTS"=some (some (.ref aS))) (lt0:K.lookup aS=some ⟨tO0,tD0,.seq tI0 tN0,tS0⟩) (ctp0:tO0=.type "tuple") (zt0:tI0.size<=sizeLine) (vt0:eU ([V.str "leap",V.str "slide",V.str "jump"]) tI0.toList)
  {tO1:Value} {tD1:Option Addr} {tI1:Array Value} {tN1:Nat} {tS1:Array (Option Value)} (kt1:GV K mainGlobals "AIMS"=some (some (.ref aA))) (lt1:K.lookup aA=some ⟨tO1,tD1,.seq tI1 tN1,tS1⟩) (ctp1:tO1=.type "tuple") (zt1:tI1.size<=sizeLine) (vt1:eU ([V.str "go",V.str "hit",V.str "any"]) tI1.toList)
  {tO2:Value} {tD2:Option Addr} {tI2:Array Value} {tN2:Nat} {tS2:Array (Option Value)} (kt2:GV K mainGlobals "END_WORDS"=some (some (.ref aE))) (lt2:K.lookup aE=some ⟨tO2,tD2,.seq tI2 tN2,tS2⟩) (ctp2:tO2=.type "tuple") (zt2:tI2.size<=sizeLine) (vt2:eU ([V.str "without",V.str "home"]) tI2.toList)
  {tO3:Value} {tD3:Option Addr} {tI3:Array Value} {tN3:Nat} {tS3:Array (Option Value)} (kt3:GV K mainGlobals "STUCK_WORDS"=some (some (.ref aW))) (lt3:K.lookup aW=some ⟨tO3,tD3,.seq tI3 tN3,tS3⟩) (ctp3:tO3=.type "tuple") (zt3:tI3.size<=sizeLine) (vt3:eU ([V.str "lost",V.str "even",V.str "won"]) tI3.toList):
  ∃fd:FuncData,(∀(s:Shared) (v:Value),BindsTo s fd ⟨[v],[]⟩ [("_law_script",v)])/\∀base:Heap,K.In base->base.Ns mainGlobals mg->bi l.prog w K mg base dv 8 fa fd ["_law_script"] (nK K):=by
 have e:=hfa.symm.trans (GX X G a31);cases e;have T:Txt mg aS aA aE aW:=⟨GY X G z0,GY X G z1,GY X G z2,GY X G z3,GY X G z4,GY X G z5,GY X G z6,GY X G z7,GY X G z8,GY X G z9,GY X G z10,GY X G z11,GY X G z12,GY X G z13,GY X G z14,⟨_,GX X G kg0,rv0⟩,⟨_,GX X G kg1,rv1⟩,⟨_,GX X G kg2,rv2⟩,⟨_,GX X G kg3,rv3⟩,⟨_,GX X G kg4,rv4⟩,⟨_,GX X G kg5,rv5⟩,⟨_,GX X G kt0,rfl⟩,⟨_,GX X G kt1,rfl⟩,⟨_,GX X G kt2,rfl⟩,⟨_,GX X G kt3,rfl⟩⟩;have hT_SORTS:∀H,eT K H aS ["leap","slide","jump"]:=λ H=>.inr (.inr ⟨_,tI0,tN0,lt0,ctp0,rfl,zt0,vt0⟩);have hT_AIMS:∀H,eT K H aA ["go","hit","any"]:=λ H=>.inr (.inr ⟨_,tI1,tN1,lt1,ctp1,rfl,zt1,vt1⟩);have hT_END_WORDS:∀H,eT K H aE ["without","home"]:=λ H=>.inr (.inr ⟨_,tI2,tN2,lt2,ctp2,rfl,zt2,vt2⟩);have hT_STUCK_WORDS:∀H,eT K H aW ["lost","even","won"]:=λ H=>.inr (.inr ⟨_,tI3,tN3,lt3,ctp3,rfl,zt3,vt3⟩);have b1:=F1.binds (ps:=["thing"]) λ _ _ _ _ _ _=>L2.yl (λ _=>rfl);have b2:=F2.binds (ps:=["thing"]) λ _ _ _ _ _ _=>L2.yl (λ _=>rfl);have b3:=F3.binds (ps:=["thing","least","most"]) λ _ _ _ _ _ _=>L2.yk (λ _ _ _=>rfl);have b4:=F4.binds (ps:=["thing","words"]) λ _ _ _ _ _ _=>L2.mT (λ _ _=>rfl);have b5:=F5.binds (ps:=["thing","many"]) λ _ _ _ _ _ _=>L2.mT (λ _ _=>rfl);have b6:=F6.binds (ps:=["thing","least","most"]) λ _ _ _ _ _ _=>L2.yk (λ _ _ _=>rfl);have b7:=F7.binds (ps:=["sort","across","up"]) λ _ _ _ _ _ _=>L2.yk (λ _ _ _=>rfl);have b8:=F8.binds (ps:=["thing","kinds"]) λ _ _ _ _ _ _=>L2.mT (λ _ _=>rfl);have b9:=F9.binds (ps:=["thing","firsts","seconds"]) λ _ _ _ _ _ _=>L2.yk (λ _ _ _=>rfl);have b10:=F10.binds (ps:=["thing","firsts","seconds"]) λ _ _ _ _ _ _=>L2.yk (λ _ _ _=>rfl);have b11:=F11.binds (ps:=["thing","kinds"]) λ _ _ _ _ _ _=>L2.mT (λ _ _=>rfl);have b12:=F12.binds (ps:=["thing","kinds"]) λ _ _ _ _ _ _=>L2.mT (λ _ _=>rfl);have b13:=F13.binds (ps:=["thing"]) λ _ _ _ _ _ _=>L2.yl (λ _=>rfl);have b14:=F14.binds (ps:=["thing","kinds"]) λ _ _ _ _ _ _=>L2.mT (λ _ _=>rfl);have b15:=F15.binds (ps:=["board"]) λ _ _ _ _ _ _=>L2.yl (λ _=>rfl);have b16:=F16.binds (ps:=["many","chosen"]) λ _ _ _ _ _ _=>L2.mT (λ _ _=>rfl);have b17:=F17.binds (ps:=["game","material"]) λ _ _ _ _ _ _=>L2.mT (λ _ _=>rfl);have b18:=F18.binds (ps:=["rest","free"]) λ _ _ _ _ _ _=>L2.mT (λ _ _=>rfl);have b19:=F19.binds (ps:=["game","material"]) λ _ _ _ _ _ _=>L2.mT (λ _ _=>rfl);have b20:=F20.binds (ps:=["thing","many"]) λ _ _ _ _ _ _=>L2.mT (λ _ _=>rfl);have b21:=F21.binds (ps:=["self","wide","high","holes"]) λ _ _ _ _ _ _=>L2.ln4 (λ _ _ _ _=>rfl);have b22:=F22.binds (ps:=["self","square"]) λ _ _ _ _ _ _=>L2.mT (λ _ _=>rfl);have b23:=F23.binds (ps:=["self"]) λ _ _ _ _ _ _=>L2.yl (λ _=>rfl);have b24:=F24.binds (ps:=["self","board","kinds","rules","turns","ends","stuck"]) λ _ _ _ _ _ _=>L2.ln7 (λ _ _ _ _ _ _ _=>rfl);have b25:=F25.binds (ps:=["_law_script","_law_k"]) λ _ _ _ _ _ _=>L2.mT (λ _ _=>rfl);have b26:=F26.binds (ps:=["_law_cell"]) λ _ _ _ _ _ _=>L2.yl (λ _=>rfl);have b27:=F27.binds (ps:=["_law_cell","_law_many"]) λ _ _ _ _ _ _=>L2.mT (λ _ _=>rfl);have b28:=F28.binds (ps:=["_law_cell","_law_kinds_here","_law_many"]) λ _ _ _ _ _ _=>L2.yk (λ _ _ _=>rfl);have b29:=F29.binds (ps:=["_law_many","_law_material"]) λ _ _ _ _ _ _=>L2.mT (λ _ _=>rfl);have b30:=F30.binds (ps:=["_law_row","_law_board_here","_law_material"]) λ _ _ _ _ _ _=>L2.yk (λ _ _ _=>rfl);have F31:=aP (st:=fK) l31 c31 k31;have b31:=F31.binds (ps:=["_law_script"]) λ _ _ _ _ _ _=>L2.yl (λ _=>rfl);have cl_Board:l8 K cBoard:=⟨pgXBoard,hdXBoard,poXBoard,saXBoard⟩;have cl_Game:l8 K cGame:=⟨pgXGame,hdXGame,poXGame,saXGame⟩;refine ⟨Hc "law" "law" (dB fK) (cN fK) (ae fK) .none kV31 dc31 pm31 an31 cd31 ct31,λ s v=>.of_eq rfl,λ base _ _=>?_⟩;have C_is_whole:=mC l.prog w base X G a1 F1 b1 (lw F1 T);have C_is_letter:=mC l.prog w base X G a2 F2 b2 (ka F2 T);have C_is_among:=mC l.prog w base X G a3 F3 b3 (lA F3 T ⟨C_is_whole⟩);have C_is_word:=mC l.prog w base X G a4 F4 b4 (mJ F4 T);have C_is_tuple_of:=mC l.prog w base X G a5 F5 b5 (iH F5 T);have C_is_list_of:=mC l.prog w base X G a6 F6 b6 (jb F6 T);have C_is_step:=mC l.prog w base X G a7 F7 b7 (mK F7 T ⟨C_is_among⟩);have R2:RG2 l.prog w K mg base:=⟨C_is_word,C_is_tuple_of⟩;have R3:RG3 l.prog w K mg base:={toRG2:=R2,is_step:=C_is_step};have C_is_rule:=mC l.prog w base X G a8 F8 b8 (mL F8 T hT_SORTS hT_AIMS R3);have C_is_pair:=mC l.prog w base X G a9 F9 b9 (mM F9 T R2);have C_are_pairs:=mC l.prog w base X G a10 F10 b10 (ke F10 T ⟨C_is_list_of,C_is_pair⟩);have C_is_ends:=mC l.prog w base X G a12 F12 b12 (mN F12 T hT_END_WORDS ⟨C_are_pairs⟩);have C_is_turns:=mC l.prog w base X G a11 F11 b11 (ly F11 T ⟨C_are_pairs⟩);have G1:Et l.prog w K mg base:=⟨C_is_list_of,C_is_letter,C_is_rule⟩;have C_are_kinds:=mC l.prog w base X G a13 F13 b13 (kh F13 T G1);have C_are_rules:=mC l.prog w base X G a14 F14 b14 (kc F14 T G1);have G2:GG2 l.prog w K mg base:=⟨C_are_kinds,C_are_rules,C_is_turns,C_is_ends,C_is_word⟩;have GC:Dt K cGame:=⟨cl_Game,naGameboard,naGamekinds,naGamerules,naGameturns,naGameends,naGamestuck⟩;have C_Game:l5 l.prog w K mg base "Game" cGame _ _ _:=⟨f24,_,⟨mkXGame,a24,iF24,kcXGame⟩,kl F24 T hT_STUCK_WORDS GC G2,GX X G aCGame,b24⟩;have DA:CA l.prog w K mg base:=⟨yZ C_is_among⟩;have C_are_holes:=mC l.prog w base X G a20 F20 b20 (ki F20 T DA);have DB2:CB2 l.prog w K mg base:={toCA:=DA,are_holes:=C_are_holes};have BC:gX K cBoard:=⟨cl_Board,naBoardwide,naBoardhigh,naBoardholes,naBoardfirm⟩;have C_Board:l5 l.prog w K mg base "Board" cBoard _ _ _:=⟨f21,_,⟨mkXBoard,a21,iF21,kcXBoard⟩,jf F21 T BC DB2,GX X G aCBoard,b21⟩;have C_Board_has:ny l.prog w K mg base cBoard "has" _ _ _:=⟨⟨f22,_,km F22 T BC DA,⟨a22,iF22,F22.kp⟩,b22⟩,cl_Board⟩;have C_empty_row:=mC l.prog w base X G a15 F15 b15 (kb F15 T BC ⟨C_Board_has⟩);have C_Board_squares:ny l.prog w K mg base cBoard "squares" _ _ _:=⟨⟨f23,_,gM F23 T BC,⟨a23,iF23,F23.kp⟩,b23⟩,cl_Board⟩;have N_next_signs:ze l.prog w K mg base "next_signs" _ _ _:=⟨f18,_,ja F18 T,GX X G a18,F18.kp,b18⟩;have C_ways_to_choose:=mC l.prog w base X G a16 F16 b16 (gn F16 T);have C_placings:=mC l.prog w base X G a19 F19 b19 (lv F19 T BC GC ⟨C_Board_squares,C_empty_row,N_next_signs⟩);have C_many_placings:=mC l.prog w base X G a17 F17 b17 (gK F17 T BC GC ⟨C_Board_squares,C_ways_to_choose⟩);have C__law_at:=mC l.prog w base X G a25 F25 b25 (mO F25 T);have C__law_board:=mC l.prog w base X G a26 F26 b26 (je F26 T ⟨C_Board⟩);have C__law_kinds:=mC l.prog w base X G a27 F27 b27 (jd F27 T);have C__law_signs:=mC l.prog w base X G a28 F28 b28 (jc F28 T);have C__law_due:=mC l.prog w base X G a29 F29 b29 (lB F29 T);have C__law_fits:=mC l.prog w base X G a30 F30 b30 (kj F30 T BC);have C:CL l.prog w K mg base cBoard cGame:=⟨C__law_at,C__law_board,C__law_kinds,C_Game,C__law_signs,C_placings,C__law_fits,C_many_placings,C__law_due⟩;exact yd F31 T BC C
theorem walk {l:PySem.W.OpenLaw}{q:Program}{loose:List Str}{XP:(Str->Option Value)->Heap->Prop}{YP:World->Heap->Prop}{d:DefRec}{K:Params->Frag}(hn:l.most=some 63) (hdf:d.params.defaults=[])
  (hY:∀(w:World) (h:Heap),YP w h->(K w.params).In h)
  (F:∀(w:World) (mg:Str->Option Value) (fa:Addr) (h:Heap),(K w.params).In h->h.Ns mainGlobals mg->mg d.name=some (.ref fa)->
   ∃fd:FuncData,(∀(s:Shared) (u:Value),BindsTo s fd ⟨[u],[]⟩ [("_law_script",u)])/\∀base:Heap,(K w.params).In base->base.Ns mainGlobals mg->bi l.prog w (K w.params) mg base dv 8 fa fd ["_law_script"] (nK (K w.params))):
  PySem.W.WalkO q loose XP YP l.row.toRowW d [] (λ f vs=>PySem.call f vs):=
 L2.tu (n:=63) (k:=8) (x:="_law_script") (CX:=λ _=>dv) (sp:=λ w=>nK (K w.params)) hn (by decide) hdf ⟨rfl,by decide,by decide⟩ hY F (λ _ _ a ns hl _ hS=>⟨a,ns,rfl,hS,hl,λ _=>rfl⟩) λ _ _ _ _ _ z=>z
end K28
open PySem PySem.W PyProof.Rows
set_option maxRecDepth 100000 in
set_option maxHeartbeats 0 in
theorem PySem.Challenge.cw_playboard_k28_placings_holds : PySem.Challenge.rw_playboard_k28_placings.Holds := by
 w_on
 o_law
 refine PySem.W.holds_openX (q:=K28.hQ) (loose:=[]) (Xt:=K28.hX) (XP:=PySem.W.XL K28.hQ []) (Yf:=L2.oe K28.hA) (Ya:=L2.oa K28.hK) K28.hleft (λ s e=>PySem.W.xl_of s (GJ.mp e).1) PySem.W.XL.keeps (by rfl) (by rfl) (by rfl) (λ s e=>PySem.W.recFacts_of (GJ.mp e).2) (by rfl) (by first | assumption | decide+kernel) (by decide+kernel) ⟨rfl,rfl,rfl,rfl,rfl,by decide+kernel⟩ ?hw ?hc
 (case hw=>w_witness2)
 k_fill
 refine L2.qi (L2.CP (λ _=>by kernel_rfl)) ?_;refine K28.walk (l:=PySem.Challenge.rw_playboard_k28_placings) rfl rfl (λ w h Y=>Y) ?F
 case F=>
  intro w mg fa h KX G hmg
  refine' K28.all_mk KX G hmg ?aCBoard ?aCGame ?a1 ?F1 ?a2 ?F2 ?a3 ?F3 ?a4 ?F4 ?a5 ?F5 ?a6 ?F6 ?a7 ?F7 ?a8 ?F8 ?a9 ?F9 ?a10 ?F10 ?a11 ?F11 ?a12 ?F12 ?a13 ?F13 ?a14 ?F14 ?a15 ?F15 ?a16 ?F16 ?a17 ?F17 ?a18 ?F18 ?a19 ?F19 ?a20 ?F20 ?a21 ?iF21 ?F21 ?a22 ?iF22 ?F22 ?a23 ?iF23 ?F23 ?a24 ?iF24 ?F24 ?a25 ?F25 ?a26 ?F26 ?a27 ?F27 ?a28 ?F28 ?a29 ?F29 ?a30 ?F30 ?a31 ?l31 ?c31 ?k31 ?pgXBoard ?hdXBoard ?poXBoard ?saXBoard ?mkXBoard ?kcXBoard ?naBoardwide ?naBoardhigh ?naBoardholes ?naBoardfirm ?pgXGame ?hdXGame ?poXGame ?saXGame ?mkXGame ?kcXGame ?naGameboard ?naGamekinds ?naGamerules ?naGameturns ?naGameends ?naGamestuck ?z0 ?z1 ?z2 ?z3 ?z4 ?z5 ?z6 ?z7 ?z8 ?z9 ?z10 ?z11 ?z12 ?z13 ?z14 ?kg0 ?rv0 ?kg1 ?rv1 ?kg2 ?rv2 ?kg3 ?rv3 ?kg4 ?rv4 ?kg5 ?rv5 ?kt0 ?lt0 ?ctp0 ?zt0 ?vt0 ?kt1 ?lt1 ?ctp1 ?zt1 ?vt1 ?kt2 ?lt2 ?ctp2 ?zt2 ?vt2 ?kt3 ?lt3 ?ctp3 ?zt3 ?vt3
  (case aCBoard=>k_is)
  (case aCGame=>k_is)
  (case a1=>k_is)
  (case F1=>exact L2.aP (by k_is) (by k_is) (by k_is))
  (case a2=>k_is)
  (case F2=>exact L2.aP (by k_is) (by k_is) (by k_is))
  (case a3=>k_is)
  (case F3=>exact L2.aP (by k_is) (by k_is) (by k_is))
  (case a4=>k_is)
  (case F4=>exact L2.aP (by k_is) (by k_is) (by k_is))
  (case a5=>k_is)
  (case F5=>exact L2.aP (by k_is) (by k_is) (by k_is))
  (case a6=>k_is)
  (case F6=>exact L2.aP (by k_is) (by k_is) (by k_is))
  (case a7=>k_is)
  (case F7=>exact L2.aP (by k_is) (by k_is) (by k_is))
  (case a8=>k_is)
  (case F8=>exact L2.aP (by k_is) (by k_is) (by k_is))
  (case a9=>k_is)
  (case F9=>exact L2.aP (by k_is) (by k_is) (by k_is))
  (case a10=>k_is)
  (case F10=>exact L2.aP (by k_is) (by k_is) (by k_is))
  (case a11=>k_is)
  (case F11=>exact L2.aP (by k_is) (by k_is) (by k_is))
  (case a12=>k_is)
  (case F12=>exact L2.aP (by k_is) (by k_is) (by k_is))
  (case a13=>k_is)
  (case F13=>exact L2.aP (by k_is) (by k_is) (by k_is))
  (case a14=>k_is)
  (case F14=>exact L2.aP (by k_is) (by k_is) (by k_is))
  (case a15=>k_is)
  (case F15=>exact L2.aP (by k_is) (by k_is) (by k_is))
  (case a16=>k_is)
  (case F16=>exact L2.aP (by k_is) (by k_is) (by k_is))
  (case a17=>k_is)
  (case F17=>exact L2.aP (by k_is) (by k_is) (by k_is))
  (case a18=>k_is)
  (case F18=>exact L2.aP (by k_is) (by k_is) (by k_is))
  (case a19=>k_is)
  (case F19=>exact L2.aP (by k_is) (by k_is) (by k_is))
  (case a20=>k_is)
  (case F20=>exact L2.aP (by k_is) (by k_is) (by k_is))
  (case a21=>k_is)
  (case iF21=>k_is)
  (case F21=>exact L2.aP (by k_is) (by k_is) (by k_is))
  (case a22=>k_is)
  (case iF22=>k_is)
  (case F22=>exact L2.aP (by k_is) (by k_is) (by k_is))
  (case a23=>k_is)
  (case iF23=>k_is)
  (case F23=>exact L2.aP (by k_is) (by k_is) (by k_is))
  (case a24=>k_is)
  (case iF24=>k_is)
  (case F24=>exact L2.aP (by k_is) (by k_is) (by k_is))
  (case a25=>k_is)
  (case F25=>exact L2.aP (by k_is) (by k_is) (by k_is))
  (case a26=>k_is)
  (case F26=>exact L2.aP (by k_is) (by k_is) (by k_is))
  (case a27=>k_is)
  (case F27=>exact L2.aP (by k_is) (by k_is) (by k_is))
  (case a28=>k_is)
  (case F28=>exact L2.aP (by k_is) (by k_is) (by k_is))
  (case a29=>k_is)
  (case F29=>exact L2.aP (by k_is) (by k_is) (by k_is))
  (case a30=>k_is)
  (case F30=>exact L2.aP (by k_is) (by k_is) (by k_is))
  (case a31=>k_is)
  (case l31=>k_is)
  (case c31=>k_is)
  (case k31=>k_is)
  (case pgXBoard=>k_is)
  (case hdXBoard=>k_is)
  (case poXBoard=>k_is)
  (case saXBoard=>k_is)
  (case mkXBoard=>k_is)
  (case kcXBoard=>k_is)
  (case naBoardwide=>k_is)
  (case naBoardhigh=>k_is)
  (case naBoardholes=>k_is)
  (case naBoardfirm=>k_is)
  (case pgXGame=>k_is)
  (case hdXGame=>k_is)
  (case poXGame=>k_is)
  (case saXGame=>k_is)
  (case mkXGame=>k_is)
  (case kcXGame=>k_is)
  (case naGameboard=>k_is)
  (case naGamekinds=>k_is)
  (case naGamerules=>k_is)
  (case naGameturns=>k_is)
  (case naGameends=>k_is)
  (case naGamestuck=>k_is)
  (case z0=>k_is)
  (case z1=>k_is)
  (case z2=>k_is)
  (case z3=>k_is)
  (case z4=>k_is)
  (case z5=>k_is)
  (case z6=>k_is)
  (case z7=>k_is)
  (case z8=>k_is)
  (case z9=>k_is)
  (case z10=>k_is)
  (case z11=>k_is)
  (case z12=>k_is)
  (case z13=>k_is)
  (case z14=>k_is)
  (case kg0=>k_is)
  (case rv0=>exact ⟨_,rfl⟩)
  (case kg1=>k_is)
  (case rv1=>exact ⟨_,rfl⟩)
  (case kg2=>k_is)
  (case rv2=>exact ⟨_,rfl⟩)
  (case kg3=>k_is)
  (case rv3=>exact ⟨_,rfl⟩)
  (case kg4=>k_is)
  (case rv4=>exact ⟨_,rfl⟩)
  (case kg5=>k_is)
  (case rv5=>exact ⟨_,rfl⟩)
  (case kt0=>k_is)
  (case lt0=>k_is)
  (case ctp0=>rfl)
  (case zt0=>decide)
  (case vt0=>exact .cons ⟨_,rfl⟩ (.cons ⟨_,rfl⟩ (.cons ⟨_,rfl⟩ (.nil))))
  (case kt1=>k_is)
  (case lt1=>k_is)
  (case ctp1=>rfl)
  (case zt1=>decide)
  (case vt1=>exact .cons ⟨_,rfl⟩ (.cons ⟨_,rfl⟩ (.cons ⟨_,rfl⟩ (.nil))))
  (case kt2=>k_is)
  (case lt2=>k_is)
  (case ctp2=>rfl)
  (case zt2=>decide)
  (case vt2=>exact .cons ⟨_,rfl⟩ (.cons ⟨_,rfl⟩ (.nil)))
  (case kt3=>k_is)
  (case lt3=>k_is)
  (case ctp3=>rfl)
  (case zt3=>decide)
  (case vt3=>exact .cons ⟨_,rfl⟩ (.cons ⟨_,rfl⟩ (.cons ⟨_,rfl⟩ (.nil))))
