import PyProof.Rows.All
import Wide.All
import OpenK.AllK
import Wide.FinOn
import Lean
import PyProof.EqAt
import PyProof.EqKinds
import PyProof.TupleCall
import KE.KIntText
import KE.IntTextLaws
import KE.IntText
import KE.KRevIter
import KE.KEqDict
import PyProof.ZipIter
import PyProof.Draws
import PyProof.EnumMake
import PyProof.ListStr
import PyProof.Seq
import PyProof.TupleIter
import PyProof.StationsW
import PyProof.Rows.Catch
import PyProof.ToksMono
import PyProof.Rows.TupIter
import PyProof.AttrMissHeap
import KE.KDictOf
import PyProof.SetScanFacts
import PyProof.SetKind
import PyProof.CollectWalk
import PyProof.FactsAll.set
import PyProof.StrLoop
import PyProof.TupleKey
import KE.KSortTup
import PyProof.Rows.SortWalk
import PyProof.Rows.SortStr
import PyProof.NeKinds
import PyProof.ListRange
import PyProof.StrCalls6
import PyProof.StrCalls2
import PyProof.FitsReplace
import PyProof.StrLawsTight
import PyProof.Rows.StrItems
import OpenK.ZGo
import PySem.Challenge.RW_playboard_k07_games_written
set_option Elab.async false
set_option linter.all false
set_option maxRecDepth 100000
set_option maxHeartbeats 4000000
open List renaming length_map → Lv, mem_cons → Lw, mem_map → Lx, getElem?_eq_getElem → Ly, length_append → Lz, size_toArray → LB, map_map → LC, getElem?_map → LD, mem_singleton → LF, length_cons → LG, mem_cons_self → LH, getElem?_eq_some_iff → LI, mem_cons_of_mem → LJ, mem_append → LK, map_cons → LL, mem_of_getElem? → LM, not_mem_nil → LO, all_eq_true → LP, getD_eq_getElem?_getD → LQ, map_append → LR, mem_append_right → LS, length_drop → LU, length_nil → LV, length_take → LW, map_nil → LX, all_cons → LY, filter_eq_self → LZ, filter_append → L3, filter_cons → L4, mem_range → L5, append_nil → L6, any_cons → L9, find?_cons → Ma, lookup_cons → Mb, take_of_length_le → Mc, map_congr_left → Md, getElem?_of_mem → Me, append_assoc → Mf, filter_map → Mg, length_range → Mh, getElem_mem → Mi, getElem?_eq_none → Mj, any_eq_true → Ml, set_cons_zero → Mm, take_add_one → Mn, nodup_cons → Mo, sum_cons → Mp, sum_nil → Mq, filterMap_cons → Mr, getElem_inj → Ms, any_eq_false → Mt, forIn_cons → Mu, take_length → Mv, nodup_append → Mw, pairwise_map → Mx, getElem?_cons_zero → My, getElem?_cons_succ → Mz, all_map → MA, nodup_nil → MB, of_mem_zip → MC, getElem?_append_right → MD, getElem?_append_left → ME, length_singleton → MF, ext_getElem? → MG, length_filter_le → MH, getElem?_range → MI, range_succ → MJ, any_map → ML, length_zipWith → MM, nodup_iff_pairwise_ne → MN, pairwise_iff_getElem → MO, cons_append → MP, nil_append → MQ, mem_append_left → MR, getElem?_set_self → MS, getElem?_set_ne → MT, mem_filterMap → MU, getElem?_zip_eq_some → MV, length_eq_zero_iff → MW, mem_iff_getElem → MX, length_reverse → MY, getElem?_toArray → MZ, getElem_toArray → M0, set_cons_succ → M1, getElem_range → M2, mem_of_find?_eq_some → M3, mem_of_mem_drop → M4, length_take_le' → M5
open Nat renaming le_refl → M6, le_trans → M7, ne_of_lt → M8, zero_le → M9, lt_of_lt_of_le → Na, le_succ → Nc, lt_irrefl → Nd, ne_of_gt → Nf, le_of_eq → Ng, le_of_lt → Nh, succ_ne_self → Ni, min_eq_left → Nj, lt_succ_self → Nk, lt_succ_of_lt → Nl, le_of_ble_eq_true → Nm
open Int renaming emod_nonneg → Nn, emod_lt_of_pos → No, toNat_natCast → Np, mul_le_mul → Nq, zero_add → Nr
open Bool renaming false_ne_true → Nt, and_eq_true → Nu, eq_iff_iff → Nv, false_eq_true → Nw, true_and → Nx, or_false → Ny, not_true → Nz, not_false → NA, false_and → NB, false_or → NC, not_eq_true' → ND, and_true → NE, and_eq_true_iff → NF
open Array renaming length_toList → NG, getElem?_toList → NH, getElem?_eq_getElem → NI, getElem?_eq_some_iff → NJ, mem_toList_iff → NK, toList_inj → NL, getElem_mem → NM
open Option renaming map_eq_some_iff → NN, getD_none → NO
open PySem.W renaming nsIn → NP, findIn → NQ, mg_of → NR, mg_none_of → NS, topRun → NT, kia_one → NU, emptyDict → NV, fnOf → NW, instObj → NX, keepIn → NY, doneF → NZ, plainGet → N0, hasDictIn → N1, plainOver → N2, makesIn → N3, kitOne → N4, codeIn → N5, boot_heap → N6, segRunT → N7, deadEnd → N8, methodObj → N9, lookIn → Oa, takerIn → Ob, isFn → Oc, handedIn → Od, kitx_list → Oe, kitx_dict → Of, callWith_K → Og, cellsFrom_some → Oh, boot_o_2 → Oi, topStub → Oj, segRun → Ol, blockOf → Om, restOf → On
open PySem.W (Frag)
namespace L2
open PySem PySem.Spec PyProof.Rows
abbrev Key:=Sum Int Str
def lI:Key->Value->Bool
 | .inl k,v=>Value.isInt k v
 | .inr x,v=>Value.isStrOf x v
def K5 (w:World):Key->Int
 | .inl k=>hashInt k
 | .inr x=>hashStr w x
theorem bQ:∀{k:Key}{v:Value},lI k v=true->(∃i t,k=Sum.inl i/\v=Value.int i t)\/(∃x t,k=Sum.inr x/\v=Value.str x t)
 | .inl i,v,h=>by obtain ⟨t,e⟩:=Value.isInt_shape (k:=i) (v:=v) h;exact .inl ⟨i,t,rfl,e⟩
 | .inr x,v,h=>by obtain ⟨t,e⟩:=Value.isStrOf_shape (x:=x) (v:=v) h;exact .inr ⟨x,t,rfl,e⟩
theorem ul (i:Int) (t:Tok):lI (.inl i) (.int i t)=true:=by simp [lI,Value.isInt]
theorem uk (x:Str) (t:Tok):lI (.inr x) (.str x t)=true:=by simp [lI,Value.isStrOf]
theorem Ek (a b:Int):decide ((Sum.inl a:Key)=Sum.inl b)=(a == b):=by
 by_cases e:a=b
 ·subst e;simp
 ·have h:¬(Sum.inl a:Key)=Sum.inl b:=λ q=>e (Sum.inl.inj q);rw [decide_eq_false h];exact (beq_eq_false_iff_ne.mpr e).symm
theorem Eh (a b:Str):decide ((Sum.inr a:Key)=Sum.inr b)=decide (a=b):=by
 by_cases e:a=b
 ·subst e;simp
 ·have h:¬(Sum.inr a:Key)=Sum.inr b:=λ q=>e (Sum.inr.inj q);rw [decide_eq_false h,decide_eq_false e]
theorem Ej (a:Int) (b:Str):decide ((Sum.inl a:Key)=Sum.inr b)=false:=decide_eq_false (λ q=>nomatch q)
theorem Ei (a:Str) (b:Int):decide ((Sum.inr a:Key)=Sum.inl b)=false:=decide_eq_false (λ q=>nomatch q)
def bD (prog:Program) (w:World):PySem.KeyKind prog w Key where
 is:=lI
 hash:=K5 w
 inj:=λ v a b ha hb=>by
  rcases bQ ha with ⟨i,t,rfl,rfl⟩ | ⟨x,t,rfl,rfl⟩
  ·rcases bQ hb with ⟨j,u,rfl,e⟩ | ⟨y,u,rfl,e⟩
   ·injection e with e1 _;rw [e1]
   ·exact nomatch e
  ·rcases bQ hb with ⟨j,u,rfl,e⟩ | ⟨y,u,rfl,e⟩
   ·exact nomatch e
   ·injection e with e1 _;rw [e1]
 byValue:=λ k v h=>by
   rcases bQ h with ⟨i,t,rfl,rfl⟩ | ⟨x,t,rfl,rfl⟩<;>rfl
 pyHash:=λ hv h=>by
  rcases bQ hv with ⟨i,t,rfl,rfl⟩ | ⟨x,t,rfl,rfl⟩
  ·exact wpAny_pyHash_int h
  ·exact wpAny_pyHash_str h
 eqBool:=λ hu hv h=>by
  rcases bQ hu with ⟨i,t,rfl,rfl⟩ | ⟨x,t,rfl,rfl⟩
  ·rcases bQ hv with ⟨j,u,rfl,rfl⟩ | ⟨y,u,rfl,rfl⟩
   ·rw [Ek] at h;exact wpAny_eqBool_int h
   ·rw [Ej] at h;exact SeqAt.EqAt.int_str i t y u _ _ _ _ h
  ·rcases bQ hv with ⟨j,u,rfl,rfl⟩ | ⟨y,u,rfl,rfl⟩
   ·rw [Ei] at h;exact SeqAt.EqAt.str_int x t j u _ _ _ _ h
   ·rw [Eh] at h;exact wpAny_eqBool_str h
 «strs» :=λ k x t v h=>by
  rcases bQ h with ⟨i,u,rfl,e⟩ | ⟨y,u,rfl,e⟩
  ·exact nomatch e
  ·injection e with e1 _;subst e1;cases v<;>rfl
theorem o8 (prog:Program) (w:World) (i:Int) (t:Tok):(bD prog w).is (.inl i) (.int i t)=true:=ul i t
theorem gQ (prog:Program) (w:World) (x:Str) (t:Tok):(bD prog w).is (.inr x) (.str x t)=true:=uk x t
end L2
namespace L2
open PySem PySem.Spec PyProof.Rows
inductive V where
 | non | bl (b:Bool) | int (i:Int) | str (x:Str) | byt (b:Array UInt8) | flt (b:UInt64) | ref (a:Addr) | ty (n:String)
 deriving DecidableEq
def aN:V->Value->Prop
 | .non,u=>u=Value.none
 | .bl b,u=>u=Value.bool b
 | .int i,u=> ∃t,u=Value.int i t
 | .str x,u=> ∃t,u=Value.str x t
 | .byt b,u=> ∃t,u=Value.bytes b t
 | .flt b,u=> ∃t,u=Value.float b t
 | .ref a,u=>u=Value.ref a
 | .ty n,u=>u=Value.type n
abbrev aV:List V->List Value->Prop:=Paired aN
theorem aV.length {xs:List V}{us:List Value}(r:aV xs us):xs.length=us.length:=Paired.length r
theorem aV.get:∀{xs:List V}{us:List Value}{i:Nat}{x:V},aV xs us->xs[i]? =some x->∃u,us[i]? =some u/\aN x u
 | _,_,_,_,.nil,e=>by simp at e
 | _,_,0,_,.cons r _,e=>by simp at e;subst e;exact ⟨_,rfl,r⟩
 | _,_,i+1,x,.cons _ t,e=>by obtain ⟨u,h1,h2⟩:=aV.get (i:=i) (x:=x) t (by simpa using e);exact ⟨u,by simpa using h1,h2⟩
theorem aV.append:∀{xs ys:List V}{us ws:List Value},aV xs us->aV ys ws->aV (xs++ys) (us++ws)
 | _,_,_,_,.nil,s=>s
 | _,_,_,_,.cons r t,s=>.cons r (aV.append t s)
theorem aV.take:∀{xs:List V}{us:List Value}(n:Nat),aV xs us->aV (xs.take n) (us.take n)
 | _,_,0,_=>.nil
 | _,_,_+1,.nil=>.nil
 | _,_,n+1,.cons r t=>.cons r (aV.take n t)
theorem aV.drop:∀{xs:List V}{us:List Value}(n:Nat),aV xs us->aV (xs.drop n) (us.drop n)
 | _,_,0,r=>r
 | _,_,_+1,.nil=>.nil
 | _,_,n+1,.cons _ t=>aV.drop n t
def hV:Option V->Option Value->Prop
 | some v,some u=>aN v u
 | none,none=>True
 | _,_=>False
def KV {κ:Type}:List (κ×V)->List (κ×Value)->Prop:=Paired λ (p:κ×V) (q:κ×Value)=>p.1=q.1/\aN p.2 q.2
def kV:Key->V
 | .inl i=>.int i
 | .inr x=>.str x
inductive HO where
 | lst (xs:List V)
 | tup (xs:List V)
 | dK (kvs:List (Key×V)) | dT (kvs:List (List Key×V))
 | set (S:Int->Bool) (n:Nat)
 | ins (C dx:Addr) (fs:List (Str×V))
 | own (x:Addr)
 | xd (fs:List (Str×V))
 | met (f x:Addr)
 | rng (lo hi:Int)
 | frz (o:Obj) (u:HO)
 | tbl (ps:Array Value)
 | ext (φ:Heap->Prop)
abbrev Hp:=Addr->Option HO
def upd (H:Hp) (a:Addr) (o:HO):Hp:=λ b=>if b=a then some o else H b
theorem ae {H:Hp}{a:Addr}{o:HO}:upd H a o a=some o:=by unfold upd;rw [if_pos rfl]
theorem ah {H:Hp}{a b:Addr}{o:HO}(h:b≠a):upd H a o b=H b:=by unfold upd;rw [if_neg h]
theorem xE {H:Hp}{a:Addr}{o u:HO}:upd (upd H a o) a u=upd H a u:=by funext b;unfold upd;split<;>rfl
theorem IX {H:Hp}{a b:Addr}{o u:HO}(h:H a=some o) (h':H b=some u) (d:o≠u):a≠b:=by intro e;subst e;rw [h] at h';exact d (Option.some.inj h')
theorem am {H:Hp}{a b:Addr}{o:HO}(h:H a=some o) (h':H b=none):a≠b:=by intro e;subst e;rw [h] at h';cases h'
section
variable (P:Program) (w:World)
def bB (H:Hp) (h:Heap) (a:Addr):HO->Prop
 | .lst xs=>xs.length<=sizeLine/\∃(its:List Value) (n:Nat),aV xs its/\h.get? a=some {cls:=.type "list",data:=.seq its.toArray n}
 | .tup xs=>xs.length<=sizeLine/\∃its:List Value,aV xs its/\IsTup h a its.toArray
 | .dK kvs=>kvs.length<=sizeLine/\(a == sysModules)=false/\∃vs,KV kvs vs/\h.DictOf (bD P w) a vs
 | .dT kvs=>kvs.length<=sizeLine/\(a == sysModules)=false/\∃xs:List (List Key×Addr×Value),
   Paired (λ (p:List Key×V) (q:List Key×Addr×Value)=>p.1=q.1/\H q.2.1=some (.tup (p.1.map kV))/\aN p.2 q.2.2) kvs xs/\
   ∃o es ep,h.get? a=some o/\o.ExactDict/\o.data=.dict es ep/\es.toList=xs.map (entryOfKey (tupleKind (bD P w)))/\(xs.map (·.1)).Nodup
 | .set S n=>h.SetOf (intKind P w) a S n
 | .ins C dx fs=>H dx=some (.own a)/\fs.length<=1000/\dx≠a/\h.get? a=some (NX C dx)/\
   ∃mA,h.Ns1 dx mA/\(∀f,hV (fs.lookup f) (mA f))/\PySem.Within mA (fs.map (·.1))
 | .own _=> ∃o,h.get? a=some o
 | .xd fs=> ∃mA,h.Ns1 a mA/\∀f,hV (fs.lookup f) (mA f)
 | .rng lo hi=> ∃t u v,h.get? a=some {cls:=.type "range",data:=.fields #[.int lo t,.int hi u,.int 1 v]}
 | .frz o u=>h.get? a=some o/\bB H h a u
 | .tbl ps=>h.get? a=some {cls:=.none,data:=.fields ps}
 | .met f x=>h.get? a=some (N9 (.ref f) (.ref x))
 | .ext φ=>φ h/\(∃o,h.get? a=some o)/\∀h1 h2:Heap,φ h1->(∀o,h1.get? a=some o->h2.get? a=some o)->φ h2
def iC (H:Hp) (h:Heap):Prop:= ∀a o,H a=some o->bB P w H h a o
end
section
variable {P:Program}{w:World}{H H':Hp}{h h':Heap}{a:Addr}{o:HO}
theorem bB.lt (x:bB P w H h a o):a<h.objs.size:=by
 cases o with
 | lst xs=>obtain ⟨_,_,_,_,e⟩:=x;exact Heap.lt_size e
 | tup xs=>obtain ⟨_,_,_,p⟩:=x;exact p.lt
 | dK kvs=>obtain ⟨_,_,_,_,o,_,_,e,_⟩:=x;exact Heap.lt_size e
 | dT kvs=>obtain ⟨_,_,_,_,o,_,_,e,_⟩:=x;exact Heap.lt_size e
 | set S n=>obtain ⟨o,_,_,_,e,_⟩:=x;exact Heap.lt_size e
 | ins C dx fs=>obtain ⟨_,_,_,e,_⟩:=x;exact Heap.lt_size e
 | own y=>obtain ⟨_,e⟩:=x;exact Heap.lt_size e
 | xd fs=>obtain ⟨_,⟨_,_,_,e,_⟩,_⟩:=x;exact Heap.lt_size e
 | rng lo hi=>obtain ⟨_,_,_,e⟩:=x;exact Heap.lt_size e
 | frz ob u=>obtain ⟨e,_⟩:=x;exact Heap.lt_size e
 | tbl ps=>exact Heap.lt_size (show h.get? a=some _ from x)
 | met f y=>exact Heap.lt_size (show h.get? a=some _ from x)
 | ext φ=>obtain ⟨_,⟨_,e⟩,_⟩:=x;exact Heap.lt_size e
theorem Paired.mapP {α β:Type}{F G:α->β->Prop}:∀{l₁:List α}{l₂:List β},Paired F l₁ l₂->(∀a b,F a b->G a b)->Paired G l₁ l₂
 | _,_,.nil,_=>.nil
 | _,_,.cons r t,f=>.cons (f _ _ r) (Paired.mapP t f)
theorem bB.stay (x:bB P w H h a o) (k:∀b u,(b=a\/H b=some (.own a))->h.get? b=some u->h'.get? b=some u)
  (ho:∀b,H b=some (.own a)->H' b=some (.own a)) (ht:∀b xs,H b=some (.tup xs)->H' b=some (.tup xs)):bB P w H' h' a o:=by
 induction o with
 | lst xs=>obtain ⟨z,its,n,r,e⟩:=x;exact ⟨z,its,n,r,k _ _ (.inl rfl) e⟩
 | tup xs=>obtain ⟨z,its,r,ob,e,c⟩:=x;exact ⟨z,its,r,ob,k _ _ (.inl rfl) e,c⟩
 | dK kvs=>obtain ⟨z,y,vs,r,ob,es,ep,e,c⟩:=x;exact ⟨z,y,vs,r,ob,es,ep,k _ _ (.inl rfl) e,c⟩
 | dT kvs=>
   obtain ⟨z,y,xs,r,ob,es,ep,e,c⟩:=x;exact ⟨z,y,xs,Paired.mapP r λ p q z=>⟨z.1,ht _ _ z.2.1,z.2.2⟩,ob,es,ep,k _ _ (.inl rfl) e,c⟩
 | set S n=>obtain ⟨ob,es,ep,t,e,c⟩:=x;exact ⟨ob,es,ep,t,k _ _ (.inl rfl) e,c⟩
 | ins C dx fs=>
   obtain ⟨d,z,ne,e,mA,⟨od,es,ep,e2,c⟩,r⟩:=x;exact ⟨ho _ d,z,ne,k _ _ (.inl rfl) e,mA,⟨od,es,ep,k _ _ (.inr d) e2,c⟩,r⟩
 | own y=>obtain ⟨ob,e⟩:=x;exact ⟨ob,k _ _ (.inl rfl) e⟩
 | xd fs=>obtain ⟨mA,⟨od,es,ep,e,c⟩,r⟩:=x;exact ⟨mA,⟨od,es,ep,k _ _ (.inl rfl) e,c⟩,r⟩
 | rng lo hi=>obtain ⟨t,u,v,e⟩:=x;exact ⟨t,u,v,k _ _ (.inl rfl) e⟩
 | frz ob u ih=>obtain ⟨e,q⟩:=x;exact ⟨k _ _ (.inl rfl) e,ih q⟩
 | tbl ps=>
   have e:h.get? a=some {cls:=.none,data:=.fields ps}:=x;show h'.get? a=some {cls:=.none,data:=.fields ps};exact k a _ (.inl rfl) e
 | met f y=>
   have e:h.get? a=some (N9 (.ref f) (.ref y)):=x;show h'.get? a=some (N9 (.ref f) (.ref y));exact k a _ (.inl rfl) e
 | ext φ=>obtain ⟨p,⟨o,e⟩,st⟩:=x;exact ⟨st _ _ p λ o q=>k _ _ (.inl rfl) q,⟨o,k _ _ (.inl rfl) e⟩,st⟩
theorem iC.lt (x:iC P w H h) (e:H a=some o):a<h.objs.size:=(x a o e).lt
theorem iC.fresh (x:iC P w H h) (e:h.objs.size<=a):H a=none:=by
 cases q:H a with
 | none=>rfl
 | some u=>exact absurd (Na (x.lt q) e) (Nd _)
theorem iC.kept (x:iC P w H h) (k:∀b u,h.get? b=some u->h'.get? b=some u):iC P w H h':=λ a o e=>
 (x a o e).stay (λ b u _ q=>k b u q) (λ _ q=>q) λ _ _ q=>q
theorem iC.laid (x:iC P w H h) (k:∀b u,h.get? b=some u->h'.get? b=some u) (hp:h.objs.size<=a) (new:bB P w (upd H a o) h' a o):iC P w (upd H a o) h':=λ b u e=>by
 have hn:=x.fresh hp
 by_cases hb:b=a
 ·subst hb;rw [ae] at e;cases e;exact new
 ·rw [ah hb] at e;exact (x b u e).stay (λ c v _ q=>k c v q) (λ c q=>by rw [ah (am q hn)];exact q) λ c xs q=>by rw [ah (am q hn)];exact q
end
def Rd (H:Hp) (a:Addr) (u:HO):Prop:=H a=some u\/∃o,H a=some (.frz o u)
theorem Rd.ok {P:Program}{w:World}{H:Hp}{h:Heap}{a:Addr}{u:HO}(r:Rd H a u) (x:iC P w H h):bB P w H h a u:=by
 rcases r with r | ⟨o,r⟩
 ·exact x a u r
 ·obtain ⟨_,q⟩:=x a _ r;exact q
def JK:Option HO->Prop
 | some (.lst _)=>True
 | some (.dK _)=>True
 | some (.dT _)=>True
 | some (.set _ _)=>True
 | some (.ins _ _ _)=>True
 | some (.ext _)=>True
 | _=>False
section
variable {P:Program}{w:World}{H:Hp}{h h':Heap}{x e:Addr}{o':HO}
theorem iC.write (ok:iC P w H h) (mu:JK (H x)) (he:e=x\/H e=some (.own x)) (k:∀b u,b≠e->h.get? b=some u->h'.get? b=some u) (heo:∃u,h'.get? e=some u)
  (new:bB P w (upd H x o') h' x o'):iC P w (upd H x o') h':=λ b u q=>by
 have nown:∀c y,H c=some (.own y)->c≠x:=λ c y r z=>by subst z;rw [r] at mu;exact mu
 have ntup:∀c xs,H c=some (.tup xs)->c≠x:=λ c xs r z=>by subst z;rw [r] at mu;exact mu
 by_cases hb:b=x
 ·subst hb;rw [ae] at q;cases q;exact new
 ·rw [ah hb] at q
  by_cases hbe:b=e
  ·have q':H b=some (.own x):=by
    rcases he with z | z
    ·exact absurd (hbe.trans z) hb
    ·rw [hbe];exact z
   rw [q] at q';cases q';obtain ⟨v,hv⟩:=heo;exact ⟨v,by rw [hbe];exact hv⟩
  ·refine (ok b u q).stay (λ c v hc r=>k c v ?_ r) (λ c r=>by rw [ah (nown c b r)];exact r) λ c xs r=>by rw [ah (ntup c xs r)];exact r
   rcases hc with rfl | hc
   ·exact hbe
   ·rintro rfl
    rcases he with z | z
    ·exact nown c b hc z
    ·rw [hc] at z;cases z;exact hb rfl
end
structure Un (fs ex:List Addr) (H H':Hp) (h h':Heap):Prop where
 keep:∀b o,h.get? b=some o->H b=none->b∉fs->b∉ex->h'.get? b=some o
 slot:∀b o,h.get? b=some o->H b=none->b∈fs->b∉ex->∃sl,h'.get? b=some {o with slots:=sl}
 free:∀b o,h.get? b=some o->H b=none->b∉ex->H' b=none
 there:∀b o,h.get? b=some o->b∉ex->∃o',h'.get? b=some o'
 tups:∀b xs,H b=some (.tup xs)->H' b=some (.tup xs)
 frzs:∀b o u,H b=some (.frz o u)->H' b=some (.frz o u)
 tbls:∀b ps,H b=some (.tbl ps)->∃more,H' b=some (.tbl (ps++more))
section
variable {fs fs' ex ex':List Addr}{H H1 H2:Hp}{h h1 h2 h':Heap}{a x e:Addr}{o:HO}
theorem Un.any (u:Un fs ex H H1 h h1) {b:Addr}{ob:Obj}(q:h.get? b=some ob) (n:H b=none) (hx:b∉ex):∃sl,h1.get? b=some {ob with slots:=sl}:=by
 by_cases hb:b∈fs
 ·exact u.slot b ob q n hb hx
 ·exact ⟨ob.slots,u.keep b ob q n hb hx⟩
theorem Un.kept (k:∀b u,h.get? b=some u->h'.get? b=some u):Un fs ex H H h h':=
 ⟨λ b ob q _ _ _=>k b ob q,λ b ob q _ _ _=>⟨ob.slots,k b ob q⟩,λ _ _ _ n _=>n,λ b ob q _=>⟨ob,k b ob q⟩,λ _ _ q=>q,λ _ _ _ q=>q,λ _ ps q=>⟨#[],by rw [q];simp⟩⟩
theorem Un.refl:Un fs ex H H h h:=Un.kept λ _ _ q=>q
theorem Un.laid (k:∀b u,h.get? b=some u->h'.get? b=some u) (hp:h.objs.size<=a) (hn:H a=none):Un fs ex H (upd H a o) h h' where
 keep:=λ b u q _ _ _=>k b u q
 slot:=λ b u q _ _ _=>⟨u.slots,k b u q⟩
 free:=λ b u q n _=>by rw [ah (M8 (Na (Heap.lt_size q) hp))];exact n
 there:=λ b u q _=>⟨u,k b u q⟩
 tups:=λ b xs q=>by rw [ah (am q hn)];exact q
 frzs:=λ b u xs q=>by rw [ah (am q hn)];exact q
 tbls:=λ b ps q=>⟨#[],by rw [ah (am q hn),q];simp⟩
theorem Un.write (mu:JK (H x)) (he:e=x\/H e=some (.own x)) (k:∀b u,b≠e->h.get? b=some u->h'.get? b=some u) (heo:∃u,h'.get? e=some u):Un fs ex H (upd H x o) h h':=by
 have hx:∀b,H b=none->b≠x:=λ b n z=>by subst z;rw [n] at mu;exact mu
 have hb:∀b,H b=none->b≠e:=λ b n z=>by
  subst z
  rcases he with r | r
  ·exact hx b n r
  ·rw [n] at r;cases r
 have hm:∀b u,H b=some u->¬JK (some u)->b≠x:=λ b u q nm z=>by subst z;rw [q] at mu;exact nm mu
 refine ⟨λ b u q n _ _=>k b u (hb b n) q,λ b u q n _ _=>⟨u.slots,k b u (hb b n) q⟩,λ b u q n _=>by rw [ah (hx b n)];exact n,λ b u q _=>?_,
  λ b xs q=>by rw [ah (hm b _ q λ z=>z)];exact q,λ b u xs q=>by rw [ah (hm b _ q λ z=>z)];exact q,λ b ps q=>⟨#[],by rw [ah (hm b _ q λ z=>z),q];simp⟩⟩
 by_cases hbe:b=e
 ·subst hbe;exact heo
 ·exact ⟨u,k b u hbe q⟩
end
def JP (h:Heap) (H:Hp):List Addr:=(List.range h.objs.size).filter λ a=>(H a).isSome
def ni (h:Heap) (H:Hp):Heap:=PySem.W.hideAll h (JP h H)
theorem ut (h:Heap) (H:Hp):(ni h H).objs.size=h.objs.size:=PySem.W.hideAll_size _ _
theorem wC {h:Heap}{H:Hp}{b:Addr}{o:Obj}(e:h.get? b=some o) (n:H b=none):(ni h H).get? b=some o:=
 PySem.W.hideAll_get _ e λ hm=>by have q:(H b).isSome=true:=(List.mem_filter.mp hm).2;rw [n] at q;simp at q
theorem yj {h:Heap}{H:Hp}{b:Addr}{o:Obj}(e:(ni h H).get? b=some o):h.get? b=some o/\H b=none:=by
 have e':h.get? b=some o:=PySem.W.of_hideAll (JP h H) e;refine ⟨e',?_⟩;cases q:H b with
 | none=>rfl
 | some x=>
   have hm:b∈JP h H:=List.mem_filter.mpr ⟨L5.mpr (Heap.lt_size e'),by simp [q]⟩;have z:(ni h H).get? b=none:=PySem.W.hideAll_none (JP h H) hm;rw [z] at e;cases e
def y0 (g h:Heap) (L:Addr):List (Addr×Obj):=(List.range h.objs.size).filterMap λ a=>if a=L\/(g.get? a).isSome=true then none else (h.get? a).map λ o=>(a,o)
def rest (g h:Heap) (L d:Addr):List (Addr×Obj):=(y0 g h L).filter λ p=>decide (p.1≠d)
end L2
namespace L2
open PySem PySem.Spec PyProof.Rows
structure Mod (K:Frag) (mg:Str->Option Value) (base:Heap):Prop where
 kin:K.In base
 glob:base.Ns mainGlobals mg
 blt:∃mb,base.Ns builtinsNs mb/\∀x:Str,x≠"__name__"->mb x=bootBuiltins x
 nolimit:base.NoLimit
structure Cx where
 prog:Program
 w:World
 K:Frag
 mg:Str->Option Value
 base:Heap
 A:Around
 N:List Str
 s₀:Shared
 H₀:Hp
 env:Env
 outer:List Env
 stack:List Env
 ex:List Addr
 fn:Str->Bool
 calm:Bool
 pn:List (Addr×Obj)
 xe:Value->Shared->Prop
def sH (l:List Env):List Addr:=l.filterMap (·.frame)
abbrev Cx.fs (X:Cx):List Addr:=sH X.outer
def JR (sc:Scope) (x:Str):Prop:=sc.names.lookup x=some .local\/sc.names.lookup x=some .cell\/sc.names.lookup x=some .free
def E9 (sc:Scope) (x:Str):Prop:=sc.names.lookup x=some .local\/sc.names.lookup x=some .cell
def Lr (env:Env) (h:Heap) (m:Str->Option Value) (x:Str) (u:Value):Prop:=
 (env.kindOf x=some .local/\m x=some u)\/((env.kindOf x=some .cell\/env.kindOf x=some .free)/\∃c,env.cells.lookup x=some c/\h.IsCell c (some u))
structure Cx.Ok (X:Cx):Prop where
 mod:Mod X.K X.mg X.base
 kind:X.env.scope.kind=.function
 glob:X.env.globals=mainGlobals
 blt:X.env.builtins=builtinsNs
 above:X.s₀.heap.objs.size<=X.env.locals
 inj:∀x y c,X.env.cells.lookup x=some c->X.env.cells.lookup y=some c->x=y
 has:∀x,(X.env.kindOf x=some .cell\/X.env.kindOf x=some .free)->∃c,X.env.cells.lookup x=some c
 cab:∀x c,X.fn x=true->X.env.cells.lookup x=some c->X.s₀.heap.objs.size<=c
 hd:X.calm=true->X.A.handled=none
 frames:X.A.frames=some X.stack
 stk:X.stack=X.outer\/(X.stack=X.env::X.outer/\X.env.frame=some X.env.locals)
 exf:∀b∈X.ex,b≠X.env.locals/\∀x c,X.env.cells.lookup x=some c->c≠b
 bs:∀b o,X.base.get? b=some o->X.s₀.heap.get? b=some o/\X.H₀ b=none
 bsz:X.base.objs.size<=X.s₀.heap.objs.size
 noex:∀b o,X.base.get? b=some o->b∉X.ex
 exfs:∀b∈X.ex,b∉X.fs
 funs:X.s₀.heap.FunFrames X.base X.outer
 frf:∀b∈X.fs,X.H₀ b=none
structure aJ (X:Cx) (pins:List (Addr×Obj)) (σ:List (Option V)) (H:Hp) (s:Shared):Prop where
 ok:X.Ok
 os:s.os=X.s₀.os
 bare:AllBare s.gens
 base:Un X.fs X.ex X.H₀ H X.s₀.heap s.heap
 loc:∃m,s.heap.Ns X.env.locals m/\∀(i:Nat) (x:Str) (v:V),X.N[i]? =some x->σ[i]? =some (some v)->JR X.env.scope x->∃u,aN v u/\Lr X.env s.heap m x u
 cell:∀x c,X.env.cells.lookup x=some c->∃v,s.heap.IsCell c v
 free:H X.env.locals=none
 freeC:∀x c,X.env.cells.lookup x=some c->H c=none
 pin:∀p∈X.pn++pins,s.heap.get? p.1=some p.2/\H p.1=none/\p.1≠X.env.locals/\p.1∉X.fs/\∀v,p.2.data≠.cell v
 hok:iC X.prog X.w H s.heap
 len:σ.length=X.N.length
section
variable {X:Cx}{pins:List (Addr×Obj)}{σ:List (Option V)}{H H':Hp}{s:Shared}{h':Heap}
theorem Cx.Ok.nofr (ok:X.Ok) {b:Addr}{o:Obj}(e:X.base.get? b=some o):b∉X.fs:=λ hb=>by have:=(ok.funs.mem hb).1;rw [e] at this;cases this
theorem aJ.bs (I:aJ X pins σ H s):∀b o,X.base.get? b=some o->s.heap.get? b=some o/\H b=none:=λ b o e=>
 ⟨I.base.keep b o (I.ok.bs b o e).1 (I.ok.bs b o e).2 (I.ok.nofr e) (I.ok.noex b o e),I.base.free b o (I.ok.bs b o e).1 (I.ok.bs b o e).2 (I.ok.noex b o e)⟩
theorem aJ.bk (I:aJ X pins σ H s):∀b o,X.base.get? b=some o->s.heap.get? b=some o:=λ b o e=>(I.bs b o e).1
theorem aJ.mod (I:aJ X pins σ H s):Mod X.K X.mg X.base:=I.ok.mod
theorem aJ.kIn (I:aJ X pins σ H s):X.K.In s.heap:=I.ok.mod.kin.keeps I.bk
theorem aJ.lt (I:aJ X pins σ H s):X.env.locals<s.heap.objs.size:=let ⟨_,hn,_⟩:=I.loc;hn.lt
theorem aJ.sz (I:aJ X pins σ H s):X.s₀.heap.objs.size<=s.heap.objs.size:=M7 I.ok.above (Nh I.lt)
theorem aJ.nofs (I:aJ X pins σ H s) {a:Addr}(h:s.heap.objs.size<=a):a∉X.fs:=λ hb=>by obtain ⟨_,o,ho,_⟩:=I.ok.funs.mem hb;exact absurd (Na (Heap.lt_size ho) (M7 I.sz h)) (Nd _)
theorem aJ.cne (I:aJ X pins σ H s):∀x c,X.env.cells.lookup x=some c->c≠X.env.locals:=λ x c e z=>by obtain ⟨v,o,ho,hd⟩:=I.cell x c e;obtain ⟨m,⟨o',es,ep,ho',hd',_⟩,_⟩:=I.loc;rw [z,ho'] at ho;cases ho;rw [hd'] at hd;cases hd
theorem aJ.funs (I:aJ X pins σ H s):s.heap.FunFrames X.base X.outer:=by
 have all:∀(l:List Env),(∀b∈sH l,b∈X.fs)->X.s₀.heap.FunFrames X.base l->s.heap.FunFrames X.base l:=by
  intro l
  induction l with
  | nil=>intro _ _;trivial
  | cons env r ih=>
    intro hs hl;obtain ⟨hk,⟨L,o,hf,hn,ho,hd⟩,hr⟩:=hl;have hL:L∈X.fs:=hs L (by unfold sH;rw [Mr,hf];exact LH);obtain ⟨sl,e⟩:=I.base.slot L o ho (I.ok.frf L hL) hL λ z=>I.ok.exfs L z hL;exact ⟨hk,⟨L,_,hf,hn,e,hd⟩,ih (λ b hb=>hs b (by unfold sH;rw [Mr,hf];exact LJ _ hb)) hr⟩
 exact all X.outer (λ _ hb=>hb) I.ok.funs
theorem aJ.stack (I:aJ X pins σ H s):s.heap.FunFrames X.base X.stack:=by
 rcases I.ok.stk with e | ⟨e,hf⟩
 ·rw [e];exact I.funs
 ·rw [e];obtain ⟨m,hn,_⟩:=I.loc;refine .cons (by rw [I.ok.kind];decide) hf hn ?_ I.funs;exact Heap.get?_none_of_le (M7 I.ok.bsz I.ok.above)
theorem aJ.stkSub (I:aJ X pins σ H s):∀b∈sH X.stack,b∈X.env.locals::X.fs:=λ b hb=>by
 rcases I.ok.stk with e | ⟨e,hf⟩
 ·rw [e] at hb;exact LJ _ hb
 ·rw [e] at hb;unfold sH at hb;rw [Mr,hf] at hb;exact hb
theorem aJ.stkFree (I:aJ X pins σ H s):∀b∈sH X.stack,H b=none:=λ b hb=>by
 rcases Lw.mp (I.stkSub b hb) with e | hb
 ·rw [e];exact I.free
 ·obtain ⟨_,o,ho,_⟩:=I.ok.funs.mem hb;exact I.base.free b o ho (I.ok.frf b hb) λ z=>I.ok.exfs b z hb
theorem aJ.step {g':Array GenState}{t':Nat}{d':Drawn}{ch:List Addr}(I:aJ X pins σ H s)
  (hch:∀b∈ch,(b∈X.ex\/X.s₀.heap.objs.size<=b)/\b≠X.env.locals/\(∀x c,X.env.cells.lookup x=some c->c≠b)/\∀p∈X.pn++pins,p.1≠b)
  (keep:∀b o,b≠X.env.locals->b∉X.fs->b∉ch->s.heap.get? b=some o->H b=none->h'.get? b=some o)
  (slot:∀b o,b≠X.env.locals->b∈X.fs->b∉ch->s.heap.get? b=some o->H b=none->∃sl,h'.get? b=some {o with slots:=sl}) (free:∀b o,b∉ch->s.heap.get? b=some o->H b=none->H' b=none)
  (there:∀b o,b∉ch->s.heap.get? b=some o->∃o',h'.get? b=some o')
  (tups:∀b xs,H b=some (.tup xs)->H' b=some (.tup xs)) (frzs:∀b o u,H b=some (.frz o u)->H' b=some (.frz o u)) (tbls:∀b ps,H b=some (.tbl ps)->∃more,H' b=some (.tbl (ps++more)))
  (ns:∀m,s.heap.Ns X.env.locals m->h'.Ns X.env.locals m) (hok:iC X.prog X.w H' h') (hg:AllBare g'):
  aJ X pins σ H' {s with heap:=h',gens:=g',drawn:=d',toks:=t'}:=by
 have neL:∀b o,X.s₀.heap.get? b=some o->b≠X.env.locals:=λ b o e=>M8 (Na (Heap.lt_size e) I.ok.above);have neC:∀b o,X.s₀.heap.get? b=some o->b∉X.ex->b∉ch:=λ b o e hx hb=>by
  rcases (hch b hb).1 with z | z
  ·exact hx z
  ·exact absurd (Na (Heap.lt_size e) z) (Nd _)
 have cellK:∀x c,X.env.cells.lookup x=some c->∀v,s.heap.IsCell c v->h'.IsCell c v:=λ x c e v ⟨o,ho,hd⟩=>by
  have nch:c∉ch:=λ z=>(hch c z).2.2.1 x c e rfl
  by_cases hc:c∈X.fs
  ·obtain ⟨sl,q⟩:=slot c o (I.cne x c e) hc nch ho (I.freeC x c e);exact ⟨_,q,hd⟩
  ·exact ⟨o,keep c o (I.cne x c e) hc nch ho (I.freeC x c e),hd⟩
 refine ⟨I.ok,I.os,hg,⟨λ b o e n hb hx=>?_,λ b o e n hb hx=>?_,λ b o e n hx=>?_,λ b o e hx=>?_,λ b xs e=>tups b xs (I.base.tups b xs e),λ b o xs e=>frzs b o xs (I.base.frzs b o xs e),λ b ps e=>?_⟩,?_,λ x c e=>?_,?_,λ x c e=>?_,λ p hp=>?_,hok,I.len⟩
 ·exact keep b o (neL b o e) hb (neC b o e hx) (I.base.keep b o e n hb hx) (I.base.free b o e n hx)
 ·obtain ⟨sl,e1⟩:=I.base.slot b o e n hb hx;obtain ⟨sl',e2⟩:=slot b _ (neL b o e) hb (neC b o e hx) e1 (I.base.free b o e n hx);exact ⟨sl',e2⟩
 ·obtain ⟨o',e1⟩:=I.base.there b o e hx;exact free b o' (neC b o e hx) e1 (I.base.free b o e n hx)
 ·obtain ⟨o',e1⟩:=I.base.there b o e hx;exact there b o' (neC b o e hx) e1
 ·obtain ⟨m1,e1⟩:=I.base.tbls b ps e;obtain ⟨m2,e2⟩:=tbls b _ e1;exact ⟨m1++m2,by rw [e2,Array.append_assoc]⟩
 ·obtain ⟨m,hn,hl⟩:=I.loc;refine ⟨m,ns m hn,λ i x v e1 e2 e3=>?_⟩;obtain ⟨u,r,l⟩:=hl i x v e1 e2 e3;refine ⟨u,r,?_⟩
  rcases l with l | ⟨k,c,e,z⟩
  ·exact .inl l
  ·exact .inr ⟨k,c,e,cellK x c e _ z⟩
 ·obtain ⟨v,z⟩:=I.cell x c e;exact ⟨v,cellK x c e v z⟩
 ·obtain ⟨m,⟨o,_,_,ho,_⟩,_⟩:=I.loc;exact free _ o (λ z=>(hch _ z).2.1 rfl) ho I.free
 ·obtain ⟨v,o,ho,hd⟩:=I.cell x c e;exact free c o (λ z=>(hch c z).2.2.1 x c e rfl) ho (I.freeC x c e)
 ·obtain ⟨e,n,ne,nf,d⟩:=I.pin p hp;have nch:p.1∉ch:=λ z=>(hch p.1 z).2.2.2 p hp rfl;exact ⟨keep p.1 p.2 ne nf nch e n,free p.1 p.2 nch e n,ne,nf,d⟩
theorem aJ.un {t':Nat}(I:aJ X pins σ H s) (u:Un X.fs [] H H' s.heap h') (hok:iC X.prog X.w H' h'):aJ X pins σ H' {s with heap:=h',toks:=t'}:=by
 obtain ⟨m,⟨o,es,ep,ho,r⟩,_⟩:=id I.loc;obtain ⟨sl,hL⟩:=u.any ho I.free (by simp);exact I.step (g':=s.gens) (d':=s.drawn) (ch:=[]) (λ _ z=>nomatch z) (λ b o _ hb _ e n=>u.keep b o e n hb (by simp)) (λ b o _ hb _ e n=>u.slot b o e n hb (by simp)) (λ b o _ e n=>u.free b o e n (by simp)) (λ b o _ e=>u.there b o e (by simp)) u.tups u.frzs u.tbls (λ m' hm=>by
  obtain ⟨o',es',ep',ho',r'⟩:=hm;rw [ho] at ho';cases ho';exact ⟨_,es',ep',hL,r'⟩) hok I.bare
theorem aJ.call {g':Array GenState}{t':Nat}{d':Drawn}{ch:List Addr}(I:aJ X pins σ H s) (u:Un (sH X.stack) ch H H' s.heap h') (hok:iC X.prog X.w H' h') (hg:AllBare g')
  (hch:∀b∈ch,(b∈X.ex\/X.s₀.heap.objs.size<=b)/\b≠X.env.locals/\(∀x c,X.env.cells.lookup x=some c->c≠b)/\∀p∈X.pn++pins,p.1≠b):
  aJ X pins σ H' {s with heap:=h',gens:=g',drawn:=d',toks:=t'}:=by
 obtain ⟨m,⟨o,es,ep,ho,r⟩,_⟩:=id I.loc;obtain ⟨sl,hL⟩:=u.any ho I.free λ z=>(hch _ z).2.1 rfl;exact I.step (ch:=ch) hch (λ b o hL hb hc e n=>u.keep b o e n (λ z=>(Lw.mp (I.stkSub b z)).elim hL hb) hc) (λ b o _ _ hc e n=>u.any e n hc) (λ b o hc e n=>u.free b o e n hc) (λ b o hc e=>u.there b o e hc) u.tups u.frzs u.tbls (λ m' hm=>by
  obtain ⟨o',es',ep',ho',r'⟩:=hm;rw [ho] at ho';cases ho';exact ⟨_,es',ep',hL,r'⟩) hok hg
theorem aJ.turned {t':Nat}{it:Addr}(I:aJ X pins σ H s) (k:∀b o,b≠it->s.heap.get? b=some o->h'.get? b=some o) (hn:H it=none) (hL:it≠X.env.locals)
  (h1:it∈X.ex\/X.s₀.heap.objs.size<=it) (h2:∀x c,X.env.cells.lookup x=some c->c≠it) (h3:∀p∈X.pn++pins,p.1≠it):aJ X pins σ H {s with heap:=h',toks:=t'}:=by
 have nit:∀b u,H b=some u->b≠it:=λ b u e z=>by rw [z,hn] at e;cases e
 refine I.step (g':=s.gens) (d':=s.drawn) (ch:=[it]) (λ b hb=>?_) (λ b o _ _ hc e _=>k b o (λ z=>hc (by simp [z])) e) (λ b o _ _ hc e _=>⟨o.slots,k b o (λ z=>hc (by simp [z])) e⟩) (λ _ _ _ _ n=>n)
  (λ b o hc e=>⟨o,k b o (λ z=>hc (by simp [z])) e⟩) (λ _ _ e=>e) (λ _ _ _ e=>e) (λ b ps e=>⟨#[],by rw [e];simp⟩) (λ m hm=>?_) (λ b u e=>?_) I.bare
 ·have e:b=it:=by simpa using hb
  subst e;exact ⟨h1,hL,h2,h3⟩
 ·obtain ⟨o,es,ep,ho,r⟩:=hm;exact ⟨o,es,ep,k _ o (Ne.symm hL) ho,r⟩
 ·refine (I.hok b u e).stay (λ c v hc q=>k c v ?_ q) (λ _ q=>q) λ _ _ q=>q
  rcases hc with z | z
  ·rw [z];exact nit b u e
  ·exact nit c _ z
theorem aJ.tok (I:aJ X pins σ H s) (t:Nat):aJ X pins σ H {s with toks:=t}:=I.un (h':=s.heap) (t':=t) Un.refl I.hok
theorem aJ.kept {t':Nat}(I:aJ X pins σ H s) (k:∀b u,s.heap.get? b=some u->h'.get? b=some u):aJ X pins σ H {s with heap:=h',toks:=t'}:=I.un (Un.kept k) (I.hok.kept k)
theorem aJ.laid {a:Addr}{o:HO}{t':Nat}(I:aJ X pins σ H s) (k:∀b u,s.heap.get? b=some u->h'.get? b=some u) (hp:s.heap.objs.size<=a) (new:bB X.prog X.w (upd H a o) h' a o):
  aJ X pins σ (upd H a o) {s with heap:=h',toks:=t'}:=I.un (Un.laid k hp (I.hok.fresh hp)) (I.hok.laid k hp new)
theorem aJ.write {x e:Addr}{o:HO}{t':Nat}(I:aJ X pins σ H s) (mu:JK (H x)) (he:e=x\/H e=some (.own x)) (k:∀b u,b≠e->s.heap.get? b=some u->h'.get? b=some u) (heo:∃u,h'.get? e=some u)
  (new:bB X.prog X.w (upd H x o) h' x o):aJ X pins σ (upd H x o) {s with heap:=h',toks:=t'}:=I.un (Un.write mu he k heo) (I.hok.write mu he k heo new)
theorem aJ.pins_of {pins':List (Addr×Obj)}(I:aJ X pins σ H s) (h:∀p∈pins',s.heap.get? p.1=some p.2/\H p.1=none/\p.1≠X.env.locals/\p.1∉X.fs/\∀v,p.2.data≠.cell v):aJ X pins' σ H s:=
 ⟨I.ok,I.os,I.bare,I.base,I.loc,I.cell,I.free,I.freeC,λ p hp=>(LK.mp hp).elim (λ z=>I.pin p (MR _ z)) (h p),I.hok,I.len⟩
theorem oY {N:List Str}(hN:N.Nodup) {i j:Nat}{x:Str}(a:N[i]? =some x) (b:N[j]? =some x):i=j:=by obtain ⟨h1,e1⟩:=LI.mp a;obtain ⟨h2,e2⟩:=LI.mp b;exact (Ms hN).mp (e1.trans e2.symm)
theorem lq {M:Model}{A:Around}{E:Value->Shared->Prop}{i:Nat}{x:Str}{v:V}{u:Value}{Q:Unit->Shared->Prop}(I:aJ X pins σ H s) (hN:X.N.Nodup) (hi:X.N[i]? =some x) (hx:E9 X.env.scope x) (r:aN v u)
  (h:∀s',aJ X pins (σ.set i (some v)) H s'->(∃a,Heap.SameBut a s.heap s'.heap/\(a=X.env.locals\/X.env.cells.lookup x=some a))->Q () s') (hf:X.fn x=true\/X.env.scope.names.lookup x=some .local:=by first | exact .inl rfl | exact .inr rfl | assumption):wpAny M A (storeName X.env x u) Q E s:=by
 obtain ⟨m,hn,hl⟩:=id I.loc;have hcls:(X.env.scope.kind == .class||(X.env.scope.kind == .module&&X.env.locals != X.env.globals))=false:=by rw [I.ok.kind];rfl
 have hiσ:i<σ.length:=by rw [I.len];exact (LI.mp hi).1
 have cne:=I.cne;have tracked:∀{a:Addr} {h':Heap},(∃o,s.heap.get? a=some o/\H a=none)->Heap.SameBut a s.heap h'->iC X.prog X.w H h':=λ {a h'} ha hs b ob e=>by
  obtain ⟨_,_,hfree⟩:=ha;refine (I.hok b ob e).stay (λ c w' hc q=>(hs.2 c ?_).trans q) (λ _ q=>q) λ _ _ q=>q;rintro rfl
  rcases hc with rfl | hc
  ·rw [hfree] at e;cases e
  ·rw [hfree] at hc;cases hc
 rcases hx with hk | hk
 ·refine wpAny_storeName_local hk hn (λ h' hn' hs=>?_) hcls;obtain ⟨oL,_,_,hoL,_⟩:=id hn;refine h _ ⟨I.ok,I.os,I.bare,⟨λ b o e n hb hx=>?_,λ b o e n hb hx=>?_,I.base.free,λ b o e hx=>?_,I.base.tups,I.base.frzs,I.base.tbls⟩,⟨_,hn',λ j y v' e1 e2 e3=>?_⟩,λ y c e=>?_,I.free,I.freeC,λ p hp=>?_,tracked ⟨oL,hoL,I.free⟩ hs,by simpa using I.len⟩ ⟨_,hs,.inl rfl⟩
  ·exact (hs.2 b (M8 (Na (Heap.lt_size e) I.ok.above))).trans (I.base.keep b o e n hb hx)
  ·obtain ⟨sl,e1⟩:=I.base.slot b o e n hb hx;exact ⟨sl,(hs.2 b (M8 (Na (Heap.lt_size e) I.ok.above))).trans e1⟩
  ·obtain ⟨o',e1⟩:=I.base.there b o e hx;exact ⟨o',(hs.2 b (M8 (Na (Heap.lt_size e) I.ok.above))).trans e1⟩
  ·by_cases hj:j=i
   ·subst hj;rw [hi] at e1;cases e1;rw [MS hiσ] at e2;cases e2;exact ⟨u,r,.inl ⟨hk,by simp⟩⟩
   ·rw [MT (Ne.symm hj)] at e2;obtain ⟨u',r',q⟩:=hl j y v' e1 e2 e3;refine ⟨u',r',?_⟩
    rcases q with ⟨k,e⟩ | ⟨k,c,e,z⟩
    ·refine .inl ⟨k,?_⟩;have:y≠x:=λ e=>hj (oY hN e1 (e▸hi));simp [this,e]
    ·exact .inr ⟨k,c,e,z.sameBut hs (cne y c e)⟩
  ·obtain ⟨w',z⟩:=I.cell y c e;exact ⟨w',z.sameBut hs (cne y c e)⟩
  ·obtain ⟨e,n,ne,nf,d⟩:=I.pin p hp;exact ⟨(hs.2 p.1 ne).trans e,n,ne,nf,d⟩
 ·have hfn:X.fn x=true:=by
   rcases hf with z | z
   ·exact z
   ·rw [z] at hk;cases hk
  obtain ⟨c,hc⟩:=I.ok.has x (.inl hk);obtain ⟨w',z⟩:=I.cell x c hc;refine wpAny_storeName_cell I.ok.kind hk hc z (λ h' hc' hs=>?_);obtain ⟨oc,hoc,hocd⟩:=id z;refine h {s with heap:=h'} ⟨I.ok,I.os,I.bare,⟨λ b o e n hb hx=>?_,λ b o e n hb hx=>?_,I.base.free,λ b o e hx=>?_,I.base.tups,I.base.frzs,I.base.tbls⟩,⟨m,hn.sameBut hs (Ne.symm (cne x c hc)),λ j y v' e1 e2 e3=>?_⟩,λ y c' e=>?_,I.free,I.freeC,λ p hp=>?_,tracked ⟨oc,hoc,I.freeC x c hc⟩ hs,by simpa using I.len⟩ ⟨c,hs,.inr hc⟩
  ·exact (hs.2 b (M8 (Na (Heap.lt_size e) (I.ok.cab x c hfn hc)))).trans (I.base.keep b o e n hb hx)
  ·obtain ⟨sl,e1⟩:=I.base.slot b o e n hb hx;exact ⟨sl,(hs.2 b (M8 (Na (Heap.lt_size e) (I.ok.cab x c hfn hc)))).trans e1⟩
  ·obtain ⟨o',e1⟩:=I.base.there b o e hx;exact ⟨o',(hs.2 b (M8 (Na (Heap.lt_size e) (I.ok.cab x c hfn hc)))).trans e1⟩
  ·by_cases hj:j=i
   ·subst hj;rw [hi] at e1;cases e1;rw [MS hiσ] at e2;cases e2;exact ⟨u,r,.inr ⟨.inl hk,c,hc,hc'⟩⟩
   ·rw [MT (Ne.symm hj)] at e2;obtain ⟨u',r',q⟩:=hl j y v' e1 e2 e3;refine ⟨u',r',?_⟩
    rcases q with q | ⟨k,c',e,z'⟩
    ·exact .inl q
    ·refine .inr ⟨k,c',e,z'.sameBut hs ?_⟩;rintro rfl;exact hj (oY hN e1 (I.ok.inj _ _ _ e hc▸hi))
  ·by_cases hcc:c'=c
   ·subst hcc;exact ⟨_,hc'⟩
   ·obtain ⟨w2,z2⟩:=I.cell y c' e;exact ⟨w2,z2.sameBut hs hcc⟩
  ·obtain ⟨e,n,ne,nf,d⟩:=I.pin p hp;refine ⟨(hs.2 p.1 ?_).trans e,n,ne,nf,d⟩;intro q;rw [q,hoc] at e;have q':oc=p.2:=Option.some.inj e;exact d w' (by rw [<-q'];exact hocd)
theorem nR {M:Model}{A:Around}{E:Value->Shared->Prop}{i:Nat}{x:Str}{v:V}{u:Value}{Q:Unit->Shared->Prop}(I:aJ X pins σ H s) (hN:X.N.Nodup) (hi:X.N[i]? =some x) (hx:E9 X.env.scope x) (r:aN v u)
  (h:∀s',aJ X pins (σ.set i (some v)) H s'->Q () s') (hf:X.fn x=true\/X.env.scope.names.lookup x=some .local:=by first | exact .inl rfl | exact .inr rfl | assumption):wpAny M A (storeName X.env x u) Q E s:=
 lq I hN hi hx r (λ s' I' _=>h s' I') hf
theorem aJ.call' {s':Shared}{ch:List Addr}(I:aJ X pins σ H s) (ho:s'.os=s.os) (u:Un (sH X.stack) ch H H' s.heap s'.heap) (hok:iC X.prog X.w H' s'.heap) (hg:AllBare s'.gens)
  (hch:∀b∈ch,(b∈X.ex\/X.s₀.heap.objs.size<=b)/\b≠X.env.locals/\(∀x c,X.env.cells.lookup x=some c->c≠b)/\∀p∈X.pn++pins,p.1≠b):aJ X pins σ H' s':=by
 obtain ⟨h',g',d',t',o'⟩:=s';have e:o'=s.os:=ho;subst e;exact I.call (g':=g') (t':=t') (d':=d') u hok hg hch
end
abbrev XK:=Value->Option Addr->Hp->Prop
abbrev St:=List (Option V)
abbrev oR (a:Addr):Option V:=some (.ref a)
abbrev oJ (a:Int):Option V:=some (.int a)
abbrev oT (a:Str):Option V:=some (.str a)
abbrev VK:=V->Hp->Prop
abbrev TE:=St->Hp->VK->Prop
abbrev TT:=St->Hp->(Bool->Hp->Prop)->Prop
abbrev TA:=St->Hp->(List V->Hp->Prop)->Prop
structure cM where
 nx:St->Hp->Prop
 rt:VK
 bk:St->Hp->Prop:=λ _ _=>False
 ct:St->Hp->Prop:=λ _ _=>False
abbrev TS:=cM->St->Hp->Prop
def EP (X:Cx) (pins:List (Addr×Obj)) (σ:St) (Q:VK) (u:Value) (s':Shared):Prop:= ∃v H',aJ X pins σ H' s'/\aN v u/\Q v H'
def TP (X:Cx) (pins:List (Addr×Obj)) (σ:St) (Q:Bool->Hp->Prop) (b:Bool) (s':Shared):Prop:= ∃H',aJ X pins σ H' s'/\Q b H'
def AP (X:Cx) (pins:List (Addr×Obj)) (σ:St) (Q:List V->Hp->Prop) (us:List Value) (s':Shared):Prop:= ∃vs H',aJ X pins σ H' s'/\aV vs us/\Q vs H'
def SP (X:Cx) (pins:List (Addr×Obj)) (D:cM) (f:Flow) (s':Shared):Prop:=
 match f with
 | .next=> ∃σ' H',aJ X pins σ' H' s'/\D.nx σ' H'
 | .brk=> ∃σ' H',aJ X pins σ' H' s'/\D.bk σ' H'
 | .cont=> ∃σ' H',aJ X pins σ' H' s'/\D.ct σ' H'
 | .ret u=> ∃v σ' H',aJ X pins σ' H' s'/\aN v u/\D.rt v H'
def PE (X:Cx) (e:Expr) (t:TE):Prop:=
 ∀(pins:List (Addr×Obj)) (s:Shared) (σ:St) (H:Hp) (Q:VK),aJ X pins σ H s->t σ H Q->wpAny (model X.prog X.w) X.A (eval e X.env) (EP X pins σ Q) X.xe s
def PT (X:Cx) (e:Expr) (t:TT):Prop:=
 ∀(pins:List (Addr×Obj)) (s:Shared) (σ:St) (H:Hp) (Q:Bool->Hp->Prop),aJ X pins σ H s->t σ H Q->wpAny (model X.prog X.w) X.A (isTrue e X.env (eval e X.env)) (TP X pins σ Q) X.xe s
def PW (X:Cx) (e:Expr) (t:TT):Prop:=
 ∀(whole:Sem Value) (pins:List (Addr×Obj)) (s:Shared) (σ:St) (H:Hp) (Q:Bool->Hp->Prop),aJ X pins σ H s->t σ H Q->wpAny (model X.prog X.w) X.A (isTrue e X.env whole) (TP X pins σ Q) X.xe s
theorem PW.pt {X:Cx}{e:Expr}{t:TT}(h:PW X e t):PT X e t:=h _
def PA (X:Cx) (es:List Expr) (t:TA):Prop:=
 ∀(pos:Pos) (pins:List (Addr×Obj)) (s:Shared) (σ:St) (H:Hp) (Q:List V->Hp->Prop),aJ X pins σ H s->t σ H Q->wpAny (model X.prog X.w) X.A (spliced (backTo pos (starEach es X.env))) (AP X pins σ Q) X.xe s
def PS (X:Cx) (st:Stmt) (t:TS):Prop:=
 ∀(pins:List (Addr×Obj)) (s:Shared) (σ:St) (H:Hp) (D:cM),aJ X pins σ H s->t D σ H->wpAny (model X.prog X.w) X.A (exec st X.env) (SP X pins D) X.xe s
def ro (X:Cx) (st:List Stmt) (t:TS):Prop:=
 ∀(pins:List (Addr×Obj)) (s:Shared) (σ:St) (H:Hp) (D:cM),aJ X pins σ H s->t D σ H->wpAny (model X.prog X.w) X.A (execs st X.env) (SP X pins D) X.xe s
theorem bJ {α:Type}{t:Sem α}{Q Q':α->Shared->Prop}{M:Model}{A:Around}{E:Value->Shared->Prop}{s:Shared}(h:wpAny M A t Q E s) (hQ:∀a s,Q a s->Q' a s):wpAny M A t Q' E s:=wpAny_mono h hQ λ _ _ x=>x
end L2
namespace L2
open PySem PySem.Spec PyProof.Rows
section
variable {X:Cx}
theorem bin {a b:Expr}{ta tb:TE}(ha:PE X a ta) (hb:PE X b tb) {pins:List (Addr×Obj)}{s:Shared}{σ:St}{H:Hp}{R:V->V->Hp->Prop}(I:aJ X pins σ H s) (h:ta σ H λ x H1=>tb σ H1 λ y H2=>R x y H2)
  {α:Type} {Q:α->Shared->Prop} {f:Value->Value->Sem α}
  (hf:∀v u s2 x y H2,aJ X pins σ H2 s2->aN x v->aN y u->R x y H2->wpAny (model X.prog X.w) X.A (f v u) Q X.xe s2):
  wpAny (model X.prog X.w) X.A (eval a X.env) (λ v s₁=>wpAny (model X.prog X.w) X.A (eval b X.env) (λ u s₂=>wpAny (model X.prog X.w) X.A (f v u) Q X.xe s₂) X.xe s₁) X.xe s:=by
 refine bJ (ha pins s σ H _ I h) λ v s1 ⟨x,H1,I1,r1,q1⟩=>?_;refine bJ (hb pins s1 σ H1 _ I1 q1) λ u s2 ⟨y,H2,I2,r2,q2⟩=>?_;exact hf v u s2 x y H2 I2 r1 r2 q2
def KJ (i:Nat):TE:=λ σ H Q=> ∃v,σ[i]? =some (some v)/\Q v H
def tC (v:V):TE:=λ _ H Q=>Q v H
theorem DV {i:Nat}{x:Str}{pos:Pos}(hN:X.N[i]? =some x) (hv:JR X.env.scope x) (hd:(x == ("__debug__":Str))=false:=by decide) (hcd:(x == ("__classdict__":Str))=false:=by decide):PE X (.Name x pos) (KJ i):=by
 intro pins s σ H Q I h;obtain ⟨v,e,h⟩:=h;obtain ⟨m,hn,hl⟩:=I.loc;obtain ⟨u,r,l⟩:=hl i x v hN e hv;have fin:EP X pins σ Q u s:=⟨v,H,I,r,h⟩
 rcases l with ⟨hk,hm⟩ | ⟨hk,c,hc,hcell⟩
 ·exact wpAny_Name (wpAny_loadName_local I.ok.kind hk hn hm fin) hd
 ·rcases hk with hk | hk
  ·exact wpAny_Name (wpAny_loadName_cell I.ok.kind hk hc hcell fin) hd
  ·exact wpAny_Name (wpAny_loadName_free I.ok.kind hk hc hcell fin hcd) hd
theorem af {i j pos}:PE X (.Constant (.int i) j pos) (tC (.int i)):=λ _ _ _ H _ I h=>wpAny_Constant_int ⟨.int i,H,I.tok _,⟨_,rfl⟩,h⟩
theorem c8 {b j pos}:PE X (.Constant (.bool b) j pos) (tC (.bl b)):=λ _ _ _ H _ I h=>Constant_bool ⟨.bl b,H,I,rfl,h⟩
theorem dC {j pos}:PE X (.Constant .none j pos) (tC .non):=λ _ _ _ H _ I h=>Constant_none ⟨.non,H,I,rfl,h⟩
theorem aH {x j pos}:PE X (.Constant (.str x) j pos) (tC (.str x)):=λ _ _ _ H _ I h=>Calls.Constant_str ⟨.str x,H,I.tok _,⟨_,rfl⟩,h⟩
def Gl (X:Cx) (x:Str):Prop:=X.env.kindOf x=some .globalImplicit
theorem m9 {E:Value->Shared->Prop}{pins:List (Addr×Obj)}{s:Shared}{σ:St}{H:Hp}{x:Str}{u:Value}{pos:Pos}{Q:Value->Shared->Prop}(I:aJ X pins σ H s) (hg:Gl X x) (hm:X.mg x=some u) (h:Q u s)
  (hd:(x == ("__debug__":Str))=false:=by decide):wpAny (model X.prog X.w) X.A (eval (.Name x pos) X.env) Q E s:=
 Calls.Name_function_global I.ok.kind hg (Calls.loadGlobal_global (by rw [I.ok.glob];exact I.mod.glob.keeps I.bk) hm h) hd
theorem gR {E:Value->Shared->Prop}{pins:List (Addr×Obj)}{s:Shared}{σ:St}{H:Hp}{x:Str}{u:Value}{pos:Pos}{Q:Value->Shared->Prop}(I:aJ X pins σ H s) (hg:Gl X x) (hm:X.mg x=none) (hv:bootBuiltins x=some u) (h:Q u s)
  (hn:x≠"__name__":=by decide) (hd:(x == ("__debug__":Str))=false:=by decide):wpAny (model X.prog X.w) X.A (eval (.Name x pos) X.env) Q E s:=by
 obtain ⟨mb,h1,h2⟩:=I.mod.blt;exact Calls.Name_function_global I.ok.kind hg (Calls.loadGlobal_builtin (by rw [I.ok.glob];exact I.mod.glob.keeps I.bk) hm (by rw [I.ok.blt];exact h1.keeps I.bk) ((h2 x hn).trans hv) h) hd
theorem x3 {x:Str}{v:V}{u:Value}{pos:Pos}(hg:Gl X x) (hm:X.mg x=some u) (r:aN v u) (hd:(x == ("__debug__":Str))=false:=by decide):PE X (.Name x pos) (tC v):=
 λ _ _ _ H _ I h=>m9 I hg hm ⟨v,H,I,r,h⟩ hd
theorem x9 {x:Str}{v:V}{u:Value}{pos:Pos}(hg:Gl X x) (hm:X.mg x=none) (hv:bootBuiltins x=some u) (r:aN v u) (hn:x≠"__name__":=by decide) (hd:(x == ("__debug__":Str))=false:=by decide):PE X (.Name x pos) (tC v):=
 λ _ _ _ H _ I h=>gR I hg hm hv ⟨v,H,I,r,h⟩ hn hd
variable {a b:Expr}{ta tb:TE}{pos:Pos}
def tB (t:TE):TT:=λ σ H Q=>t σ H λ x H1=> ∃c,x=.bl c/\Q c H1
variable {tA tB':TT}{rest:List Expr}
def xG (t u:TT):TT:=λ σ H Q=>t σ H λ c H1=>if c=true then u σ H1 Q else Q false H1
def EX (t u:TT):TT:=λ σ H Q=>t σ H λ c H1=>if c=true then Q true H1 else u σ H1 Q
def nP (t:TT):TT:=λ σ H Q=>t σ H λ c H1=>Q (!c) H1
theorem mI (ha:PT X a tA):PW X (.BoolOp .And [a] pos) tA:=by
 intro wh pins s σ H Q I h;refine isTrue_and (bJ (ha pins s σ H Q I h) λ c s1 e=>?_);cases c with
 | true=>exact isTrue_and_nil e
 | false=>exact e
theorem eE (ha:PT X a tA):PW X (.BoolOp .Or [a] pos) tA:=by
 intro wh pins s σ H Q I h;refine isTrue_or (bJ (ha pins s σ H Q I h) λ c s1 e=>?_);cases c with
 | false=>exact isTrue_or_nil e
 | true=>exact e
theorem qu (ha:PT X a tA) (hb:PW X (.BoolOp .And (b::rest) pos) tB'):PW X (.BoolOp .And (a::b::rest) pos) (xG tA tB'):=by
 intro wh pins s σ H Q I h;refine isTrue_and (bJ (ha pins s σ H _ I h) λ c s1 ⟨H1,I1,q1⟩=>?_);cases c with
 | true=>exact hb wh pins s1 σ H1 Q I1 q1
 | false=>exact ⟨H1,I1,q1⟩
theorem fS (ha:PT X a tA) (hb:PW X (.BoolOp .Or (b::rest) pos) tB'):PW X (.BoolOp .Or (a::b::rest) pos) (EX tA tB'):=by
 intro wh pins s σ H Q I h;refine isTrue_or (bJ (ha pins s σ H _ I h) λ c s1 ⟨H1,I1,q1⟩=>?_);cases c with
 | true=>exact ⟨H1,I1,q1⟩
 | false=>exact hb wh pins s1 σ H1 Q I1 q1
theorem bm (ha:PT X a tA):PT X (.UnaryOp .Not a pos) (nP tA):=by intro pins s σ H Q I h;exact isTrue_not (ha pins s σ H (λ c H1=>Q (!c) H1) I h)
theorem dB {op}{t:TE}(h:PE X a t):PE X (.BoolOp op [a] pos) t:=λ pins s σ H Q I hw=>BoolOp_one (h pins s σ H Q I hw)
def EY (t:TT) (ta tb:TE):TE:=λ σ H Q=>t σ H λ c H1=>if c=true then ta σ H1 Q else tb σ H1 Q
theorem gN {c:Expr}(hc:PT X c tA) (ha:PE X a ta) (hb:PE X b tb):PE X (.IfExp c a b pos) (EY tA ta tb):=by
 intro pins s σ H Q I h;refine wpAny_IfExp (bJ (hc pins s σ H _ I h) λ d s1 ⟨H1,I1,q1⟩=>?_);cases d with
 | true=>exact ha pins s1 σ H1 Q I1 q1
 | false=>exact hb pins s1 σ H1 Q I1 q1
end
end L2
namespace L2
open PySem PySem.Spec PyProof.Rows
def aI (K:Frag) (H:Hp) (a:Addr) (xs:List V):Prop:=
 Rd H a (.lst xs)\/
  ∃(o:Obj) (its:Array Value) (n:Nat),K.lookup a=some o/\o.cls=.type "list"/\o.dict=none/\o.data=.seq its n/\its.size<=sizeLine/\aV xs its.toList
def cg (K:Frag) (H:Hp) (a:Addr) (xs:List V):Prop:=
 Rd H a (.tup xs)\/
  ∃(o:Obj) (its:Array Value) (n:Nat),K.lookup a=some o/\o.cls=.type "tuple"/\o.data=.seq its n/\its.size<=sizeLine/\aV xs its.toList
def Ln:Value->Option V
 | .none=>some .non
 | .bool b=>some (.bl b)
 | .int i _=>some (.int i)
 | .str x _=>some (.str x)
 | .bytes b _=>some (.byt b)
 | .float b _=>some (.flt b)
 | .ref a=>some (.ref a)
 | .type n=>some (.ty n)
 | _=>none
theorem aN.abs {x:V}{u:Value}(r:aN x u):Ln u=some x:=by
 cases x with
 | non=>cases r;rfl
 | bl _=>cases r;rfl
 | int _=>obtain ⟨t,rfl⟩:=r;rfl
 | str _=>obtain ⟨t,rfl⟩:=r;rfl
 | byt _=>obtain ⟨t,rfl⟩:=r;rfl
 | flt _=>obtain ⟨t,rfl⟩:=r;rfl
 | ref _=>cases r;rfl
 | ty _=>cases r;rfl
theorem aN.inj {x y:V}{u:Value}(r:aN x u) (q:aN y u):x=y:=Option.some.inj (r.abs.symm.trans q.abs)
theorem aV.inj:∀{xs ys:List V}{us:List Value},aV xs us->aV ys us->xs=ys
 | _,_,_,.nil,.nil=>rfl
 | _,_,_,.cons r t,.cons r' t'=>by rw [r.inj r',aV.inj t t']
section
variable {X:Cx}{pins:List (Addr×Obj)}{σ:St}{H:Hp}{s:Shared}{a:Addr}{xs ys:List V}
theorem aI.of {K:Frag}(h:H a=some (.lst xs)):aI K H a xs:=.inl (.inl h)
theorem cg.of {K:Frag}(h:H a=some (.tup xs)):cg K H a xs:=.inl (.inl h)
theorem aJ.list (I:aJ X pins σ H s) (h:aI X.K H a xs):∃its:List Value,aV xs its/\PlainL s.heap a its.toArray/\xs.length<=sizeLine:=by
 rcases h with h | ⟨o,its,n,hk,hc,hd,hs,hz,r⟩
 ·obtain ⟨z,its,n,r,e⟩:=h.ok I.hok;exact ⟨its,r,⟨_,n,e,rfl,rfl,rfl⟩,z⟩
 ·refine ⟨its.toList,r,⟨o,n,I.kIn a o hk,hc,hd,by simpa using hs⟩,?_⟩;have e:=r.length;simp only [NG] at e;omega
theorem aJ.tuple (I:aJ X pins σ H s) (h:cg X.K H a xs):∃its:List Value,aV xs its/\IsTup s.heap a its.toArray/\xs.length<=sizeLine:=by
 rcases h with h | ⟨o,its,n,hk,hc,hs,hz,r⟩
 ·obtain ⟨z,its,r,p⟩:=h.ok I.hok;exact ⟨its,r,p,z⟩
 ·refine ⟨its.toList,r,⟨o,I.kIn a o hk,hc,n,by simpa using hs⟩,?_⟩;have e:=r.length;simp only [NG] at e;omega
theorem aJ.list_inj (I:aJ X pins σ H s) (h:aI X.K H a xs) (h':aI X.K H a ys):xs=ys:=by
 obtain ⟨its,r,⟨o,n,e,_,_,d⟩,_⟩:=I.list h;obtain ⟨its',r',⟨o',n',e',_,_,d'⟩,_⟩:=I.list h';rw [e] at e';cases e';rw [d] at d';injection d' with d1 _;have:its=its':=by simpa using congrArg Array.toList d1
 subst this;exact r.inj r'
theorem aJ.tuple_inj (I:aJ X pins σ H s) (h:cg X.K H a xs) (h':cg X.K H a ys):xs=ys:=by
 obtain ⟨its,r,⟨o,e,_,n,d⟩,_⟩:=I.tuple h;obtain ⟨its',r',⟨o',e',_,n',d'⟩,_⟩:=I.tuple h';rw [e] at e';cases e';rw [d] at d';injection d' with d1 _;have:its=its':=by simpa using congrArg Array.toList d1
 subst this;exact r.inj r'
end
abbrev Cx.wish (X:Cx) (E:Value->Shared->Prop):Cx:={X with xe:=E}
abbrev Cx.nox (X:Cx):Cx:=X.wish λ _ _=>False
theorem Cx.Ok.wish {X:Cx}(ok:X.Ok) (E:Value->Shared->Prop):(X.wish E).Ok:=
 ⟨ok.mod,ok.kind,ok.glob,ok.blt,ok.above,ok.inj,ok.has,ok.cab,ok.hd,ok.frames,ok.stk,ok.exf,ok.bs,ok.bsz,ok.noex,ok.exfs,ok.funs,ok.frf⟩
theorem Cx.Ok.unwish {X:Cx}{E:Value->Shared->Prop}(ok:(X.wish E).Ok):X.Ok:=
 ⟨ok.mod,ok.kind,ok.glob,ok.blt,ok.above,ok.inj,ok.has,ok.cab,ok.hd,ok.frames,ok.stk,ok.exf,ok.bs,ok.bsz,ok.noex,ok.exfs,ok.funs,ok.frf⟩
section
variable {X:Cx}{pins:List (Addr×Obj)}{σ:St}{H:Hp}{s:Shared}{E:Value->Shared->Prop}
theorem aJ.wish (I:aJ X pins σ H s) (E:Value->Shared->Prop):aJ (X.wish E) pins σ H s:=⟨I.ok.wish E,I.os,I.bare,I.base,I.loc,I.cell,I.free,I.freeC,I.pin,I.hok,I.len⟩
theorem aJ.unwish (I:aJ (X.wish E) pins σ H s):aJ X pins σ H s:=⟨I.ok.unwish,I.os,I.bare,I.base,I.loc,I.cell,I.free,I.freeC,I.pin,I.hok,I.len⟩
theorem SP.unwish {D:cM}{f:Flow}{s':Shared}(h:SP (X.wish E) pins D f s'):SP X pins D f s':=by
 cases f with
 | next=>obtain ⟨σ',H',I,q⟩:=h;exact ⟨σ',H',I.unwish,q⟩
 | brk=>obtain ⟨σ',H',I,q⟩:=h;exact ⟨σ',H',I.unwish,q⟩
 | cont=>obtain ⟨σ',H',I,q⟩:=h;exact ⟨σ',H',I.unwish,q⟩
 | ret u=>obtain ⟨v,σ',H',I,r,q⟩:=h;exact ⟨v,σ',H',I.unwish,r,q⟩
theorem ro.nox {st:List Stmt}{t:TS}(h:ro X.nox st t):ro X st t:=λ pins s σ H D I hw=>
 wpAny_mono (h pins s σ H D (I.wish _) hw) (λ _ _ q=>q.unwish) λ _ _ z=>False.elim z
end
section
variable {X:Cx}{st:Stmt}{rest:List Stmt}{t u:TS}{e:Expr}{te:TE}{pos:Pos}
def jV:TS:=λ D σ H=>D.nx σ H
def bg (t u:TS):TS:=λ D σ H=>t {D with nx:=u D} σ H
theorem aC:ro X [] jV:=λ _ _ σ H _ I h=>wpAny_execs_nil ⟨σ,H,I,h⟩
theorem aa (h1:PS X st t) (h2:ro X rest u):ro X (st::rest) (bg t u):=by
 intro pins s σ H D I h;refine wpAny_execs_cons (bJ (h1 pins s σ H {D with nx:=u D} I h) λ f s1 q=>?_);cases f with
 | next=>
   obtain ⟨σ',H',I',q⟩:=q;exact h2 pins s1 σ' H' D I' q
 | ret v=>exact q
 | brk=>exact q
 | cont=>exact q
theorem aj (h1:PS X st t):ro X [st] t:=by
 intro pins s σ H D I h;refine wpAny_execs_cons (bJ (h1 pins s σ H D I h) λ f s1 q=>?_);cases f with
 | next=>exact wpAny_execs_nil q
 | ret v=>exact q
 | brk=>exact q
 | cont=>exact q
theorem aJ.quiet {pins:List (Addr×Obj)}{σ:St}{H:Hp}{s:Shared}(I:aJ X pins σ H s):interactive X.env=false:=by simp [interactive,I.ok.kind]
def hZ (te:TE):TS:=λ D σ H=>te σ H λ _ H1=>D.nx σ H1
theorem cy (he:PE X e te) (hs:swapsWith e none pos.line X.env=pure false:=by rfl):PS X (.Expr e pos) (hZ te):=by intro pins s σ H D I h;exact wpAny_Expr_any (bJ (he pins s σ H _ I h) λ v s1 ⟨x,H1,I1,r1,q1⟩=>⟨σ,H1,I1,q1⟩) I.quiet hs
def dw (te:TE):TS:=λ D σ H=>te σ H D.rt
theorem az (he:PE X e te):PS X (.Return (some e) pos) (dw te):=by intro pins s σ H D I h;exact wpAny_Return_some (bJ (he pins s σ H _ I h) λ v s1 ⟨x,H1,I1,r1,q1⟩=>⟨x,σ,H1,I1,r1,q1⟩)
def lZ (c:TT) (t u:TS):TS:=λ D σ H=>c σ H λ b H1=>if b=true then t D σ H1 else u D σ H1
theorem bf {c:Expr}{a b:List Stmt}{tc:TT}(hc:PT X c tc) (ha:ro X a t) (hb:ro X b u):PS X (.If c a b pos) (lZ tc t u):=by
 intro pins s σ H D I h;refine wpAny_If (bJ (hc pins s σ H _ I h) λ d s1 ⟨H1,I1,q1⟩=>?_);cases d with
 | true=>exact ha pins s1 σ H1 D I1 q1
 | false=>exact hb pins s1 σ H1 D I1 q1
def vg:TS:=λ _ _ _=>False
theorem cR:PS X st vg:=λ _ _ _ _ _ _ h=>h.elim
theorem jb {sts:List Stmt}:ro X sts vg:=λ _ _ _ _ _ _ h=>h.elim
end
abbrev TG:=V->St->Hp->(St->Hp->Prop)->Prop
abbrev Dk:=List V->St->Hp->(St->Hp->Prop)->Prop
def PG (X:Cx) (target:Expr) (t:TG):Prop:=
 ∀(pins:List (Addr×Obj)) (s:Shared) (σ:St) (H:Hp) (v:V) (u:Value) (Q:St->Hp->Prop),aJ X pins σ H s->aN v u->t v σ H Q->
  wpAny (model X.prog X.w) X.A (assign target X.env u) (λ _ s'=> ∃σ' H',aJ X pins σ' H' s'/\Q σ' H') X.xe s
def E8 (X:Cx) (ts:List Expr) (t:Dk):Prop:=
 ∀(pins:List (Addr×Obj)) (s:Shared) (σ:St) (H:Hp) (vs:List V) (us:List Value) (Q:St->Hp->Prop),aJ X pins σ H s->aV vs us->t vs σ H Q->
  wpAny (model X.prog X.w) X.A (assignInOrder ((assignEach ts X.env).map (·.2)) us) (λ _ s'=> ∃σ' H',aJ X pins σ' H' s'/\Q σ' H') X.xe s
section
variable {X:Cx}{pos:Pos}
def gName (i:Nat):TG:=λ v σ H Q=>Q (σ.set i (some v)) H
theorem dO {i:Nat}{x:Str}(hN:X.N.Nodup) (hi:X.N[i]? =some x) (hx:E9 X.env.scope x) (hf:X.fn x=true\/X.env.scope.names.lookup x=some .local:=by first | exact .inl rfl | exact .inr rfl | assumption):PG X (.Name x pos) (gName i):=by intro pins s σ H v u Q I r h;exact wpAny_assign_Name (nR I hN hi hx r (λ s' I'=>⟨_,H,I',h⟩) hf)
def Ey:Dk:=λ vs σ H Q=>vs=[]/\Q σ H
def pp (t:TG) (u:Dk):Dk:=λ vs σ H Q=> ∃v r,vs=v::r/\t v σ H λ σ' H'=>u r σ' H' Q
theorem r6:E8 X [] Ey:=by intro pins s σ H vs us Q I r h;obtain ⟨e,h⟩:=h;subst e;cases r;exact assignInOrder_nil ⟨σ,H,I,h⟩
theorem iM {e:Expr}{es:List Expr}{t:TG}{u:Dk}(h1:PG X e t) (h2:E8 X es u)
  (hs:(assignEach (e::es) X.env).map (·.2)=assign e X.env::(assignEach es X.env).map (·.2):=by rfl):E8 X (e::es) (pp t u):=by
 intro pins s σ H vs us Q I r h;obtain ⟨v,vr,e1,h⟩:=h;subst e1;cases r with
 | cons r rr=>
   rw [hs];refine assignInOrder_cons (bJ (h1 pins s σ H _ _ _ I r h) λ _ s1 ⟨σ1,H1,I1,q1⟩=>?_);exact h2 pins s1 σ1 H1 _ _ Q I1 rr q1
def yH (K:Frag) (n:Nat) (t:Dk):TG:=λ v σ H Q=> ∃a xs,v=.ref a/\cg K H a xs/\xs.length=n/\t xs σ H Q
theorem DU {es:List Expr}{k:Nat}{t:Dk}{n:Nat}(hc:X.calm=true) (h:E8 X es t)
  (hn:(assignEach es X.env).length=n:=by rfl) (hst:(assignEach es X.env).findIdx? (·.1)=none:=by rfl):PG X (.Tuple es k pos) (yH X.K n t):=by
 intro pins s σ H v u Q I r hw;obtain ⟨a,xs,e1,hq,hl,hw⟩:=hw;subst e1;cases r;obtain ⟨its,rv,ht,hz⟩:=I.tuple hq;refine assign_Tuple_tuple (I.ok.hd hc) ht (by simp [hn,<-hl,rv.length]) hst λ h' hx=>?_;have I1:aJ X pins σ H {s with heap:=h'}:=I.kept (t':=s.toks) λ b o e=>hx b o (M8 (Heap.lt_size e)) e;exact h pins _ σ H xs _ Q I1 (by simpa using rv) hw
def tAsg (te:TE) (g:TG):TS:=λ D σ H=>te σ H λ x H1=>g x σ H1 D.nx
theorem av {i:Nat}{x:Str}{e:Expr}{te:TE}{pos':Pos}(hN:X.N.Nodup) (hi:X.N[i]? =some x) (hx:E9 X.env.scope x) (he:PE X e te) (hs:swapsWith e (some (.Name x pos')) pos.line X.env=pure false:=by rfl) (hf:X.fn x=true\/X.env.scope.names.lookup x=some .local:=by first | exact .inl rfl | exact .inr rfl | assumption):
  PS X (.Assign [.Name x pos'] e pos) (tAsg te (gName i)):=by
 intro pins s σ H D I h;refine wpAny_Assign_Name (bJ (he pins s σ H _ I h) λ v s1 ⟨y,H1,I1,r1,q1⟩=>?_) hs;exact nR I1 hN hi hx r1 (λ s2 I2=>⟨_,H1,I2,q1⟩) hf
end
section
variable {X:Cx}{pos:Pos}
def Dy (c:TT) (tb:TS):TS:=λ D σ H=> ∃W:Nat->St->Hp->Prop,(∃m,W m σ H)/\∀m σ H,W m σ H->
 c σ H λ b H1=>if b=true then∃N:St->Hp->Prop,(∀σ' H',N σ' H'->∃m',m'<m/\W m' σ' H')/\tb {D with nx:=N,ct:=N,bk:=D.nx} σ H1 else D.nx σ H1
theorem vR {c:Expr}{body:List Stmt}{tc:TT}{tb:TS}(hp:PassesOwn (model X.prog X.w) X.A X.env X.xe) (hc:PT X c tc) (hb:ro X body tb):PS X (.While c body [] pos) (Dy tc tb):=by
 intro pins s σ H D I h;obtain ⟨W,⟨m0,w0⟩,turn⟩:=h;refine wpAny_While (codeAny_whileLoop (λ n s'=> ∃σ' H',aJ X pins σ' H' s'/\W n σ' H') ?_ m0 ⟨σ,H,I,w0⟩);rintro n s1 ⟨σ1,H1,I1,w1⟩;refine wpAny_passesOwn hp (bJ (hc pins s1 σ1 H1 _ I1 (turn n σ1 H1 w1)) λ b s2 ⟨H2,I2,q2⟩=>?_);cases b with
 | true=>
   obtain ⟨N,hN,q2⟩:=q2;rw [if_pos rfl];refine wpAny_passesOwn hp (bJ (hb pins s2 σ1 H2 _ I2 q2) λ f s3 q3=>?_);cases f with
   | next=>
     obtain ⟨σ3,H3,I3,n3⟩:=q3;obtain ⟨m',hm,w3⟩:=hN σ3 H3 n3;exact ⟨m',hm,σ3,H3,I3,w3⟩
   | cont=>
     obtain ⟨σ3,H3,I3,n3⟩:=q3;obtain ⟨m',hm,w3⟩:=hN σ3 H3 n3;exact ⟨m',hm,σ3,H3,I3,w3⟩
   | brk=>exact q3
   | ret v=>exact q3
 | false=>
   rw [if_neg Nt];exact wpAny_execs_nil ⟨σ1,H2,I2,q2⟩
end
structure It where
 go:Nat->Hp->Prop
 yld:Nat->Hp->V->Hp->Prop
 stop:Nat->Hp->Prop
def gH (X:Cx) (pins:List (Addr×Obj)) (H:Hp) (b:Addr):Prop:=
 H b=none/\b≠X.env.locals/\b∉X.fs/\(b∈X.ex\/X.s₀.heap.objs.size<=b)/\(∀x c,X.env.cells.lookup x=some c->c≠b)/\∀p∈X.pn++pins,p.1≠b
theorem aJ.fpOk {X:Cx}{pins:List (Addr×Obj)}{σ:St}{H H':Hp}{s:Shared}{b:Addr}(I:aJ X pins σ H s) (hb:s.heap.objs.size<=b) (hn:H' b=none):gH X pins H' b:=by
 refine ⟨hn,Nf (Na I.lt hb),I.nofs hb,.inr (M7 I.sz hb),λ x c e z=>?_,λ p hp z=>?_⟩
 ·obtain ⟨v,q⟩:=I.cell x c e;exact absurd (Na q.lt (by rw [z];exact hb)) (Nd _)
 ·exact absurd (Na (Heap.lt_size (I.pin p hp).1) (by rw [z];exact hb)) (Nd _)
structure pR (P:Program) (w:World) (K:Frag) (tg:Expr) (J:It) (fp:List Addr) (it:Addr) (tn:Nat->Heap->Prop):Prop where
 mem:it∈fp
 obj:∀i h,tn i h->∀b∈fp,∃o,h.get? b=some o/\∀v,o.data≠.cell v
 keep:∀i h h',tn i h->(∀b∈fp,∀o,h.get? b=some o->h'.get? b=some o)->tn i h'
 item:∀(X:Cx),X.prog=P->X.w=w->X.K=K->X.calm=true->∀(i:Nat) (pins:List (Addr×Obj)) (s:Shared) (σ:St) (H:Hp) (E:Value->Shared->Prop),aJ X pins σ H s->(∀b∈fp,gH X pins H b)->tn i s.heap->J.go i H->
  wpAny (model P w) X.A (pyNext (.ref it)) (λ r s1=> ∃u,r=some u/\
   wpAny (model P w) X.A (letOwnedTupleGo tg (.ref it) u) (λ _ s2=> ∃x H',aJ X pins σ H' s2/\aN x u/\J.yld i H x H'/\tn (i+1) s2.heap/\∀b∈fp,H' b=none) E s1) E s
 done:∀(X:Cx),X.prog=P->X.w=w->X.K=K->X.calm=true->∀(i:Nat) (pins:List (Addr×Obj)) (s:Shared) (σ:St) (H:Hp) (E:Value->Shared->Prop),aJ X pins σ H s->(∀b∈fp,gH X pins H b)->tn i s.heap->J.stop i H->
   wpAny (model P w) X.A (pyNext (.ref it)) (λ r s1=>r=none/\aJ X pins σ H s1) E s
 self:∀(A:Around) (i:Nat) (s:Shared) (Q:Value->Shared->Prop) (E:Value->Shared->Prop),tn i s.heap->Q (.ref it) s->wpAny (model P w) A (pyIter (.ref it)) Q E s
abbrev TI:=St->Hp->(It->Hp->Prop)->Prop
def Lq (X:Cx) (pins:List (Addr×Obj)) (σ:St) (tg:Expr) (R:It->Hp->Prop) (itv:Value) (s2:Shared):Prop:=
 ∃(it:Addr) (fp:List Addr) (tn:Nat->Heap->Prop) (J:It) (H':Hp),itv=.ref it/\aJ X pins σ H' s2/\pR X.prog X.w X.K tg J fp it tn/\tn 0 s2.heap/\(∀b∈fp,gH X pins H' b)/\R J H'
def PI (X:Cx) (tg iter:Expr) (wi:TI):Prop:=
 ∀(pins:List (Addr×Obj)) (s:Shared) (σ:St) (H:Hp) (R:It->Hp->Prop),aJ X pins σ H s->wi σ H R->
  wpAny (model X.prog X.w) X.A (eval iter X.env) (λ v s1=>wpAny (model X.prog X.w) X.A (pyIter v) (Lq X pins σ tg R) X.xe s1) X.xe s
theorem sG {M:Model}{A:Around}{E:Value->Shared->Prop}{s:Shared}{tg:Expr}{it:Addr}{u:Value}{o:Obj}{n:String}{vs:Array Value}{Q:Unit->Shared->Prop}(ho:s.heap.get? it=some o) (hc:o.cls=.type n) (hd:o.data=.fields vs)
  (hn:["enumerate","zip","dict_itemiterator","dict_reverseitemiterator","odict_iterator","itertools.zip_longest","itertools.pairwise"].contains n=false) (hQ:Q () s):wpAny M A (letOwnedTupleGo tg (.ref it) u) Q E s:=by
 unfold letOwnedTupleGo;cases tg<;>first
  | exact wpAny_pure hQ
  | (cases u<;>first
    | exact wpAny_pure hQ
    | (refine wpAny_bind (wpAny_load ho ?_)
       rw [hc,hd];show wpAny M A (if (["enumerate","zip","dict_itemiterator","dict_reverseitemiterator","odict_iterator","itertools.zip_longest","itertools.pairwise"].contains n&&vs[0]? == some (rawInt _))=true then _ else _) Q E s;rw [if_neg (by intro h;rw [hn,NB] at h;cases h)];exact wpAny_pure hQ))
def Fb (K:Frag) (a:Addr):It:=
 ⟨λ i H=> ∃xs x,aI K H a xs/\xs[i]? =some x,λ i H x H'=>H'=H/\∀xs,aI K H a xs->xs[i]? =some x,λ i H=> ∃xs,aI K H a xs/\xs.length<=i⟩
def JL (K:Frag) (a:Addr):It:=
 ⟨λ i H=> ∃xs x,cg K H a xs/\xs[i]? =some x,λ i H x H'=>H'=H/\∀xs,cg K H a xs->xs[i]? =some x,λ i H=> ∃xs,cg K H a xs/\xs.length<=i⟩
def Fa (lo:Int) (n:Nat):It:=⟨λ i _=>i<n,λ i H x H'=>H'=H/\x=.int (lo+i),λ i _=>n<=i⟩
theorem tE {P:Program}{w:World}{K:Frag}{tg:Expr}(a it:Addr):pR P w K tg (Fb K a) [it] it (λ i h=>h.IsListIter it a i) where
 mem:=by simp
 obj:=λ i h st b hb=>by
  have e:b=it:=by simpa using hb
  subst e;obtain ⟨o,e,c,d⟩:=st;exact ⟨o,e,λ v z=>by rw [d] at z;cases z⟩
 keep:=λ i h h' st k=>st.at λ o e=>k it (by simp) o e
 item:=by intro X hP hw hK hc i pins s σ H E I hf st hg;subst hP hw hK;obtain ⟨xs,x,hq,hx⟩:=hg;obtain ⟨its,rv,p,hz⟩:=I.list hq;obtain ⟨u,hu,ru⟩:=rv.get hx;obtain ⟨f0,f1,f2,f3,f4,f5⟩:=hf it (by simp);refine wpAny_pyNext_list_item st p.isList (x:=u) (by simpa using hu) λ h' st' sb=>?_;have I1:aJ X pins σ H {s with heap:=h'}:=I.turned (t':=s.toks) (λ b o hb e=>(sb.2 b hb).trans e) f0 f1 f3 f4 f5;obtain ⟨o,e,c,d⟩:=id st';exact ⟨u,rfl,sG (s:={s with heap:=h'}) e c d (by decide) ⟨x,H,I1,ru,⟨rfl,λ ys hy=>by rw [I.list_inj hy hq];exact hx⟩,st',λ b hb=>(hf b hb).1⟩⟩
 done:=by intro X hP hw hK hc i pins s σ H E I hf st hg;subst hP hw hK;obtain ⟨xs,hq,hx⟩:=hg;obtain ⟨its,rv,p,hz⟩:=I.list hq;obtain ⟨f0,f1,f2,f3,f4,f5⟩:=hf it (by simp);have hl:=rv.length;exact wpAny_pyNext_list_end (I.ok.hd hc) st p.isList (by simp;omega) λ h' eb=>⟨rfl,I.turned (t':=s.toks) (λ b o hb e=>eb b o hb e) f0 f1 f3 f4 f5⟩
 self:=λ _ _ _ _ _ st h=>wpAny_pyIter_listiter st h
theorem pZ {P:Program}{w:World}{K:Frag}{tg:Expr}(a it:Addr):pR P w K tg (JL K a) [it] it (λ i h=>h.IsTupleIter it a i) where
 mem:=by simp
 obj:=λ i h st b hb=>by
  have e:b=it:=by simpa using hb
  subst e;obtain ⟨o,e,c,d⟩:=st;exact ⟨o,e,λ v z=>by rw [d] at z;cases z⟩
 keep:=λ i h h' st k=>st.at λ o e=>k it (by simp) o e
 item:=by intro X hP hw hK hc i pins s σ H E I hf st hg;subst hP hw hK;obtain ⟨xs,x,hq,hx⟩:=hg;obtain ⟨its,rv,p,hz⟩:=I.tuple hq;obtain ⟨u,hu,ru⟩:=rv.get hx;obtain ⟨f0,f1,f2,f3,f4,f5⟩:=hf it (by simp);refine wpAny_pyNext_tuple_item st (show s.heap.IsTuple a its.toArray from p) (x:=u) (by simpa using hu) λ h' st' sb=>?_;have I1:aJ X pins σ H {s with heap:=h'}:=I.turned (t':=s.toks) (λ b o hb e=>(sb.2 b hb).trans e) f0 f1 f3 f4 f5;obtain ⟨o,e,c,d⟩:=id st';exact ⟨u,rfl,sG (s:={s with heap:=h'}) e c d (by decide) ⟨x,H,I1,ru,⟨rfl,λ ys hy=>by rw [I.tuple_inj hy hq];exact hx⟩,st',λ b hb=>(hf b hb).1⟩⟩
 done:=by intro X hP hw hK hc i pins s σ H E I hf st hg;subst hP hw hK;obtain ⟨xs,hq,hx⟩:=hg;obtain ⟨its,rv,p,hz⟩:=I.tuple hq;obtain ⟨f0,f1,f2,f3,f4,f5⟩:=hf it (by simp);have hl:=rv.length;exact wpAny_pyNext_tuple_end (I.ok.hd hc) st (show s.heap.IsTuple a its.toArray from p) (by simp;omega) λ h' eb=>⟨rfl,I.turned (t':=s.toks) (λ b o hb e=>eb b o hb e) f0 f1 f3 f4 f5⟩
 self:=λ _ _ _ _ _ st h=>wpAny_pyIter_tupleiter st h
theorem qb {P:Program}{w:World}{K:Frag}{tg:Expr}(it:Addr) (lo:Int) (n:Nat):pR P w K tg (Fa lo n) [it] it (λ i h=>IsRangeIter h it (lo+(i:Nat)*1) ((n:Int) - (i:Nat)) 1) where
 mem:=by simp
 obj:=λ i h st b hb=>by
  have e:b=it:=by simpa using hb
  subst e;exact ⟨_,st,λ v z=>by
   have z':Data.fields _=Data.cell v:=z;cases z'⟩
 keep:=λ i h h' st k=>k it (by simp) _ st
 item:=by intro X hP hw hK hc i pins s σ H E I hf st hg;subst hP hw hK;obtain ⟨f0,f1,f2,f3,f4,f5⟩:=hf it (by simp);have W:=Walks.range (prog:=X.prog) (w:=X.w) (I.ok.hd hc) it lo 1 n;refine W.item i s _ _ hg st λ v h' tk hv st' kk=>?_;obtain ⟨t,rfl⟩:=hv;have I1:aJ X pins σ H {s with heap:=h',toks:=tk}:=I.turned (λ b o hb e=>kk b o (by simpa using hb) e) f0 f1 f3 f4 f5;refine ⟨_,rfl,sG (s:={s with heap:=h',toks:=tk}) (n:="range_iterator") st' rfl rfl (by decide) ⟨.int (lo+i),H,I1,⟨t,?_⟩,⟨rfl,rfl⟩,st',λ b hb=>(hf b hb).1⟩⟩;rw [Int.mul_one]
 done:=by intro X hP hw hK hc i pins s σ H E I hf st hg;subst hP hw hK;obtain ⟨f0,f1,f2,f3,f4,f5⟩:=hf it (by simp);exact wpAny_pyNext_range_end (I.ok.hd hc) st (by have:n<=i:=hg;omega) λ h' eb=>⟨rfl,I.turned (t':=s.toks) (λ b o hb e=>eb b o hb e) f0 f1 f3 f4 f5⟩
 self:=λ _ _ _ _ _ st h=>wpAny_pyIter_rangeiter st h
end L2
namespace L2
open PySem PySem.Spec PyProof.Rows
section
variable {X:Cx}{tg:Expr}
def fW (K:Frag) (tl:TE):TI:=λ σ H R=>tl σ H λ x H1=> ∃a,x=.ref a/\(∃xs,aI K H1 a xs)/\R (Fb K a) H1
def Er (K:Frag) (tl:TE):TI:=λ σ H R=>tl σ H λ x H1=> ∃a,x=.ref a/\(∃xs,cg K H1 a xs)/\R (JL K a) H1
theorem xY {l:Expr}{tl:TE}(hl:PE X l tl):PI X tg l (fW X.K tl):=by
 intro pins s σ H R I h;refine bJ (hl pins s σ H _ I h) λ v s1 ⟨x,H1,I1,r1,q1⟩=>?_;obtain ⟨a,e,⟨xs,hq⟩,q⟩:=q1;subst e;cases r1;obtain ⟨its,rv,p,hz⟩:=I1.list hq;refine wpAny_pyIter_list p.isList ?_;refine ⟨s1.heap.objs.size,[s1.heap.objs.size],_,_,H1,rfl,I1.kept (t':=s1.toks) λ b o e=>Heap.get?_push_of_some _ e,tE a _,⟨_,Heap.get?_push_size _ rfl,rfl,rfl⟩,λ b hb=>?_,q⟩;have e:b=s1.heap.objs.size:=by simpa using hb
 subst e;exact I1.fpOk (M6 _) (I1.hok.fresh (M6 _))
theorem DS {l:Expr}{tl:TE}(hl:PE X l tl):PI X tg l (Er X.K tl):=by
 intro pins s σ H R I h;refine bJ (hl pins s σ H _ I h) λ v s1 ⟨x,H1,I1,r1,q1⟩=>?_;obtain ⟨a,e,⟨xs,hq⟩,q⟩:=q1;subst e;cases r1;obtain ⟨its,rv,p,hz⟩:=I1.tuple hq;refine wpAny_pyIter_tuple (show s1.heap.IsTuple a its.toArray from p) ?_;refine ⟨s1.heap.objs.size,[s1.heap.objs.size],_,_,H1,rfl,I1.kept (t':=s1.toks) λ b o e=>Heap.get?_push_of_some _ e,pZ a _,⟨_,Heap.get?_push_size _ rfl,rfl,rfl⟩,λ b hb=>?_,q⟩;have e:b=s1.heap.objs.size:=by simpa using hb
 subst e;exact I1.fpOk (M6 _) (I1.hok.fresh (M6 _))
theorem vA {pins:List (Addr×Obj)}{σ:St}{H:Hp}{s:Shared}{R:It->Hp->Prop}{E:Value->Shared->Prop}{lo hi:Int}{t u v:Tok}{tk:Nat}(I:aJ X pins σ H s) (h1: -(2 ^ 62)<=lo) (h2:lo<2 ^ 62) (h3: -(2 ^ 62)<=hi) (h4:hi<2 ^ 62)
  (q:R (Fa lo (hi - lo).toNat) H):wpAny (model X.prog X.w) X.A (pyIter (.ref s.heap.objs.size)) (Lq X pins σ tg R) E {s with heap:=s.heap.push {cls:=.type "range",data:=.fields #[.int lo t,.int hi u,.int 1 v]},toks:=tk}:=by
 refine wpAny_pyIter_range (IsRange.new ..) (small_one h1 h2 h3 h4) ?_;have I1:aJ X pins σ H {s with heap:=s.heap.push {cls:=.type "range",data:=.fields #[.int lo t,.int hi u,.int 1 v]},toks:=tk}:=I.kept λ b o e=>Heap.get?_push_of_some _ e;refine ⟨(s.heap.push {cls:=.type "range",data:=.fields #[.int lo t,.int hi u,.int 1 v]}).objs.size,[(s.heap.push {cls:=.type "range",data:=.fields #[.int lo t,.int hi u,.int 1 v]}).objs.size],_,_,H,rfl,
  I1.kept (t':=tk) λ b o e=>Heap.get?_push_of_some _ e,qb _ lo (hi - lo).toNat,?_,λ b hb=>?_,q⟩
 ·have e1:lo+((0:Nat):Int)*1=lo:=by simp
  have e2:(((hi - lo).toNat:Nat):Int) - ((0:Nat):Int)=Builtin.Range.rangeSize lo hi 1:=by rw [rangeSize_one];split<;>omega
  show IsRangeIter _ _ (lo+((0:Nat):Int)*1) ((((hi - lo).toNat:Nat):Int) - ((0:Nat):Int)) 1;rw [e1,e2];exact Heap.get?_push_size _ rfl
 ·have e:b=(s.heap.push {cls:=.type "range",data:=.fields #[.int lo t,.int hi u,.int 1 v]}).objs.size:=by simpa using hb
  subst e;exact I1.fpOk (M6 _) (I1.hok.fresh (M6 _))
def lL (ta:TA):TI:=λ σ H R=>ta σ H λ vs H1=> ∃j:Int,vs=[.int j]/\-(2 ^ 62)<=j/\j<2 ^ 62/\R (Fa 0 j.toNat) H1
theorem tU {a:Expr}{ta:TA}{p pos:Pos}(hg:Gl X "range") (hm:X.mg "range"=none) (ha:PA X [a] ta) (hs:starEach [a] X.env=[(false,eval a X.env)]:=by rfl):PI X tg (.Call (.Name "range" p) [a] [] pos) (lL ta):=by
 intro pins s σ H R I h;refine Call_ (gR I hg hm boot_range (PyProof.Rows.callWith_type1 (bJ (ha pos pins s σ H _ I h) λ us s1 ⟨vs,H1,I1,r1,q1⟩=>?_) hs rfl));obtain ⟨j,e,q1,q2,q⟩:=q1;subst e;cases r1 with
 | cons r rr=>
   cases rr;obtain ⟨t,rfl⟩:=r;exact call_range_1 (vA I1 (by omega) (by omega) q1 q2 (by simpa using q))
def tFor (wi:TI) (g:TG) (tb:TS):TS:=λ D σ H=>wi σ H λ J H1=> ∃W:Nat->Nat->St->Hp->Prop,(∃m,W 0 m σ H1)/\∀i m σ H,W i m σ H->
 (J.stop i H/\D.nx σ H)\/(J.go i H/\∃N:St->Hp->Prop,(∀σ' H',N σ' H'->∃m',m'<m/\W (i+1) m' σ' H')/\∀x H',J.yld i H x H'->g x σ H' λ σ2 H2=>tb {D with nx:=N,ct:=N,bk:=D.nx} σ2 H2)
def gM (fp:List Addr) (h:Heap):List (Addr×Obj):=fp.filterMap λ b=>(h.get? b).map λ o=>(b,o)
theorem gn {fp:List Addr}{h:Heap}{b:Addr}{o:Obj}(hb:b∈fp) (e:h.get? b=some o):(b,o)∈gM fp h:=MU.mpr ⟨b,hb,by rw [e];rfl⟩
theorem lC {fp:List Addr}{h:Heap}{p:Addr×Obj}(hp:p∈gM fp h):p.1∈fp/\h.get? p.1=some p.2:=by
 obtain ⟨b,hb,e⟩:=MU.mp hp;cases q:h.get? b with
 | none=>rw [q] at e;cases e
 | some o=>
   rw [q] at e;have e':(b,o)=p:=Option.some.inj e;subst e';exact ⟨hb,q⟩
theorem aJ.pinned {pins:List (Addr×Obj)}{σ:St}{H:Hp}{s:Shared}{fp:List Addr}(I:aJ X pins σ H s) (hf:∀b∈fp,gH X pins H b) (ho:∀b∈fp,∃o,s.heap.get? b=some o/\∀v,o.data≠.cell v):aJ X (pins++gM fp s.heap) σ H s:=
 I.pins_of λ p hp=>(LK.mp hp).elim (λ z=>I.pin p (LS _ z)) λ z=>by obtain ⟨hb,e⟩:=lC z;obtain ⟨f0,f1,f2,_⟩:=hf p.1 hb;obtain ⟨o,e',d⟩:=ho p.1 hb;rw [e] at e';cases e';exact ⟨e,f0,f1,f2,d⟩
theorem aJ.unpinned {pins pl:List (Addr×Obj)}{σ:St}{H:Hp}{s:Shared}(I:aJ X (pins++pl) σ H s):aJ X pins σ H s:=I.pins_of λ p hp=>I.pin p (LS _ (MR _ hp))
theorem gL {iter:Expr}{body:List Stmt}{wi:TI}{g:TG}{tb:TS}{pos:Pos}(hp:PassesOwn (model X.prog X.w) X.A X.env X.xe) (hc:X.calm=true) (hi:PI X tg iter wi) (hg:PG X tg g) (hb:ro X body tb)
  (hs:∀x,foldedSetIterable iter X.env x=pure x:=by intro _;rfl):PS X (.For tg iter body [] pos) (tFor wi g tb):=by
 intro pins s σ H D I h;refine wpAny_For (bJ (hi pins s σ H _ I h) λ v s1 h1=>bJ h1 λ itv s2 h2=>?_) hs;obtain ⟨it,fp,tn,J,H2,e,I2,T,st2,f2,W,⟨m0,w0⟩,turn⟩:=h2;subst e;have stat:∀{H':Hp},(∀b∈fp,H' b=none)->∀b∈fp,gH X pins H' b:=λ hn b hb=>⟨hn b hb,(f2 b hb).2⟩;refine codeAny_forLoop_any (λ n s'=> ∃i σ' H',aJ X pins σ' H' s'/\tn i s'.heap/\(∀b∈fp,H' b=none)/\W i n σ' H') ?_ m0 ⟨0,σ,H2,I2,st2,λ b hb=>(f2 b hb).1,w0⟩;rintro n s3 ⟨i,σ3,H3,I3,st3,fr3,w3⟩
 rcases turn i n σ3 H3 w3 with ⟨stop,qn⟩ | ⟨go,N,hN,step⟩
 ·refine wpAny_passesOwn hp (bJ (T.done X rfl rfl rfl hc i pins s3 σ3 H3 X.xe I3 (stat fr3) st3 stop) λ r s4 ⟨hr,I4⟩=>?_);subst hr;exact wpAny_execs_nil ⟨σ3,H3,I4,qn⟩
 ·refine wpAny_passesOwn hp (bJ (T.item X rfl rfl rfl hc i pins s3 σ3 H3 X.xe I3 (stat fr3) st3 go) λ r s4 ⟨u,hr,h4⟩=>?_);subst hr;refine wpAny_passesOwn hp (bJ h4 λ _ s5 ⟨x,H5,I5,r5,y5,st5,fr5⟩=>?_);have I5':=I5.pinned (stat fr5) (T.obj _ _ st5);refine wpAny_passesOwn hp (bJ (hg _ s5 σ3 H5 x u _ I5' r5 (step x H5 y5)) λ _ s6 ⟨σ6,H6,I6,q6⟩=>?_);refine wpAny_passesOwn hp (bJ (hb _ s6 σ6 H6 _ I6 q6) λ f s7 q7=>?_);have again:∀{σ7:St} {H7:Hp},aJ X (pins++gM fp s5.heap) σ7 H7 s7->N σ7 H7->∃m,m<n/\∃i σ' H',aJ X pins σ' H' s7/\tn i s7.heap/\(∀b∈fp,H' b=none)/\W i m σ' H':=λ {σ7 H7} I7 n7=>by obtain ⟨m',hm,w7⟩:=hN σ7 H7 n7;refine ⟨m',hm,i+1,σ7,H7,I7.unpinned,T.keep _ _ _ st5 λ b hb o e=>(I7.pin (b,o) (LS _ (LS _ (gn hb e)))).1,λ b hb=>?_,w7⟩;obtain ⟨o,e,d⟩:=T.obj _ _ st5 b hb;exact (I7.pin (b,o) (LS _ (LS _ (gn hb e)))).2.1
  cases f with
  | next=>obtain ⟨σ7,H7,I7,n7⟩:=q7;exact again I7 n7
  | cont=>obtain ⟨σ7,H7,I7,n7⟩:=q7;exact again I7 n7
  | brk=>obtain ⟨σ7,H7,I7,q7⟩:=q7;exact ⟨σ7,H7,I7.unpinned,q7⟩
  | ret v=>obtain ⟨x7,σ7,H7,I7,r7,q7⟩:=q7;exact ⟨x7,σ7,H7,I7.unpinned,r7,q7⟩
end
theorem wL {K:Frag}{a:Addr}{xs:List V}{g:TG}{tb:TS}{D:cM}{σ:St}{H:Hp}(Pv:Nat->St->Hp->Prop) (h0:Pv 0 σ H) (hl:∀i σ H,i<=xs.length->Pv i σ H->aI K H a xs)
  (hs:∀i x σ H,xs[i]? =some x->Pv i σ H->g x σ H λ σ2 H2=>tb {D with nx:=Pv (i+1),ct:=Pv (i+1),bk:=D.nx} σ2 H2) (hd:∀σ H,Pv xs.length σ H->D.nx σ H):
  ∃W:Nat->Nat->St->Hp->Prop,(∃m,W 0 m σ H)/\∀i m σ H,W i m σ H->
   ((Fb K a).stop i H/\D.nx σ H)\/((Fb K a).go i H/\∃N:St->Hp->Prop,(∀σ' H',N σ' H'->∃m',m'<m/\W (i+1) m' σ' H')/\∀x H',(Fb K a).yld i H x H'->g x σ H' λ σ2 H2=>tb {D with nx:=N,ct:=N,bk:=D.nx} σ2 H2):=by
 refine ⟨λ i m σ H=>m=xs.length - i/\i<=xs.length/\Pv i σ H,⟨xs.length,by simp,M9 _,h0⟩,?_⟩;rintro i m σ H ⟨rfl,hi,p⟩;have q:=hl i σ H hi p
 by_cases hlt:i<xs.length
 ·refine .inr ⟨⟨xs,xs[i],q,by simp [hlt]⟩,Pv (i+1),λ σ' H' p'=>⟨xs.length - (i+1),by omega,rfl,hlt,p'⟩,λ x H' y=>?_⟩;obtain ⟨e,y⟩:=y;subst e;exact hs i x σ _ (y xs q) p
 ·have e:i=xs.length:=by omega
  subst e;exact .inl ⟨⟨xs,q,M6 _⟩,hd σ H p⟩
theorem yN {K:Frag}{a:Addr}{xs:List V}{g:TG}{tb:TS}{D:cM}{σ:St}{H:Hp}(Pv:Nat->St->Hp->Prop) (h0:Pv 0 σ H) (hl:∀i σ H,i<=xs.length->Pv i σ H->cg K H a xs)
  (hs:∀i x σ H,xs[i]? =some x->Pv i σ H->g x σ H λ σ2 H2=>tb {D with nx:=Pv (i+1),ct:=Pv (i+1),bk:=D.nx} σ2 H2) (hd:∀σ H,Pv xs.length σ H->D.nx σ H):
  ∃W:Nat->Nat->St->Hp->Prop,(∃m,W 0 m σ H)/\∀i m σ H,W i m σ H->
   ((JL K a).stop i H/\D.nx σ H)\/((JL K a).go i H/\∃N:St->Hp->Prop,(∀σ' H',N σ' H'->∃m',m'<m/\W (i+1) m' σ' H')/\∀x H',(JL K a).yld i H x H'->g x σ H' λ σ2 H2=>tb {D with nx:=N,ct:=N,bk:=D.nx} σ2 H2):=by
 refine ⟨λ i m σ H=>m=xs.length - i/\i<=xs.length/\Pv i σ H,⟨xs.length,by simp,M9 _,h0⟩,?_⟩;rintro i m σ H ⟨rfl,hi,p⟩;have q:=hl i σ H hi p
 by_cases hlt:i<xs.length
 ·refine .inr ⟨⟨xs,xs[i],q,by simp [hlt]⟩,Pv (i+1),λ σ' H' p'=>⟨xs.length - (i+1),by omega,rfl,hlt,p'⟩,λ x H' y=>?_⟩;obtain ⟨e,y⟩:=y;subst e;exact hs i x σ _ (y xs q) p
 ·have e:i=xs.length:=by omega
  subst e;exact .inl ⟨⟨xs,q,M6 _⟩,hd σ H p⟩
theorem lM {lo:Int}{n:Nat}{g:TG}{tb:TS}{D:cM}{σ:St}{H:Hp}(Pv:Nat->St->Hp->Prop) (h0:Pv 0 σ H)
  (hs:∀i σ H,i<n->Pv i σ H->g (.int (lo+i)) σ H λ σ2 H2=>tb {D with nx:=Pv (i+1),ct:=Pv (i+1),bk:=D.nx} σ2 H2) (hd:∀σ H,Pv n σ H->D.nx σ H):
  ∃W:Nat->Nat->St->Hp->Prop,(∃m,W 0 m σ H)/\∀i m σ H,W i m σ H->
   ((Fa lo n).stop i H/\D.nx σ H)\/((Fa lo n).go i H/\∃N:St->Hp->Prop,(∀σ' H',N σ' H'->∃m',m'<m/\W (i+1) m' σ' H')/\∀x H',(Fa lo n).yld i H x H'->g x σ H' λ σ2 H2=>tb {D with nx:=N,ct:=N,bk:=D.nx} σ2 H2):=by
 refine ⟨λ i m σ H=>m=n - i/\i<=n/\Pv i σ H,⟨n,by simp,M9 _,h0⟩,?_⟩;rintro i m σ H ⟨rfl,hi,p⟩
 by_cases hlt:i<n
 ·refine .inr ⟨hlt,Pv (i+1),λ σ' H' p'=>⟨n - (i+1),by omega,rfl,hlt,p'⟩,λ x H' y=>?_⟩;obtain ⟨e,y⟩:=y;subst e y;exact hs i σ _ hlt p
 ·have e:i=n:=by omega
  subst e;exact .inl ⟨M6 _,hd σ H p⟩
end L2
namespace L2
open PySem PySem.Spec PyProof.Rows
abbrev R2:=V->V->Hp->VK->Prop
def ik (X:Cx) (f:Value->Value->Sem Value) (r:R2):Prop:=
 ∀(pins:List (Addr×Obj)) (s:Shared) (σ:St) (H:Hp) (x y:V) (v u:Value) (Q:VK),aJ X pins σ H s->aN x v->aN y u->r x y H Q->
  wpAny (model X.prog X.w) X.A (f v u) (EP X pins σ Q) X.xe s
def Lo (X:Cx) (f:Value->Sem Value) (r:V->Hp->VK->Prop):Prop:=
 ∀(pins:List (Addr×Obj)) (s:Shared) (σ:St) (H:Hp) (x:V) (v:Value) (Q:VK),aJ X pins σ H s->aN x v->r x H Q->
  wpAny (model X.prog X.w) X.A (f v) (EP X pins σ Q) X.xe s
def bn (X:Cx) (f:Value) (r:List V->Hp->VK->Prop):Prop:=
 ∀(pins:List (Addr×Obj)) (s:Shared) (σ:St) (H:Hp) (xs:List V) (us:List Value) (Q:VK),aJ X pins σ H s->aV xs us->r xs H Q->
  wpAny (model X.prog X.w) X.A (call f us) (EP X pins σ Q) X.xe s
def KM (r:R2) (ta tb:TE):TE:=λ σ H Q=>ta σ H λ x H1=>tb σ H1 λ y H2=>r x y H2 Q
def rI (C:Int->Int->Prop) (g:Int->Int->V):R2:=λ x y H Q=> ∃i j,x=.int i/\y=.int j/\C i j/\Q (g i j) H
def C5 (g:Int->Int->V):R2:=λ x y H Q=> ∃i j,x=.int i/\y=.int j/\Q (g i j) H
def rU (g:Int->V):V->Hp->VK->Prop:=λ x H Q=> ∃i,x=.int i/\Q (g i) H
section
variable {X:Cx}{a b c:Expr}{ta tb tc:TE}{pos:Pos}
theorem EL (ha:PE X a ta) (hb:PE X b tb) {pins:List (Addr×Obj)}{s:Shared}{σ:St}{H:Hp}{R:V->V->Hp->Prop}(I:aJ X pins σ H s)
  (h:ta σ H λ x H1=>tb σ H1 λ y H2=>R x y H2) {Q:Value->Shared->Prop} {f:Value->Value->Sem Value}
  (hf:∀v u s2 x y H2,aJ X pins σ H2 s2->aN x v->aN y u->R x y H2->wpAny (model X.prog X.w) X.A (f v u) Q X.xe s2):
  wpAny (model X.prog X.w) X.A (eval a X.env) (λ v s₁=>wpAny (model X.prog X.w) X.A (eval b X.env) (λ u s₂=>wpAny (model X.prog X.w) X.A (f v u) Q X.xe s₂) X.xe s₁) X.xe s:=by
 refine bJ (ha pins s σ H _ I h) λ v s1 ⟨x,H1,I1,r1,q1⟩=>?_;refine bJ (hb pins s1 σ H1 _ I1 q1) λ u s2 ⟨y,H2,I2,r2,q2⟩=>?_;exact hf v u s2 x y H2 I2 r1 r2 q2
theorem IN {op:Operator}{r:R2}(ho:ik X (binaryOp op) r) (ha:PE X a ta) (hb:PE X b tb):PE X (.BinOp a op b pos) (KM r ta tb):=by intro pins s σ H Q I h;exact wpAny_BinOp (EL ha hb I h λ v u s2 x y H2 I2 rx ry q=>ho pins s2 σ H2 x y v u Q I2 rx ry q)
theorem JQ {f:Value->Value->Sem Value}{C:Int->Int->Prop}{g:Int->Int->Int}
  (rule:∀(i j:Int) (t u:Tok) (s:Shared) (Q:Value->Shared->Prop) (E:Value->Shared->Prop),C i j->Q (.int (g i j) s.toks) {s with toks:=s.toks+1}->wpAny (model X.prog X.w) X.A (f (.int i t) (.int j u)) Q E s):
  ik X f (rI C λ i j=>.int (g i j)):=by
 intro pins s σ H x y v u Q I rx ry h;obtain ⟨i,j,rfl,rfl,hc,q⟩:=h;obtain ⟨t,rfl⟩:=rx;obtain ⟨t',rfl⟩:=ry;exact rule i j t t' s _ _ hc ⟨.int (g i j),H,I.tok _,⟨_,rfl⟩,q⟩
theorem IW {f:Value->Value->Sem Value}{g:Int->Int->Int}
  (rule:∀(i j:Int) (t u:Tok) (s:Shared) (Q:Value->Shared->Prop) (E:Value->Shared->Prop),Q (.int (g i j) s.toks) {s with toks:=s.toks+1}->wpAny (model X.prog X.w) X.A (f (.int i t) (.int j u)) Q E s):
  ik X f (C5 λ i j=>.int (g i j)):=by
 intro pins s σ H x y v u Q I rx ry h;obtain ⟨i,j,rfl,rfl,q⟩:=h;obtain ⟨t,rfl⟩:=rx;obtain ⟨t',rfl⟩:=ry;exact rule i j t t' s _ _ ⟨.int (g i j),H,I.tok _,⟨_,rfl⟩,q⟩
theorem yd {f:Value->Value->Sem Value}{g:Int->Int->Bool}
  (rule:∀(i j:Int) (t u:Tok) (s:Shared) (Q:Value->Shared->Prop) (E:Value->Shared->Prop),Q (.bool (g i j)) s->wpAny (model X.prog X.w) X.A (f (.int i t) (.int j u)) Q E s):
  ik X f (C5 λ i j=>.bl (g i j)):=by
 intro pins s σ H x y v u Q I rx ry h;obtain ⟨i,j,rfl,rfl,q⟩:=h;obtain ⟨t,rfl⟩:=rx;obtain ⟨t',rfl⟩:=ry;exact rule i j t t' s _ _ ⟨.bl (g i j),H,I,rfl,q⟩
def y9 (i j:Int):Prop:=0<j/\j<1073741824
def EW (i j:Int):Prop:=0<=j/\j<=1000000/\i.natAbs<2 ^ 64
def uV (i j:Int):Prop:=(-(2 ^ 64)<i/\i<2 ^ 64)\/(-(2 ^ 64)<j/\j<2 ^ 64)
theorem uV.ok {i j:Int}(h:uV i j):IntMulOk i j:=by
 rcases h with ⟨h1,h2⟩ | ⟨h1,h2⟩
 ·exact .of_left (intBits_le_64 h1 h2)
 ·exact .of_right (intBits_le_64 h1 h2)
theorem D7:ik X (binaryOp .Add) (C5 λ i j=>.int (i+j)):=IW λ _ _ _ _ _ _ _ q=>add_int q
theorem DW:ik X (binaryOp .Sub) (C5 λ i j=>.int (i - j)):=IW λ _ _ _ _ _ _ _ q=>sub_int q
theorem DZ:ik X (binaryOp .Mult) (rI uV λ i j=>.int (i*j)):=JQ λ _ _ _ _ _ _ _ hc q=>mul_int q hc.ok
theorem yb:ik X (binaryOp .FloorDiv) (rI y9 λ i j=>.int (i / j)):=JQ λ i j _ _ _ _ _ hc q=>by have h1:(0:Int)<j:=hc.1;have h2:j<1073741824:=hc.2;exact floordiv_int (by omega) (by rw [Int.fdiv_eq_ediv_of_nonneg i (by omega)];exact q) (.inl (PyProof.noPylong_small (by omega)))
theorem D0:ik X (binaryOp .Mod) (rI (λ _ j=>0<j) λ i j=>.int (i % j)):=JQ λ i j _ _ _ _ _ hc q=>by have h1:(0:Int)<j:=hc;exact mod_int' (by omega) (by rw [Int.fmod_eq_emod_of_nonneg i (by omega)];exact q)
theorem DX:ik X (binaryOp .Pow) (rI EW λ i j=>.int (i ^ j.toNat)):=JQ λ _ _ _ _ _ _ _ hc q=>pow_int_small hc.1 hc.2.1 hc.2.2 q
theorem unI {f:Value->Sem Value}{g:Int->Int}
  (rule:∀(i:Int) (t:Tok) (s:Shared) (Q:Value->Shared->Prop) (E:Value->Shared->Prop),Q (.int (g i) s.toks) {s with toks:=s.toks+1}->wpAny (model X.prog X.w) X.A (f (.int i t)) Q E s):
  Lo X f (rU λ i=>.int (g i)):=by
 intro pins s σ H x v Q I rx h;obtain ⟨i,rfl,q⟩:=h;obtain ⟨t,rfl⟩:=rx;exact rule i t s _ _ ⟨.int (g i),H,I.tok _,⟨_,rfl⟩,q⟩
theorem Ds:Lo X (unaryOp .USub) (rU λ i=>.int (-i)):=unI λ _ _ _ _ _ q=>neg_int q
end
def scal:V->V->Bool
 | .non,.non=>true | .non,.int _=>true | .int _,.non=>true | .non,.bl _=>true | .bl _,.non=>true | .non,.str _=>true | .str _,.non=>true
 | .int _,.int _=>true | .bl _,.bl _=>true | .str _,.str _=>true | .byt _,.byt _=>true
 | .int _,.str _=>true | .str _,.int _=>true | .bl _,.str _=>true | .str _,.bl _=>true
 | _,_=>false
def rEq:R2:=λ x y H Q=>scal x y=true/\Q (.bl (decide (x=y))) H
def rNe:R2:=λ x y H Q=>scal x y=true/\Q (.bl (!decide (x=y))) H
theorem sP {i j:Int}:decide (V.int i=V.int j)=(i == j):=by rw [Nv];simp
theorem dec_bl {i j:Bool}:decide (V.bl i=V.bl j)=(i == j):=by rw [Nv];simp
theorem sO {i j:Str}:decide (V.str i=V.str j)=(i == j):=by rw [Nv];simp
theorem sQ {i j:Array UInt8}:decide (V.byt i=V.byt j)=(i.toList == j.toList):=by rw [Nv];cases i;cases j;simp
section
variable {X:Cx}{a b c:Expr}{ta tb tc:TE}{pos:Pos}
theorem fin_bl {pins:List (Addr×Obj)}{σ:St}{H:Hp}{s:Shared}{Q:VK}{k k':Bool}(I:aJ X pins σ H s) (q:Q (.bl k) H) (e:k=k'):EP X pins σ Q (.bool k') s:=by subst e;exact ⟨.bl k,H,I,rfl,q⟩
theorem IV:ik X (compareOp .Eq) rEq:=by
 intro pins s σ H x y v u Q I rx ry h;obtain ⟨hs,q⟩:=h;cases x with
 | non=>
   cases rx;cases y with
   | non=>cases ry;exact PySem.EqNone.eq_none_none (fin_bl I q (by simp))
   | bl j=>cases ry;exact PySem.EqNone.eq_none_bool (fin_bl I q (by simp))
   | int j=>obtain ⟨t',rfl⟩:=ry;exact PySem.EqNone.eq_none_int (fin_bl I q (by simp))
   | str j=>obtain ⟨t',rfl⟩:=ry;exact PySem.EqNone.eq_none_str (fin_bl I q (by simp))
   | _=>exact absurd (show false=true from hs) Nt
 | bl i=>
   cases rx;cases y with
   | non=>cases ry;exact PySem.EqNone.eq_bool_none (fin_bl I q (by simp))
   | bl j=>cases ry;exact eq_bool (fin_bl I q dec_bl)
   | str j=>obtain ⟨t',rfl⟩:=ry;exact PySem.EqMixed.eq_bool_str (fin_bl I q (by simp))
   | _=>exact absurd (show false=true from hs) Nt
 | int i=>
   obtain ⟨t,rfl⟩:=rx;cases y with
   | non=>cases ry;exact PySem.EqNone.eq_int_none (fin_bl I q (by simp))
   | int j=>obtain ⟨t',rfl⟩:=ry;exact eq_int (fin_bl I q sP)
   | str j=>obtain ⟨t',rfl⟩:=ry;exact PySem.EqMixed.eq_int_str (fin_bl I q (by simp))
   | _=>exact absurd (show false=true from hs) Nt
 | str i=>
   obtain ⟨t,rfl⟩:=rx;cases y with
   | non=>cases ry;exact PySem.EqNone.eq_str_none (fin_bl I q (by simp))
   | bl j=>cases ry;exact PySem.EqMixed.eq_str_bool (fin_bl I q (by simp))
   | int j=>obtain ⟨t',rfl⟩:=ry;exact PySem.EqMixed.eq_str_int (fin_bl I q (by simp))
   | str j=>obtain ⟨t',rfl⟩:=ry;exact eq_str (fin_bl I q sO)
   | _=>exact absurd (show false=true from hs) Nt
 | byt i=>
   obtain ⟨t,rfl⟩:=rx;cases y with
   | byt j=>obtain ⟨t',rfl⟩:=ry;exact PySem.W.eq_bytes (fin_bl I q sQ)
   | _=>exact absurd (show false=true from hs) Nt
 | _=>cases y<;>exact absurd (show false=true from hs) Nt
theorem IQ:ik X (compareOp .NotEq) rNe:=by
 intro pins s σ H x y v u Q I rx ry h;obtain ⟨hs,q⟩:=h;cases x with
 | non=>
   cases rx;cases y with
   | non=>cases ry;exact PySem.EqNone.ne_none_none (fin_bl I q (by simp))
   | bl j=>cases ry;exact PySem.EqNone.ne_none_bool (fin_bl I q (by simp))
   | int j=>obtain ⟨t',rfl⟩:=ry;exact PySem.EqNone.ne_none_int (fin_bl I q (by simp))
   | str j=>obtain ⟨t',rfl⟩:=ry;exact PySem.EqNone.ne_none_str (fin_bl I q (by simp))
   | _=>exact absurd (show false=true from hs) Nt
 | bl i=>
   cases rx;cases y with
   | non=>cases ry;exact PySem.EqNone.ne_bool_none (fin_bl I q (by simp))
   | bl j=>cases ry;exact ne_bool (fin_bl I q (congrArg not dec_bl))
   | str j=>obtain ⟨t',rfl⟩:=ry;exact PySem.EqMixed.ne_bool_str (fin_bl I q (by simp))
   | _=>exact absurd (show false=true from hs) Nt
 | int i=>
   obtain ⟨t,rfl⟩:=rx;cases y with
   | non=>cases ry;exact PySem.EqNone.ne_int_none (fin_bl I q (by simp))
   | int j=>obtain ⟨t',rfl⟩:=ry;exact ne_int (fin_bl I q (congrArg not sP))
   | str j=>obtain ⟨t',rfl⟩:=ry;exact PySem.EqMixed.ne_int_str (fin_bl I q (by simp))
   | _=>exact absurd (show false=true from hs) Nt
 | str i=>
   obtain ⟨t,rfl⟩:=rx;cases y with
   | non=>cases ry;exact PySem.EqNone.ne_str_none (fin_bl I q (by simp))
   | bl j=>cases ry;exact PySem.EqMixed.ne_str_bool (fin_bl I q (by simp))
   | int j=>obtain ⟨t',rfl⟩:=ry;exact PySem.EqMixed.ne_str_int (fin_bl I q (by simp))
   | str j=>obtain ⟨t',rfl⟩:=ry;exact ne_str (fin_bl I q (congrArg not sO))
   | _=>exact absurd (show false=true from hs) Nt
 | byt i=>
   obtain ⟨t,rfl⟩:=rx;cases y with
   | byt j=>obtain ⟨t',rfl⟩:=ry;exact PySem.W.ne_bytes (fin_bl I q (congrArg not sQ))
   | _=>exact absurd (show false=true from hs) Nt
 | _=>cases y<;>exact absurd (show false=true from hs) Nt
theorem IR:ik X (compareOp .Lt) (C5 λ i j=>.bl (decide (i<j))):=yd λ _ _ _ _ _ _ _ q=>lt_int q
theorem IS:ik X (compareOp .LtE) (C5 λ i j=>.bl (decide (i<=j))):=yd λ _ _ _ _ _ _ _ q=>le_int q
theorem IT:ik X (compareOp .Gt) (C5 λ i j=>.bl (decide (j<i))):=yd λ _ _ _ _ _ _ _ q=>gt_int q
theorem IU:ik X (compareOp .GtE) (C5 λ i j=>.bl (decide (j<=i))):=yd λ _ _ _ _ _ _ _ q=>ge_int q
theorem tY:ik X (compareOp .Lt) (λ x y H Q=> ∃i j,x=.str i/\y=.str j/\Q (.bl (decide (i.cps.toList<j.cps.toList))) H):=by intro pins s σ H x y v u Q I rx ry h;obtain ⟨i,j,rfl,rfl,q⟩:=h;obtain ⟨t,rfl⟩:=rx;obtain ⟨t',rfl⟩:=ry;exact lt_str (fin_bl I q rfl)
theorem ua:ik X (compareOp .In) (λ x y H Q=> ∃i j,x=.str i/\y=.str j/\Q (.bl (!(Builtin.Str.occurrences j i 0 j.length 1).isEmpty)) H):=by intro pins s σ H x y v u Q I rx ry h;obtain ⟨i,j,rfl,rfl,q⟩:=h;obtain ⟨t,rfl⟩:=rx;obtain ⟨t',rfl⟩:=ry;exact in_str (fin_bl I q rfl)
theorem D3:ik X (compareOp .Is) (λ x y H Q=>y=.non/\Q (.bl (decide (x=.non))) H):=by
 intro pins s σ H x y v u Q I rx ry h;obtain ⟨rfl,q⟩:=h;cases ry;refine is_none_gen (fin_bl I q ?_);cases x<;>first
  | (cases rx;rfl)
  | (obtain ⟨t,rfl⟩:=rx;rfl)
theorem ya:ik X (compareOp .IsNot) (λ x y H Q=>y=.non/\Q (.bl (!decide (x=.non))) H):=by
 intro pins s σ H x y v u Q I rx ry h;obtain ⟨rfl,q⟩:=h;cases ry;refine isnot_none_gen (fin_bl I q ?_);cases x<;>first
  | (cases rx;rfl)
  | (obtain ⟨t,rfl⟩:=rx;rfl)
theorem mK:ik X (compareOp .NotIn) (λ x y H Q=> ∃i j,x=.str i/\y=.str j/\Q (.bl (!(!(Builtin.Str.occurrences j i 0 j.length 1).isEmpty))) H):=by intro pins s σ H x y v u Q I rx ry h;obtain ⟨i,j,rfl,rfl,q⟩:=h;obtain ⟨t,rfl⟩:=rx;obtain ⟨t',rfl⟩:=ry;exact notIn_str (fin_bl I q rfl)
theorem m7 (b:Expr) {op:CmpOp}(h:op≠.In:=by decide) (h2:op≠.NotIn:=by decide):behindInMarks op b=false:=by
 have e1:(op == CmpOp.In)=false:=by cases op<;>first | rfl | exact absurd rfl h
 have e2:(op == CmpOp.NotIn)=false:=by cases op<;>first | rfl | exact absurd rfl h2
 cases b<;>simp [behindInMarks,e1,e2]
theorem x6 {op:CmpOp}{r:R2}(ho:ik X (compareOp op) r) (ha:PE X a ta) (hb:PE X b tb) (hm:behindInMarks op b=false):PE X (.Compare a [op] [b] pos) (KM r ta tb):=by intro pins s σ H Q I h;exact wpAny_Compare1 (EL ha hb I h λ v u s2 x y H2 I2 rx ry q=>ho pins s2 σ H2 x y v u Q I2 rx ry q) hm
theorem ke:(sizeLine:Nat)<2 ^ 63:=by rw [sizeLine_eq];decide
theorem qy:ik X (binaryOp .Add) (λ x y H Q=> ∃i j,x=.str i/\y=.str j/\i.length+j.length<=sizeLine/\Q (.str (i++j)) H):=by intro pins s σ H x y v u Q I rx ry h;obtain ⟨i,j,rfl,rfl,hz,q⟩:=h;obtain ⟨t,rfl⟩:=rx;obtain ⟨t',rfl⟩:=ry;exact add_str (λ t' tk=>⟨.str (i++j),H,I.tok _,⟨_,rfl⟩,q⟩) hz
theorem cN {x:V}{us:List Value}(r:aV [x] us):∃u,us=[u]/\aN x u:=by
 cases r with
 | cons r1 r2=>cases r2;exact ⟨_,rfl,r1⟩
theorem u6 {x y:V}{us:List Value}(r:aV [x,y] us):∃u w',us=[u,w']/\aN x u/\aN y w':=by
 cases r with
 | cons r1 r2=>
   cases r2 with
   | cons r3 r4=>cases r4;exact ⟨_,_,rfl,r1,r3⟩
theorem uH (hc:X.calm=true):bn X (.builtin "min") (λ xs H Q=> ∃i j,xs=[.int i,.int j]/\Q (.int (if j<i then j else i)) H):=by
 intro pins s σ H xs us Q I r h;obtain ⟨i,j,rfl,q⟩:=h;obtain ⟨u,w',rfl,⟨t,rfl⟩,⟨t',rfl⟩⟩:=u6 r;refine min_two_ints (I.ok.hd hc) λ h' tk k=>⟨_,H,I.kept k,?_,q⟩
 by_cases hj:j<i
 ·rw [if_pos hj,if_pos hj];exact ⟨_,rfl⟩
 ·rw [if_neg hj,if_neg hj];exact ⟨_,rfl⟩
theorem uK:bn X (.type "int") (λ xs H Q=>(∃i,xs=[.int i]/\Q (.int i) H)\/∃k,xs=[.bl k]/\Q (.int (if k then 1 else 0)) H):=by
 intro pins s σ H xs us Q I r h
 rcases h with ⟨i,rfl,q⟩ | ⟨k,rfl,q⟩
 ·obtain ⟨u,rfl,t,rfl⟩:=cN r;exact call_int_int ⟨.int i,H,I,⟨_,rfl⟩,q⟩
 ·obtain ⟨u,rfl,r1⟩:=cN r;cases r1;exact call_int_bool ⟨.int (if k then 1 else 0),H,I.tok _,⟨_,rfl⟩,q⟩
theorem nz:bn X (.type "str") (λ xs H Q=> ∃i,xs=[.int i]/\i.natAbs.log2<1920/\Q (.str (toString i)) H):=by intro pins s σ H xs us Q I r h;obtain ⟨i,rfl,hz,q⟩:=h;obtain ⟨u,rfl,t,rfl⟩:=cN r;exact PySem.P.str_of_int hz ⟨.str _,H,I.tok _,⟨_,rfl⟩,q⟩
end
end L2
namespace L2
open PySem PySem.Spec PyProof.Rows
structure uQ (h:Heap) (x dx C:Addr) (mA:Str->Option Value):Prop where
 obj:h.get? x=some (NX C dx)
 ns:h.Ns1 dx mA
 ne:dx≠x
theorem uf {h:Heap}{dx:Addr}{mA:Str->Option Value}(n:h.Ns1 dx mA):∃od,h.get? dx=some od/\∀name,Oa name od=some (mA name):=by
 obtain ⟨o,es,ep,ho,hd,hk,_,hm⟩:=n;refine ⟨o,ho,λ name=>?_⟩;have e:=hm name;unfold nsFind findBy at e;rw [<-Array.find?_toList] at e;unfold Oa;rw [hd];dsimp only;split
 ·rename_i y q;rw [q] at e;exact congrArg some e
 ·rename_i q;rw [q] at e;have a:es.toList.any (·.refKey)=false:=by rw [Mt];intro y hy;obtain ⟨z,t,hkey⟩:=hk y (NK.mp hy);simp [DictEntry.refKey,hkey]
  have a':¬es.toList.any (·.refKey)=true:=by rw [a];exact Nt
  rw [if_neg a'];exact congrArg some e
theorem uQ.look {h:Heap}{x dx C:Addr}{mA:Str->Option Value}(I:uQ h x dx C mA):∃od,PySem.W.InstAt h x (NX C dx) C (some od)/\∀name,Oa name od=some (mA name):=
 let ⟨od,ho,hl⟩:=uf I.ns
 ⟨od,⟨I.obj,rfl,rfl,ho⟩,hl⟩
section
variable {prog:Program}{w:World}{A:Around}{E:Value->Shared->Prop}{s:Shared}{K:Frag}{x dx C f:Addr}{mA:Str->Option Value}{name:Str}{v:Value}
theorem yG {expr:Bool}{Q:Value->Shared->Prop}(X:K.In s.heap) (I:uQ s.heap x dx C mA) (hg:N0 K C name=true) (hh:N1 K C=true)
  (ha:NQ K (.ref C) name=some none) (hv:mA name=some v) (hv':Od v=true) (h:Q v {s with toks:=s.toks+1}):
  wpAny (model prog w) A (getAttr (.ref x) name expr) Q E s:=by
 obtain ⟨od,J,hl⟩:=I.look;exact PySem.W.get_value X J (PySem.W.plainGet_of hg).1 (PySem.W.findObj_own hh ha rfl (by rw [hl,hv])) hv' h
theorem xP {ns:List Str}{Q:Unit->Shared->Prop}(X:K.In s.heap) (I:uQ s.heap x dx C mA)
  (hs:NQ K (.ref C) "__setattr__"=some (some (.builtin "object.__setattr__"))) (hp:N2 K C=true) (ht:Ob K C name=some none) (hh:N1 K C=true)
  (hw:PySem.Within mA ns) (hsz:ns.length<=sizeLine)
  (h:∀h',uQ h' x dx C (λ y=>if y=name then some v else mA y)->Heap.SameBut dx s.heap h'->Q () {s with heap:=h',toks:=s.toks+2}):
  wpAny (model prog w) A (setAttr (.ref x) name v) Q E s:=by
 obtain ⟨od,J,hl⟩:=I.look;refine PySem.W.set_plain X J hs (PySem.W.osa_open (s:={s with toks:=s.toks+1}) (r:=none) X J hp ht λ b=>?_);obtain ⟨cd,hc,hd'⟩:=PySem.W.any_some hh;have hx:s.heap.get? x=some ⟨.ref C,some dx,.plain,#[]⟩:=I.obj;refine wpAny_bind (wpAny_pure (wpAny_bind (wpAny_bind (wpAny_loadPart hx (wpAny_bind (PySem.W.Looks.here (s:={s with toks:=s.toks+1}) (PySem.W.looks_clsIn X hc) ?_))))));rw [hd'];refine wpAny_pure (a:=some dx) (wpAny_bind (wpAny_pure (wpAny_bind ?_)));refine wpAny_nsSet1 (s:={s with toks:=s.toks+1}) I.ns λ h' hn2 hs2=>?_;obtain ⟨oD,esD,epD,hoD,hdD,hcD⟩:=hn2.count (PySem.Within.cons name v hw);refine wpAny_bind (wpAny_lookBehind hoD (by rw [hdD];exact pastItsLine_dict (M7 hcD (by rw [LG];omega))) ?_);exact wpAny_pure (h _ ⟨(hs2.2 _ (Ne.symm I.ne)).trans I.obj,hn2,I.ne⟩ hs2)
theorem wb {R:Result->Shared->Prop}{vs:List Value}{kw:List (Str×Value)}(X:K.In s.heap) (hm:N3 K C=true)
  (hi:NQ K (.ref C) "__init__"=some (some (.ref f))) (hf:PySem.W.typeIn K (.ref f)=some (.type "function"))
  (h:codeAny (model prog w) (A.under (.builtin "type.__call__" ⟨.ref C::vs,kw⟩)) (.call (.ref f) ⟨.ref (s.heap.objs.size+1)::vs,kw⟩) (PySem.W.InitBack (s.heap.objs.size+1) R)
   {s with heap:=(s.heap.push NV).push (NX C s.heap.objs.size)}):
  codeAny (model prog w) A (.call (.ref C) ⟨vs,kw⟩) R s:=by
 obtain ⟨hh,g,d,t,os⟩:=s;exact PySem.W.make_core (PySem.W.makes_of X hm) (PySem.W.looks_findIn X hi) (λ self=>PySem.W.bind_fn X self hf) (.inl rfl) h
end
def putF (f:Str) (v:V):List (Str×V)->List (Str×V)
 | []=>[(f,v)]
 | (g,x)::r=>if g=f then (g,v)::r else (g,x)::putF f v r
theorem aw (f g:Str) (v:V):∀fs:List (Str×V),(putF f v fs).lookup g=if g=f then some v else fs.lookup g
 | []=>by
   show List.lookup g [(f,v)]=_
   by_cases h:g=f
   ·have hb:(g == f)=true:=beq_iff_eq.mpr h;simp only [List.lookup,hb,if_pos h]
   ·have hb:(g == f)=false:=beq_eq_false_iff_ne.mpr h;simp only [List.lookup,hb,if_neg h]
 | (k,x)::r=>by
   have ih:=aw f g v r;rw [show putF f v ((k,x)::r)=(if k=f then (k,v)::r else (k,x)::putF f v r) from rfl]
   by_cases hk:k=f
   ·rw [if_pos hk]
    by_cases h:g=k
    ·have hb:(g == k)=true:=beq_iff_eq.mpr h;simp only [List.lookup,hb,if_pos (h.trans hk)]
    ·have hb:(g == k)=false:=beq_eq_false_iff_ne.mpr h;simp only [List.lookup,hb,if_neg (λ e:g=f=>h (e.trans hk.symm))]
   ·rw [if_neg hk]
    by_cases h:g=k
    ·have hb:(g == k)=true:=beq_iff_eq.mpr h;simp only [List.lookup,hb,if_neg (λ e:g=f=>hk (h.symm.trans e))]
    ·have hb:(g == k)=false:=beq_eq_false_iff_ne.mpr h;simp only [List.lookup,hb];exact ih
theorem jg (f:Str) (v:V):∀fs:List (Str×V),f∈(putF f v fs).map (·.1)/\∀g,g∈fs.map (·.1)->g∈(putF f v fs).map (·.1)
 | []=>⟨by simp [putF],λ g h=>by simp at h⟩
 | (k,x)::r=>by
   obtain ⟨i1,i2⟩:=jg f v r;rw [show putF f v ((k,x)::r)=(if k=f then (k,v)::r else (k,x)::putF f v r) from rfl]
   by_cases hk:k=f
   ·rw [if_pos hk];subst hk;exact ⟨by simp,λ g h=>by simpa using h⟩
   ·rw [if_neg hk];refine ⟨?_,λ g h=>?_⟩
    ·rw [LL];exact LJ _ i1
    ·rw [LL] at h ⊢
     rcases Lw.mp h with e | e
     ·exact Lw.mpr (.inl e)
     ·exact LJ _ (i2 g e)
theorem bL (f:Str) (v:V):∀fs:List (Str×V),(putF f v fs).length<=fs.length+1
 | []=>by simp [putF]
 | (k,x)::r=>by
   have ih:=bL f v r;rw [show putF f v ((k,x)::r)=(if k=f then (k,v)::r else (k,x)::putF f v r) from rfl]
   by_cases hk:k=f
   ·rw [if_pos hk,LG,LG];omega
   ·rw [if_neg hk,LG,LG];omega
theorem hV.some_of {v:V}{o:Option Value}(r:hV (some v) o):∃u,o=some u/\aN v u:=by
 cases o with
 | none=>exact (show False from r).elim
 | some u=>exact ⟨u,rfl,r⟩
theorem uu {v:V}{u:Value}(r:aN v u):Od u=true:=by
 cases v with
 | non=>cases (show u=Value.none from r);rfl
 | bl b=>cases (show u=Value.bool b from r);rfl
 | int i=>obtain ⟨t,e⟩:=(show∃t,u=Value.int i t from r);cases e;rfl
 | str x=>obtain ⟨t,e⟩:=(show∃t,u=Value.str x t from r);cases e;rfl
 | byt b=>obtain ⟨t,e⟩:=(show∃t,u=Value.bytes b t from r);cases e;rfl
 | flt b=>obtain ⟨t,e⟩:=(show∃t,u=Value.float b t from r);cases e;rfl
 | ref a=>cases (show u=Value.ref a from r);rfl
 | ty n=>cases (show u=Value.type n from r);rfl
section
variable {P:Program}{w:World}{H H':Hp}{h h':Heap}{a C dx:Addr}{fs fs':List (Str×V)}
theorem ng (hok:iC P w H h) (e:H a=some (.ins C dx fs)):∃mA,uQ h a dx C mA/\(∀f,hV (fs.lookup f) (mA f))/\PySem.Within mA (fs.map (·.1))/\fs.length<=1000/\H dx=some (.own a):=by obtain ⟨d,z,ne,ob,mA,n,r,q⟩:=(show bB P w H h a (.ins C dx fs) from hok a _ e);exact ⟨mA,⟨ob,n,ne⟩,r,q,z,d⟩
end
structure rA (K:Frag) (C:Addr):Prop where
 pg:N0 K C Str.empty=true
 hd:N1 K C=true
 po:N2 K C=true
 sa:NQ K (.ref C) "__setattr__"=some (some (.builtin "object.__setattr__"))
theorem rA.get {K:Frag}{C:Addr}(c:rA K C) (f:Str):N0 K C f=true:=c.pg
def ce (K:Frag) (C:Addr) (f:Str):Prop:=NQ K (.ref C) f=some none
theorem ce.taker {K:Frag}{C:Addr}{f:Str}(n:ce K C f):Ob K C f=some none:=by unfold Ob;rw [show NQ K (.ref C) f=some none from n];rfl
section
variable {X:Cx}{pins:List (Addr×Obj)}{σ:St}{H:Hp}{s:Shared}{a C dx:Addr}{fs:List (Str×V)}{f:Str}{v:V}{A:Around}{E:Value->Shared->Prop}
theorem qQ {b:Bool}{Q:Value->Shared->Prop}(I:aJ X pins σ H s) (e:H a=some (.ins C dx fs)) (c:rA X.K C) (n:ce X.K C f) (l:fs.lookup f=some v)
  (h:∀u s',aJ X pins σ H s'->aN v u->Q u s'):wpAny (model X.prog X.w) A (getAttr (.ref a) f b) Q E s:=by
 obtain ⟨mA,O,r,_,_,_⟩:=ng I.hok e;obtain ⟨u,hu,ru⟩:=hV.some_of (v:=v) (o:=mA f) (by rw [<-l];exact r f);exact yG I.kIn O (c.get f) c.hd n hu (uu ru) (h u _ (I.tok _) ru)
theorem qk {y:V}{u:Value}{Q:Unit->Shared->Prop}(I:aJ X pins σ H s) (e:H a=some (.ins C dx fs)) (c:rA X.K C) (n:ce X.K C f) (hl:fs.length<1000) (ry:aN y u)
  (h:∀s',aJ X pins σ (upd H a (.ins C dx (putF f y fs))) s'->Q () s'):wpAny (model X.prog X.w) A (setAttr (.ref a) f u) Q E s:=by
 obtain ⟨mA,O,r,wi,_,ho⟩:=ng I.hok e;have hz:(fs.map (·.1)).length<=sizeLine:=by rw [Lv,sizeLine_eq];omega
 refine xP I.kIn O c.sa c.po n.taker c.hd wi hz λ h' O' sb=>h _ ?_;have hd:∃o,h'.get? dx=some o:=let ⟨o,_,_,e',_⟩:=O'.ns;⟨o,e'⟩;refine I.write (x:=a) (e:=dx) (by rw [e];exact True.intro) (.inr ho) (λ b q hb z=>(sb.2 b hb).trans z) hd ?_;refine ⟨by rw [ah O.ne];exact ho,?_,O.ne,O'.obj,_,O'.ns,λ g=>?_,λ g hg=>?_⟩
 ·have:=bL f y fs;omega
 ·show hV ((putF f y fs).lookup g) (if g=f then some u else mA g);rw [aw]
  by_cases q:g=f
  ·rw [if_pos q,if_pos q];exact ry
  ·rw [if_neg q,if_neg q];exact r g
 ·by_cases q:g=f
  ·rw [q];exact (jg f y fs).1
  ·refine (jg f y fs).2 g (wi g λ z=>hg ?_);show (if g=f then some u else mA g)=none;rw [if_neg q];exact z
theorem aJ.made (I:aJ X pins σ H s):aJ X pins σ (upd (upd H s.heap.objs.size (.own (s.heap.objs.size+1))) (s.heap.objs.size+1) (.ins C s.heap.objs.size []))
  {s with heap:=(s.heap.push NV).push (NX C s.heap.objs.size)}:=by
 have e1:(s.heap.push NV).get? s.heap.objs.size=some NV:=Heap.get?_push_size s.heap rfl;have e2:((s.heap.push NV).push (NX C s.heap.objs.size)).get? (s.heap.objs.size+1)=some (NX C s.heap.objs.size):=by
  have:=Heap.get?_push_size (s.heap.push NV) (o:=NX C s.heap.objs.size) rfl
  rwa [Heap.size_push] at this
 have e3:(s.heap.push NV).Ns s.heap.objs.size (λ _=>none):=⟨NV,#[],_,e1,rfl,(λ e he=>absurd he (by simp)),λ _=>rfl⟩;have I1:=I.laid (a:=s.heap.objs.size) (o:=.own (s.heap.objs.size+1)) (h':=s.heap.push NV) (t':=s.toks) (λ b u q=>Heap.get?_push_of_some _ q) (M6 _) ⟨_,e1⟩;refine I1.laid (a:=s.heap.objs.size+1) (o:=.ins C s.heap.objs.size []) (t':=s.toks) (λ b u q=>Heap.get?_push_of_some _ q) (Ng (Heap.size_push _ _)) ?_;have ne:s.heap.objs.size≠s.heap.objs.size+1:=M8 (Nk _);refine ⟨by rw [ah ne,ae],M9 _,ne,e2,λ _=>none,(Heap.Ns1.of_empty e3).at λ o q=>Heap.get?_push_of_some _ q,λ _=>True.intro,λ y hy=>absurd rfl hy⟩
theorem yZ {prog:Program}{w:World}{env:Env}{e:Expr}{f:Str}{pos:Pos}{s:Shared}{Q:Value->Shared->Prop}(hb:attributeBase e f env (eval e env)=eval e env)
  (h:wpAny (model prog w) A (eval e env) (λ o s₁=>wpAny (model prog w) A (getAttr o f true) Q E s₁) E s):wpAny (model prog w) A (eval (.Attribute e f pos) env) Q E s:=
 Attribute_any_ h (by rw [arm_eval_Attribute,hb])
end
def tL (K:Frag) (ta tv:TE) (f:Str):TS:=λ D σ H=>tv σ H λ y H1=>ta σ H1 λ x H2=> ∃a C dx fs,x=.ref a/\H2 a=some (.ins C dx fs)/\rA K C/\ce K C f/\fs.length<1000/\
 D.nx σ (upd H2 a (.ins C dx (putF f y fs)))
section
variable {X:Cx}{o e value:Expr}{f:Str}{pos pos' tpos:Pos}{ta tv:TE}
theorem DR (ha:PE X o ta) (hv:PE X value tv) (hs:swapsWith value (some (.Attribute o f pos')) pos.line X.env=pure false):PS X (.Assign [.Attribute o f pos'] value pos) (tL X.K ta tv f):=by intro pins s σ H D I h;refine plainObj_wpAny_Assign_Attribute (bJ (hv pins s σ H _ I h) λ u s1 ⟨y,H1,I1,ry,q⟩=>bJ (ha pins s1 σ H1 _ I1 q) λ ov s2 ⟨x,H2,I2,rx,a,C,dx,fs,ex,ea,c,n,l,q2⟩=>?_) hs;subst ex;obtain rfl:ov=Value.ref a:=rx;exact qk I2 ea c n l ry λ s3 I3=>⟨σ,_,I3,q2⟩
end
section
variable {X:Cx}{pins:List (Addr×Obj)}{σ:St}{H:Hp}{s:Shared}{A:Around}{E:Value->Shared->Prop}{Q:Value->Shared->Prop}{c:Value}{b:Bool}
inductive jo (K:Frag) (H:Hp):V->Value->Prop where
 | non:jo K H .non (.type "NoneType")
 | bl (x:Bool):jo K H (.bl x) (.type "bool")
 | int (i:Int):jo K H (.int i) (.type "int")
 | str (x:Str):jo K H (.str x) (.type "str")
 | flt (x:UInt64):jo K H (.flt x) (.type "float")
 | lst {a:Addr} {xs:List V} (e:H a=some (.lst xs)):jo K H (.ref a) (.type "list")
 | frz {a:Addr} {o:Obj} {xs:List V} (e:H a=some (.frz o (.lst xs))):jo K H (.ref a) (.type "list")
 | tup {a:Addr} {xs:List V} (e:H a=some (.tup xs)):jo K H (.ref a) (.type "tuple")
 | dK {a:Addr} {kvs:List (Key×V)} (e:H a=some (.dK kvs)):jo K H (.ref a) (.type "dict")
 | dT {a:Addr} {kvs:List (List Key×V)} (e:H a=some (.dT kvs)):jo K H (.ref a) (.type "dict")
 | ins {a C dx:Addr} {fs:List (Str×V)} (e:H a=some (.ins C dx fs)) (cl:rA K C) (ha:NQ K (.ref C) "__class__"=some (some (.builtin "object.__class__")))
   (hn:PySem.W.specialIn K (.builtin "object.__class__") "__get__"=some (some (.builtin "getset_descriptor.__get__"))) (htk:PySem.W.takesIn K (.builtin "object.__class__")=some true)
   (hm:PySem.W.mroIn K C (.type "object")=some true):jo K H (.ref a) (.ref C)
theorem uo {x:V}{u t:Value}(I:aJ X pins σ H s) (rx:aN x u) (ty:jo X.K H x t) (e:N4 X.K t c=some b) (h:∀tk,Q (.bool b) {s with toks:=tk}):
  wpAny (model X.prog X.w) A (call (.builtin "isinstance") [u,c]) Q E s:=by
 cases ty with
 | non=>cases (show u=Value.none from rx);exact NU PySem.W.kitx_none I.kIn True.intro e (λ z=>nomatch z) h
 | bl y=>cases (show u=Value.bool y from rx);exact NU PySem.W.kitx_bool I.kIn True.intro e (λ z=>nomatch z) h
 | int i=>obtain ⟨t,q⟩:=(show∃t,u=Value.int i t from rx);cases q;exact NU PySem.W.kitx_int I.kIn True.intro e (λ z=>nomatch z) h
 | str y=>obtain ⟨t,q⟩:=(show∃t,u=Value.str y t from rx);cases q;exact NU PySem.W.kitx_str I.kIn True.intro e (λ z=>nomatch z) h
 | flt y=>obtain ⟨t,q⟩:=(show∃t,u=Value.float y t from rx);cases q;exact NU PySem.W.kitx_float I.kIn True.intro e (λ z=>nomatch z) h
 | @lst a xs ea=>
   cases (show u=Value.ref a from rx);obtain ⟨_,_,n,_,h1⟩:=(show bB X.prog X.w H s.heap a (.lst xs) from I.hok a _ ea);exact NU Oe I.kIn ⟨_,h1,rfl⟩ e (λ z=>nomatch z) h
 | @frz a ob xs ea=>
   cases (show u=Value.ref a from rx);obtain ⟨_,_,_,n,_,h1⟩:=(show bB X.prog X.w H s.heap a (.frz ob (.lst xs)) from I.hok a _ ea);exact NU Oe I.kIn ⟨_,h1,rfl⟩ e (λ z=>nomatch z) h
 | @tup a xs ea=>
   cases (show u=Value.ref a from rx);obtain ⟨_,_,_,p⟩:=(show bB X.prog X.w H s.heap a (.tup xs) from I.hok a _ ea);obtain ⟨o,h1,h2,_⟩:=p;exact NU PySem.W.kitx_tuple I.kIn ⟨o,h1,h2⟩ e (λ z=>nomatch z) h
 | @dK a kvs ea=>
   cases (show u=Value.ref a from rx);obtain ⟨_,_,vs,_,p⟩:=(show bB X.prog X.w H s.heap a (.dK kvs) from I.hok a _ ea);obtain ⟨o,es,ep,h1,h2,_⟩:=p;exact NU Of I.kIn ⟨o,h1,h2.1⟩ e (λ z=>nomatch z) h
 | @dT a kvs ea=>
   cases (show u=Value.ref a from rx);obtain ⟨_,_,xs,_,o,es,ep,h1,h2,_⟩:=(show bB X.prog X.w H s.heap a (.dT kvs) from I.hok a _ ea);exact NU Of I.kIn ⟨o,h1,h2.1⟩ e (λ z=>nomatch z) h
 | @ins a C dx fs ea cl ha hn htk hm=>
   cases (show u=Value.ref a from rx);obtain ⟨mA,O,_⟩:=ng I.hok ea;obtain ⟨od,J,_⟩:=O.look;exact NU (PySem.W.kitx_own (cl.get _) cl.hd ha hn htk hm) I.kIn J e (λ z=>nomatch z) h
end
end L2
namespace L2
open PySem PySem.Spec PyProof.Rows
structure du (k:Nat) (A:Around):Prop where
 hd:A.handled=none
 dp:A.depth+3*k+5<recursionLimit
 un:A.units+16*k+200<cLine
theorem du.mono {j k:Nat}{A:Around}(r:du k A) (h:j<=k):du j A:=⟨r.hd,by have:=r.dp;omega,by have:=r.un;omega⟩
theorem du.deeper {k:Nat}{A:Around}(r:du (k+1) A) (env:Env):du k (A.deeper env):=
 ⟨r.hd,by have:=r.dp;show A.depth+1+3*k+5<_;omega,by have:=r.un;show A.units+3+16*k+200<_;omega⟩
theorem qM {A:Around}{C:Addr}{us:List Value}{kw:List (Str×Value)}:(A.under (.builtin "type.__call__" ⟨.ref C::us,kw⟩)).depth=A.depth+1:=by
 first | rfl | simp [Around.under,Code.weight,Code.isCreation,Code.isGuard,Code.isCaller,Code.frames,Code.isFrame,guardIds]
theorem qL {A:Around}{C:Addr}{us:List Value}{kw:List (Str×Value)}:(A.under (.builtin "type.__call__" ⟨.ref C::us,kw⟩)).units=A.units+1:=by
 first | rfl | simp [Around.under,Code.cUnits,Code.frames,Code.isFrame]
theorem du.make {k:Nat}{A:Around}(r:du (k+1) A) (C:Addr) (us:List Value) (kw:List (Str×Value)):du k (A.under (.builtin "type.__call__" ⟨.ref C::us,kw⟩)):=
 ⟨r.hd,by have:=r.dp;rw [qM];omega,by have:=r.un;rw [qL];omega⟩
theorem du.depth {k:Nat}{A:Around}(r:du k A):A.depth<recursionLimit:=by have:=r.dp;omega
theorem du.units {k:Nat}{A:Around}(r:du k A):A.units+64<cLine:=by have:=r.un;omega
def cn:TA:=λ _ H Q=>Q [] H
def bi (ta:TE) (tr:TA):TA:=λ σ H Q=>ta σ H λ x H1=>tr σ H1 λ xs H2=>Q (x::xs) H2
section
variable {X:Cx}{e:Expr}{es:List Expr}{te:TE}{t:TA}{pos:Pos}
theorem pa_nil:PA X [] cn:=λ _ _ _ _ H Q I h=>Calls.spliced_nil ⟨[],H,I,.nil,h⟩
theorem pa_cons (ha:PE X e te) (hr:PA X es t) (hs:starEach (e::es) X.env=(false,eval e X.env)::starEach es X.env:=by rfl):PA X (e::es) (bi te t):=by intro pos pins s σ H Q I h;rw [hs];show wpAny _ _ (spliced ((false,eval e X.env)::backTo pos (starEach es X.env))) _ _ s;refine Calls.spliced_cons (bJ (ha pins s σ H _ I h) λ u s1 ⟨x,H1,I1,r1,q1⟩=>?_);exact bJ (hr pos pins s1 σ H1 _ I1 q1) λ us s2 ⟨xs,H2,I2,r2,q2⟩=>⟨x::xs,H2,I2,.cons r1 r2,q2⟩
def tF (t:TA):TE:=λ σ H Q=>t σ H λ xs H1=>xs.length<=sizeLine/\∀p,H1 p=none->Q (.ref p) (upd H1 p (.tup xs))
def qf (t:TA):TE:=λ σ H Q=>t σ H λ xs H1=>xs.length<=sizeLine/\∀p,H1 p=none->Q (.ref p) (upd H1 p (.lst xs))
theorem gk {x1}(h:PA X es t):PE X (.Tuple es x1 pos) (tF t):=by intro pins s σ H Q I hq;refine wpAny_Tuple_spliced (bJ (h pos pins s σ H _ I hq) λ us s1 ⟨xs,H1,I1,r,z,q⟩=>⟨by rw [<-r.length];exact z,?_⟩);have hf:H1 s1.heap.objs.size=none:=I1.hok.fresh (M6 _);refine ⟨.ref s1.heap.objs.size,upd H1 s1.heap.objs.size (.tup xs),I1.laid (t':=s1.toks) (λ b u e=>Heap.get?_push_of_some _ e) (M6 _) ?_,rfl,q _ hf⟩;exact ⟨z,us,r,⟨_,Heap.get?_push_size _ rfl,rfl,_,rfl⟩⟩
theorem bu (h:PA X es t):PE X (.List es pos) (qf t):=by intro pins s σ H Q I hq;refine wpAny_List_spliced (bJ (h pos pins s σ H _ I hq) λ us s1 ⟨xs,H1,I1,r,z,q⟩=>⟨by rw [<-r.length];exact z,?_⟩);have hf:H1 s1.heap.objs.size=none:=I1.hok.fresh (M6 _);refine ⟨.ref s1.heap.objs.size,upd H1 s1.heap.objs.size (.lst xs),I1.laid (t':=s1.toks) (λ b u e=>Heap.get?_push_of_some _ e) (M6 _) ?_,rfl,q _ hf⟩;exact ⟨z,us,0,r,Heap.get?_push_size _ rfl⟩
end
abbrev Sp:=List V->Hp->VK->XK->Prop
abbrev tw:=List Env->Hp->Shared->XK->Value->Shared->Prop
structure rp (P:Program) (w:World) (K:Frag) (mg:Str->Option Value) (base:Heap) (A:Around) (outer:List Env) (s:Shared) (H:Hp):Prop where
 frames:A.frames=some outer
 mod:Mod K mg base
 bs:∀b o,base.get? b=some o->s.heap.get? b=some o/\H b=none
 bsz:base.objs.size<=s.heap.objs.size
 funs:s.heap.FunFrames base outer
 frf:∀b∈sH outer,H b=none
 hok:iC P w H s.heap
 bare:AllBare s.gens
def CE (outer:List Env) (P:Program) (w:World) (H:Hp) (s:Shared) (Q:VK) (u:Value) (s':Shared):Prop:=
 ∃v H',s'.os=s.os/\AllBare s'.gens/\Un (sH outer) [] H H' s.heap s'.heap/\iC P w H' s'.heap/\aN v u/\Q v H'
def CR (CX:tw) (outer:List Env) (P:Program) (w:World) (H:Hp) (s:Shared) (Q:VK) (E:XK) (r:Result) (s':Shared):Prop:=
 match r with
 | .ok (.ret u)=>CE outer P w H s Q u s'
 | .ok _=>False
 | .error e=>CX outer H s E e s'
structure bj (P:Program) (w:World) (K:Frag) (mg:Str->Option Value) (base:Heap) (CX:tw) (k:Nat) (f:Addr) (fd:FuncData) (ps:List Str) (sp:Sp):Prop where
 len:∀vs H Q E,sp vs H Q E->vs.length=ps.length
 run:∀(A:Around) (outer:List Env) (s:Shared) (H:Hp) (args:Args) (us:List Value) (vs:List V) (Q:VK) (E:XK),du k A->rp P w K mg base A outer s H->BindsTo s fd args (ps.zip us)->aV vs us->sp vs H Q E->
  codeAny (model P w) A (.call (.ref f) args) (CR CX outer P w H s Q E) s
theorem bj.mono {P:Program}{w:World}{K:Frag}{mg:Str->Option Value}{base:Heap}{CX:tw}{j k:Nat}{f:Addr}{fd:FuncData}{ps:List Str}{sp:Sp}(F:bj P w K mg base CX j f fd ps sp) (h:j<=k):
  bj P w K mg base CX k f fd ps sp:=⟨F.len,λ A outer s H args us vs Q E hr=>F.run A outer s H args us vs Q E (hr.mono h)⟩
theorem bj.imp {P:Program}{w:World}{K:Frag}{mg:Str->Option Value}{base:Heap}{CX:tw}{k:Nat}{f:Addr}{fd:FuncData}{ps:List Str}{sp sp':Sp}(F:bj P w K mg base CX k f fd ps sp)
  (h:∀vs H Q E,sp' vs H Q E->sp vs H Q E):bj P w K mg base CX k f fd ps sp':=
 ⟨λ vs H Q E q=>F.len vs H Q E (h _ _ _ _ q),λ A outer s H args us vs Q E hr he hb hv hs=>F.run A outer s H args us vs Q E hr he hb hv (h _ _ _ _ hs)⟩
theorem rp.make {P:Program}{w:World}{K:Frag}{mg:Str->Option Value}{base:Heap}{A:Around}{outer:List Env}{s:Shared}{H:Hp}(e:rp P w K mg base A outer s H) (C:Addr) (us:List Value) (kw:List (Str×Value)):
  rp P w K mg base (A.under (.builtin "type.__call__" ⟨.ref C::us,kw⟩)) outer s H:=⟨by first | exact e.frames | (simpa [Around.under,Code.envs,Code.isFrame,pushEnvs] using e.frames),e.mod,e.bs,e.bsz,e.funs,e.frf,e.hok,e.bare⟩
section
variable {X:Cx}{pins:List (Addr×Obj)}{σ:St}{H:Hp}{s s':Shared}
theorem aJ.env0 (I:aJ X pins σ H s):rp X.prog X.w X.K X.mg X.base X.A X.stack s H:=
 ⟨I.ok.frames,I.ok.mod,I.bs,M7 I.ok.bsz I.sz,I.stack,I.stkFree,I.hok,I.bare⟩
theorem aJ.after {Q:VK}{u:Value}(I:aJ X pins σ H s) (h:CE X.stack X.prog X.w H s Q u s'):EP X pins σ Q u s':=by obtain ⟨v,H',os,bare,un,hok,r,q⟩:=h;obtain ⟨hh,g,d,t,os'⟩:=s';obtain rfl:os'=s.os:=os;exact ⟨v,H',I.call (h':=hh) (g':=g) (d':=d) (t':=t) (ch:=[]) un hok bare (λ b z=>absurd z (by simp)),r,q⟩
end
def vj (sp:Sp) (dvs:List V) (E:XK) (t:TA):TE:=λ σ H Q=>t σ H λ vs H1=>sp (vs++dvs) H1 Q E
def vh (C:Addr) (sp:Sp) (dvs:List V) (E:XK) (t:TA):TE:=λ σ H Q=>t σ H λ vs H1=> ∀x dx,H1 x=none->H1 dx=none->dx≠x->
 sp (.ref x::(vs++dvs)) (upd (upd H1 dx (.own x)) x (.ins C dx [])) (λ v H2=>v=.non/\Q (.ref x) H2) E
def gY (K:Frag) (fd:FuncData) (ps:List Str) (ds:List Value):Prop:=
 ∀(s:Shared) (us:List Value),K.In s.heap->(us++ds).length=ps.length->BindsTo s fd ⟨us,[]⟩ (ps.zip (us++ds))
theorem gY.all {K:Frag}{fd:FuncData}{ps:List Str}(h:∀us:List Value,us.length=ps.length->bindArgs fd ⟨us,[]⟩=pure (ps.zip us)):gY K fd ps []:=λ s us _ hl=>by rw [L6] at hl ⊢;exact .of_eq (h us hl)
def kC (CX:tw) (X:Cx) (E:XK):Prop:= ∀(pins:List (Addr×Obj)) (σ:St) (H:Hp) (s:Shared) (e:Value) (s':Shared),aJ X pins σ H s->CX X.stack H s E e s'->X.xe e s'
section
variable {X:Cx}{CX:tw}{k:Nat}{f C:Addr}{fd:FuncData}{ps:List Str}{sp:Sp}{dvs:List V}{ds:List Value}{E:XK}{x m:Str}{p pos apos:Pos}{e o:Expr}{es:List Expr}{ta:TE}{t:TA}
theorem DF {pins:List (Addr×Obj)}{σ:St}{H:Hp}{s:Shared}{Q:VK}{us:List Value}{vs:List V}(F:bj X.prog X.w X.K X.mg X.base CX k f fd ps sp) (hr:du k X.A) (hb:gY X.K fd ps ds) (hd:aV dvs ds) (hx:kC CX X E)
  (I:aJ X pins σ H s) (r:aV vs us) (h:sp (vs++dvs) H Q E):wpAny (model X.prog X.w) X.A (call (.ref f) us) (EP X pins σ Q) X.xe s:=by
 have r2:aV (vs++dvs) (us++ds):=r.append hd;have hl:(us++ds).length=ps.length:=by rw [<-r2.length];exact F.len _ _ _ _ h
 refine wpAny_call (codeAny_mono (F.run X.A X.stack s H ⟨us,[]⟩ (us++ds) (vs++dvs) Q E hr I.env0 (hb s us I.kIn hl) r2 h) λ r s' hq=>?_);cases r with
 | error e=>exact hx pins σ H s e s' I hq
 | ok fl=>
   cases fl with
   | ret u=>exact I.after hq
   | next=>exact False.elim hq
   | brk=>exact False.elim hq
   | cont=>exact False.elim hq
theorem x8 (F:bj X.prog X.w X.K X.mg X.base CX k f fd ps sp) (hr:du k X.A) (hg:Gl X x) (hm:X.mg x=some (.ref f)) (hk:NY X.K (.ref f)=true) (hb:gY X.K fd ps ds) (hd:aV dvs ds) (hx:kC CX X E)
  (ha:PA X (e::es) t) (hdb:(x == ("__debug__":Str))=false:=by decide) (he:starEach (e::es) X.env=(false,eval e X.env)::starEach es X.env:=by rfl) (hpl:(backTo pos (starEach es X.env)).any (·.1)=false:=by rfl):
  PE X (.Call (.Name x p) (e::es) [] pos) (vj sp dvs E t):=by
 intro pins s σ H Q I h;refine wpAny_Call_Name_kw (m9 I hg hm ?_ hdb);refine Og (h₀:=X.base) I.ok.mod.kin hk (bJ (ha pos pins s σ H _ I h) λ us s1 ⟨vs,H1,I1,r,q⟩=>⟨I1.kIn,?_⟩) he hpl;exact DF F hr hb hd hx I1 r q
structure Mk (K:Frag) (C f:Addr):Prop where
 makes:N3 K C=true
 init:NQ K (.ref C) "__init__"=some (some (.ref f))
 fn:Oc K (.ref f)=true
 kp:NY K (.ref C)=true
theorem vx {pins:List (Addr×Obj)}{σ:St}{H:Hp}{s:Shared}{Q:VK}{us:List Value}{vs:List V}(M:Mk X.K C f) (F:bj X.prog X.w X.K X.mg X.base CX k f fd ps sp) (hr:du (k+1) X.A) (hb:gY X.K fd ps ds) (hd:aV dvs ds)
  (hx:kC CX X E) (I:aJ X pins σ H s) (r:aV vs us)
  (h:∀x dx,H x=none->H dx=none->dx≠x->sp (.ref x::(vs++dvs)) (upd (upd H dx (.own x)) x (.ins C dx [])) (λ v H2=>v=.non/\Q (.ref x) H2) E):
  wpAny (model X.prog X.w) X.A (call (.ref C) us) (EP X pins σ Q) X.xe s:=by
 have hq:=h (s.heap.objs.size+1) s.heap.objs.size (I.hok.fresh (Nc _)) (I.hok.fresh (M6 _)) (M8 (Nk _));have I2:=aJ.made (C:=C) I;have r2:aV (V.ref (s.heap.objs.size+1)::(vs++dvs)) (Value.ref (s.heap.objs.size+1)::(us++ds)):=.cons rfl (r.append hd);have hl:(Value.ref (s.heap.objs.size+1)::us++ds).length=ps.length:=by have e:=r2.length;rw [F.len _ _ _ _ hq] at e;exact e.symm
 refine wpAny_call (wb (f:=f) I.kIn M.makes M.init (beq_iff_eq.mp M.fn) (codeAny_mono (F.run _ X.stack _ _ ⟨Value.ref (s.heap.objs.size+1)::us,[]⟩ (Value.ref (s.heap.objs.size+1)::(us++ds)) _ _ E (hr.make C us [])
  (I2.env0.make C us []) (hb _ (Value.ref (s.heap.objs.size+1)::us) I2.kIn hl) r2 hq) λ r s' hq'=>?_))
 cases r with
 | error e=>exact hx pins σ _ _ e s' I2 hq'
 | ok fl=>
   cases fl with
   | ret u=>
     obtain ⟨v,H',I3,rv,ev,q3⟩:=I2.after hq';subst ev;exact ⟨rv,⟨V.ref (s.heap.objs.size+1),H',I3,rfl,q3⟩⟩
   | next=>exact False.elim hq'
   | brk=>exact False.elim hq'
   | cont=>exact False.elim hq'
theorem x0 (M:Mk X.K C f) (F:bj X.prog X.w X.K X.mg X.base CX k f fd ps sp) (hr:du (k+1) X.A) (hg:Gl X x) (hm:X.mg x=some (.ref C)) (hb:gY X.K fd ps ds) (hd:aV dvs ds) (hx:kC CX X E)
  (ha:PA X (e::es) t) (hdb:(x == ("__debug__":Str))=false:=by decide) (he:starEach (e::es) X.env=(false,eval e X.env)::starEach es X.env:=by rfl) (hpl:(backTo pos (starEach es X.env)).any (·.1)=false:=by rfl):
  PE X (.Call (.Name x p) (e::es) [] pos) (vh C sp dvs E t):=by
 intro pins s σ H Q I h;refine wpAny_Call_Name_kw (m9 I hg hm ?_ hdb);refine Og (h₀:=X.base) I.ok.mod.kin M.kp (bJ (ha pos pins s σ H _ I h) λ us s1 ⟨vs,H1,I1,r,q⟩=>⟨I1.kIn,?_⟩) he hpl;exact vx M F hr hb hd hx I1 r q
end
section
variable {X:Cx}{CX:tw}{k:Nat}{f C:Addr}{fd:FuncData}{ps ks:List Str}{sp:Sp}{E:XK}{x m:Str}{p pos apos kpos:Pos}{e o:Expr}{es:List Expr}{kws:List Keyword}{te ta:TE}{t tk:TA}{nm:Option Str}
variable {g:List Value->List Value->List Value}{gV:List V->List V->List V}
end
structure aG (N P:List Str) (sc:Scope):Prop where
 kind:sc.kind=.function
 co:sc.isCoroutine=false
 gen:sc.isGenerator=false
 nd:N.Nodup
 pre:N.take P.length=P
 par:∀x∈P,sc.names.lookup x=some .local\/sc.names.lookup x=some .cell
 nofree:∀y∈sc.names,y.2≠.free
theorem lS {kindOf:Str->Option NameKind}{x:Str}:∀{binds:List (Str×Value)}{m:Str->Option Value},(∀v,(x,v)∉binds)->bindL kindOf binds m x=m x
 | [],_,_=>rfl
 | (n,v)::r,m,h=>by
   unfold bindL;rw [lS λ w hw=>h w (LJ _ hw)];split
   ·have:x≠n:=by rintro rfl;exact h v LH
    simp [this]
   ·rfl
theorem lU {kindOf:Str->Option NameKind}{x:Str}:∀{binds:List (Str×Value)}{m:Str->Option Value},(∀v,(x,v)∉binds)->bindC kindOf binds m x=m x
 | [],_,_=>rfl
 | (n,v)::r,m,h=>by
   unfold bindC;rw [lU λ w hw=>h w (LJ _ hw)];split
   ·rfl
   ·have:x≠n:=by rintro rfl;exact h v LH
    simp [this]
theorem lT {kindOf:Str->Option NameKind}{x:Str}{v:Value}:∀{P:List Str}{vs:List Value}{i:Nat}{m:Str->Option Value},P.Nodup->P[i]? =some x->vs[i]? =some v->kindOf x=some .local->
  bindL kindOf (P.zip vs) m x=some v
 | [],_,_,_,_,h,_,_=>by simp at h
 | _::_,[],_,_,_,_,h,_=>by simp at h
 | p::P,w::vs,0,m,nd,h1,h2,hk=>by simp at h1 h2;subst h1;subst h2;show bindL kindOf ((p,w)::P.zip vs) m p=_;unfold bindL;rw [lS λ v hv=>(Mo.mp nd).1 (MC hv).1,if_pos hk];simp
 | p::P,w::vs,i+1,m,nd,h1,h2,hk=>by show bindL kindOf ((p,w)::P.zip vs) m x=_;unfold bindL;exact lT (i:=i) (Mo.mp nd).2 (by simpa using h1) (by simpa using h2) hk
theorem lV {kindOf:Str->Option NameKind}{x:Str}{v:Value}:∀{P:List Str}{vs:List Value}{i:Nat}{m:Str->Option Value},P.Nodup->P[i]? =some x->vs[i]? =some v->kindOf x≠some .local->
  bindC kindOf (P.zip vs) m x=some v
 | [],_,_,_,_,h,_,_=>by simp at h
 | _::_,[],_,_,_,_,h,_=>by simp at h
 | p::P,w::vs,0,m,nd,h1,h2,hk=>by simp at h1 h2;subst h1;subst h2;show bindC kindOf ((p,w)::P.zip vs) m p=_;unfold bindC;rw [lU λ v hv=>(Mo.mp nd).1 (MC hv).1,if_neg hk];simp
 | p::P,w::vs,i+1,m,nd,h1,h2,hk=>by show bindC kindOf ((p,w)::P.zip vs) m x=_;unfold bindC;exact lV (i:=i) (Mo.mp nd).2 (by simpa using h1) (by simpa using h2) hk
def jt (N:List Str) (vs:List V):St:=vs.map some++List.replicate (N.length - vs.length) none
def uC (CX:tw) (P:Program) (w:World) (K:Frag) (mg:Str->Option Value) (base:Heap) (N:List Str) (qual:Str) (scope:Scope) (f:Addr) (cd:Value) (A:Around) (outer:List Env) (s:Shared) (H:Hp) (E:XK):Cx where
 prog:=P
 w:=w
 K:=K
 mg:=mg
 base:=base
 A:=A.deeper (envOfC qual scope s.heap.objs.size f cd)
 N:=N
 s₀:=s
 H₀:=H
 env:=envOfC qual scope s.heap.objs.size f cd
 outer:=outer
 stack:=envOfC qual scope s.heap.objs.size f cd::outer
 ex:=[]
 calm:=true
 fn:=λ _=>true
 pn:=[]
 xe:=λ e s'=>wpAny (model P w) (A.deeper (envOfC qual scope s.heap.objs.size f cd)) (leaving (envOfC qual scope s.heap.objs.size f cd) e) (λ _ s''=>CX outer H s E e s'') (λ e' s''=>CX outer H s E e' s'') s'
theorem pJ {sc:Scope}{n:Nat}{x:Str}(h:sc.names.lookup x=some .cell):∃c,(cellsFrom n sc.names []).lookup x=some c:=by have q:=Oh sc.names n [] (.inl h);exact Option.isSome_iff_exists.mp q
theorem uq {CX:tw}{P:Program}{w:World}{K:Frag}{mg:Str->Option Value}{base:Heap}{N ps:List Str}{qual:Str}{scope:Scope}{f:Addr}{cd:Value}{A:Around}{outer:List Env}{s s1:Shared}{H:Hp}{E:XK}{us:List Value}{vs:List V}
  (S:aG N ps scope) (hd:A.handled=none) (e0:rp P w K mg base A outer s H) (hl:vs.length=ps.length) (r:aV vs us)
  (x:InCallC s s.heap.objs.size (bindL (envOfC qual scope s.heap.objs.size f cd).kindOf (ps.zip us) λ _=>none) (cellsFrom (s.heap.objs.size+1) scope.names []) (bindC (envOfC qual scope s.heap.objs.size f cd).kindOf (ps.zip us) λ _=>none) s1):
  aJ (uC CX P w K mg base N qual scope f cd A outer s H E) [] (jt N vs) H s1:=by
 have hpl:ps.length<=N.length:=by have:=congrArg List.length S.pre;rw [LW] at this;omega
 obtain ⟨h1,tk,rfl,hk⟩:=x.done;have noA:∀b:Addr,b∉(uC CX P w K mg base N qual scope f cd A outer s H E).ex:=λ b z=>absurd (show b∈([]:List Addr) from z) (by simp);refine ⟨⟨e0.mod,S.kind,rfl,rfl,M6 _,λ y z c h1 h2=>?_,λ y hy=>?_,λ y c _ h=>?_,λ _=>hd,Around.frames_deeper e0.frames,.inr ⟨rfl,rfl⟩,λ b z=>absurd z (noA b),e0.bs,e0.bsz,λ b _ _=>noA b,λ b z=>absurd z (noA b),e0.funs,e0.frf⟩,
  rfl,e0.bare,Un.kept hk,⟨_,x.toInCall.ns,λ i y v h1 h2 h3=>?_⟩,λ y c h=>⟨_,x.cell y c h⟩,e0.hok.fresh (M6 _),λ y c h=>?_,λ p hp=>absurd (show p∈([]:List (Addr×Obj)) from hp) (by simp),e0.hok.kept hk,?_⟩
 ·exact name_of_addr x.apart (PySem.mem_of_lookup h1) (PySem.mem_of_lookup h2)
 ·have hy:scope.names.lookup y=some .cell\/scope.names.lookup y=some .free:=hy
  rcases hy with hy | hy
  ·exact pJ hy
  ·exact absurd rfl (S.nofree _ (PySem.mem_of_lookup hy))
 ·exact Nh (x.above y c (PySem.mem_of_lookup h))
 ·have hi:i<vs.length:=by
   unfold jt at h2
   by_cases hi:i<vs.length
   ·exact hi
   ·rw [MD (by simpa using hi)] at h2;rw [List.getElem?_replicate] at h2;split at h2<;>cases h2
  have ha:vs[i]? =some v:=by
   unfold jt at h2;rw [ME (by simpa using hi),LD] at h2;cases e:vs[i]? with
   | none=>rw [e] at h2;cases h2
   | some a=>rw [e] at h2;cases h2;rfl
  obtain ⟨u,hu,rv⟩:=r.get ha;have hp:ps[i]? =some y:=by rw [<-S.pre,List.getElem?_take_of_lt (by omega)];exact h1
  have ndP:ps.Nodup:=by rw [<-S.pre];exact S.nd.sublist (List.take_sublist _ _)
  refine ⟨u,rv,?_⟩
  rcases S.par y (LM hp) with k | k
  ·exact .inl ⟨k,lT ndP hp hu k⟩
  ·obtain ⟨c,e⟩:=pJ (n:=s.heap.objs.size+1) k;refine .inr ⟨.inl k,c,e,?_⟩;have q:=x.cell y c e;rw [lV ndP hp hu (by show scope.names.lookup y≠_;rw [k];decide)] at q;exact q
 ·exact e0.hok.fresh (Nh (x.above y c (PySem.mem_of_lookup h)))
 ·unfold jt;show _=N.length;rw [Lz,Lv,List.length_replicate];omega
theorem Jp {CX:tw}{P:Program}{w:World}{K:Frag}{mg:Str->Option Value}{base:Heap}{k:Nat}{f:Addr}{name qual:Str}{params:Arguments}{body:List Stmt}{scope:Scope}{dV kV doc pm cdv ct oc:Value}{an od:Option Addr}
  {osl:Array (Option Value)} {N ps:List Str} {sp:Sp} (lk:K.lookup f=some ⟨oc,od,.func (NW name qual params body scope dV kV doc pm an cdv ct),osl⟩) (hcd:N5 K cdv qual=true) (S:aG N ps scope)
  (len:∀vs H Q E,sp vs H Q E->vs.length=ps.length)
  (hbody:∀(A:Around) (outer:List Env) (s:Shared) (H:Hp) (vs:List V) (Q:VK) (E:XK),du k (A.deeper (envOfC qual scope s.heap.objs.size f cdv))->sp vs H Q E->
   ∃t,ro (uC CX P w K mg base N qual scope f cdv A outer s H E) body t/\t {nx:=λ _ H'=>Q .non H',rt:=Q} (jt N vs) H):
  bj P w K mg base CX (k+1) f (NW name qual params body scope dV kV doc pm an cdv ct) ps sp:=by
 refine ⟨len,λ A outer s H args us vs Q E hr e0 hb r hsp=>?_⟩;have hl:=len _ _ _ _ hsp;have KX:K.In s.heap:=e0.mod.kin.keeps λ b o e=>(e0.bs b o e).1;have lim:s.heap.NoLimit:=e0.mod.nolimit.keeps λ b o e=>(e0.bs b o e).1;have hkind:∀y∈ps.zip us,scope.names.lookup y.1=some .local\/(scope.names.lookup y.1=some .cell/\((cellsFrom (s.heap.objs.size+1) scope.names []).lookup y.1).isSome=true):=λ ⟨n,v⟩ hy=>by
  rcases S.par n (MC hy).1 with q | q
  ·exact .inl q
  ·exact .inr ⟨q,Oh _ _ _ (.inl q)⟩
 refine codeAny_call_function hr.depth (KX _ _ lk) rfl S.co S.gen rfl (PySem.W.codeRec_of KX hcd) (hb _ _ _ _ ?_);refine wpAny_newFunctionEnv_cells S.kind hkind λ env he s1 x=>?_;subst he;refine ⟨lim.keeps x.toInCall.keep,codeAny_func ?_⟩;obtain ⟨t,ht,hq⟩:=hbody A outer s H vs Q E (hr.deeper _) hsp;have I:aJ (uC CX P w K mg base N qual scope f cdv A outer s H E) [] (jt N vs) H s1:=uq S hr.hd e0 hl r x;refine wpAny_mono (ht [] s1 (jt N vs) H _ I hq) (λ fl s' hs=>?_) λ e s' hs=>hs;have fin:∀{σ':St} {H':Hp} {v:V} {u:Value},aJ (uC CX P w K mg base N qual scope f cdv A outer s H E) [] σ' H' s'->aN v u->Q v H'->CE outer P w H s Q u s':=
  λ {σ' H' v u} J rv q=>⟨v,H',J.os,J.bare,J.base,J.hok,rv,q⟩
 cases fl with
 | ret u=>
   obtain ⟨v,σ',H',J,rv,q⟩:=hs;exact fin J rv q
 | next=>
   obtain ⟨σ',H',J,q⟩:=hs;exact fin (v:=V.non) (u:=Value.none) J rfl q
 | brk=>
   obtain ⟨_,_,_,q⟩:=hs;exact False.elim q
 | cont=>
   obtain ⟨_,_,_,q⟩:=hs;exact False.elim q
end L2
namespace L2
open PySem PySem.Spec PyProof.Rows
section
variable {X:Cx}{x:Str}{p pos:Pos}{e:Expr}{es:List Expr}{t:TA}{id T:String}{r:List V->Hp->VK->Prop}
def tCB (r:List V->Hp->VK->Prop) (t:TA):TE:=λ σ H Q=>t σ H λ vs H1=>r vs H1 Q
theorem vY (hc:bn X (.builtin id) r) (hg:Gl X x) (hm:X.mg x=none) (hv:bootBuiltins x=some (.builtin id)) (ha:PA X (e::es) t) (hn:x≠"__name__":=by decide) (hdb:(x == ("__debug__":Str))=false:=by decide)
  (he:starEach (e::es) X.env=(false,eval e X.env)::starEach es X.env:=by rfl) (hpl:(backTo pos (starEach es X.env)).any (·.1)=false:=by rfl):PE X (.Call (.Name x p) (e::es) [] pos) (tCB r t):=by
 intro pins s σ H Q I h;refine wpAny_Call_Name_kw (gR I hg hm hv ?_ hn hdb);exact PyProof.Rows.callWith_builtin1 (bJ (ha pos pins s σ H _ I h) λ us s1 ⟨vs,H1,I1,r1,q1⟩=>hc pins s1 σ H1 vs us Q I1 r1 q1) he hpl
theorem tV (hc:bn X (.type T) r) (hg:Gl X x) (hm:X.mg x=none) (hv:bootBuiltins x=some (.type T)) (ha:PA X (e::es) t) (hn:x≠"__name__":=by decide) (hdb:(x == ("__debug__":Str))=false:=by decide)
  (he:starEach (e::es) X.env=(false,eval e X.env)::starEach es X.env:=by rfl) (hpl:(backTo pos (starEach es X.env)).any (·.1)=false:=by rfl):PE X (.Call (.Name x p) (e::es) [] pos) (tCB r t):=by
 intro pins s σ H Q I h;refine wpAny_Call_Name_kw (gR I hg hm hv ?_ hn hdb);exact PyProof.Rows.callWith_type1 (bJ (ha pos pins s σ H _ I h) λ us s1 ⟨vs,H1,I1,r1,q1⟩=>hc pins s1 σ H1 vs us Q I1 r1 q1) he hpl
end
end L2
namespace HT
open PySem PyProof.Rows
section
open PySem.SeqAt
open PySem.AutoSeq1 (wpAny_loadPart')
open PySem.MeetsSeq PySem.MeetsSeq2 PySem.MeetsSeq3
end
section
variable {prog:Program}{w:World}{A:Around}{E:Value->Shared->Prop}{s:Shared}
def sIx (n d:Nat):Option Int->Nat
 | none=>d
 | some v=>if v<0 then (v+(n:Int)).toNat else min v.toNat n
theorem sIx_none (n d:Nat):sIx n d none=d:=rfl
theorem sIx_nat (n d k:Nat):sIx n d (some (k:Int))=min k n:=by show (if (k:Int)<0 then ((k:Int)+(n:Int)).toNat else min (k:Int).toNat n)=min k n;rw [if_neg (by omega),Np]
theorem sIx_le (n d:Nat) (hd:d<=n) (o:Option Int):sIx n d o<=n:=by
 cases o with
 | none=>exact hd
 | some v=>
   show (if v<0 then (v+(n:Int)).toNat else min v.toNat n)<=n
   by_cases hv:v<0
   ·rw [if_pos hv];omega
   ·rw [if_neg hv];exact Nat.min_le_right _ _
theorem sU (v:Int) (n d:Nat):(if v<0 then max (v+(n:Int)) 0 else min v (n:Int))=((sIx n d (some v):Nat):Int):=by
 show (if v<0 then max (v+(n:Int)) 0 else min v (n:Int))=(((if v<0 then (v+(n:Int)).toNat else min v.toNat n):Nat):Int)
 by_cases hv:v<0
 ·simp only [if_pos hv];omega
 ·simp only [if_neg hv];omega
theorem rn (lo hi:Option Int) (n:Nat):Builtin.Slice.sliceAdjust lo hi 1 (n:Int)=(((sIx n 0 lo:Nat):Int),((sIx n n hi:Nat):Int)):=by
 have h1:¬((1:Int)<0):=by omega
 unfold Builtin.Slice.sliceAdjust;simp only [h1,if_false];refine Prod.ext ?_ ?_
 ·cases lo with
  | none=>rfl
  | some v=>exact sU v n 0
 ·cases hi with
  | none=>rfl
  | some v=>exact sU v n n
theorem qv (i j:Nat):Builtin.Slice.slicePlaces (i:Int) (j:Int) 1=j - i:=by
 unfold Builtin.Slice.slicePlaces;have h1:(1:Int) > 0:=by omega
 simp only [h1,if_true,Int.ediv_one];split<;>omega
theorem jZ {v:Value}{o:Option Int}{Q:Option Int->Shared->Prop}(p:IsPart v o) (h:Q o s):wpAny (model prog w) A (Builtin.Slice.slicePartIndex v) Q E s:=by
 cases p with
 | none=>exact slicePart_none h
 | int i t=>exact slicePart_int h
theorem i8 {sl:Addr}{vl vu:Value}{lo hi:Option Int}{n:Nat}{Q:Int×Int×Nat->Shared->Prop}(hs:s.heap.IsSliceOf sl vl vu .none) (pl:IsPart vl lo) (pu:IsPart vu hi)
  (h:Q (((sIx n 0 lo:Nat):Int),1,sIx n n hi - sIx n 0 lo) s):wpAny (model prog w) A (Builtin.Slice.sliceApplied (.ref sl) (pure (n:Int))) Q E s:=by
 obtain ⟨os,hos,hcs,hds⟩:=id hs;unfold Builtin.Slice.sliceApplied Builtin.Slice.sliceFields;refine wpAny_bind (wpAny_bind (wpAny_field hos hds (x:=vl) rfl (wpAny_bind (wpAny_field hos hds (x:=vu) rfl (wpAny_bind (wpAny_field hos hds (x:=.none) rfl (wpAny_pure ?_)))))));refine wpAny_bind (slicePart_none ?_);show wpAny _ _ (if ((1:Int) == 0)=true then _ else _) _ _ s;rw [if_neg (by decide)];refine wpAny_bind (jZ pl (wpAny_bind (jZ pu (wpAny_bind (wpAny_pure ?_)))));show wpAny _ _ (match Builtin.Slice.sliceAdjust lo hi 1 (n:Int) with | (lo,hi)=>pure (lo,(1:Int),Builtin.Slice.slicePlaces lo hi 1)) _ _ s
 rw [rn lo hi n];show wpAny _ _ (pure (((sIx n 0 lo:Nat):Int),(1:Int),Builtin.Slice.slicePlaces ((sIx n 0 lo:Nat):Int) ((sIx n n hi:Nat):Int) 1)) _ _ s;rw [qv];exact wpAny_pure h
theorem vV (xs:Array Value) (i k:Nat):((List.range k).filterMap λ (m:Nat)=>xs[((i:Int)+(m:Int)*1).toNat]?).toArray=((xs.toList.drop i).take k).toArray:=by
 have e:(λ (m:Nat)=>xs[((i:Int)+(m:Int)*1).toNat]?)=λ m=>xs[i+m]? :=by
  funext m;have:((i:Int)+(m:Int)*1).toNat=i+m:=by omega
  rw [this]
 rw [e];have:=pick_run xs i k;rw [List.filterMap_map] at this;have e2:((λ x=>xs[x]?)∘λ x=>i+x)=λ m=>xs[i+m]? :=rfl;rw [e2] at this;rw [this]
theorem getItem_tuple_cut {t sl:Addr}{items:Array Value}{vl vu:Value}{lo hi:Option Int}{Q:Value->Shared->Prop}(ht:IsTup s.heap t items) (hs:s.heap.IsSliceOf sl vl vu .none) (pl:IsPart vl lo) (pu:IsPart vu hi)
  (hw:¬(sIx items.size 0 lo=0/\sIx items.size items.size hi=items.size))
  (h:Q (.ref s.heap.objs.size) {s with heap:=s.heap.push {cls:=.type "tuple",data:=.seq ((items.toList.drop (sIx items.size 0 lo)).take (sIx items.size items.size hi - sIx items.size 0 lo)).toArray}})
  (hsz:items.size<=sizeLine):wpAny (model prog w) A (getItem (.ref t) (.ref sl)) Q E s:=by
 have htake:sizeOk (.seq ((items.toList.drop (sIx items.size 0 lo)).take (sIx items.size items.size hi - sIx items.size 0 lo)).toArray):=by show ((items.toList.drop (sIx items.size 0 lo)).take (sIx items.size items.size hi - sIx items.size 0 lo)).toArray.size<=sizeLine;rw [LB,LW,LU,NG];omega
 have hj:sIx items.size items.size hi<=items.size:=sIx_le _ _ (M6 _) hi;obtain ⟨os,hos,hcs,hds⟩:=id hs;have hTs:s.TypeIs (.ref sl) "slice":=⟨os,hos,hcs⟩;unfold getItem
 try with_reducible refine wpAny_holding ?_
 first | refine wpAny_bind (wpAny_pure ?_) | skip
 refine wpAny_bind (wpAny_sequenceKey ht.typeIs (by decide) ?_);refine wpAny_bind (wpAny_callSpecial?_slot (name:=Str.ofString "__getitem__") ht.typeIs PyProof.Rows.slot_tuple_getitem
  (wpAny_call_entry PyProof.Rows.slot_tuple_getitem ht.typeIs entry_tuple_getitem ?_ (args_tuple_getitem _ _)))
 show wpAny _ _ (Builtin.Tuple.tupleItemsOf (.ref t) >>= _) _ _ s;refine wpAny_bind (tupleItemsOf_ ht ?_);refine wpAny_bind (wpAny_typeOf hTs ?_);rw [if_pos (by decide)];refine wpAny_bind (i8 hs pl pu ?_);have hno:¬((((sIx items.size 0 lo:Nat):Int) == 0&&(1:Int) == 1&&(sIx items.size items.size hi - sIx items.size 0 lo) == items.size)=true):=by intro q;rw [Nu,Nu] at q;have q1:((sIx items.size 0 lo:Nat):Int)=0:=eq_of_beq q.1.1;have q2:sIx items.size items.size hi - sIx items.size 0 lo=items.size:=eq_of_beq q.2;exact hw ⟨by omega,by omega⟩
 show wpAny _ _ (if (((sIx items.size 0 lo:Nat):Int) == 0&&(1:Int) == 1&&(sIx items.size items.size hi - sIx items.size 0 lo) == items.size)=true then _ else _) _ _ s;rw [if_neg hno,vV]
 first
  | exact wpAny_bind (m:=Builtin.Tuple.tupleExact _) (wpAny_newObj_type (wpAny_pure ⟨_,rfl,wpAny_pure h⟩) htake)
  | exact wpAny_bind (m:=Builtin.Tuple.tupleExact _) (wpAny_newObj_type (wpAny_bind (wpAny_pure (wpAny_pure ⟨_,rfl,wpAny_pure h⟩))) htake)
  | exact wpAny_bind (wpAny_bind (m:=Builtin.Tuple.tupleExact _) (wpAny_newObj_type (wpAny_pure (wpAny_pure ⟨_,rfl,wpAny_pure h⟩)) htake))
  | exact wpAny_bind (wpAny_bind (m:=Builtin.Tuple.tupleExact _) (wpAny_newObj_type (wpAny_pure ⟨_,rfl,wpAny_pure h⟩) htake))
end
end HT
namespace L2
open PySem PySem.Spec PyProof.Rows
abbrev TO:=St->Hp->(Option Int->Hp->Prop)->Prop
def PO (X:Cx) (e:Option Expr) (t:TO):Prop:=
 ∀(pins:List (Addr×Obj)) (s:Shared) (σ:St) (H:Hp) (Q:Option Int->Hp->Prop),aJ X pins σ H s->t σ H Q->
  wpAny (model X.prog X.w) X.A (evalPart e X.env) (λ u s'=> ∃o H',aJ X pins σ H' s'/\IsPart u o/\Q o H') X.xe s
def iD:TO:=λ _ H Q=>Q none H
theorem kj {ns:List Int}:∀{us:List Value},aV (ns.map V.int) us->IntsAre us ns:=by
 induction ns with
 | nil=>intro us r;rw [LX] at r;cases r;exact .nil
 | cons n ns ih=>
   intro us r;rw [LL] at r;cases r with
   | cons r1 r2=>
     obtain ⟨t,e⟩:=r1;subst e;exact .cons n t (ih r2)
section
variable {X:Cx}{e:Expr}{te:TE}{lo hi:Option Expr}{tl th:TO}{pos p2:Pos}
theorem gi:PO X none iD:=by intro pins s σ H Q I h;rw [evalPart_none];exact wpAny_pure ⟨none,H,I,.none,h⟩
def uP (X:Cx) (r:V->Option Int->Option Int->Hp->VK->Prop):Prop:=
 ∀(pins:List (Addr×Obj)) (s:Shared) (σ:St) (H:Hp) (x:V) (v vl vu:Value) (lo hi:Option Int) (sl:Addr) (Q:VK),aJ X pins σ H s->aN x v->s.heap.IsSliceOf sl vl vu .none->IsPart vl lo->IsPart vu hi->r x lo hi H Q->
  ∃T id,typeLookup (.type T) "__getitem__"=pure (some (.builtin id))/\s.TypeIs v T/\wpAny (model X.prog X.w) X.A (getItem v (.ref sl)) (EP X pins σ Q) X.xe s
theorem uP.or {r r':V->Option Int->Option Int->Hp->VK->Prop}(h:uP X r) (h':uP X r'):uP X (λ x lo hi H Q=>r x lo hi H Q\/r' x lo hi H Q):=by
 intro pins s σ H x v vl vu lo hi sl Q I rx hs pl pu q
 rcases q with q | q
 ·exact h pins s σ H x v vl vu lo hi sl Q I rx hs pl pu q
 ·exact h' pins s σ H x v vl vu lo hi sl Q I rx hs pl pu q
def KL (r:V->Option Int->Option Int->Hp->VK->Prop) (te:TE) (tl th:TO):TE:=λ σ H Q=>te σ H λ x H1=>tl σ H1 λ l H2=>th σ H2 λ u H3=>r x l u H3 Q
theorem oO {r:V->Option Int->Option Int->Hp->VK->Prop}(hr:uP X r) (he:PE X e te) (hl:PO X lo tl) (hu:PO X hi th):PE X (.Subscript e (.Slice lo hi none p2) pos) (KL r te tl th):=by intro pins s σ H Q I h;refine Subscript_ (bJ (he pins s σ H _ I h) λ v s1 ⟨x,H1,I1,r1,q1⟩=>?_);refine wpAny_Slice (bJ (hl pins s1 σ H1 _ I1 q1) λ vl s2 ⟨l,H2,I2,pl,q2⟩=>bJ (hu pins s2 σ H2 _ I2 q2) λ vu s3 ⟨u,H3,I3,pu,q3⟩=>?_);rw [evalPart_none];refine wpAny_pure ?_;have I4:aJ X pins σ H3 {s3 with heap:=s3.heap.push {cls:=.type "slice",data:=.fields #[vl,vu,.none]}}:=I3.kept (t':=s3.toks) λ b ob q=>Heap.get?_push_of_some _ q;obtain ⟨T,id,hT,ht,hg⟩:=hr pins {s3 with heap:=s3.heap.push {cls:=.type "slice",data:=.fields #[vl,vu,.none]}} σ H3 x v vl vu l u s3.heap.objs.size Q I4 r1 (Heap.IsSliceOf.new ..) pl pu q3;show wpAny (model X.prog X.w) X.A (subscriptTail e (.Slice lo hi none p2) v (.ref s3.heap.objs.size)) (EP X pins σ Q) X.xe {s3 with heap:=s3.heap.push {cls:=.type "slice",data:=.fields #[vl,vu,.none]}};exact tail_any (ops:=[.ref s3.heap.objs.size,v]) ht hT hg (by with_unfolding_all rfl)
def gr (xs:List V) (lo hi:Option Int):List V:=(xs.drop (HT.sIx xs.length 0 lo)).take (HT.sIx xs.length xs.length hi - HT.sIx xs.length 0 lo)
theorem jC (xs:List V) (lo hi:Option Int):(gr xs lo hi).length<=xs.length:=by unfold gr;rw [LW,LU];omega
def DP (K:Frag):V->Option Int->Option Int->Hp->VK->Prop:=λ x lo hi H Q=> ∃a xs,x=.ref a/\cg K H a xs/\
 ¬(HT.sIx xs.length 0 lo=0/\HT.sIx xs.length xs.length hi=xs.length)/\∀p,H p=none->Q (.ref p) (upd H p (.tup (gr xs lo hi)))
theorem DC:uP X (DP X.K):=by
 intro pins s σ H x v vl vu lo hi sl Q I rx hs pl pu h;obtain ⟨a,xs,rfl,hx,hw,q⟩:=h;cases rx;obtain ⟨its,r,ht,hz⟩:=I.tuple hx;have hlen:its.toArray.size=xs.length:=by rw [LB];exact r.length.symm
 refine ⟨"tuple",_,PyProof.Rows.slot_tuple_getitem.lookup,ht.typeIs,?_⟩;refine HT.getItem_tuple_cut ht hs pl pu (by rw [hlen];exact hw) ?_ (by rw [hlen];exact hz);rw [hlen];refine ⟨.ref s.heap.objs.size,_,I.laid (t':=s.toks) (o:=.tup (gr xs lo hi)) (λ b ob q=>Heap.get?_push_of_some _ q) (M6 _) ?_,rfl,q _ (I.hok.fresh (M6 _))⟩;exact ⟨M7 (jC xs lo hi) hz,_,(r.drop (HT.sIx xs.length 0 lo)).take (HT.sIx xs.length xs.length hi - HT.sIx xs.length 0 lo),IsTup.new _ _⟩
end
end L2
namespace L2
open PySem PySem.Spec PyProof.Rows
def ixN (n:Nat) (i:Int):Option Nat:=if 0<=i then (if i<n then some i.toNat else none) else if -(n:Int)<=i then some (i+n).toNat else none
def kA {α:Type}(xs:List α) (i:Int):Option α:=(ixN xs.length i).bind λ j=>xs[j]?
theorem yv {n:Nat}{i:Int}{j:Nat}(h:ixN n i=some j):seqIndex? i n=some j/\j<n/\-(n:Int)<=i/\i<n:=by
 unfold ixN at h
 by_cases h0:0<=i
 ·rw [if_pos h0] at h
  by_cases h1:i<n
  ·rw [if_pos h1] at h;have e:i.toNat=j:=Option.some.inj h;exact ⟨by rw [seqIndex_of h0 h1,e],by omega,by omega,h1⟩
  ·rw [if_neg h1] at h;cases h
 ·rw [if_neg h0] at h
  by_cases h1: -(n:Int)<=i
  ·rw [if_pos h1] at h;have e:(i+n).toNat=j:=Option.some.inj h;exact ⟨by rw [seqIndex_neg (by omega) h1,e],by omega,h1,by omega⟩
  ·rw [if_neg h1] at h;cases h
theorem nG {α:Type}{xs:List α}{i:Int}{v:α}(h:kA xs i=some v):∃j,seqIndex? i xs.length=some j/\xs[j]? =some v/\j<xs.length/\-(xs.length:Int)<=i/\i<xs.length:=by
 unfold kA at h;cases e:ixN xs.length i with
 | none=>rw [e] at h;cases h
 | some j=>
   rw [e] at h;obtain ⟨h1,h2,h3,h4⟩:=yv e;exact ⟨j,h1,h,h2,h3,h4⟩
theorem bo {α:Type}{xs:List α}{j:Nat}{v:α}(h:xs[j]? =some v):kA xs (j:Int)=some v:=by
 have hj:j<xs.length:=(LI.mp h).1;have e:ixN xs.length (j:Int)=some j:=by unfold ixN;rw [if_pos (by omega),if_pos (by omega)];simp
 unfold kA;rw [e];exact h
def nI (b:Expr):Prop:= ∀o i,subscripted b false o i=operate [o,i] (getItem o i)
def tp (X:Cx) (r:R2):Prop:=
 ∀(value slice:Expr) (pins:List (Addr×Obj)) (s:Shared) (σ:St) (H:Hp) (x y:V) (v u:Value) (Q:VK),aJ X pins σ H s->aN x v->aN y u->r x y H Q->
  subscripted slice false v u=operate [v,u] (getItem v u)->wpAny (model X.prog X.w) X.A (subscriptTail value slice v u) (EP X pins σ Q) X.xe s
def uR (X:Cx) (id:String) (r:V->List V->Hp->VK->Prop):Prop:=
 ∀(pins:List (Addr×Obj)) (s:Shared) (σ:St) (H:Hp) (x:V) (xs:List V) (v:Value) (us:List Value) (Q:VK),aJ X pins σ H s->aN x v->aV xs us->r x xs H Q->
  wpAny (model X.prog X.w) X.A (call (.builtin id) (v::us)) (EP X pins σ Q) X.xe s
section
variable {X:Cx}{a b:Expr}{ta tb:TE}{pos:Pos}
theorem tp.or {r r':R2}(h:tp X r) (h':tp X r'):tp X (λ x y H Q=>r x y H Q\/r' x y H Q):=by
 intro value slice pins s σ H x y v u Q I rx ry q hs
 rcases q with q | q
 ·exact h value slice pins s σ H x y v u Q I rx ry q hs
 ·exact h' value slice pins s σ H x y v u Q I rx ry q hs
theorem IP {r:R2}(hr:tp X r) (ha:PE X a ta) (hb:PE X b tb) (hs:nI b):PE X (.Subscript a b pos) (KM r ta tb):=by intro pins s σ H Q I h;exact Subscript_ (EL ha hb I h λ v u s2 x y H2 I2 rx ry q=>hr a b pins s2 σ H2 x y v u Q I2 rx ry q (hs _ _))
def IK (K:Frag):R2:=λ x y H Q=> ∃p xs i v,x=.ref p/\y=.int i/\aI K H p xs/\kA xs i=some v/\Q v H
def II (K:Frag):R2:=λ x y H Q=> ∃p xs i v,x=.ref p/\y=.int i/\cg K H p xs/\kA xs i=some v/\Q v H
def IJ:R2:=λ x y H Q=> ∃z i c,x=.str z/\y=.int i/\z.length<=sizeLine/\kA z.cps.toList i=some c/\Q (.str ⟨#[c]⟩) H
theorem yu:tp X (IK X.K):=by
 intro value slice pins s σ H x y v u Q I rx ry h hs;obtain ⟨p,xs,i,z,rfl,rfl,hq,he,q⟩:=h;cases rx;obtain ⟨t,rfl⟩:=ry;obtain ⟨its,r,pl,hz⟩:=I.list hq;obtain ⟨j,h1,h2,h3,h4,h5⟩:=nG he;obtain ⟨w,ew,rw'⟩:=r.get h2;have hl:=r.length;have hn:=ke;have fin:EP X pins σ Q w s:=⟨z,H,I,rw',q⟩
 by_cases h0:0<=i
 ·have hj:i.toNat=j:=by rw [seqIndex_of h0 h5] at h1;exact Option.some.inj h1
  exact item_listR pl.isList h0 (by omega) (by rw [hj];simpa using ew) fin hs
 ·have hj:(i+(its.toArray.size:Int)).toNat=j:=by rw [seqIndex_neg (by omega) h4] at h1;rw [LB,<-hl];exact Option.some.inj h1
  exact subscriptTail_builtinR (x:=w) pl.isList.typeIs slot_list_getitem.lookup
   (wpAny_getItem_list_neg (Q:=λ r s'=>r=w/\EP X pins σ Q r s') pl.isList (by omega) (by rw [LB]<;>omega) (by omega) (by rw [hj];simpa using ew) ⟨rfl,fin⟩) hs
theorem Em:tp X (II X.K):=by
 intro value slice pins s σ H x y v u Q I rx ry h hs;obtain ⟨p,xs,i,z,rfl,rfl,hq,he,q⟩:=h;cases rx;obtain ⟨t,rfl⟩:=ry;obtain ⟨its,r,pl,hz⟩:=I.tuple hq;obtain ⟨j,h1,h2,h3,h4,h5⟩:=nG he;obtain ⟨w,ew,rw'⟩:=r.get h2;have hl:=r.length;have hn:=ke;have fin:EP X pins σ Q w s:=⟨z,H,I,rw',q⟩;exact subscriptTail_builtinR (x:=w) pl.typeIs slot_tuple_getitem.lookup
  (getItem_tuple (j:=j) (Q:=λ r s'=>r=w/\EP X pins σ Q r s') pl (by omega) (by omega) (by rw [LB,<-hl];exact h1) (by simpa using ew) ⟨rfl,fin⟩) hs
theorem En:tp X IJ:=by
 intro value slice pins s σ H x y v u Q I rx ry h hs;obtain ⟨z,i,c,rfl,rfl,hz,he,q⟩:=h;obtain ⟨t,rfl⟩:=rx;obtain ⟨t',rfl⟩:=ry;obtain ⟨j,h1,h2,h3,h4,h5⟩:=nG he;have hl:z.cps.toList.length=z.length:=by simp [Str.length]
 rw [hl] at h1 h4 h5;have hn:=ke;exact tail_any (typeIs_str s z t) slot_str_getitem.lookup (getItem_str (c:=c) (by
  have e1:decide (i< -(2 ^ 63:Int))=false:=decide_eq_false (by omega);have e2:decide (i≥2 ^ 63)=false:=decide_eq_false (by omega);rw [e1,e2,Ny]) (by rw [h1];simpa using h2) ⟨.str ⟨#[c]⟩,H,I.tok _,⟨_,rfl⟩,q⟩) hs
def rIx (K:Frag):R2:=λ x y H Q=>IK K x y H Q\/II K x y H Q\/IJ x y H Q
theorem Eo:tp X (rIx X.K):=yu.or (Em.or En)
theorem ma (lo hi:Option Int) (n:Nat):(sliceBounds lo hi none n).1=((HT.sIx n 0 lo:Nat):Int)/\(sliceBounds lo hi none n).2.1=((HT.sIx n n hi:Nat):Int)/\(sliceBounds lo hi none n).2.2=1:=by
 refine ⟨?_,?_,rfl⟩
 ·cases lo with
  | none=>simp [sliceBounds,HT.sIx]
  | some i=>
    simp only [sliceBounds,HT.sIx,NO,show (1:Int) > 0 by decide,if_true]
    by_cases h:i<0
    ·simp only [h,if_true]<;>omega
    ·simp only [h,if_false]<;>omega
 ·cases hi with
  | none=>simp [sliceBounds,HT.sIx]
  | some i=>
    simp only [sliceBounds,HT.sIx,NO,show (1:Int) > 0 by decide,if_true]
    by_cases h:i<0
    ·simp only [h,if_true]<;>omega
    ·simp only [h,if_false]<;>omega
theorem kH (its:List Value) (lo hi:Option Int):slicePick its.toArray lo hi none=((its.drop (HT.sIx its.length 0 lo)).take (HT.sIx its.length its.length hi - HT.sIx its.length 0 lo)).toArray:=by obtain ⟨h1,h2,h3⟩:=ma lo hi its.toArray.size;unfold slicePick;rw [h1,h2,h3];simp only [sliceRange_one,pick_run,LB]<;>rfl
def KS (K:Frag):V->Option Int->Option Int->Hp->VK->Prop:=λ x lo hi H Q=> ∃a xs,x=.ref a/\aI K H a xs/\∀p,H p=none->Q (.ref p) (upd H p (.lst (gr xs lo hi)))
theorem xO:uP X (KS X.K):=by intro pins s σ H x v vl vu lo hi sl Q I rx hs pl pu h;obtain ⟨a,xs,rfl,hx,q⟩:=h;cases rx;obtain ⟨its,r,ht,hz⟩:=I.list hx;have hlen:=r.length;refine ⟨"list",_,slot_list_getitem.lookup,ht.isList.typeIs,?_⟩;refine wpAny_getItem_list_slice ht.isList hs pl pu .none (by simp) ?_ (by rw [LB]<;>omega);rw [kH,<-hlen];refine ⟨.ref s.heap.objs.size,_,I.laid (t':=s.toks) (o:=.lst (gr xs lo hi)) (λ b ob q=>Heap.get?_push_of_some _ q) (M6 _) ?_,rfl,q _ (I.hok.fresh (M6 _))⟩;exact ⟨M7 (jC xs lo hi) hz,_,0,(r.drop (HT.sIx xs.length 0 lo)).take (HT.sIx xs.length xs.length hi - HT.sIx xs.length 0 lo),Heap.get?_push_size _ rfl⟩
def flatV:V->Bool
 | .non=>true
 | .bl _=>true
 | .int _=>true
 | .str _=>true
 | _=>false
def eqV:V->V->Bool
 | .non,.non=>true
 | .bl a,.bl b=>a == b
 | .bl a,.int b=>(if a then 1 else 0) == b
 | .int a,.bl b=>a == (if b then 1 else 0)
 | .int a,.int b=>a == b
 | .str a,.str b=>a == b
 | _,_=>false
theorem wX {A:Around}{s:Shared}{y x:V}{u v:Value}(ry:aN y u) (rx:aN x v) (fy:flatV y=true) (fx:flatV x=true):SeqAt.EqAt A s u v (eqV y x):=by
 cases y with
 | non=>
   cases ry;cases x with
   | non=>cases rx;exact SeqAt.EqAt.same _
   | bl b=>cases rx;exact SeqAt.EqAt.none_bool b
   | int b=>obtain ⟨t,rfl⟩:=rx;exact SeqAt.EqAt.none_int b t
   | str b=>obtain ⟨t,rfl⟩:=rx;exact SeqAt.EqAt.none_str b t
   | _=>exact absurd (show false=true from fx) Nt
 | bl a=>
   cases ry;cases x with
   | non=>cases rx;exact SeqAt.EqAt.bool_none a
   | bl b=>cases rx;exact SeqAt.EqAt.bool_bool a b
   | int b=>obtain ⟨t,rfl⟩:=rx;exact SeqAt.EqAt.bool_int a b t
   | str b=>obtain ⟨t,rfl⟩:=rx;exact SeqAt.EqAt.bool_str a b t
   | _=>exact absurd (show false=true from fx) Nt
 | int a=>
   obtain ⟨t',rfl⟩:=ry;cases x with
   | non=>cases rx;exact SeqAt.EqAt.int_none a t'
   | bl b=>cases rx;exact SeqAt.EqAt.int_bool a t' b
   | int b=>obtain ⟨t,rfl⟩:=rx;exact SeqAt.EqAt.int_int a t' b t
   | str b=>obtain ⟨t,rfl⟩:=rx;exact SeqAt.EqAt.int_str a t' b t
   | _=>exact absurd (show false=true from fx) Nt
 | str a=>
   obtain ⟨t',rfl⟩:=ry;cases x with
   | non=>cases rx;exact SeqAt.EqAt.str_none a t'
   | bl b=>cases rx;exact SeqAt.EqAt.str_bool a t' b
   | int b=>obtain ⟨t,rfl⟩:=rx;exact SeqAt.EqAt.str_int a t' b t
   | str b=>obtain ⟨t,rfl⟩:=rx;exact SeqAt.EqAt.str_str a t' b t
   | _=>exact absurd (show false=true from fx) Nt
 | _=>exact absurd (show false=true from fy) Nt
def pA (x:V) (u:Value):Bool:=match u with
 | .none=>eqV .non x
 | .bool b=>eqV (.bl b) x
 | .int i _=>eqV (.int i) x
 | .str z _=>eqV (.str z) x
 | _=>false
theorem qU {x y:V}{u:Value}(r:aN y u) (f:flatV y=true):pA x u=eqV y x:=by
 cases y with
 | non=>cases r;rfl
 | bl b=>cases r;rfl
 | int i=>obtain ⟨t,rfl⟩:=r;rfl
 | str z=>obtain ⟨t,rfl⟩:=r;rfl
 | _=>exact absurd (show false=true from f) Nt
theorem iW {x:V}:∀{xs:List V}{us:List Value},aV xs us->xs.all flatV=true->us.any (pA x)=xs.any λ y=>eqV y x
 | _,_,.nil,_=>rfl
 | y::xs,u::us,.cons r t,f=>by rw [LY,Nu] at f;rw [L9,L9,qU r f.1,iW t f.2]
theorem fU {A:Around}{s:Shared}{x:V}{v:Value}(rx:aN x v) (fx:flatV x=true):∀{xs:List V}{us:List Value},aV xs us->xs.all flatV=true->∀u∈us,SeqAt.EqAt A s u v (pA x u)
 | _,_,.nil,_=>λ u hu=>by cases hu
 | y::xs,u::us,.cons r t,f=>λ u' hu=>by
   rw [LY,Nu] at f
   rcases Lw.mp hu with rfl | hu
   ·rw [qU r f.1];exact wX r rx f.1 fx
   ·exact fU rx fx t f.2 u' hu
def Dc (x:V) (xs:List V):Bool:=xs.any λ y=>eqV y x
def rW (K:Frag) (neg:Bool):R2:=λ x y H Q=> ∃p xs,y=.ref p/\(aI K H p xs\/cg K H p xs)/\flatV x=true/\xs.all flatV=true/\Q (.bl (if neg then !Dc x xs else Dc x xs)) H
theorem ub:ik X (compareOp .In) (rW X.K false):=by
 intro pins s σ H x y v u Q I rx ry h;obtain ⟨p,xs,rfl,hq,fx,fs,q⟩:=h;cases ry
 rcases hq with hq | hq
 ·obtain ⟨its,r,pl,hz⟩:=I.list hq;refine SeqAt.in_listAt (pA x) pl.isList (λ w hw=>fU rx fx r fs w (by simpa using hw)) ⟨.bl _,H,I,rfl,?_⟩;rw [show its.toArray.any (pA x)=its.any (pA x) by simp,iW r fs];exact q
 ·obtain ⟨its,r,pl,hz⟩:=I.tuple hq;refine SeqAt.in_tupleAt (pA x) pl (λ w hw=>fU rx fx r fs w (by simpa using hw)) ⟨.bl _,H,I,rfl,?_⟩;rw [show its.toArray.any (pA x)=its.any (pA x) by simp,iW r fs];exact q
theorem mL:ik X (compareOp .NotIn) (rW X.K true):=by
 intro pins s σ H x y v u Q I rx ry h;obtain ⟨p,xs,rfl,hq,fx,fs,q⟩:=h;cases ry
 rcases hq with hq | hq
 ·obtain ⟨its,r,pl,hz⟩:=I.list hq;refine SeqAt.notIn_listAt (pA x) pl.isList (λ w hw=>fU rx fx r fs w (by simpa using hw)) ⟨.bl _,H,I,rfl,?_⟩;rw [show its.toArray.any (pA x)=its.any (pA x) by simp,iW r fs];exact q
 ·obtain ⟨its,r,pl,hz⟩:=I.tuple hq;refine SeqAt.notIn_tupleAt (pA x) pl (λ w hw=>fU rx fx r fs w (by simpa using hw)) ⟨.bl _,H,I,rfl,?_⟩;rw [show its.toArray.any (pA x)=its.any (pA x) by simp,iW r fs];exact q
theorem nE:bn X (.builtin "len") (λ xs H Q=> ∃p ys,xs=[.ref p]/\(aI X.K H p ys\/cg X.K H p ys)/\Q (.int ys.length) H):=by
 intro pins s σ H xs us Q I r h;obtain ⟨p,ys,rfl,hq,q⟩:=h;obtain ⟨u,rfl,rx⟩:=cN r;cases rx;have hn:=ke
 rcases hq with hq | hq
 ·obtain ⟨its,r',pl,hz⟩:=I.list hq;have hlen:=r'.length;exact Calls.call_len_list pl.isList (by simp only [LB]<;>omega) ⟨.int ys.length,H,I.tok _,⟨s.toks+1,by rw [LB,hlen]⟩,q⟩
 ·obtain ⟨its,r',pl,hz⟩:=I.tuple hq;have hlen:=r'.length;exact len_tuple pl (by simp only [LB]<;>omega) ⟨.int ys.length,H,I.tok _,⟨s.toks+1,by rw [LB,hlen]⟩,q⟩
theorem nB:bn X (.builtin "len") (λ xs H Q=> ∃z,xs=[.str z]/\z.length<=sizeLine/\Q (.int z.length) H):=by intro pins s σ H xs us Q I r h;obtain ⟨z,rfl,hz,q⟩:=h;obtain ⟨u,rfl,t,rfl⟩:=cN r;have hn:=ke;exact len_str (by omega) ⟨.int z.length,H,I.tok _,⟨_,rfl⟩,q⟩
theorem bn.or {f:Value}{r r':List V->Hp->VK->Prop}(h:bn X f r) (h':bn X f r'):bn X f (λ xs H Q=>r xs H Q\/r' xs H Q):=by
 intro pins s σ H xs us Q I rs q
 rcases q with q | q
 ·exact h pins s σ H xs us Q I rs q
 ·exact h' pins s σ H xs us Q I rs q
theorem nA:bn X (.type "list") (λ xs H Q=> ∃p ys,xs=[.ref p]/\(aI X.K H p ys\/cg X.K H p ys)/\∀l,H l=none->Q (.ref l) (upd H l (.lst ys))):=by
 intro pins s σ H xs us Q I r h;obtain ⟨p,ys,rfl,hq,q⟩:=h;obtain ⟨u,rfl,rx⟩:=cN r;cases rx;have fin:∀(its:List Value),aV ys its->ys.length<=sizeLine->∀(h':Heap) (c':Nat),(∀b o',s.heap.get? b=some o'->h'.get? b=some o')->
   h'.get? s.heap.objs.size=some {cls:=.type "list",dict:=none,data:=.seq its.toArray c',slots:= #[]}->EP X pins σ Q (.ref s.heap.objs.size) {s with heap:=h'}:=λ its r' hz h' c' kp e=>
  ⟨.ref s.heap.objs.size,_,I.laid (t':=s.toks) kp (M6 _) (show bB X.prog X.w _ h' _ (.lst ys) from ⟨hz,its,c',r',e⟩),rfl,q _ (I.hok.fresh (M6 _))⟩
 rcases hq with hq | hq
 ·obtain ⟨its,r',pl,hz⟩:=I.list hq;have hlen:=r'.length;obtain ⟨o,ho,hc,n,hd⟩:=pl.isList;exact call_list_seq p (.inl rfl) ho hc hd (λ h' c' kp e=>fin its r' hz h' c' kp e) (by simp only [LB]<;>omega)
 ·obtain ⟨its,r',pl,hz⟩:=I.tuple hq;have hlen:=r'.length;obtain ⟨o,ho,hc,n,hd⟩:=pl;exact call_list_seq p (.inr rfl) ho hc hd (λ h' c' kp e=>fin its r' hz h' c' kp e) (by simp only [LB]<;>omega)
def Dt (K:Frag) (T:String) (x:V) (H:Hp):Prop:=match x with
 | .str _=>T="str"
 | .int _=>T="int"
 | .ref p=>(T="list"/\∃xs,aI K H p xs)\/(T="tuple"/\∃o,K.lookup p=some o/\o.cls=.type "tuple"/\o.dict=none)\/
   (T="dict"/\((∃kvs,H p=some (.dK kvs))\/∃kvs,H p=some (.dT kvs)))\/(T="set"/\∃S n,H p=some (.set S n))
 | _=>False
theorem iY {pins:List (Addr×Obj)}{σ:St}{H:Hp}{s:Shared}{T:String}{x:V}{v:Value}(I:aJ X pins σ H s) (r:aN x v) (ty:Dt X.K T x H):
  s.TypeIs v T/\∀a,v=.ref a->∃ob,s.heap.get? a=some ob/\ob.dict=none:=by
 cases x with
 | str z=>
   obtain ⟨t,rfl⟩:=r;cases (show T="str" from ty);exact ⟨typeIs_str s z t,λ _ e=>nomatch e⟩
 | int i=>
   obtain ⟨t,rfl⟩:=r;cases (show T="int" from ty);exact ⟨typeIs_int s i t,λ _ e=>nomatch e⟩
 | ref p=>
   cases r
   rcases ty with ⟨rfl,xs,hq⟩ | ⟨rfl,o,hk,hc,hd⟩ | ⟨rfl,hk⟩ | ⟨rfl,S,n,hk⟩
   ·obtain ⟨its,_,pl,_⟩:=I.list hq;refine ⟨pl.isList.typeIs,λ a e=>?_⟩;cases e;obtain ⟨o,n,e,c,hd,_⟩:=pl;exact ⟨o,e,hd⟩
   ·refine ⟨⟨o,I.kIn p o hk,hc⟩,λ a e=>?_⟩;cases e;exact ⟨o,I.kIn _ o hk,hd⟩
   ·have z:∃o,s.heap.get? p=some o/\o.ExactDict:=by
     rcases hk with ⟨kvs,hk⟩ | ⟨kvs,hk⟩
     ·obtain ⟨_,_,_,_,o,_,_,e,ex,_⟩:=I.hok p _ hk;exact ⟨o,e,ex⟩
     ·obtain ⟨_,_,_,_,o,_,_,e,ex,_⟩:=I.hok p _ hk;exact ⟨o,e,ex⟩
    obtain ⟨o,e,ex⟩:=z;refine ⟨⟨o,e,ex.1⟩,λ a e2=>?_⟩;cases e2;exact ⟨o,e,ex.2.1⟩
   ·obtain ⟨o,_,_,_,e,ex,_⟩:=I.hok p _ hk;refine ⟨⟨o,e,ex.1⟩,λ a e2=>?_⟩;cases e2;exact ⟨o,e,ex.2.1⟩
 | _=>exact False.elim ty
variable {o e:Expr}{es:List Expr}{to:TE}{t:TA}{name:Str}{apos cpos:Pos}{T id:String}{r:V->List V->Hp->VK->Prop}
end
end L2
namespace L2
open PySem PySem.Spec PyProof.Rows
def JT (X:Cx) (id:String) (r:V->List V->Hp->VK->Prop):Prop:=
 ∀(pins:List (Addr×Obj)) (s:Shared) (σ:St) (H:Hp) (x:V) (xs:List V) (v:Value) (us:List Value) (Q:VK),aJ X pins σ H s->aN x v->aV xs us->r x xs H Q->
  wpAny (model X.prog X.w) X.A (call (.builtin id) (v::us)) (EP X pins σ Q) X.xe s
theorem aV.one:∀{x:V}{us:List Value},aV [x] us->∃u,us=[u]/\aN x u
 | _,_,.cons r .nil=>⟨_,rfl,r⟩
theorem aV.zero:∀{us:List Value},aV [] us->us=[]
 | _,.nil=>rfl
theorem aV.dropLast {xs:List V}{us:List Value}(h:aV xs us):aV xs.dropLast us.dropLast:=by
 induction h with
 | nil=>exact .nil
 | cons r t ih=>
   cases t with
   | nil=>exact .nil
   | cons q t'=>exact .cons r ih
theorem qT {α:Type}(l:List α):l.eraseIdx (l.length - 1)=l.dropLast:=by
 induction l with
 | nil=>rfl
 | cons a r ih=>
   cases r with
   | nil=>rfl
   | cons b r=>
     have e:(a::b::r).length - 1=((b::r).length - 1)+1:=by have h1:(a::b::r).length=r.length+2:=rfl;have h2:(b::r).length=r.length+1:=rfl;omega
     rw [e,List.eraseIdx_cons_succ,ih]
     all_goals rfl
section
variable {X:Cx}{pins:List (Addr×Obj)}{σ:St}{H:Hp}{s:Shared}{l b:Addr}{xs ys zs:List V}
theorem aJ.lset {its its':List Value}{n:Nat}{f:Array Value->Array Value}{t':Nat}(I:aJ X pins σ H s) (hH:H l=some (.lst xs))
  (e:s.heap.get? l=some {cls:=.type "list",data:=.seq its.toArray n}) (hf:f its.toArray=its'.toArray) (hv:aV ys its') (hz:ys.length<=sizeLine):
  aJ X pins σ (upd H l (.lst ys)) {s with heap:=s.heap.update l (Obj.mapSeq f),toks:=t'}:=by
 have q:=PySem.IsL.update e f;rw [hf] at q;refine I.write (x:=l) (e:=l) (by rw [hH];exact trivial) (.inl rfl) (λ b' u hb hu=>(Heap.get?_update_other s.heap (Obj.mapSeq f) (Ne.symm hb)).trans hu) ⟨_,q⟩ ?_;exact ⟨hz,its',_,hv,q⟩
theorem aJ.lnew {its:List Value}{t':Nat}(I:aJ X pins σ H s) (hv:aV ys its) (hz:ys.length<=sizeLine):
  aJ X pins σ (upd H s.heap.objs.size (.lst ys)) {s with heap:=s.heap.push {cls:=.type "list",data:=.seq its.toArray},toks:=t'}:=
 I.laid (λ _ _ q=>Heap.get?_push_of_some _ q) (M6 _) ⟨hz,its,0,hv,Heap.get?_push_size _ rfl⟩
theorem aJ.fresh (I:aJ X pins σ H s):H s.heap.objs.size=none:=I.hok.fresh (M6 _)
theorem aJ.lstM (I:aJ X pins σ H s) (hH:H l=some (.lst xs)):xs.length<=sizeLine/\∃(its:List Value) (n:Nat),aV xs its/\xs.length=its.length/\s.heap.get? l=some {cls:=.type "list",data:=.seq its.toArray n}:=by obtain ⟨z,its,n,r,e⟩:=I.hok l _ hH;exact ⟨z,its,n,r,r.length,e⟩
theorem j9 {n:Nat}(h:n<=sizeLine):Builtin.List.listTooLong n=false:=by unfold Builtin.List.listTooLong;exact decide_eq_false (by omega)
end
section
variable {X:Cx}
def xW:V->List V->Hp->VK->Prop:=λ x vs H Q=> ∃l xs y,x=.ref l/\vs=[y]/\H l=some (.lst xs)/\xs.length<sizeLine/\Q .non (upd H l (.lst (xs++[y])))
theorem ue:JT X "list.append" xW:=by intro pins s σ H x vs v us Q I rx rv h;obtain ⟨l,xs,y,rfl,rfl,hH,hz,q⟩:=h;cases rx;obtain ⟨u,rfl,ru⟩:=rv.one;obtain ⟨z,its,n,r,hl,e⟩:=I.lstM hH;refine call_meets F.slot_list_append ⟨_,e,rfl⟩ F.entry_list_append (F.args_list_append_2 _ _) (PySem.list_append l its.toArray n u (by rw [LB];omega)) ⟨e,?_⟩;refine ⟨.non,_,I.lset (its':=its++[u]) hH e (by simp) (r.append (.cons ru .nil)) ?_,rfl,q⟩;rw [Lz,MF];omega
def jQ:V->List V->Hp->VK->Prop:=λ x vs H Q=> ∃l b xs zs,x=.ref l/\vs=[.ref b]/\H l=some (.lst xs)/\H b=some (.lst zs)/\xs.length+zs.length<=sizeLine/\Q .non (upd H l (.lst (xs++zs)))
theorem ud:JT X "list.extend" jQ:=by
 intro pins s σ H x vs v us Q I rx rv h;obtain ⟨l,b,xs,zs,rfl,rfl,hH,hB,hz,q⟩:=h;cases rx;obtain ⟨u,rfl,ru⟩:=rv.one;cases ru;obtain ⟨z,its,n,r,hl,e⟩:=I.lstM hH;obtain ⟨z2,its2,n2,r2,hl2,e2⟩:=I.lstM hB;have hsz:its.toArray.size+its2.toArray.size<=sizeLine:=by rw [LB,LB];omega
 have hlong:¬(!its.toArray.isEmpty&&Builtin.List.listTooLong (its.toArray.size+its2.toArray.size))=true:=by rw [j9 hsz,Bool.and_false];exact Nt
 refine call_meets F.slot_list_extend ⟨_,e,rfl⟩ F.entry_list_extend (F.args_list_extend_2 _ _)
  (AutoSeq1.list_extend_list_list_0 l its.toArray n b its2.toArray n2 hlong (by rw [LB];omega) (by omega)) ⟨e,e2,?_⟩
 refine ⟨.non,_,I.lset (its':=its++its2) hH e (by simp) (r.append r2) ?_,rfl,q⟩;rw [Lz];omega
def KU:V->List V->Hp->VK->Prop:=λ x vs H Q=> ∃l xs y,x=.ref l/\vs=[]/\H l=some (.lst xs)/\xs[xs.length - 1]? =some y/\Q y (upd H l (.lst xs.dropLast))
theorem KZ:JT X "list.pop" KU:=by
 intro pins s σ H x vs v us Q I rx rv h;obtain ⟨l,xs,y,rfl,rfl,hH,hy,q⟩:=h;cases rx;have hus:=rv.zero;subst hus;obtain ⟨z,its,n,r,hl,e⟩:=I.lstM hH;obtain ⟨u,hu,ru⟩:=r.get hy;have hy':its.toArray[its.toArray.size - 1]? =some u:=by show its.toArray[its.length - 1]? =some u;rw [<-NH,<-hl];exact hu
 refine call_meets F.slot_list_pop ⟨_,e,rfl⟩ F.entry_list_pop (F.args_list_pop_1 _) (MeetsSeq.list_pop_last l its.toArray n u hy' (by rw [LB];omega)) ⟨e,?_⟩;refine ⟨y,_,I.lset (its':=its.dropLast) hH e ?_ r.dropLast ?_,ru,q⟩
 ·show its.toArray.eraseIdxIfInBounds (its.toArray.size - 1)=its.dropLast.toArray;rw [LB,List.eraseIdxIfInBounds_toArray,qT]
 ·rw [List.length_dropLast];omega
def vP:V->List V->Hp->VK->Prop:=λ x vs H Q=> ∃l xs,x=.ref l/\vs=[]/\H l=some (.lst xs)/\Q .non (upd H l (.lst []))
theorem v7:JT X "list.clear" vP:=by intro pins s σ H x vs v us Q I rx rv h;obtain ⟨l,xs,rfl,rfl,hH,q⟩:=h;cases rx;have hus:=rv.zero;subst hus;obtain ⟨z,its,n,r,hl,e⟩:=I.lstM hH;refine call_meets F.slot_list_clear ⟨_,e,rfl⟩ F.entry_list_clear (F.args_list_clear_1 _) (AutoSeq1.list_clear_list_0 l its.toArray n (by rw [LB];omega)) ⟨e,?_⟩;exact ⟨.non,_,I.lset (its':=[]) (ys:=[]) hH e rfl .nil (M9 _),rfl,q⟩
def DQ:R2:=λ x y H Q=> ∃l b xs zs,x=.ref l/\y=.ref b/\H l=some (.lst xs)/\H b=some (.lst zs)/\xs.length+zs.length<=sizeLine/\∀p,H p=none->Q (.ref p) (upd H p (.lst (xs++zs)))
theorem D5:ik X (binaryOp .Add) DQ:=by
 intro pins s σ H x y v u Q I rx ry h;obtain ⟨l,b,xs,zs,rfl,rfl,hH,hB,hz,q⟩:=h;cases rx;cases ry;obtain ⟨z,its,n,r,hl,e⟩:=I.lstM hH;obtain ⟨z2,its2,n2,r2,hl2,e2⟩:=I.lstM hB;refine PySem.P.add_list e e2 ?_ (by rw [LB,LB];omega);have ea:its.toArray++its2.toArray=(its++its2).toArray:=by simp
 rw [ea];exact ⟨.ref _,_,I.lnew (t':=s.toks) (r.append r2) (by rw [Lz];omega),rfl,q _ I.fresh⟩
end
section
variable {prog:Program}{w:World}{A:Around}{E:Value->Shared->Prop}{s:Shared}
theorem rj {a c n:Nat}(hac:a<=c) (hc:c<=n):sliceBounds (some (a:Int)) (some (c:Int)) none n=((a:Int),(c:Int),1):=by
 simp only [sliceBounds,NO];have h1:¬((a:Int)<0):=by omega
 have h2:¬((c:Int)<0):=by omega
 simp only [h1,h2,if_false,show (1:Int) > 0 by decide,if_true];congr 1
 ·omega
 ·congr 1;omega
set_option maxRecDepth 100000 in
theorem xw {l b sl:Addr}{items new:Array Value}{n n2:Nat}{vl vu:Value}{a c:Nat}{Q:Unit->Shared->Prop}
  (e:s.heap.get? l=some {cls:=.type "list",data:=.seq items n}) (e2:s.heap.get? b=some {cls:=.type "list",data:=.seq new n2}) (hne:l≠b)
  (hs:s.heap.IsSliceOf sl vl vu .none) (pl:IsPart vl (some (a:Int))) (pu:IsPart vu (some (c:Int))) (hac:a<=c) (hc:c<=items.size)
  (hsz:items.size+new.size<=sizeLine) (h:Q () {s with heap:=s.heap.update l (Obj.mapSeq λ xs=>xs.extract 0 a++new++xs.extract c xs.size)}):
  wpAny (model prog w) A (setItem (.ref l) (.ref sl) (.ref b)) Q E s:=by
 have hl:s.heap.IsList l items:=PySem.IsL.isList e;have hb:s.heap.IsList b new:=PySem.IsL.isList e2;obtain ⟨os,hos,hcs,hds⟩:=id hs;have hTs:s.TypeIs (.ref sl) "slice":=⟨os,hos,hcs⟩;have hstep:¬((rawPart none == rawInt 0)=true):=Nt;have hsame:Builtin.List.listSameRef (.ref l) (.ref b)=false:=by unfold Builtin.List.listSameRef;exact beq_eq_false_iff_ne.mpr hne
 have hmax:(max (a:Int) (c:Int)).toNat=c:=by omega
 have hz':((λ xs:Array Value=>xs.extract 0 a++new++xs.extract c xs.size) items).size<=sizeLine+1:=by simp only [Array.size_append,Array.size_extract];omega
 unfold setItem
 try with_reducible refine wpAny_holding ?_
 first | refine wpAny_bind (wpAny_pure ?_) | skip
 refine wpAny_bind (wpAny_sequenceKey hl.typeIs (by decide) ?_);refine wpAny_bind (wpAny_callSpecial?_slot (name:=Str.ofString "__setitem__") hl.typeIs slot_list_setitem
  (wpAny_call_entry slot_list_setitem hl.typeIs entry_list_setitem ?_ (args_list_setitem _ _ _)))
 show wpAny _ _ (Builtin.List.listSubscript? (.ref sl) >>= _) _ _ s;refine wpAny_bind ?_;unfold Builtin.List.listSubscript?;refine wpAny_bind (wpAny_specialOf hTs slice_no_index ?_);simp only [Option.isNone_none,if_true];refine wpAny_pure ?_;show wpAny _ _ (typeOf (.ref sl) >>= _) _ _ s;refine wpAny_bind (wpAny_typeOf hTs ?_)
 first
  | rw [if_neg (by decide)]
  | refine PySem.W.KFB.if_not (by decide) ?_
 rw [listSliceParts_eq];refine wpAny_bind (wpAny_bind (wpAny_field hos hds (x:=.none) rfl (wpAny_bind (wpAny_listPart .none ?_))));rw [if_neg hstep];refine wpAny_bind (wpAny_field hos hds (x:=vl) rfl (wpAny_bind (wpAny_listPart pl ?_)));refine wpAny_bind (wpAny_field hos hds (x:=vu) rfl (wpAny_bind (wpAny_listPart pu (wpAny_pure ?_))))
 first
  | simp only [hsame,Nw,if_false]
  | refine PySem.W.KFB.if_not hsame ?_
  | (dsimp only
     rw [if_neg (by rw [hsame];exact Nt)])
 refine wpAny_bind (m:=Builtin.List.listAllItems (.ref b) "must assign iterable to extended slice") ?_;unfold Builtin.List.listAllItems;refine wpAny_bind (wpAny_typeOf hb.typeIs ?_)
 first
  | refine PySem.W.KFB.if_so (by decide) ?_
  | rw [if_pos (by decide)]
  | simp only [beq_self_eq_true,Bool.true_or,if_true]
 unfold Builtin.List.listItems;refine wpAny_bind (wpAny_seqItems e2 rfl (wpAny_pure ?_));refine wpAny_bind (wpAny_bind (wpAny_seqItems e rfl (wpAny_pure ?_)));refine wpAny_bind (wpAny_of_eq ((sliceIndices_raw (some (a:Int)) (some (c:Int)) none items.size (by simp)).trans (congrArg (pure:Int×Int×Int->Sem (Int×Int×Int)) (rj hac hc))) ?_);show wpAny _ _ (if ((1:Int) == 1)=true then _ else _) _ _ s;rw [if_pos (by decide)];refine wpAny_bind (wpAny_rule ?_)
 first
  | simp only [j9 hsz,Nw,if_false]
  | refine PySem.W.KFB.if_not (j9 hsz) ?_
 first | refine wpAny_bind (wpAny_pure ?_) | skip
 show wpAny _ _ (updateSeq l (λ xs=>xs.extract 0 ((a:Int)).toNat++new++xs.extract (max (a:Int) (c:Int)).toNat xs.size) >>= _) _ _ s;rw [hmax,Np];refine wpAny_bind (wpAny_updateSeq (hz:=M7 (Nat.le_add_right _ _) hsz) (_hz':=hz') e rfl ?_);refine wpAny_bind (wpAny_letGo ?_)
 first
  | exact wpAny_bind (wpAny_pure (wpAny_pure ⟨.none,rfl,wpAny_pure h⟩))
  | exact wpAny_pure ⟨.none,rfl,wpAny_pure h⟩
end
section
variable {X:Cx}
end
end L2
namespace L2
open PySem PySem.Spec PyProof.Rows
section
variable {κ:Type} [DecidableEq κ]
def valV (kvs:List (κ×V)) (k:κ):Option V:=(kvs.find? λ kv=>decide (kv.1=k)).map (·.2)
def ja (kvs:List (κ×V)) (k:κ) (v:V):List (κ×V):=
 if (kvs.any λ kv=>decide (kv.1=k))=true then kvs.map (λ kv=>if kv.1=k then (kv.1,v) else kv) else kvs++[(k,v)]
theorem gJ {p:κ×V}{r:List (κ×V)}{k:κ}(e:p.1=k):valV (p::r) k=some p.2:=by simp [valV,Ma,e]
theorem fJ {p:κ×V}{r:List (κ×V)}{k:κ}(e:¬p.1=k):valV (p::r) k=valV r k:=by simp [valV,Ma,e]
theorem jU (k:κ):∀kvs:List (κ×V),(kvs.any λ kv=>decide (kv.1=k))=(valV kvs k).isSome
 | []=>rfl
 | p::r=>by
   rw [L9]
   by_cases e:p.1=k
   ·simp only [gJ e,decide_eq_true e,Bool.true_or,Option.isSome_some]
   ·rw [fJ e,decide_eq_false e,NC];exact jU k r
theorem jy (kvs:List (κ×V)) (k:κ) (v:V):(ja kvs k v).length<=kvs.length+1:=by
 unfold ja;split
 ·rw [Lv];omega
 ·rw [Lz,LG,LV];omega
theorem vQ {kvs:List (κ×V)}{k:κ}(v:V) (h:valV kvs k=none):ja kvs k v=kvs++[(k,v)]:=by unfold ja;rw [jU,h];exact if_neg (by decide)
theorem hV.isSome_eq {o:Option V}{u:Option Value}(r:hV o u):o.isSome=u.isSome:=by
 cases o with
 | none=>cases u with
   | none=>rfl
   | some _=>exact (show False from r).elim
 | some _=>cases u with
   | none=>exact (show False from r).elim
   | some _=>rfl
theorem hV.getD {o:Option V}{u:Option Value}{d:V}{d':Value}(r:hV o u) (rd:aN d d'):aN (o.getD d) (u.getD d'):=by
 cases o with
 | none=>cases u with
   | none=>exact rd
   | some _=>exact (show False from r).elim
 | some _=>cases u with
   | none=>exact (show False from r).elim
   | some _=>exact r
theorem KV.val {kvs:List (κ×V)}{vs:List (κ×Value)}(r:KV kvs vs) (k:κ):hV (valV kvs k) (valueAt vs k):=by
 unfold KV at r
 induction r with
 | nil=>exact True.intro
 | @cons p q ps qs h t ih=>
   obtain ⟨h1,h2⟩:=h
   by_cases e:p.1=k
   ·have e':q.1=k:=h1.symm.trans e;have b:valueAt (q::qs) k=some q.2:=by simp [valueAt,Ma,e']
    rw [gJ e,b];exact h2
   ·have e':¬q.1=k:=λ z=>e (h1.trans z);have b:valueAt (q::qs) k=valueAt qs k:=by simp [valueAt,Ma,e']
    rw [fJ e,b];exact ih
theorem KV.any {kvs:List (κ×V)}{vs:List (κ×Value)}(r:KV kvs vs) (k:κ):(kvs.any λ kv=>decide (kv.1=k))=vs.any λ kv=>decide (kv.1=k):=by
 unfold KV at r
 induction r with
 | nil=>rfl
 | cons h t ih=>rw [L9,L9,ih,h.1]
theorem KV.repl {kvs:List (κ×V)}{vs:List (κ×Value)}(r:KV kvs vs) (k:κ) {y:V}{u:Value}(ry:aN y u):
  KV (kvs.map λ kv=>if kv.1=k then (kv.1,y) else kv) (vs.map λ kv=>if kv.1=k then (kv.1,u) else kv):=by
 unfold KV at r ⊢
 induction r with
 | nil=>exact .nil
 | @cons p q ps qs h t ih=>
   rw [LL,LL];refine .cons ?_ ih;obtain ⟨h1,h2⟩:=h
   by_cases e:p.1=k
   ·rw [if_pos e,if_pos (h1.symm.trans e)];exact ⟨h1,ry⟩
   ·rw [if_neg e,if_neg (λ z=>e (h1.trans z))];exact ⟨h1,h2⟩
theorem KV.put {kvs:List (κ×V)}{vs:List (κ×Value)}(r:KV kvs vs) (k:κ) {y:V}{u:Value}(ry:aN y u):KV (ja kvs k y) (stored vs k u):=by
 unfold ja stored;rw [r.any k]
 by_cases e:(vs.any λ kv=>decide (kv.1=k))=true
 ·rw [if_pos e,if_pos e];exact r.repl k ry
 ·rw [if_neg e,if_neg e];exact Paired.snoc r ⟨rfl,ry⟩
theorem KV.length {kvs:List (κ×V)}{vs:List (κ×Value)}(r:KV kvs vs):kvs.length=vs.length:=Paired.length r
end
theorem pd {P:Program}{w:World}{k:Key}{u:Value}(r:aN (kV k) u):(bD P w).is k u=true:=by
 cases k with
 | inl i=>obtain ⟨t,e⟩:=(show∃t,u=Value.int i t from r);subst e;exact o8 P w i t
 | inr x=>obtain ⟨t,e⟩:=(show∃t,u=Value.str x t from r);subst e;exact gQ P w x t
theorem lJ {P:Program}{w:World}:∀{ks:List Key}{us:List Value},aV (ks.map kV) us->ItemsAre (bD P w) ks us
 | [],_,r=>by rw [LX] at r;cases r;exact .nil
 | k::ks,_,r=>by
   rw [LL] at r;cases r with
   | cons h t=>exact .cons (pd h) (lJ t)
abbrev KT (H:Hp):List (List Key×V)->List (List Key×Addr×Value)->Prop:=Paired λ p q=>p.1=q.1/\H q.2.1=some (.tup (p.1.map kV))/\aN p.2 q.2.2
theorem KT.val {H:Hp}{kvs:List (List Key×V)}{xs:List (List Key×Addr×Value)}(r:KT H kvs xs) (k:List Key):hV (valV kvs k) ((atKey xs k).map (·.2)):=by
 induction r with
 | nil=>exact True.intro
 | @cons p q ps qs h t ih=>
   obtain ⟨h1,_,h2⟩:=h
   by_cases e:p.1=k
   ·have e':q.1=k:=h1.symm.trans e;have b:atKey (q::qs) k=some q.2:=by simp [atKey,Ma,e']
    rw [gJ e,b];exact h2
   ·have e':¬q.1=k:=λ z=>e (h1.trans z);have b:atKey (q::qs) k=atKey qs k:=by simp [atKey,Ma,e']
    rw [fJ e,b];exact ih
theorem KT.repl {H:Hp}{kvs:List (List Key×V)}{xs:List (List Key×Addr×Value)}(r:KT H kvs xs) (k:List Key) {y:V}{u:Value}(ry:aN y u):
  KT H (kvs.map λ kv=>if kv.1=k then (kv.1,y) else kv) (xs.map (putAt k u)):=by
 induction r with
 | nil=>exact .nil
 | @cons p q ps qs h t ih=>
   rw [LL,LL];refine .cons ?_ ih;obtain ⟨h1,h2,h3⟩:=h;unfold putAt
   by_cases e:p.1=k
   ·rw [if_pos e,if_pos (h1.symm.trans e)];exact ⟨h1,h2,ry⟩
   ·rw [if_neg e,if_neg (λ z=>e (h1.trans z))];exact ⟨h1,h2,h3⟩
theorem KT.put {H:Hp}{kvs:List (List Key×V)}{xs:List (List Key×Addr×Value)}(r:KT H kvs xs) (k:List Key) {b:Addr}{y:V}{u:Value}(hb:H b=some (.tup (k.map kV))) (ry:aN y u):
  KT H (ja kvs k y) (storedH xs k b u):=by
 have e:(kvs.any λ kv=>decide (kv.1=k))=(atKey xs k).isSome:=by rw [jU,(r.val k).isSome_eq,Option.isSome_map]
 unfold ja storedH;rw [e]
 by_cases q:(atKey xs k).isSome=true
 ·rw [if_pos q,if_pos q];exact r.repl k ry
 ·rw [if_neg q,if_neg q];exact Paired.snoc r ⟨rfl,hb,ry⟩
theorem KT.keeps {H H':Hp}{kvs:List (List Key×V)}{xs:List (List Key×Addr×Value)}(r:KT H kvs xs) (ht:∀b ys,H b=some (.tup ys)->H' b=some (.tup ys)):KT H' kvs xs:=
 Paired.mapP r λ _ _ z=>⟨z.1,ht _ _ z.2.1,z.2.2⟩
section
variable {P:Program}{w:World}{H:Hp}{h:Heap}{a:Addr}
theorem C3 {u:HO}(ok:iC P w H h) (e:Rd H a u):bB P w H h a u:=e.ok ok
theorem wZ {kvs:List (Key×V)}(ok:iC P w H h) (e:Rd H a (.dK kvs)):kvs.length<=sizeLine/\(a == sysModules)=false/\∃vs,KV kvs vs/\h.DictOf (bD P w) a vs:=
 show bB P w H h a (.dK kvs) from C3 ok e
theorem Jy {kvs:List (Key×V)}(ok:iC P w H h) (e:H a=some (.dK kvs)):kvs.length<=sizeLine/\(a == sysModules)=false/\∃vs,KV kvs vs/\h.DictOf (bD P w) a vs:=wZ ok (.inl e)
theorem qN {ks:List Key}(ok:iC P w H h) (e:H a=some (.tup (ks.map kV))):(tupleKind (bD P w)).is h ks a:=by obtain ⟨_,its,r,o,h1,h2,n,h3⟩:=(show bB P w H h a (.tup (ks.map kV)) from ok a _ e);exact ⟨o,its.toArray,n,h1,h2,h3,by simpa using lJ r⟩
theorem wY {kvs:List (List Key×V)}(ok:iC P w H h) (e:Rd H a (.dT kvs)):kvs.length<=sizeLine/\(a == sysModules)=false/\
  ∃xs,KT H kvs xs/\h.DictOfH (tupleKind (bD P w)) a xs:=by
 obtain ⟨z,y,xs,r,o,es,ep,h1,h2,h3,h4,h5⟩:=(show bB P w H h a (.dT kvs) from C3 ok e);refine ⟨z,y,xs,r,o,es,ep,h1,h2,h3,h4,λ x hx=>?_,h5⟩;have all:∀{l:List (List Key×V)} {m:List (List Key×Addr×Value)},KT H l m->∀x∈m,(tupleKind (bD P w)).is h x.1 x.2.1:=by
  intro l m q
  induction q with
  | nil=>intro x hx;exact nomatch hx
  | @cons p q ps qs hq t ih=>
    intro x hx
    rcases Lw.mp hx with e | hx
    ·subst e;exact qN ok (by rw [<-hq.1];exact hq.2.1)
    ·exact ih x hx
 exact all r x hx
theorem Jx {kvs:List (List Key×V)}(ok:iC P w H h) (e:H a=some (.dT kvs)):kvs.length<=sizeLine/\(a == sysModules)=false/\
  ∃xs,KT H kvs xs/\h.DictOfH (tupleKind (bD P w)) a xs:=wY ok (.inl e)
end
def rz (H:Hp) (a:Addr) (y:V) (r:Option V):Prop:=
 (∃kvs k,Rd H a (.dK kvs)/\y=kV k/\r=valV kvs k)\/∃kvs k b,Rd H a (.dT kvs)/\y=.ref b/\H b=some (.tup (k.map kV))/\r=valV kvs k
def uU (H:Hp) (a:Addr) (y v:V) (H':Hp):Prop:=
 (∃kvs k,H a=some (.dK kvs)/\y=kV k/\kvs.length<sizeLine/\H'=upd H a (.dK (ja kvs k v)))\/
 ∃kvs k b,H a=some (.dT kvs)/\y=.ref b/\H b=some (.tup (k.map kV))/\kvs.length<sizeLine/\H'=upd H a (.dT (ja kvs k v))
theorem rz.k {H:Hp}{a:Addr}{kvs:List (Key×V)}{k:Key}(e:H a=some (.dK kvs)):rz H a (kV k) (valV kvs k):=.inl ⟨kvs,k,.inl e,rfl,rfl⟩
theorem uU.k {H:Hp}{a:Addr}{kvs:List (Key×V)}{k:Key}{v:V}(e:H a=some (.dK kvs)) (hl:kvs.length<sizeLine):uU H a (kV k) v (upd H a (.dK (ja kvs k v))):=.inl ⟨kvs,k,e,rfl,hl,rfl⟩
section
variable {X:Cx}{pins:List (Addr×Obj)}{σ:St}{H:Hp}{s:Shared}{a:Addr}{y v:V}{u r:Value}{o:Option V}{A:Around}{E:Value->Shared->Prop}
theorem aJ.big (I:aJ X pins σ H s):sysModules<s.heap.objs.size:=by have h:mainGlobals<s.heap.objs.size:=(I.mod.glob.keeps I.bk).lt;exact Nat.lt_trans (by decide) h
theorem uB {Q:Value->Shared->Prop}(hu:A.units+1<cLine) (I:aJ X pins σ H s) (g:rz H a y (some v)) (ry:aN y u) (h:∀w' s',aJ X pins σ H s'->aN v w'->Q w' s'):
  wpAny (model X.prog X.w) A (getItem (.ref a) u) Q E s:=by
 rcases g with ⟨kvs,k,e,ey,l⟩ | ⟨kvs,k,b,e,ey,eb,l⟩
 ·subst ey;obtain ⟨z,hd,vs,rel,dd⟩:=wZ I.hok e;obtain ⟨w',hw,rw'⟩:=hV.some_of (v:=v) (o:=valueAt vs k) (by rw [l];exact rel.val k);exact wpAny_getItem_of (pd ry) dd.mapOf hw (h w' _ (I.tok _) rw')
 ·subst ey;cases (show u=Value.ref b from ry);obtain ⟨z,hd,xs,rel,dd⟩:=wY I.hok e;obtain ⟨w',hw,rw'⟩:=hV.some_of (v:=v) (o:=(atKey xs k).map (·.2)) (by rw [l];exact rel.val k);obtain ⟨p,hp,hp2⟩:=NN.mp hw;refine wpAny_getItem_heap (tupleKind_room_in1 hu) (qN I.hok eb) dd hp ?_;rw [hp2];exact h w' _ (I.tok _) rw'
theorem sR {h':Heap}{t':Nat}{ob:HO}(I:aJ X pins σ H s) (mu:JK (H a)) (hs:Heap.SameBut a s.heap h') (he:∃q,h'.get? a=some q) (new:bB X.prog X.w (upd H a ob) h' a ob):
  aJ X pins σ (upd H a ob) {s with heap:=h',toks:=t'}:=
 I.write (x:=a) (e:=a) mu (.inl rfl) (λ b q hb z=>(hs.2 b hb).trans z) he new
theorem dk_new {P:Program}{w:World}{H':Hp}{h':Heap}{kvs:List (Key×V)}{vs:List (Key×Value)}(z:kvs.length<=sizeLine) (hd:(a == sysModules)=false) (rel:KV kvs vs) (dd:h'.DictOf (bD P w) a vs):
  bB P w H' h' a (.dK kvs):=⟨z,hd,vs,rel,dd⟩
theorem uA {H':Hp}{Q:Unit->Shared->Prop}(hu:A.units+1<cLine) (I:aJ X pins σ H s) (g:uU H a y v H') (ry:aN y u) (rv:aN v r) (h:∀s',aJ X pins σ H' s'->Q () s'):
  wpAny (model X.prog X.w) A (setItem (.ref a) u r) Q E s:=by
 rcases g with ⟨kvs,k,e,ey,l,eH⟩ | ⟨kvs,k,b,e,ey,eb,l,eH⟩
 ·subst ey eH;obtain ⟨z,hd,vs,rel,dd⟩:=Jy I.hok e;have hz:vs.length<=sizeLine:=by rw [<-rel.length];exact z
  have hl:(ja kvs k v).length<=sizeLine:=by have:=jy kvs k v;omega
  refine wpAny_setItem_pairs (hsz:=hz) (pd ry) dd λ h' dd' hs=>h _ ?_;have he:∃q,h'.get? a=some q:=let ⟨q,_,_,hq,_⟩:=dd';⟨q,hq⟩;exact sR I (by rw [e];exact True.intro) hs he (dk_new hl hd (rel.put k rv) dd')
 ·subst ey eH;cases (show u=Value.ref b from ry);obtain ⟨z,hd,xs,rel,dd⟩:=Jx I.hok e;have hz:xs.length<=sizeLine:=by rw [<-Paired.length rel];exact z
  have hl:(ja kvs k v).length<=sizeLine:=by have:=jy kvs k v;omega
  refine wpAny_setItem_heap (hsz:=hz) (tupleKind_room_in1 hu) (qN I.hok eb) dd λ h' dd' hs=>h _ ?_;obtain ⟨q,es,ep,hq,h2,h3,h4,_,h5⟩:=dd';refine sR I (by rw [e];exact True.intro) hs ⟨q,hq⟩ ⟨hl,hd,_,(rel.put k eb rv).keeps λ c ys ec=>?_,q,es,ep,hq,h2,h3,h4,h5⟩;rw [ah (IX ec e (λ z=>nomatch z))];exact ec
end
section
variable {X:Cx}{pins:List (Addr×Obj)}{σ:St}{H:Hp}{s:Shared}{a:Addr}{kvs:List (Key×V)}{k:Key}{u:Value}{A:Around}{E:Value->Shared->Prop}
end
def y6 (i:Expr):Prop:= ∀ov iv,subscripted i false ov iv=operate [ov,iv] (getItem ov iv)
theorem rD {prog:Program}{w:World}{A:Around}{E:Value->Shared->Prop}{s:Shared}{env:Env}{value slice:Expr}{pos:Pos}{T id:String}{Q:Value->Shared->Prop}
  (hl:typeLookup (.type T) "__getitem__"=pure (some (.builtin id))) (hs:y6 slice)
  (h:wpAny (model prog w) A (eval value env) (λ o s₁=>wpAny (model prog w) A (eval slice env) (λ i s₂=>s₂.TypeIs o T/\wpAny (model prog w) A (getItem o i) Q E s₂) E s₁) E s):
  wpAny (model prog w) A (eval (.Subscript value slice pos) env) Q E s:=by
 refine Subscript_ (wpAny_mono h (λ o s₁ h₁=>wpAny_mono h₁ (λ i s₂ h₂=>?_) λ _ _ x=>x) λ _ _ x=>x);obtain ⟨hT,h₂⟩:=h₂;unfold subscriptTail;refine wpAny_bind ?_;rw [getitemInPython_of_ne hT.not_modules];refine wpAny_bind (wpAny_specialOf hT hl ?_);have fin:wpAny (model prog w) A (subscripted slice false o i) (λ r s₃=>wpAny (model prog w) A (letTemporaryGo value o r >>= λ _=>pure r) Q E s₃) E s₂:=by rw [hs o i];exact wpAny_operating (wpAny_mono h₂ (λ r s₃ h₃=>wpAny_bind (wpAny_letTemporaryGo (wpAny_pure h₃))) λ _ _ x=>x)
 first
  | exact wpAny_pure (wpAny_bind fin)
  | exact wpAny_bind (wpAny_pure (wpAny_bind fin))
  | exact wpAny_bind fin
theorem pC {X:Cx}{pins:List (Addr×Obj)}{σ:St}{H:Hp}{s:Shared}{a:Addr}{y:V}{o:Option V}(I:aJ X pins σ H s) (g:rz H a y o):s.TypeIs (.ref a) "dict":=by
 rcases g with ⟨kvs,k,e,_,_⟩ | ⟨kvs,k,b,e,_,_,_⟩
 ·obtain ⟨_,_,vs,_,dd⟩:=wZ I.hok e;exact dd.typeIs
 ·obtain ⟨_,_,xs,_,dd⟩:=wY I.hok e;exact dd.typeIs
def vi (td ty:TE):TE:=λ σ H Q=>td σ H λ x H1=>ty σ H1 λ y H2=> ∃a v,x=.ref a/\rz H2 a y (some v)/\Q v H2
def rT (td ty tv:TE):TS:=λ D σ H=>tv σ H λ v H1=>td σ H1 λ x H2=>ty σ H2 λ y H3=> ∃a H4,x=.ref a/\uU H3 a y v H4/\D.nx σ H4
section
variable {X:Cx}{o i e value:Expr}{pos pos' tpos:Pos}{td ty tv:TE}
theorem x4 (hu:X.A.units+1<cLine) (ho:PE X o td) (hi:PE X i ty) (hs:y6 i):PE X (.Subscript o i pos) (vi td ty):=by intro pins s σ H Q I h;refine rD PySem.F.slot_dict_getitem.lookup hs (bJ (ho pins s σ H _ I h) λ u s1 ⟨x,H1,I1,rx,q1⟩=>bJ (hi pins s1 σ H1 _ I1 q1) λ iv s2 ⟨y,H2,I2,ry,a,v,ex,g,q2⟩=>?_);subst ex;obtain rfl:u=Value.ref a:=rx;exact ⟨pC I2 g,uB hu I2 g ry λ w' s3 I3 rw'=>⟨v,H2,I3,rw',q2⟩⟩
theorem xX (hu:X.A.units+1<cLine) (ho:PE X o td) (hi:PE X i ty) (hv:PE X value tv) (hs:swapsWith value (some (.Subscript o i pos')) pos.line X.env=pure false):
  PS X (.Assign [.Subscript o i pos'] value pos) (rT td ty tv):=by
 intro pins s σ H D I h;refine wpAny_Assign_Subscript (bJ (hv pins s σ H _ I h) λ r s1 ⟨v,H1,I1,rv,q1⟩=>bJ (ho pins s1 σ H1 _ I1 q1) λ u s2 ⟨x,H2,I2,rx,q2⟩=>bJ (hi pins s2 σ H2 _ I2 q2) λ iv s3 ⟨y,H3,I3,ry,a,H4,ex,g,q3⟩=>?_) hs;subst ex;obtain rfl:u=Value.ref a:=rx;exact uA hu I3 g ry rv λ s4 I4=>⟨σ,H4,I4,q3⟩
end
theorem w4 {P:Program}{w:World}{H:Hp}(h:Heap) (hb:sysModules<h.objs.size):bB P w H (h.push {cls:=.type "dict",data:=.dict #[]}) h.objs.size (.dK []):=
 ⟨M9 _,beq_eq_false_iff_ne.mpr (Ne.symm (M8 hb)),[],.nil,Heap.DictOf.new h⟩
def Dz:TE:=λ _ H Q=> ∀p,H p=none->Q (.ref p) (upd H p (.dK []))
section
variable {X:Cx}{pos:Pos}
theorem vX:PE X (.Dict [] [] pos) Dz:=λ pins s σ H Q I h=>
 wpAny_Dict_empty ⟨.ref s.heap.objs.size,_,I.laid (a:=s.heap.objs.size) (o:=.dK []) (t':=s.toks) (λ _ _ q=>Heap.get?_push_of_some _ q) (M6 _) (w4 s.heap I.big),rfl,h _ (I.hok.fresh (M6 _))⟩
end
section
variable {X:Cx}{pins:List (Addr×Obj)}{σ:St}{H:Hp}{s:Shared}{a:Addr}{y d:V}{u r:Value}{o:Option V}{A:Around}{E:Value->Shared->Prop}
end
section
variable {X:Cx}{o e f:Expr}{apos cpos:Pos}{td ty tx:TE}
end
section
variable {X:Cx}{pins:List (Addr×Obj)}{σ:St}{H:Hp}{s:Shared}{a:Addr}{kvs:List (Key×V)}{A:Around}{E:Value->Shared->Prop}
end
section
variable {X:Cx}{pins:List (Addr×Obj)}{σ:St}{H:Hp}{s:Shared}{a:Addr}{y:V}{u:Value}{A:Around}{E:Value->Shared->Prop}
end
end L2
namespace Att
open PySem PySem.W PySem.Calls PyProof.Rows
theorem jM {P:Params}{h:Heap}:∀(ns:List Int) (vs:List Value),WellAll P h vs (ns.map WData.int)->IntsAre vs ns:=by
 intro ns
 induction ns with
 | nil=>
   intro vs w;rw [LX] at w;cases w;exact .nil
 | cons n ns ih=>
   intro vs w;rw [LL] at w;cases w with
   | cons a b=>
     cases a;exact .cons _ _ (ih _ b)
theorem tK {l:OpenLaw}{n:Nat}(hn:l.most=some n) {P:Params}{h:Heap}{args:List WData}{vals:List Value}
  (hpre:l.row.toRowW.claim.pre args=true) (hwl:WellAll P h vals args):
  ∃a vs ns,vals=[Value.ref a]/\args=[WData.list (ns.map WData.int)]/\h.get? a=some {cls:=.type "list",data:=.seq vs.toArray}/\IntsAre vs ns/\ns.length<=n:=by
 have hsh:WShape.hasAll [] args [.list .int]=true:=(pre_splitW hpre).1;have hc:l.pre.holds [] {args:=args}=true:=(pre_splitW hpre).2;obtain ⟨d,r,rfl,h1,h2⟩:=hasAllW_cons hsh;obtain rfl:=hasAllW_nil h2;obtain ⟨xs,rfl,h3⟩:=hasW_list h1;obtain ⟨ns,rfl⟩:=items_int h3;have hlen:ns.length<=n:=by
  unfold OpenLaw.pre at hc;have h4:(WTm.not (.lt (.lit (.int (n:Int))) (.len (.arg 0)))).holds [] {args:=[.list (ns.map .int)]}=true:=by have h4:=(holds_andW hc).1;rw [hn] at h4;exact h4
  have h5:=condW_of h4 (w_not (w_lt w_lit (w_len_list (w_arg rfl))));rw [Lv] at h5;refine Nat.le_of_not_lt λ q=>?_;have q':(n:Int)<((ns.length:Nat):Int):=by omega
  first
   | (rw [decide_eq_true q'] at h5;exact absurd h5 (by decide))
   | (simp at h5;omega)
 cases hwl with
 | cons w1 w2=>
   cases w2;cases w1 with
   | list ho hall=>exact ⟨_,_,ns,rfl,rfl,ho,jM ns _ hall,hlen⟩
theorem tT (l:OpenLaw) (args:List WData):l.row.toRowW.claim.post args (.bool true) args=true:=
 postW_of (r:=l.row.toRowW) (X:=(true == true))
  (show WShape.has [] (.bool true) .bool=true by first | rfl | decide | simp [WShape.has,WShape.arms,WShape.armsAll])
  (show (WTm.eq .res (.lit (.bool true))).value [] {args:=args,res:=some (.bool true),after:=args}=some (.bool (true == true)) from w_eq_bool (w_res rfl) w_lit) rfl
theorem attach_call {l:OpenLaw}{n:Nat}{q:Program}{loose:List Str}{XP:(Str->Option Value)->Heap->Prop}{YP:World->Heap->Prop}{d:DefRec}
  (hn:l.most=some n) (hdf:d.params.defaults=[])
  (call:∀(w:World) (s₀ s₁:Shared) (mg mb:Str->Option Value) (fa:Addr) (o:Obj) (pm cd doc:Value) (a:Addr) (vs:List Value) (ns:List Int),
   Ground q loose [] XP w s₀ mg mb s₁.heap->YP w s₁.heap->
   s₁.heap.get? fa=some o->o.data=.func (docDef d.name d.params d.body d.scope pm cd doc)->s₁.heap.CodeRec cd d.name->mg d.name=some (.ref fa)->
   s₁.heap.get? a=some {cls:=.type "list",data:=.seq vs.toArray}->IntsAre vs ns->ns.length<=n->s₁.gens= #[]->
   codeAny (model l.prog w) callerA (.call (.ref fa) ⟨[.ref a],[]⟩) (λ r s'=>r=.ok (.ret (.bool true))/\OldK s₁.heap s'.heap/\s'.os=s₁.os/\AllBare s'.gens) s₁):
  WalkO q loose XP YP l.row.toRowW d [] (λ f vs=>PySem.call f vs):=by
 intro w s₀ s₁ mg mb G Y fa o pm cd doc dV kV ho hd hcd hD hmg hg args vals as hpre hlay hrd hwl hlo;obtain rfl:dV=.none:=Dflts.none hD hdf;obtain rfl:kV=.none:=Dflts.noKw hD;obtain ⟨a,vs,ns,rfl,rfl,hobj,hints,hlen⟩:=tK hn hpre hwl;refine enter_call (codeAny_mono (call w s₀ s₁ mg mb fa o pm cd doc a vs ns G Y ho (fd_plain hd) hcd hmg hobj hints hlen hg) λ r s' hq=>?_);obtain ⟨rfl,h2,h3,h4⟩:=hq;exact ⟨.inl ⟨.bool true,.bool true,[],rfl,λ _=>rfl,.bool true,tT l _,λ _=>⟨List.Pairwise.nil,λ _ hm=>(nomatch hm)⟩⟩,h2,h3,h4⟩
section
variable {prog:Program}{w:World}{A:Around}{E:Value->Shared->Prop}{s:Shared}{K:Frag}
end
end Att
namespace L2
open PySem PySem.Spec PyProof.Rows
theorem iX:∀{vs:List Value}{ns:List Int},IntsAre vs ns->aV (ns.map V.int) vs
 | _,_,.nil=>.nil
 | _,_,.cons n t h=>.cons ⟨t,rfl⟩ (iX h)
def EU (H:Hp):Prop:= ∀b,H b=none\/∃o xs,H b=some (.frz o (.lst xs))
theorem wf {P:Program}{w:World}{K:Frag}{mg mb:Str->Option Value}{CX:tw}{k:Nat}{fa a:Addr}{fd:FuncData}{x:Str}{sp:Sp}{s₁:Shared}{vs:List Value}{ns:List Int}
  (KX:K.In s₁.heap) (hns:s₁.heap.Ns mainGlobals mg) (hb:s₁.heap.Ns builtinsNs mb) (hbb:∀x:Str,x≠"__name__"->mb x=bootBuiltins x) (hlim:s₁.heap.NoLimit) (hg:s₁.gens= #[])
  (ha:s₁.heap.get? a=some {cls:=.type "list",data:=.seq vs.toArray}) (hi:IntsAre vs ns) (hl:ns.length<=sizeLine) (hr:du k callerA)
  (F:∀base:Heap,K.In base->base.Ns mainGlobals mg->bj P w K mg base CX k fa fd [x] sp) (hbind:∀(s:Shared) (u:Value),BindsTo s fd ⟨[u],[]⟩ [(x,u)])
  (hsp:∀H:Hp,EU H->aI K H a (ns.map V.int)->sp [.ref a] H (λ v _=>v=.bl true) λ _ _ _=>False)
  (hCX:∀H e s',CX [] H s₁ (λ _ _ _=>False) e s'->False):
  codeAny (model P w) callerA (.call (.ref fa) ⟨[.ref a],[]⟩) (λ r s'=>r=.ok (.ret (.bool true))/\OldK s₁.heap s'.heap/\s'.os=s₁.os/\AllBare s'.gens) s₁:=by
 have rv:=iX hi;have lenV:=hi.length;have core:∀H:Hp,EU H->aI K H a (ns.map V.int)->iC P w H s₁.heap->(∀b,H b≠none->b=a)->(H a≠none->K.lookup a=none)->
   codeAny (model P w) callerA (.call (.ref fa) ⟨[.ref a],[]⟩) (λ r s'=>r=.ok (.ret (.bool true))/\OldK s₁.heap s'.heap/\s'.os=s₁.os/\AllBare s'.gens) s₁:=by
  intro H hO hS hok hA hK;have base_of:∀{b:Addr} {o:Obj},s₁.heap.get? b=some o->H b=none->(ni s₁.heap H).get? b=some o:=λ e n=>wC e n;have noA:∀{b:Addr} {o:Obj} {es:Array DictEntry} {ep:Nat},s₁.heap.get? b=some o->o.data=.dict es ep->H b=none:=λ {b o es ep} e d=>by
   cases q:H b with
   | none=>rfl
   | some u=>
     have e':b=a:=hA b (by rw [q];simp);subst e';rw [ha] at e;cases e;have d':Data.seq vs.toArray _=Data.dict es ep:=d;cases d'
  have nsK:∀{b:Addr} {m:Str->Option Value},s₁.heap.Ns b m->(ni s₁.heap H).Ns b m:=λ {b m} ⟨o,es,ep,e,d,r⟩=>⟨o,es,ep,base_of e (noA e d),d,r⟩;have hKb:K.In (ni s₁.heap H):=λ b o e=>base_of (KX b o e) (by
   cases q:H b with
   | none=>rfl
   | some u=>
     have e':b=a:=hA b (by rw [q];simp);subst e';rw [hK (by rw [q];simp)] at e;cases e)
  have hM:Mod K mg (ni s₁.heap H):=⟨hKb,nsK hns,⟨mb,nsK hb,hbb⟩,let ⟨mc,h1,h2⟩:=hlim;⟨mc,nsK h1,h2⟩⟩;have e0:rp P w K mg (ni s₁.heap H) callerA [] s₁ H:=⟨rfl,hM,λ b o e=>yj e,Ng (ut _ _),trivial,λ b hb=>absurd (show b∈([]:List Addr) from hb) (by simp),hok,.of_eq hg⟩;refine codeAny_mono ((F _ hKb (nsK hns)).run callerA [] s₁ H ⟨[.ref a],[]⟩ [.ref a] [.ref a] _ _ hr e0 (hbind s₁ (.ref a)) (.cons rfl .nil) (hsp H hO hS)) λ r s' h=>?_;cases r with
  | error e=>exact (hCX H e s' h).elim
  | ok fl=>
    cases fl with
    | next=>exact False.elim h
    | brk=>exact False.elim h
    | cont=>exact False.elim h
    | ret u=>
      obtain ⟨v,H',os,bare,un,hok',r',q⟩:=h;have q':v=.bl true:=q;subst q';obtain rfl:u=Value.bool true:=r';refine ⟨rfl,OldK.of_keep λ b o e=>?_,os,bare⟩;cases q:H b with
      | none=>exact un.keep b o e q (by intro z;exact absurd (show b∈([]:List Addr) from z) (by simp)) (by simp)
      | some u=>
        rcases hO b with z | ⟨ob,xs,z⟩
        ·rw [q] at z;cases z
        ·have z2:=un.frzs b ob _ z;obtain ⟨e1,_⟩:=hok b _ z;obtain ⟨e2,_⟩:=hok' b _ z2;rw [e] at e1;cases e1;exact e2
 cases hk:K.lookup a with
 | some o=>
   have e:=KX a o hk;rw [ha] at e;cases e;refine core (λ _=>none) (λ _=>.inl rfl) (.inr ⟨_,vs.toArray,_,hk,rfl,rfl,rfl,by rw [LB,lenV];exact hl,by simpa using rv⟩) (λ b u z=>by have z':(none:Option HO)=some u:=z;cases z') (λ b z=>absurd rfl z) λ z=>absurd rfl z
 | none=>
   refine core (λ b=>if b=a then some (.frz {cls:=.type "list",data:=.seq vs.toArray} (.lst (ns.map V.int))) else none) (λ b=>?_) (.inl (.inr ⟨{cls:=.type "list",data:=.seq vs.toArray},if_pos rfl⟩)) (λ b u z=>?_) (λ b z=>?_) λ _=>hk
   ·by_cases hb:b=a
    ·exact .inr ⟨_,_,if_pos hb⟩
    ·exact .inl (if_neg hb)
   ·by_cases hb:b=a
    ·have z':=(if_pos hb).symm.trans z;cases z';subst hb;exact ⟨ha,by rw [Lv];exact hl,vs,_,rv,ha⟩
    ·have z':=(if_neg hb).symm.trans z;cases z'
   ·by_cases hb:b=a
    ·exact hb
    ·exact absurd (if_neg hb) z
end L2
namespace L2
open PySem PySem.Spec PyProof.Rows
theorem xD {l:PySem.W.OpenLaw}{n k:Nat}{q:Program}{loose:List Str}{XP:(Str->Option Value)->Heap->Prop}{YP:World->Heap->Prop}{d:DefRec}{K:Params->Frag}{CX:World->tw}{sp:World->Sp}{x:Str}
  (hn:l.most=some n) (hn2:n<=sizeLine) (hdf:d.params.defaults=[]) (hr:du k callerA)
  (hY:∀(w:World) (h:Heap),YP w h->(K w.params).In h)
  (F:∀(w:World) (mg:Str->Option Value) (fa:Addr) (h:Heap),(K w.params).In h->h.Ns mainGlobals mg->mg d.name=some (.ref fa)->
   ∃fd:FuncData,(∀(s:Shared) (u:Value),BindsTo s fd ⟨[u],[]⟩ [(x,u)])/\
    ∀base:Heap,(K w.params).In base->base.Ns mainGlobals mg->bj l.prog w (K w.params) mg base (CX w) k fa fd [x] (sp w))
  (hsp:∀(w:World) (H:Hp) (a:Addr) (ns:List Int),ns.length<=n->EU H->aI (K w.params) H a (ns.map V.int)->sp w [.ref a] H (λ v _=>v=.bl true) λ _ _ _=>False)
  (hCX:∀(w:World) (H:Hp) (s:Shared) (e:Value) (s':Shared),CX w [] H s (λ _ _ _=>False) e s'->False):
  PySem.W.WalkO q loose XP YP l.row.toRowW d [] (λ f vs=>PySem.call f vs):=by
 refine Att.attach_call hn hdf λ w s₀ s₁ mg mb fa o pm cd doc a vs ns G Y ho hd hcd hmg hobj hints hlen hg=>?_;have KX:=hY w _ Y;obtain ⟨fd,hb,hF⟩:=F w mg fa _ KX G.T.g hmg;exact wf KX G.T.g G.T.b G.T.builtins G.T.nolimit hg hobj hints (M7 hlen hn2) hr hF hb (λ H hO hS=>hsp w H a ns hlen hO hS) λ H e s'=>hCX w H s₁ e s'
end L2
namespace L2
open PySem PySem.Spec PyProof.Rows
def eO (s:Stmt) (j:Nat):Stmt:=match s with
 | .ClassDef _ _ _ body _ _ _ _ _ _ _=>body.getD j (.Pass ⟨0,0,0,0⟩)
 | _=>.Pass ⟨0,0,0,0⟩
def fA (s:Stmt):Arguments:=match s with
 | .FunctionDef _ a _ _ _ _ _ _ _ _=>a
 | _=>{posonlyargs:=[],args:=[],vararg:=none,kwonlyargs:=[],kw_defaults:=[],kwarg:=none,defaults:=[]}
def eP (s:Stmt):List Stmt:=match s with
 | .FunctionDef _ _ b _ _ _ _ _ _ _=>b
 | _=>[]
def ak (s:Stmt):Scope:=match s with
 | .FunctionDef _ _ _ _ _ _ sc _ _ _=>sc
 | _=>{kind:=.function,names:=[],isGenerator:=false,isCoroutine:=false}
abbrev eI:tw:=λ _ _ _ _ _ _=>False
abbrev E0:XK:=λ _ _ _=>False
theorem C7 {X:Cx}:kC eI X E0:=λ _ _ _ _ _ _ _ h=>h.elim
structure bX (K:Frag) (x qual:Str) (st:Stmt) (f:Addr) (fd:FuncData):Prop where
 ex:∃(oc:Value) (od:Option Addr) (kV doc pm:Value) (an:Option Addr) (cdv ct:Value) (osl:Array (Option Value)),
  fd=NW x qual (fA st) (eP st) (ak st) .none kV doc pm an cdv ct/\K.lookup f=some ⟨oc,od,.func fd,osl⟩/\N5 K cdv qual=true
 kp:NY K (.ref f)=true
section
variable {P:Program}{w:World}{K:Frag}{mg:Str->Option Value}{base:Heap}
theorem bX.ok {x qual:Str}{st:Stmt}{f:Addr}{fd:FuncData}{N ps:List Str}{k:Nat}{sp:Sp}(F:bX K x qual st f fd) (S:aG N ps (ak st)) (len:∀vs H Q E,sp vs H Q E->vs.length=ps.length)
  (hbody:∀(cdv:Value) (A:Around) (outer:List Env) (s:Shared) (H:Hp) (vs:List V) (Q:VK) (E:XK),du k (A.deeper (envOfC qual (ak st) s.heap.objs.size f cdv))->sp vs H Q E->
   ∃t,ro (uC eI P w K mg base N qual (ak st) f cdv A outer s H E).nox (eP st) t/\t {nx:=λ _ H'=>Q .non H',rt:=Q} (jt N vs) H):bj P w K mg base eI (k+1) f fd ps sp:=by
 obtain ⟨oc,od,kV,doc,pm,an,cdv,ct,osl,rfl,lk,hcd⟩:=F.ex;refine Jp lk hcd S len λ A outer s H vs Q E hr hsp=>?_;obtain ⟨t,h,q⟩:=hbody cdv A outer s H vs Q E hr hsp;exact ⟨t,h.nox,q⟩
theorem bX.binds {x qual:Str}{st:Stmt}{f:Addr}{fd:FuncData}{ps:List Str}(F:bX K x qual st f fd)
  (h:∀(kV doc pm:Value) (an:Option Addr) (cdv ct:Value) (us:List Value),us.length=ps.length->bindArgs (NW x qual (fA st) (eP st) (ak st) .none kV doc pm an cdv ct) ⟨us,[]⟩=pure (ps.zip us)):gY K fd ps []:=by
 obtain ⟨oc,od,kV,doc,pm,an,cdv,ct,osl,rfl,lk,hcd⟩:=F.ex;exact .all (h kV doc pm an cdv ct)
theorem aR {x qual:Str}{st:Stmt}{f:Addr}{oc:Value}{od an:Option Addr}{osl:Array (Option Value)}{kV doc pm cdv ct:Value}(l:K.lookup f=some ⟨oc,od,.func (NW x qual (fA st) (eP st) (ak st) .none kV doc pm an cdv ct),osl⟩)
  (c:N5 K cdv qual=true) (k:NY K (.ref f)=true):bX K x qual st f (NW x qual (fA st) (eP st) (ak st) .none kV doc pm an cdv ct):=⟨⟨oc,od,kV,doc,pm,an,cdv,ct,osl,rfl,l,c⟩,k⟩
end
section
variable {X:Cx}
end
theorem jj {A B:Prop}(h:B):if false=true then A else B:=by rw [if_neg Nt];exact h
theorem ji {A B:Prop}(h:A):if true=true then A else B:=by rw [if_pos rfl];exact h
def ag (H H':Hp):Prop:= ∀b o,H b=some o->H' b=some o
theorem ag.refl (H:Hp):ag H H:=λ _ _ h=>h
theorem ag.trans {H H1 H2:Hp}(a:ag H H1) (b:ag H1 H2):ag H H2:=λ c o h=>b c o (a c o h)
theorem ag.free {H H':Hp}(e:ag H H') {l:Addr}(h:H' l=Option.none):H l=Option.none:=by
 cases q:H l with
 | none=>rfl
 | some o=>
   rw [e l o q] at h;cases h
theorem ag.seq {K:Frag}{H H':Hp}{a:Addr}{xs:List V}(e:ag H H') (h:aI K H a xs):aI K H' a xs:=by
 rcases h with (h | ⟨o,h⟩) | h
 ·exact .inl (.inl (e _ _ h))
 ·exact .inl (.inr ⟨o,e _ _ h⟩)
 ·exact .inr h
section
variable {κ:Type} [DecidableEq κ]
end
end L2
namespace L2
open PySem PySem.Spec PyProof.Rows
def iU (env:Env):List (Str×NameKind)->List (Str×Addr)->List (Str×Addr)
 | [],cs=>cs
 | (n,k)::r,cs=>iU env r (if k == .free then (match env.cells.lookup n with | some a=>(n,a)::cs | none=>cs) else cs)
theorem fH (env:Env):∀(l:List (Str×NameKind)) (cs:List (Str×Addr)),(∀x∈l,x.2=.free->∃c,env.cells.lookup x.1=some c)->
  (forIn l cs λ (x:Str×NameKind) r=>if (x.2 == NameKind.free)=true then do let a<-cellOf env x.1;pure (ForInStep.yield ((x.1,a)::r)) else pure (ForInStep.yield r):Sem (List (Str×Addr)))=pure (iU env l cs)
 | [],cs,_=>rfl
 | (n,k)::r,cs,h=>by
   have hr:∀x∈r,x.2=.free->∃c,env.cells.lookup x.1=some c:=λ x hx=>h x (LJ _ hx);rw [Mu,iU]
   by_cases hk:(k == NameKind.free)=true
   ·obtain ⟨c,hc⟩:=h (n,k) LH (by simpa using hk);have hc':env.cells.lookup n=some c:=hc;have e:cellOf env n=pure c:=by unfold cellOf;rw [hc']
    simp only [hk,if_true,e,pure_bind,hc'];exact fH env r _ hr
   ·simp only [hk,if_false,pure_bind];exact fH env r _ hr
theorem ij {scope:Scope}{env:Env}(h:∀x∈scope.names,x.2=.free->∃c,env.cells.lookup x.1=some c):closureFor scope env=pure (iU env scope.names []):=by have e:=fH env scope.names [] h;unfold closureFor;show (forIn scope.names ([]:List (Str×Addr)) _ >>= λ r=>pure r:Sem (List (Str×Addr)))=_;rw [bind_pure];exact e
theorem pI (env:Env):∀(l:List (Str×NameKind)) (cs:List (Str×Addr)) (x:Str) (c:Addr),cs.lookup x=some c->env.cells.lookup x=some c->(iU env l cs).lookup x=some c
 | [],_,_,_,h,_=>h
 | (n,k)::r,cs,x,c,h,e=>by
   rw [iU];refine pI env r _ x c ?_ e;split
   ·cases q:env.cells.lookup n with
    | none=>exact h
    | some a=>
      show List.lookup x ((n,a)::cs)=some c;rw [Mb];cases hx:x == n with
      | false=>exact h
      | true=>
        have:x=n:=by simpa using hx
        subst this;rw [q] at e;exact e
   ·exact h
theorem kn (env:Env):∀(l:List (Str×NameKind)) (cs:List (Str×Addr)) (x:Str) (c:Addr),(∀y d,cs.lookup y=some d->env.cells.lookup y=some d)->(iU env l cs).lookup x=some c->env.cells.lookup x=some c
 | [],cs,x,c,h,e=>h x c e
 | (n,k)::r,cs,x,c,h,e=>by
   rw [iU] at e;refine kn env r _ x c ?_ e;intro y d q;split at q
   ·cases z:env.cells.lookup n with
    | none=>rw [z] at q;exact h y d q
    | some a=>
      rw [z] at q;have q2:List.lookup y ((n,a)::cs)=some d:=q;rw [Mb] at q2;cases hx:y == n with
      | false=>rw [hx] at q2;exact h y d q2
      | true=>
        rw [hx] at q2;have hyn:y=n:=by simpa using hx
        rw [hyn,z];exact q2
   ·exact h y d q
theorem ko (env:Env):∀(l:List (Str×NameKind)) (cs:List (Str×Addr)) (x:Str) (c:Addr),(x,NameKind.free)∈l->env.cells.lookup x=some c->(iU env l cs).lookup x=some c
 | [],_,_,_,h,_=>by simp at h
 | (n,k)::r,cs,x,c,h,e=>by
   rw [iU]
   rcases Lw.mp h with h | h
   ·have h1:n=x:=(congrArg Prod.fst h).symm;have h2:k=NameKind.free:=(congrArg Prod.snd h).symm;subst h1 h2;refine pI env r _ n c ?_ e;rw [e];show List.lookup n (if (NameKind.free == NameKind.free)=true then (n,c)::cs else cs)=some c;rw [if_pos (by decide),Mb];simp
   ·exact ko env r _ x c h e
theorem iI (scope:Scope) (env:Env) (x:Str):(relabel scope env).names.lookup x=
  (scope.names.lookup x).map λ k=>if (k == .free&&env.scope.kind == .function&&env.kindOf x == some .cell)=true then NameKind.cell else k:=by
 show (scope.names.map λ (p:Str×NameKind)=>if (p.2 == .free&&env.scope.kind == .function&&env.kindOf p.1 == some .cell)=true then (p.1,NameKind.cell) else (p.1,p.2)).lookup x=_
 induction scope.names with
 | nil=>rfl
 | cons p r ih=>
   obtain ⟨n,k⟩:=p;rw [LL];show List.lookup x ((if (k == .free&&env.scope.kind == .function&&env.kindOf n == some .cell)=true then (n,NameKind.cell) else (n,k))::_)=_;cases hx:x == n with
   | false=>
     have e1:List.lookup x ((n,k)::r)=List.lookup x r:=by rw [Mb,hx]
     rw [e1];split<;>(rw [Mb,hx];exact ih)
   | true=>
     have:x=n:=by simpa using hx
     subst this;have e1:List.lookup x ((x,k)::r)=some k:=by rw [Mb,hx]
     rw [e1];show _=some _;split
     ·rename_i hc;rw [Mb,hx];show some NameKind.cell=some (if _ then _ else _);rw [if_pos hc]
     ·rename_i hc;rw [Mb,hx];show some k=some (if _ then _ else _);rw [if_neg hc]
structure cf (X:Cx) (N:List Str) (src:List (Option Nat)) (scope:Scope):Prop where
 kind:scope.kind=.function
 nocell:∀y∈scope.names,y.2≠.cell
 names:∀y∈scope.names,y.2=.local->scope.names.lookup y.1=some .local
 fre:∀y∈scope.names,y.2=.free->X.env.kindOf y.1=some .cell\/X.env.kindOf y.1=some .free
 len:src.length=N.length
 nd:N.Nodup
 src:∀(j i:Nat) (x:Str),N[j]? =some x->src[j]? =some (some i)->X.N[i]? =some x/\scope.names.lookup x=some .free
def qW (dsc:Scope) (XN N:List Str) (src:List (Option Nat)) (scope:Scope):Bool:=
 decide (scope.kind=.function)&&scope.names.all (λ y=>decide (y.2≠.cell))&&scope.names.all (λ y=> !decide (y.2=.local)||decide (scope.names.lookup y.1=some .local))&&
 scope.names.all (λ y=> !decide (y.2=.free)||decide (dsc.names.lookup y.1=some .cell)||decide (dsc.names.lookup y.1=some .free))&&decide (src.length=N.length)&&decide N.Nodup&&
 (N.zip src).all λ p=>match p.2 with
  | none=>true
  | some i=>decide (XN[i]? =some p.1)&&decide (scope.names.lookup p.1=some .free)
theorem cf.of {X:Cx}{dsc:Scope}{XN N:List Str}{src:List (Option Nat)}{scope:Scope}(he:X.env.scope=dsc) (hN:X.N=XN) (h:qW dsc XN N src scope=true):cf X N src scope:=by
 subst he hN;unfold qW at h;simp only [Nu,decide_eq_true_eq,LP,Bool.or_eq_true,ND,decide_eq_false_iff_not] at h;obtain ⟨⟨⟨⟨⟨⟨h1,h2⟩,h3⟩,h4⟩,h5⟩,h6⟩,h7⟩:=h;refine ⟨h1,h2,λ y hy e=>?_,λ y hy e=>?_,h5,h6,λ j i x e1 e2=>?_⟩
 ·rcases h3 y hy with q | q
  ·exact absurd e q
  ·exact q
 ·rcases h4 y hy with (q | q) | q
  ·exact absurd e q
  ·exact .inl q
  ·exact .inr q
 ·have hm:(x,some i)∈N.zip src:=by
   have:(N.zip src)[j]? =some (x,some i):=by rw [MV];exact ⟨e1,e2⟩
   exact LM this
  have q:=h7 _ hm;simpa using q
def cxC (X:Cx) (scope:Scope) (N:List Str) (s:Shared) (H:Hp) (ex:List Addr):Cx:=
 {X with
  N:=N
  s₀:=s
  H₀:=H
  env:=compEnvC scope (iU X.env scope.names []) s.heap.objs.size X.env
  outer:=X.stack
  ex:=ex
  fn:=λ _=>false
  pn:=[]
  xe:=λ _ _=>False}
def eJ (src:List (Option Nat)) (σ:St):St:=src.map λ o=>match o with | none=>none | some i=>(σ[i]?).join
section
variable {X:Cx}{pins:List (Addr×Obj)}{σ:St}{H:Hp}{s:Shared}{N:List Str}{src:List (Option Nat)}{scope:Scope}{ex:List Addr}
theorem cf.cells (S:cf X N src scope) (ok:X.Ok):∀x∈scope.names,x.2=.free->∃c,X.env.cells.lookup x.1=some c:=λ x hx e=>ok.has _ (S.fre x hx e)
theorem aJ.enterC (I:aJ X pins σ H s) (S:cf X N src scope) (hf:∀b∈ex,gH X pins H b) (hlt:∀b∈ex,b<s.heap.objs.size) {h1:Heap}{m:Str->Option Value}{tk:Nat}
  (hns:h1.Ns s.heap.objs.size m) (hk:∀b o,s.heap.get? b=some o->h1.get? b=some o):aJ (cxC X scope N s H ex) [] (eJ src σ) H {s with heap:=h1,toks:=tk}:=by
 have neC:∀b o,s.heap.get? b=some o->b≠s.heap.objs.size:=λ b o e=>M8 (Heap.lt_size e);have sub:∀x c,(iU X.env scope.names []).lookup x=some c->X.env.cells.lookup x=some c:=λ x c e=>kn X.env _ _ x c (λ y d z=>by simp at z) e;refine ⟨⟨I.ok.mod,S.kind,I.ok.glob,I.ok.blt,M6 _,λ x y c e1 e2=>I.ok.inj x y c (sub x c e1) (sub y c e2),λ x hx=>?_,λ x c z=>absurd z (by simp [cxC]),I.ok.hd,I.ok.frames,.inl rfl,λ b hb=>?_,I.bs,M7 I.ok.bsz I.sz,λ b o e hb=>?_,λ b hb hz=>?_,I.stack,I.stkFree⟩,
  rfl,I.bare,Un.kept hk,⟨m,hns,λ j x v e1 e2 e3=>?_⟩,λ x c e=>?_,I.hok.fresh (M6 _),λ x c e=>I.freeC x c (sub x c e),λ p hp=>absurd (show p∈([]:List (Addr×Obj)) from hp) (by simp),I.hok.kept hk,?_⟩
 ·have hx:(relabel scope X.env).names.lookup x=some .cell\/(relabel scope X.env).names.lookup x=some .free:=hx;have hm:(x,NameKind.free)∈scope.names:=by
   rw [iI] at hx;cases q:scope.names.lookup x with
   | none=>rw [q] at hx;simp at hx
   | some k=>
     have hm:=PySem.mem_of_lookup q;cases k with
     | free=>exact hm
     | cell=>exact absurd rfl (S.nocell _ hm)
     | _=>rw [q] at hx;simp at hx
  obtain ⟨c,hc⟩:=S.cells I.ok _ hm rfl;exact ⟨c,ko X.env _ _ x c hm hc⟩
 ·obtain ⟨f0,f1,f2,f3,f4,f5⟩:=hf b hb;exact ⟨M8 (hlt b hb),λ x c e=>f4 x c (sub x c e)⟩
 ·obtain ⟨f0,f1,f2,f3,f4,f5⟩:=hf b hb
  rcases f3 with z | z
  ·exact I.ok.noex b o e z
  ·exact absurd (Na (Heap.lt_size (I.ok.bs b o e).1) z) (Nd _)
 ·obtain ⟨f0,f1,f2,f3,f4,f5⟩:=hf b hb
  rcases Lw.mp (I.stkSub b hz) with z | z
  ·exact f1 z
  ·exact f2 z
 ·have e2:(eJ src σ)[j]? =some (some v):=e2;unfold eJ at e2;rw [LD] at e2;cases q:src[j]? with
  | none=>rw [q] at e2;simp at e2
  | some o=>
    rw [q] at e2;cases o with
    | none=>simp at e2
    | some i=>
      have e2:(σ[i]?).join=some v:=by simpa using e2
      have e2:σ[i]? =some (some v):=by
       cases z:σ[i]? with
       | none=>rw [z] at e2;simp at e2
       | some w=>rw [z] at e2;simp at e2;rw [e2]
      obtain ⟨hX,hfr⟩:=S.src j i x e1 q;have hm:=PySem.mem_of_lookup hfr;have hk2:=S.fre _ hm rfl;obtain ⟨mX,hnX,hl⟩:=I.loc;have hvis:JR X.env.scope x:=.inr hk2;obtain ⟨u,r,l⟩:=hl i x v hX e2 hvis;refine ⟨u,r,?_⟩
      rcases l with ⟨l1,_⟩ | ⟨_,c,hc,hcell⟩
      ·rcases hk2 with z | z
       ·have:X.env.kindOf x=some .cell:=z;rw [l1] at this;cases this
       ·have:X.env.kindOf x=some .free:=z;rw [l1] at this;cases this
      ·refine .inr ⟨?_,c,ko X.env _ _ x c hm hc,?_⟩
       ·show (relabel scope X.env).names.lookup x=some .cell\/(relabel scope X.env).names.lookup x=some .free;rw [iI,hfr]
        by_cases hcc:(NameKind.free == .free&&X.env.scope.kind == .function&&X.env.kindOf x == some .cell)=true
        ·left
         show some (if _ then _ else _)=_;rw [if_pos hcc]
        ·right
         show some (if _ then _ else _)=_;rw [if_neg hcc]
       ·exact hcell.keeps hk
 ·obtain ⟨v,z⟩:=I.cell x c (sub x c e);exact ⟨v,z.keeps hk⟩
 ·show (eJ src σ).length=N.length;unfold eJ;rw [Lv];exact S.len
end
def pS (X:Cx) (ifs:List Expr) (t:TT):Prop:=
 ∀(pins:List (Addr×Obj)) (s:Shared) (σ:St) (H:Hp) (Q:Bool->Hp->Prop),aJ X pins σ H s->t σ H Q->
  wpAny (model X.prog X.w) X.A (forIn ifs true λ c r=>if r=true then do let ok<-isTrue c X.env (eval c X.env);pure (ForInStep.yield ok) else pure (ForInStep.yield r)) (TP X pins σ Q) X.xe s
def da:TT:=λ _ H Q=>Q true H
theorem aP {X:Cx}:pS X [] da:=λ _ _ _ H _ I h=>wpAny_tests_nil ⟨H,I,h⟩
theorem vT {X:Cx}{c:Expr}{t:TT}(h:PT X c t):pS X [c] t:=λ pins s σ H Q I hw=>wpAny_tests_one (h pins s σ H Q I hw)
def fg (g:TG) (tt:TT) (te:TE) (src:List (Option Nat)) (σ:St) (Q:VK) (J:It) (H1:Hp):Prop:=
 ∃W:Nat->Nat->List V->St->Hp->Prop,(∃m,W 0 m [] (eJ src σ) H1)/\∀i m ys σ' H',W i m ys σ' H'->
  (J.stop i H'/\∀p,H' p=none->Q (.ref p) (upd H' p (.lst ys)))\/
  (J.go i H'/\ys.length<sizeLine/\∀x H2,J.yld i H' x H2->g x σ' H2 λ σ3 H3=>tt σ3 H3 λ b H4=>
   if b=true then te σ3 H4 λ v H5=> ∃m',m'<m/\W (i+1) m' (ys++[v]) σ3 H5 else∃m',m'<m/\W (i+1) m' ys σ3 H4)
def tComp (wi:TI) (g:TG) (tt:TT) (te:TE) (src:List (Option Nat)):TE:=λ σ H Q=>wi σ H (fg g tt te src σ Q)
def tu (X:Cx) (pins:List (Addr×Obj)) (σ:St) (Q:VK) (acc:Value) (C:Addr) (r:Result) (s':Shared):Prop:=
 (∃f,r=.ok f)/\∃D H',acc=.ref D/\aJ X pins σ H' s'/\(∃m,s'.heap.Ns C m)/\gH X pins H' C/\Q (.ref D) H'
theorem nv {prog:Program}{w:World}{A:Around}{R:Result->Shared->Prop}{s:Shared}{elt target iter:Expr}{ifs:List Expr}{scope:Scope}{pos:Pos}{it acc:Value}{env:Env}(I:Nat->Shared->Prop)
  (turn:∀n s,I n s->wpAny (model prog w) A (pyNext it) (λ r s₁=>match r with
   | none=>R (.ok .next) s₁
   | some v=>wpAny (model prog w) A (letOwnedTupleGo target it v) (λ _ s₂=>wpAny (model prog w) A (assign target env v) (λ _ s₃=>
     wpAny (model prog w) A (forIn ifs true λ c r=>if r=true then do let ok<-isTrue c env (eval c env);pure (ForInStep.yield ok) else pure (ForInStep.yield r)) (λ ok s₄=>
      if ok=true then wpAny (model prog w) A (eval elt env) (λ x s₅=>wpAny (model prog w) A (call (.builtin "list.append") [acc,x]) (λ _ s₆=> ∃m,m<n/\I m s₆) (λ _ _=>False) s₅) (λ _ _=>False) s₄
      else∃m,m<n/\I m s₄) (λ _ _=>False) s₃) (λ _ _=>False) s₂) (λ _ _=>False) s₁) (λ _ _=>False) s)
  (n:Nat) (h:I n s):codeAny (model prog w) A (.compLoop (.ListComp elt [⟨target,iter,ifs,0⟩] scope pos) 0 it acc env) R s:=by
 refine codeAny_loop rfl I (λ n s hI=>?_) n h;show wpAny _ A ((compTurn (.ListComp elt [⟨target,iter,ifs,0⟩] scope pos) 0 it acc env).onRaise (λ x=>do noteFrame x env;theTreesLotGoes x)) _ _ s;refine wpAny_noted ?_;rw [compTurn_list];refine wpAny_bind (wpAny_standAt (wpAny_bind (wpAny_mono (turn n s hI) (λ r s₁ h₁=>?_) λ _ _ f=>f.elim)));cases r with
 | none=>exact wpAny_pure h₁
 | some v=>
   refine wpAny_bind (wpAny_mono h₁ (λ _ s₂ h₂=>?_) λ _ _ f=>f.elim);refine wpAny_bind (wpAny_mono h₂ (λ _ s₃ h₃=>wpAny_bind (wpAny_mono h₃ (λ ok s₄ h₄=>?_) λ _ _ f=>f.elim)) λ _ _ f=>f.elim);cases ok with
   | false=>exact wpAny_pure ⟨rfl,h₄⟩
   | true=>
     exact wpAny_bind (wpAny_bind (wpAny_mono h₄ (λ x s₅ h₅=>wpAny_bind (wpAny_mono h₅ (λ _ s₆ h₆=>wpAny_pure (wpAny_pure ⟨rfl,h₆⟩)) λ _ _ f=>f.elim)) λ _ _ f=>f.elim))
abbrev hU (us:List Value) (k:Nat):Obj:={cls:=.type "list",data:=.seq us.toArray k}
section
variable {X:Cx}{N:List Str}{src:List (Option Nat)}{scope:Scope}{elt tg iter:Expr}{ifs:List Expr}{pos:Pos}{wi:TI}{g:TG}{tt:TT}{te:TE}
theorem pE (hc:X.calm=true) (S:cf X N src scope) (hg:∀s H ex,PG (cxC X scope N s H ex) tg g) (ht:∀s H ex,pS (cxC X scope N s H ex) ifs tt) (he:∀s H ex,PE (cxC X scope N s H ex) elt te)
  {pins:List (Addr×Obj)} {σ:St} {Q:VK} {itv:Value} {s2:Shared} {E:Value->Shared->Prop} (h:Lq X pins σ tg (fg g tt te src σ Q) itv s2):
  wpAny (model X.prog X.w) X.A (newList []) (λ acc s₃=>wpAny (model X.prog X.w) X.A (newFunctionEnv scope X.env.globals (iU X.env scope.names []) [] X.env.qual none .none (some X.env)) (λ cenv s₄=>
   codeAny (model X.prog X.w) X.A (.compStart (.ListComp elt [⟨tg,iter,ifs,0⟩] scope pos) 0 itv acc {cenv with scope:=relabel scope X.env}) (tu X pins σ Q acc cenv.locals) s₄) E s₃) E s2:=by
 obtain ⟨it,fp,tn,J,H1,e,I2,T,st2,f2,W,⟨m0,w0⟩,turn⟩:=h;subst e;refine wpAny_newObj_type (wpAny_newFunctionEnv S.nocell (by intro y hy;simp at hy) (λ h₁ hns₁ hsb₁=>?_) S.kind);dsimp only at hns₁ hsb₁ ⊢;generalize hH2:s2.heap.push {cls:=.type "list",dict:=none,data:=.seq ([]:List Value).toArray}=H2 at hns₁ hsb₁ ⊢;have hC:H2.objs.size=s2.heap.objs.size+1:=by rw [<-hH2,Heap.size_push]
 have push:∀b o,s2.heap.get? b=some o->H2.get? b=some o:=λ b o e=>hH2▸Heap.get?_push_of_some _ e;have hD2:H2.get? s2.heap.objs.size=some (hU [] 0):=hH2▸Heap.get?_push_size _ rfl;have hk:∀b o,H2.get? b=some o->h₁.get? b=some o:=λ b o e=>hsb₁.extBut b o (M8 (Heap.lt_size e)) (Heap.get?_push_of_some _ e);generalize hD:s2.heap.objs.size=D at*;have I3:aJ X pins σ H1 {s2 with heap:=H2}:=I2.kept (t':=s2.toks) push;have fD:gH X pins H1 D:=I2.fpOk (Ng hD) (I2.hok.fresh (Ng hD));have fpl:∀b∈fp,b<D:=λ b hb=>by obtain ⟨o,e,_⟩:=T.obj _ _ st2 b hb;rw [<-hD];exact Heap.lt_size e
 have fex:∀b∈D::fp,gH X pins H1 b:=λ b hb=>by
  rcases Lw.mp hb with z | z
  ·rw [z];exact fD
  ·exact f2 b z
 have lex:∀b∈D::fp,b<({s2 with heap:=H2}:Shared).heap.objs.size:=λ b hb=>by
  show b<H2.objs.size
  rcases Lw.mp hb with z | z
  ·rw [z,hC];exact Nk _
  ·rw [hC];exact Nl (fpl b z)
 have I4:=I3.enterC (N:=N) S fex lex (h1:=h₁) (tk:=s2.toks+([]:List (Str×Value)).length) hns₁ hk;generalize hY:cxC X scope N {s2 with heap:=H2} H1 (D::fp)=Y at*;have yP:Y.prog=X.prog:=by rw [<-hY];rfl
 have yw:Y.w=X.w:=by rw [<-hY];rfl
 have yA:Y.A=X.A:=by rw [<-hY];rfl
 have yC:Y.env.locals=H2.objs.size:=by rw [<-hY];rfl
 have yK:Y.K=X.K:=by rw [<-hY];rfl
 have yc:Y.calm=true:=by rw [<-hY];exact hc
 have yfs:Y.fs=sH X.stack:=by rw [<-hY];rfl
 have yex:Y.ex=D::fp:=by rw [<-hY];rfl
 have ypn:Y.pn=[]:=by rw [<-hY];rfl
 have yxe:Y.xe=λ _ _=>False:=by rw [<-hY];rfl
 have ycl:∀x c,Y.env.cells.lookup x=some c->X.env.cells.lookup x=some c:=by rw [<-hY];exact λ x c e=>kn X.env _ _ x c (λ y d z=>by simp at z) e
 have ye:Y.env=compEnvC scope (iU X.env scope.names []) H2.objs.size X.env:=by rw [<-hY];rfl
 have ys0:Y.s₀={s2 with heap:=H2}:=by rw [<-hY];rfl
 have yH0:Y.H₀=H1:=by rw [<-hY];rfl
 have hgY:PG Y tg g:=by rw [<-hY];exact hg _ _ _
 have htY:pS Y ifs tt:=by rw [<-hY];exact ht _ _ _
 have heY:PE Y elt te:=by rw [<-hY];exact he _ _ _
 have nfs:∀b∈D::fp,b∉Y.fs:=λ b hb z=>by
  rw [yfs] at z;obtain ⟨f0,f1,f2',_⟩:=fex b hb
  rcases Lw.mp (I2.stkSub b z) with q | q
  ·exact f1 q
  ·exact f2' q
 have ncl:∀b∈D::fp,∀x c,Y.env.cells.lookup x=some c->c≠b:=λ b hb x c e=>(fex b hb).2.2.2.2.1 x c (ycl x c e);have nC:∀b∈D::fp,b≠Y.env.locals:=λ b hb=>by rw [yC];exact M8 (lex b hb)
 have stat:∀{H':Hp} {us:List Value} {k:Nat},(∀b∈fp,H' b=none)->∀b∈fp,gH Y [(D,hU us k)] H' b:=λ {H' us k} hn b hb=>
  ⟨hn b hb,nC b (LJ _ hb),nfs b (LJ _ hb),.inl (by rw [yex];exact LJ _ hb),ncl b (LJ _ hb),λ p hp=>by
   rw [ypn] at hp;have hp1:p=(D,hU us k):=by simpa using hp
   rw [hp1];exact Nf (fpl b hb)⟩
 have pinD:∀{σ':St} {H':Hp} {s':Shared} {pl:List (Addr×Obj)} {us:List Value} {k:Nat},aJ Y pl σ' H' s'->s'.heap.get? D=some (hU us k)->H' D=none->aJ Y [(D,hU us k)] σ' H' s':=λ {σ' H' s' pl us k} I' e n=>
  I'.pins_of λ p hp=>by
   have hp1:p=(D,hU us k):=by simpa using hp
   subst hp1;exact ⟨e,n,nC D LH,nfs D LH,λ v z=>by cases z⟩
 have I4':aJ Y [(D,hU [] 0)] (eJ src σ) H1 {s2 with heap:=h₁,toks:=s2.toks+([]:List (Str×Value)).length}:=pinD I4 (hk _ _ hD2) fD.1;have loop:codeAny (model X.prog X.w) X.A (.compLoop (.ListComp elt [⟨tg,iter,ifs,0⟩] scope pos) 0 (.ref it) (.ref D) Y.env) (tu X pins σ Q (.ref D) H2.objs.size) {s2 with heap:=h₁,toks:=s2.toks+([]:List (Str×Value)).length}:=by
  refine nv (λ n s'=> ∃i ys us k σ' H',aJ Y [(D,hU us k)] σ' H' s'/\tn i s'.heap/\(∀b∈fp,H' b=none)/\aV ys us/\ys.length<=sizeLine/\W i n ys σ' H') ?_ m0
   ⟨0,[],[],0,_,H1,I4',T.keep _ _ _ st2 λ b hb o e=>hk _ _ (push b o e),λ b hb=>(f2 b hb).1,.nil,M9 _,w0⟩
  rintro n s3 ⟨i,ys,us,k,σ3,H3,I3',st3,fr3,rv,hz,w3⟩
  rcases turn i n ys σ3 H3 w3 with ⟨stop,q⟩ | ⟨go,hlen,step⟩
  ·have hd:=T.done Y yP yw yK yc i _ s3 σ3 H3 (λ _ _=>False) I3' (stat fr3) st3 stop;rw [yA] at hd;refine bJ hd λ r s4 ⟨hr,I4⟩=>?_;subst hr;obtain ⟨eD,nD,_⟩:=I4.pin (D,hU us k) (by simp);have eD:s4.heap.get? D=some (hU us k):=eD;have nD:H3 D=none:=nD;have base:Un (sH X.stack) (D::fp) H1 H3 H2 s4.heap:=by have b:=I4.base;rw [yex,yH0,ys0,yfs] at b;exact b
   have hnD:∀b o,s2.heap.get? b=some o->b≠D:=λ b o e=>by rw [<-hD];exact M8 (Heap.lt_size e)
   have nx:∀b o,s2.heap.get? b=some o->b∉fp->b∉D::fp:=λ b o e hb z=>(Lw.mp z).elim (hnD b o e) hb;have un:Un (sH X.stack) fp H1 (upd H3 D (.lst ys)) s2.heap s4.heap:=
    ⟨λ b o e n hb hx=>base.keep b o (push b o e) n hb (nx b o e hx),λ b o e n hb hx=>base.slot b o (push b o e) n hb (nx b o e hx),λ b o e n hx=>by rw [ah (hnD b o e)];exact base.free b o (push b o e) n (nx b o e hx),
     λ b o e hx=>base.there b o (push b o e) (nx b o e hx),λ b xs e=>by rw [ah (am e fD.1)];exact base.tups b xs e,λ b o u e=>by rw [ah (am e fD.1)];exact base.frzs b o u e,
     λ b ps e=>by rw [ah (am e fD.1)];exact base.tbls b ps e⟩
   have hok:iC X.prog X.w (upd H3 D (.lst ys)) s4.heap:=λ b u e=>by
    by_cases hb:b=D
    ·subst hb;rw [ae] at e;cases e;exact ⟨hz,us,k,rv,eD⟩
    ·rw [ah hb] at e;have x:=I4.hok b u e;rw [yP,yw] at x;exact x.stay (λ c v _ z=>z) (λ c z=>by rw [ah (am z nD)];exact z) λ c xs z=>by rw [ah (am z nD)];exact z
   have ho:s4.os=s2.os:=by rw [I4.os,ys0]
   have J':aJ X pins σ (upd H3 D (.lst ys)) s4:=I2.call' (ch:=fp) ho un hok I4.bare λ b hb=>⟨(f2 b hb).2.2.2.1,(f2 b hb).2.1,(f2 b hb).2.2.2.2.1,(f2 b hb).2.2.2.2.2⟩;refine ⟨⟨_,rfl⟩,D,_,rfl,J',?_,?_,q D nD⟩
   ·obtain ⟨m,hm,_⟩:=I4.loc;rw [yC] at hm;exact ⟨m,hm⟩
   ·refine I2.fpOk (by rw [hC,hD];exact Nc _) ?_;rw [ah (by rw [hC];exact Ni D)];have z:=I4.free;rw [yC] at z;exact z
  ·have hd:=T.item Y yP yw yK yc i _ s3 σ3 H3 (λ _ _=>False) I3' (stat fr3) st3 go;rw [yA] at hd;refine bJ hd λ r s4 ⟨u,hr,h4⟩=>?_;subst hr;refine bJ h4 λ _ s5 ⟨x,H5,I5,r5,y5,st5,fr5⟩=>?_;have I5':=I5.pinned (stat fr5) (T.obj _ _ st5);have hg':=hgY _ s5 σ3 H5 x u _ I5' r5 (step x H5 y5);rw [yP,yw,yA,yxe] at hg';refine bJ hg' λ _ s6 ⟨σ6,H6,I6,q6⟩=>?_;have ht':=htY _ s6 σ6 H6 _ I6 q6;rw [yP,yw,yA,yxe] at ht';refine bJ ht' λ ok s7 ⟨H7,I7,q7⟩=>?_;have again:∀{σ8:St} {H8:Hp} {s8:Shared} {ys':List V} {us':List Value} {k' m':Nat},aJ Y ([(D,hU us' k')]++gM fp s5.heap) σ8 H8 s8->aV ys' us'->ys'.length<=sizeLine->m'<n->W (i+1) m' ys' σ8 H8->
     ∃m,m<n/\∃i ys us k σ' H',aJ Y [(D,hU us k)] σ' H' s8/\tn i s8.heap/\(∀b∈fp,H' b=none)/\aV ys us/\ys.length<=sizeLine/\W i m ys σ' H':=λ {σ8 H8 s8 ys' us' k' m'} I8 rv' hz' hm w8=>by
    refine ⟨m',hm,i+1,ys',us',k',σ8,H8,I8.unpinned,T.keep _ _ _ st5 λ b hb o e=>(I8.pin (b,o) (LS _ (LS _ (gn hb e)))).1,λ b hb=>?_,rv',hz',w8⟩;obtain ⟨o,e,d⟩:=T.obj _ _ st5 b hb;exact (I8.pin (b,o) (LS _ (LS _ (gn hb e)))).2.1
   cases ok with
   | false=>
     obtain ⟨m',hm,w8⟩:=q7;exact again I7 rv hz hm w8
   | true=>
     rw [if_pos rfl];have he':=heY _ s7 σ6 H7 _ I7 q7;rw [yP,yw,yA,yxe] at he';refine bJ he' λ u8 s8 ⟨v,H8,I8,r8,m',hm,w8⟩=>?_;obtain ⟨eD,nD,_⟩:=I8.pin (D,hU us k) (by simp);have eD:s8.heap.get? D=some (hU us k):=eD;have nD:H8 D=none:=nD;have hl:=rv.length;refine call_meets F.slot_list_append ⟨_,eD,rfl⟩ F.entry_list_append (F.args_list_append_2 _ _) (PySem.list_append D us.toArray k u8 (by rw [LB];omega)) ⟨eD,?_⟩;have q:=PySem.IsL.update eD (λ a=>a.push u8);have eu:us.toArray.push u8=(us++[u8]).toArray:=by simp
     rw [eu] at q;obtain ⟨k',q⟩:∃k',(s8.heap.update D (Obj.mapSeq λ a=>a.push u8)).get? D=some (hU (us++[u8]) k'):=⟨_,q⟩;have I8':aJ Y (gM fp s5.heap) σ6 H8 s8:=I8.pins_of λ p hp=>I8.pin p (LS _ (LS _ hp));have I9:aJ Y (gM fp s5.heap) σ6 H8 {s8 with heap:=s8.heap.update D (Obj.mapSeq λ a=>a.push u8)}:=I8'.turned (it:=D) (t':=s8.toks) (λ b o hb e=>(Heap.get?_update_other s8.heap _ (Ne.symm hb)).trans e) nD (nC D LH)
      (.inl (by rw [yex];exact LH)) (ncl D LH) λ p hp=>by
       rw [ypn] at hp;have hp:p∈gM fp s5.heap:=by simpa using hp
       exact M8 (fpl _ (lC hp).1)
     refine again (us':=us++[u8]) (ys':=ys++[v]) (m':=m') (k':=k') (I9.pins_of λ p hp=>?_) (rv.append (.cons r8 .nil)) (by rw [Lz,MF];omega) hm w8
     rcases LK.mp hp with z | z
     ·have hp1:p=(D,hU (us++[u8]) k'):=by simpa using z
      subst hp1;exact ⟨q,nD,nC D LH,nfs D LH,λ v z=>by cases z⟩
     ·exact I9.pin p (LS _ z)
 rw [ye] at loop;exact codeAny_compStart_list loop (T.self _ 0 _ _ _ (T.keep _ _ _ st2 λ b hb o e=>hk _ _ (push b o e)) loop)
theorem x5 (hc:X.calm=true) (S:cf X N src scope) (hi:PI X tg iter wi) (hg:∀s H ex,PG (cxC X scope N s H ex) tg g) (ht:∀s H ex,pS (cxC X scope N s H ex) ifs tt) (he:∀s H ex,PE (cxC X scope N s H ex) elt te)
  (hs:∀x,foldedSetIterable iter X.env x=pure x:=by intro _;rfl):PE X (.ListComp elt [⟨tg,iter,ifs,0⟩] scope pos) (tComp wi g tt te src):=by
 intro pins s σ H Q I h;rw [eval_ListComp];refine wpAny_comprehension_free (use:=none) rfl hs (ij (S.cells I.ok)) S.kind S.names (bJ (hi pins s σ H _ I h) λ v s1 h1=>bJ h1 λ it s2 h2=>?_);refine bJ (pE hc S hg ht he h2) λ acc s3 h3=>bJ h3 λ cenv s4 h4=>codeAny_mono h4 λ r s' hr=>?_;obtain ⟨⟨f,rfl⟩,D,H',rfl,J,⟨m,hm⟩,hf,q⟩:=hr;refine ⟨m,hm,λ h' sb=>?_⟩;exact ⟨.ref D,H',J.turned (t':=s'.toks) (λ b o hb e=>(sb.2 b hb).trans e) hf.1 hf.2.1 hf.2.2.2.1 hf.2.2.2.2.1 hf.2.2.2.2.2,rfl,q⟩
theorem jR {i:Nat}{y:Str}{py spos:Pos}(hc:X.calm=true) (S:cf X N src scope) (hi:PI X tg iter wi) (hg:∀s H ex,PG (cxC X scope N s H ex) tg g) (ht:∀s H ex,pS (cxC X scope N s H ex) ifs tt) (he:∀s H ex,PE (cxC X scope N s H ex) elt te)
  (hN:X.N.Nodup) (hy:X.N[i]? =some y) (hx:E9 X.env.scope y) (hsw:swapsWith (.ListComp elt [⟨tg,iter,ifs,0⟩] scope pos) (some (.Name y py)) spos.line X.env=pure true) (hf:X.fn y=true\/X.env.scope.names.lookup y=some .local)
  (hs:∀x,foldedSetIterable iter X.env x=pure x:=by intro _;rfl):PS X (.Assign [.Name y py] (.ListComp elt [⟨tg,iter,ifs,0⟩] scope pos) spos) (tAsg (tComp wi g tt te src) (gName i)):=by
 intro pins s σ H D I h;rw [exec_Assign_Name_used _ _ _ _ hsw];refine wpAny_bind (wpAny_standAt (wpAny_bind ?_));show wpAny _ X.A (do let _<-comprehension (.ListComp elt [⟨tg,iter,ifs,0⟩] scope pos) scope X.env _ (newList []) false (eval iter X.env) (some (assign (.Name y py) X.env))) _ _ s;refine wpAny_bind (wpAny_mono (wpAny_comprehension_free (use:=some (assign (.Name y py) X.env)) (Q:=λ _ s'=>SP X pins D .next s') rfl hs (ij (S.cells I.ok)) S.kind S.names (bJ (hi pins s σ H _ I h) λ v s1 h1=>bJ h1 λ it s2 h2=>?_)) (λ _ s' hq=>wpAny_pure (wpAny_pure hq)) λ _ _ e=>e);refine bJ (pE hc S hg ht he h2) λ acc s3 h3=>bJ h3 λ cenv s4 h4=>codeAny_mono h4 λ r s' hr=>?_;obtain ⟨⟨f,rfl⟩,D',H',rfl,J,⟨m,hm⟩,hfp,q⟩:=hr;show wpAny _ X.A (assign (.Name y py) X.env (.ref D')) _ _ _;refine wpAny_assign_Name (lq J hN hy hx (v:=.ref D') rfl (λ s5 I5 ⟨a,sb,ha⟩=>?_) hf);have hne:cenv.locals≠a:=by
  rcases ha with z | z
  ·rw [z];exact hfp.2.1
  ·exact Ne.symm (hfp.2.2.2.2.1 y a z)
 refine ⟨m,hm.sameBut sb hne,λ h' sb'=>?_⟩;exact ⟨_,H',I5.turned (t':=s5.toks) (λ b o hb e=>(sb'.2 b hb).trans e) hfp.1 hfp.2.1 hfp.2.2.2.1 hfp.2.2.2.2.1 hfp.2.2.2.2.2,q⟩
end
end L2
namespace L2
open PySem PySem.Spec PyProof.Rows
section
variable {X:Cx}
theorem PE.imp {e:Expr}{t t':TE}(h:PE X e t) (i:∀σ H Q,t' σ H Q->t σ H Q):PE X e t':=λ pins s σ H Q I q=>h pins s σ H Q I (i σ H Q q)
theorem bn.imp {f:Value}{r r':List V->Hp->VK->Prop}(h:bn X f r) (i:∀xs H Q,r' xs H Q->r xs H Q):bn X f r':=λ pins s σ H xs us Q I r q=>h pins s σ H xs us Q I r (i xs H Q q)
theorem uR.imp {id:String}{r r':V->List V->Hp->VK->Prop}(h:uR X id r) (i:∀x xs H Q,r' x xs H Q->r x xs H Q):uR X id r':=λ pins s σ H x xs v us Q I rx r q=>h pins s σ H x xs v us Q I rx r (i x xs H Q q)
abbrev Str.tl (x:Str):List Nat:=x.cps.toList
theorem str_ext {x y:Str}(h:x.cps.toList=y.cps.toList):x=y:=by obtain ⟨a⟩:=x;obtain ⟨b⟩:=y;have:a=b:=NL.mp h;rw [this]
theorem bG (x:Str):x.length=x.cps.toList.length:=by simp [Str.length]
theorem cS (x y:Str):(x++y).cps.toList=x.cps.toList++y.cps.toList:=by show (x.cps++y.cps).toList=_;simp
theorem tZ:ik X (compareOp .LtE) (λ x y H Q=> ∃i j,x=.str i/\y=.str j/\Q (.bl (!decide (j.cps.toList<i.cps.toList))) H):=by intro pins s σ H x y v u Q I rx ry h;obtain ⟨i,j,rfl,rfl,q⟩:=h;obtain ⟨t,rfl⟩:=rx;obtain ⟨t',rfl⟩:=ry;exact PySem.P.le_str (fin_bl I q rfl)
theorem xH (x y:Str):(decide (0+y.length<=x.length)&&Builtin.Str.subAt x y 0)=y.cps.toList.isPrefixOf x.cps.toList:=by
 unfold Builtin.Str.subAt;rw [Nv];simp only [Nu,decide_eq_true_eq,beq_iff_eq,List.isPrefixOf_iff_prefix];rw [List.prefix_iff_eq_take];have e1:(x.cps.extract 0 (0+y.length)).toList=x.cps.toList.take y.cps.toList.length:=by rw [Array.toList_extract,bG];simp [List.extract]
 constructor
 ·rintro ⟨_,h⟩;rw [<-e1,h]
 ·intro h;refine ⟨?_,NL.mp (e1.trans h.symm)⟩;have:=congrArg List.length h;rw [LW] at this;rw [bG,bG];omega
theorem kY:uR X "str.startswith" (λ x vs H Q=> ∃a b,x=.str a/\vs=[.str b]/\Q (.bl (b.cps.toList.isPrefixOf a.cps.toList)) H):=by intro pins s σ H x xs v us Q I rx r h;obtain ⟨a,b,rfl,rfl,q⟩:=h;obtain ⟨t,rfl⟩:=rx;obtain ⟨u,rfl,t',rfl⟩:=cN r;refine call_gives F.slot_str_startswith (typeIs_str _ _ _) F.entry_str_startswith (F.args_str_startswith_2 _ _) (gives_str_startswith a b t t') ?_;exact fin_bl I q (xH a b).symm
def jN (x:Str) (lo hi:Option Int):Str:=⟨((x.cps.toList.drop (HT.sIx x.length 0 lo)).take (HT.sIx x.length x.length hi - HT.sIx x.length 0 lo)).toArray⟩
theorem rY (l:List Nat):∀(k i:Nat),i+k<=l.length->(List.range' i k).filterMap (λ m=>l[m]?)=(l.drop i).take k
 | 0,i,_=>by simp
 | k+1,i,h=>by have ih:=rY l k (i+1) (by omega);rw [List.range'_succ,Mr,Ly (by omega),List.drop_eq_getElem_cons (by omega),List.take_succ_cons];show l[i]::_=_;rw [ih]
theorem vU (x:Str) (i k:Nat) (h:i+k<=x.length):((List.range k).map λ (m:Nat)=>i+m).filterMap (x.cps[·]?)=(x.cps.toList.drop i).take k:=by have hx:x.cps.toList.length=x.length:=(bG x).symm;rw [<-List.range'_eq_map_range,<-rY _ _ _ (by omega)];congr 1;funext m;rw [NH]
theorem sn (lo hi:Option Int) (n:Nat):Builtin.Str.strSliceIndices lo hi 1 n=(List.range (HT.sIx n n hi - HT.sIx n 0 lo)).map λ m=>HT.sIx n 0 lo+m:=by
 have cl:∀(v:Int) (d:Nat),max 0 (min (if v<0 then v+(n:Int) else v) (n:Int))=((HT.sIx n d (some v):Nat):Int):=λ v d=>by
  show _=(((if v<0 then (v+(n:Int)).toNat else min v.toNat n):Nat):Int)
  by_cases hv:v<0
  ·simp only [if_pos hv];omega
  ·simp only [if_neg hv];omega
 have main:∀(a b:Nat),sliceRange (a:Int) (b:Int) 1=(List.range (b - a)).map λ m=>a+m:=λ a b=>by
  have e:(if (1:Int) > 0 then (if (a:Int)<(b:Int) then ((b:Int) - a+1 - 1) / 1 else 0) else (if (a:Int) > b then ((a:Int) - b - 1 - 1) / (-1) else 0)).toNat=b - a:=by rw [if_pos (by decide)];split<;>omega
  show (List.range (if (1:Int) > 0 then (if (a:Int)<(b:Int) then ((b:Int) - a+1 - 1) / 1 else 0) else (if (a:Int) > b then ((a:Int) - b - 1 - 1) / (-1) else 0)).toNat).map (λ (k:Nat)=>((a:Int)+1*(k:Int)).toNat)=_;rw [e];apply Md;intro m _;omega
 have e1:HT.sIx n 0 none=0:=rfl;have e2:HT.sIx n n none=n:=rfl;unfold Builtin.Str.strSliceIndices;simp only [show (1:Int) > 0 by decide,if_true];cases lo with
 | none=>
   cases hi with
   | none=>exact main 0 n
   | some h=>show sliceRange ((0:Nat):Int) (max 0 (min (if h<0 then h+(n:Int) else h) (n:Int))) 1=_;rw [cl h n];exact main _ _
 | some l=>
   cases hi with
   | none=>show sliceRange (max 0 (min (if l<0 then l+(n:Int) else l) (n:Int))) (n:Int) 1=_;rw [cl l 0];exact main _ _
   | some h=>show sliceRange (max 0 (min (if l<0 then l+(n:Int) else l) (n:Int))) (max 0 (min (if h<0 then h+(n:Int) else h) (n:Int))) 1=_;rw [cl l 0,cl h n];exact main _ _
theorem tJ (x:Str) (lo hi:Option Int):(⟨((Builtin.Str.strSliceIndices lo hi 1 x.length).filterMap (x.cps[·]?)).toArray⟩:Str)=jN x lo hi:=by
 unfold jN;rw [sn];have h1:=HT.sIx_le x.length 0 (M9 _) lo;have h2:=HT.sIx_le x.length x.length (M6 _) hi
 by_cases h:HT.sIx x.length 0 lo<=HT.sIx x.length x.length hi
 ·rw [vU x _ _ (by omega)]
 ·have e:HT.sIx x.length x.length hi - HT.sIx x.length 0 lo=0:=by omega
  rw [e];simp
theorem jl (x:Str) (lo hi:Option Int):(jN x lo hi).cps.toList=(x.cps.toList.drop (HT.sIx x.length 0 lo)).take (HT.sIx x.length x.length hi - HT.sIx x.length 0 lo):=by unfold jN;simp
theorem w9 (x:Str) (lo hi:Option Int):(jN x lo hi).length<=x.length:=by rw [bG,jl,bG x,LW,LU];omega
theorem qV {x:Str}{lo hi:Option Int}(h:(Builtin.Str.strSliceIndices lo hi 1 x.length).length=x.length):jN x lo hi=x:=by
 rw [sn,Lv,Mh] at h;have h1:=HT.sIx_le x.length 0 (M9 _) lo;have h2:=HT.sIx_le x.length x.length (M6 _) hi;apply str_ext;rw [jl]
 by_cases z:x.length=0
 ·have e:x.cps.toList=[]:=MW.mp (by rw [<-bG];exact z);rw [e];simp
 ·have e1:HT.sIx x.length 0 lo=0:=by omega
  rw [h,e1,List.drop_zero,Mc (by rw [<-bG];exact M6 _)]
def KR:V->Option Int->Option Int->Hp->VK->Prop:=λ x lo hi H Q=> ∃z,x=.str z/\z.length<=sizeLine/\Q (.str (jN z lo hi)) H
theorem oP {v:Value}{o:Option Int}(p:IsPart v o):∃q:Option (Int×Tok),v=partValue q/\q.map (·.1)=o:=by
 cases p with
 | none=>exact ⟨none,rfl,rfl⟩
 | int i t=>exact ⟨some (i,t),rfl,rfl⟩
theorem DD:uP X KR:=by
 intro pins s σ H x v vl vu lo hi sl Q I rx hs pl pu h;obtain ⟨z,rfl,hz,q⟩:=h;obtain ⟨t,rfl⟩:=rx;obtain ⟨l,rfl,el⟩:=oP pl;obtain ⟨u,rfl,eu⟩:=oP pu;refine ⟨"str",_,F.slot_str_getitem.lookup,typeIs_str _ _ _,?_⟩;obtain ⟨o,ho,hc,hd⟩:=hs;refine wpAny_getItem_str_slice (l:=l) (u:=u) (st:=none) ⟨o,ho,hc,hd⟩ rfl ?_;unfold sliceMade slicePicked;rw [el,eu];split
 ·rename_i hw;have hw:(Builtin.Str.strSliceIndices lo hi 1 z.length).length=z.length:=by simpa using hw
  rw [qV hw] at q;exact ⟨.str z,H,I,⟨t,rfl⟩,q⟩
 ·have e:=tJ z lo hi;have e':(⟨((Builtin.Str.strSliceIndices lo hi ((Option.map (·.1) (none:Option (Int×Tok))).getD 1) z.length).filterMap (z.cps[·]?)).toArray⟩:Str)=jN z lo hi:=e;rw [e'];exact ⟨M7 (w9 z lo hi) hz,⟨.str _,H,I.tok _,⟨_,rfl⟩,q⟩⟩
theorem kZ:bn X (.type "int") (λ xs H Q=> ∃x n,xs=[.str x]/\PySem.intText? x=some n/\x.length<=640/\Q (.int n) H):=by intro pins s σ H xs us Q I r h;obtain ⟨x,n,rfl,hn,hl,q⟩:=h;obtain ⟨u,rfl,t,rfl⟩:=cN r;exact PySem.W.KIN.call_text hn hl ⟨.int n,H,I.tok _,⟨_,rfl⟩,q⟩
theorem io:∀{ys:List Str}{us:List Value},aV (ys.map V.str) us->StrsAre us ys
 | [],us,r=>by rw [LX] at r;cases r;exact .nil
 | y::ys,us,r=>by
   rw [LL] at r;cases r with
   | cons r1 r2=>
     obtain ⟨t,e⟩:=r1;subst e;exact .cons y t (io r2)
theorem yo:uR X "str.join" (λ x vs H Q=> ∃sep p ys,x=.str sep/\vs=[.ref p]/\aI X.K H p (ys.map V.str)/\(ys.map (·.length)).sum+ys.length*sep.length<=16777216/\Q (.str (Txt.join sep ys)) H):=by intro pins s σ H x xs v us Q I rx r h;obtain ⟨sep,p,ys,rfl,rfl,hp,hz,q⟩:=h;obtain ⟨t,rfl⟩:=rx;obtain ⟨u,rfl,ru⟩:=cN r;cases ru;obtain ⟨its,rv,pl,hl⟩:=I.list hp;exact join_list pl.isList (by simpa using io rv) hz λ t' k=>⟨.str _,H,I.tok _,⟨t',rfl⟩,q⟩
theorem nN {P:Program}{w:World}{A:Around}{its:List Value}{ks:List Bool}(r:aV (ks.map V.bl) its):TruthOf P w A (λ i v=>its.toArray[i]? =some v) (λ i=>ks.getD i false):=by
 intro i v s Q E hv hq;have hv:its[i]? =some v:=by simpa using hv
 have hlen:=r.length;rw [Lv] at hlen;have hi:i<its.length:=(LI.mp hv).1;have hk:(ks.map V.bl)[i]? =some (V.bl (ks.getD i false)):=by rw [LD,Ly (by omega),LQ,Ly (by omega)];rfl
 obtain ⟨u,hu,ru⟩:=r.get hk;rw [hv] at hu;cases hu;cases ru;exact wpAny_truthy_bool hq
theorem tN (ks:List Bool):(List.range ks.length).all (λ i=>ks.getD i false)=ks.all id:=by
 rw [Nv,LP,LP]
 constructor
 ·intro h b hb;obtain ⟨i,hi,e⟩:=MX.mp hb;have:=h i (L5.mpr hi);rw [LQ,Ly hi] at this;rw [<-e];exact this
 ·intro h i hi;have hi:=L5.mp hi;rw [LQ,Ly hi];exact h _ (Mi hi)
theorem xi (hc:X.calm=true):bn X (.builtin "all") (λ xs H Q=> ∃(p:Addr) (ks:List Bool),xs=[.ref p]/\aI X.K H p (ks.map V.bl)/\Q (.bl (ks.all id)) H):=by
 intro pins s σ H xs us Q I r h;obtain ⟨p,ks,rfl,hp,q⟩:=h;obtain ⟨u,rfl,ru⟩:=cN r;cases ru;obtain ⟨its,rv,pl,hl⟩:=I.list hp;have hlen:=rv.length;rw [Lv] at hlen;refine call_all_walk (wpAny_pyIter_list pl.isList ?_);have hne:p≠s.heap.objs.size:=by obtain ⟨o,ho,_⟩:=pl.isList;exact M8 (Heap.lt_size ho)
 have W:=Walks.list (prog:=X.prog) (w:=X.w) (A:=X.A.in1) (show X.A.in1.handled=none from I.ok.hd hc) s.heap.objs.size p hne its.toArray;have hpush:∀o b ob,s.heap.get? b=some ob->(s.heap.push o).get? b=some ob:=λ o b ob e=>Heap.get?_push_of_some _ e;refine ⟨_,_,_,_,_,_,λ i=>ks.getD i false,rfl,W,⟨⟨_,Heap.get?_push_size _ rfl,rfl,rfl⟩,pl.isList.at λ o e=>hpush _ _ o e⟩,nN rv,λ h' tk k=>?_⟩;have e:(List.range its.toArray.size).all (λ i=>ks.getD i false)=ks.all id:=by rw [<-tN,LB,<-hlen]
 rw [e];refine ⟨.bl _,H,I.kept (t':=tk) (h':=h') λ b ob e=>k b ob ?_ (hpush _ b ob e),rfl,q⟩;intro hb;have:b=s.heap.objs.size:=by simpa using hb
 subst this;exact absurd (Heap.lt_size e) (Nd _)
end
end L2
namespace L2
open PySem PySem.Spec PyProof.Rows
inductive lb (K:Frag) (H:Hp):Nat->V->V->Bool->Prop
 | flat {n:Nat} {x y:V} (hx:flatV x=true) (hy:flatV y=true):lb K H n x y (eqV x y)
 | same {n:Nat} {a:Addr}:lb K H n (.ref a) (.ref a) true
 | len {n:Nat} {a b:Addr} {xs ys:List V} (ha:aI K H a xs) (hb:aI K H b ys) (hab:a≠b) (hl:xs.length≠ys.length):lb K H (n+1) (.ref a) (.ref b) false
 | lst {n:Nat} {a b:Addr} {xs ys:List V} {es:Nat->Bool} (ha:aI K H a xs) (hb:aI K H b ys) (hab:a≠b) (hl:xs.length=ys.length)
   (he:∀i x y,xs[i]? =some x->ys[i]? =some y->lb K H n x y (es i)):lb K H (n+1) (.ref a) (.ref b) ((List.range xs.length).all es)
 | tup {n:Nat} {a b:Addr} {xs ys:List V} {es:Nat->Bool} (ha:cg K H a xs) (hb:cg K H b ys) (hab:a≠b)
   (he:∀i x y,xs[i]? =some x->ys[i]? =some y->lb K H n x y (es i)):lb K H (n+1) (.ref a) (.ref b) ((List.range (min xs.length ys.length)).all es&&xs.length == ys.length)
 | nref {n:Nat} {x:V} {a:Addr} {xs:List V} (hx:flatV x=true) (ha:aI K H a xs\/cg K H a xs):lb K H n x (.ref a) false
 | refn {n:Nat} {x:V} {a:Addr} {xs:List V} (hx:flatV x=true) (ha:aI K H a xs\/cg K H a xs):lb K H n (.ref a) x false
section
variable {X:Cx}{pins:List (Addr×Obj)}{σ:St}{H:Hp}{s:Shared}
theorem eF {xs:List V}{its:List Value}(r:aV xs its) {j:Nat}(h:j<its.toArray.size):∃x,xs[j]? =some x/\aN x its.toArray[j]:=by
 have hl:=r.length;have hj:j<its.length:=by simpa using h
 have hx:xs[j]? =some (xs[j]'(by omega)):=Ly (by omega);obtain ⟨u,hu,ru⟩:=r.get hx;refine ⟨_,hx,?_⟩;have e:its.toArray[j]=u:=by rw [Ly hj] at hu;simpa using Option.some.inj hu
 rw [e];exact ru
theorem nu (I:aJ X pins σ H s):∀{n:Nat}{x y:V}{k:Bool},lb X.K H n x y k->∀(A:Around),A.units+n<cLine->∀{u v:Value},aN x u->aN y v->SeqAt.EqAt A s u v k:=by
 intro n x y k h
 induction h with
 | flat hx hy=>exact λ A _ u v ru rv=>wX ru rv hx hy
 | same=>
   intro A _ u v ru rv;cases ru;cases rv;exact SeqAt.EqAt.same _
 | len ha hb hab hl=>
   intro A hu u v ru rv;cases ru;cases rv;obtain ⟨its,r1,p1,_⟩:=I.list ha;obtain ⟨its2,r2,p2,_⟩:=I.list hb;have l1:=r1.length;have l2:=r2.length;refine .of_refs hab (.lists_lengths p1.isList p2.isList (by simp;omega) (by omega))
 | @lst n a b xs ys es ha hb hab hl he ih=>
   intro A hu u v ru rv;cases ru;cases rv;obtain ⟨its,r1,p1,_⟩:=I.list ha;obtain ⟨its2,r2,p2,_⟩:=I.list hb;have l1:=r1.length;have l2:=r2.length;have e:(List.range xs.length).all es=(List.range its.toArray.size).all es:=by rw [LB,l1]
   rw [e];refine .of_refs hab (.lists p1.isList p2.isList (by simp;omega) (by omega) λ j h1 h2=>?_);obtain ⟨x,hx,rx⟩:=eF r1 h1;obtain ⟨y,hy,ry⟩:=eF r2 h2;exact ih j x y hx hy A.in1 (by show A.units+1+n<cLine;omega) rx ry
 | @tup n a b xs ys es ha hb hab he ih=>
   intro A hu u v ru rv;cases ru;cases rv;obtain ⟨its,r1,p1,_⟩:=I.tuple ha;obtain ⟨its2,r2,p2,_⟩:=I.tuple hb;have l1:=r1.length;have l2:=r2.length;have e:((List.range (min xs.length ys.length)).all es&&xs.length == ys.length)=((List.range (min its.toArray.size its2.toArray.size)).all es&&its.toArray.size == its2.toArray.size):=by rw [LB,LB,l1,l2]
   rw [e];refine .of_refs hab (.tuples (show s.heap.IsTuple a its.toArray from p1) (show s.heap.IsTuple b its2.toArray from p2) (by omega) λ j h1 h2=>?_);obtain ⟨x,hx,rx⟩:=eF r1 h1;obtain ⟨y,hy,ry⟩:=eF r2 h2;exact ih j x y hx hy A.in1 (by show A.units+1+n<cLine;omega) rx ry
 | @nref n x a xs hx ha=>
   intro A hu u v ru rv;cases rv
   rcases ha with ha | ha
   ·obtain ⟨its,r1,p1,_⟩:=I.list ha;have hl:=p1.isList;cases x with
    | non=>cases ru;exact .none_list hl (by omega)
    | bl b=>cases ru;exact .bool_list b hl (by omega)
    | int b=>obtain ⟨t,rfl⟩:=ru;exact .int_list b t hl (by omega)
    | str b=>obtain ⟨t,rfl⟩:=ru;exact .str_list b t hl (by omega)
    | _=>simp [flatV] at hx
   ·obtain ⟨its,r1,p1,_⟩:=I.tuple ha;have hl:s.heap.IsTuple a its.toArray:=p1;cases x with
    | non=>cases ru;exact .none_tuple hl (by omega)
    | bl b=>cases ru;exact .bool_tuple b hl (by omega)
    | int b=>obtain ⟨t,rfl⟩:=ru;exact .int_tuple b t hl (by omega)
    | str b=>obtain ⟨t,rfl⟩:=ru;exact .str_tuple b t hl (by omega)
    | _=>simp [flatV] at hx
 | @refn n x a xs hx ha=>
   intro A hu u v ru rv;cases ru
   rcases ha with ha | ha
   ·obtain ⟨its,r1,p1,_⟩:=I.list ha;have hl:=p1.isList;cases x with
    | non=>cases rv;exact .list_none hl (by omega)
    | bl b=>cases rv;exact .list_bool b hl (by omega)
    | int b=>obtain ⟨t,rfl⟩:=rv;exact .list_int b t hl (by omega)
    | str b=>obtain ⟨t,rfl⟩:=rv;exact .list_str b t hl (by omega)
    | _=>simp [flatV] at hx
   ·obtain ⟨its,r1,p1,_⟩:=I.tuple ha;have hl:s.heap.IsTuple a its.toArray:=p1;cases x with
    | non=>cases rv;exact .tuple_none hl (by omega)
    | bl b=>cases rv;exact .tuple_bool b hl (by omega)
    | int b=>obtain ⟨t,rfl⟩:=rv;exact .tuple_int b t hl (by omega)
    | str b=>obtain ⟨t,rfl⟩:=rv;exact .tuple_str b t hl (by omega)
    | _=>simp [flatV] at hx
end
inductive pU (K:Frag) (H:Hp):Nat->V->V->Bool->Prop
 | len {n:Nat} {a b:Addr} {xs ys:List V} (ha:aI K H a xs) (hb:aI K H b ys) (hl:xs.length≠ys.length):pU K H (n+1) (.ref a) (.ref b) false
 | lst {n:Nat} {a b:Addr} {xs ys:List V} {es:Nat->Bool} (ha:aI K H a xs) (hb:aI K H b ys) (hl:xs.length=ys.length)
   (he:∀i x y,xs[i]? =some x->ys[i]? =some y->lb K H n x y (es i)):pU K H (n+1) (.ref a) (.ref b) ((List.range xs.length).all es)
 | tup {n:Nat} {a b:Addr} {xs ys:List V} {es:Nat->Bool} (ha:cg K H a xs) (hb:cg K H b ys)
   (he:∀i x y,xs[i]? =some x->ys[i]? =some y->lb K H n x y (es i)):pU K H (n+1) (.ref a) (.ref b) ((List.range (min xs.length ys.length)).all es&&xs.length == ys.length)
section
variable {X:Cx}
theorem D4 {n:Nat}(hu:X.A.units+n<cLine):ik X (compareOp .Eq) (λ x y H Q=> ∃k,pU X.K H n x y k/\Q (.bl k) H):=by
 intro pins s σ H x y v u Q I rx ry h;obtain ⟨k,h,q⟩:=h;cases h with
 | @len n a b xs ys ha hb hl=>
   cases rx;cases ry;obtain ⟨its,r1,p1,_⟩:=I.list ha;obtain ⟨its2,r2,p2,_⟩:=I.list hb;have l1:=r1.length;have l2:=r2.length;exact SeqAt.eq_list_lengthsAt p1.isList p2.isList (by simp;omega) (by omega) (fin_bl I q rfl)
 | @lst n a b xs ys es ha hb hl he=>
   cases rx;cases ry;obtain ⟨its,r1,p1,_⟩:=I.list ha;obtain ⟨its2,r2,p2,_⟩:=I.list hb;have l1:=r1.length;have l2:=r2.length;refine SeqAt.eq_listAt (e:=es) p1.isList p2.isList (by simp;omega) (by omega) (λ j h1 h2=>?_) (fin_bl I q (by rw [LB,l1]));obtain ⟨x,hx,rx⟩:=eF r1 h1;obtain ⟨y,hy,ry⟩:=eF r2 h2;exact nu I (he j x y hx hy) X.A.in1 (by show X.A.units+1+n<cLine;omega) rx ry
 | @tup n a b xs ys es ha hb he=>
   cases rx;cases ry;obtain ⟨its,r1,p1,_⟩:=I.tuple ha;obtain ⟨its2,r2,p2,_⟩:=I.tuple hb;have l1:=r1.length;have l2:=r2.length;refine SeqAt.eq_tupleAt (e:=es) (show s.heap.IsTuple a its.toArray from p1) (show s.heap.IsTuple b its2.toArray from p2) (by omega) (λ j h1 h2=>?_) (fin_bl I q (by rw [LB,LB,l1,l2]));obtain ⟨x,hx,rx⟩:=eF r1 h1;obtain ⟨y,hy,ry⟩:=eF r2 h2;exact nu I (he j x y hx hy) X.A.in1 (by show X.A.units+1+n<cLine;omega) rx ry
theorem DY {n:Nat}(hu:X.A.units+n<cLine):ik X (compareOp .NotEq) (λ x y H Q=> ∃k,pU X.K H n x y k/\Q (.bl (!k)) H):=by
 intro pins s σ H x y v u Q I rx ry h;obtain ⟨k,h,q⟩:=h;cases h with
 | @len n a b xs ys ha hb hl=>
   cases rx;cases ry;obtain ⟨its,r1,p1,_⟩:=I.list ha;obtain ⟨its2,r2,p2,_⟩:=I.list hb;have l1:=r1.length;have l2:=r2.length;exact EqBoolInt.of_rcne (SeqAt.RcNeAt.lists_lengths p1.isList p2.isList (by simp;omega) (by omega)) (fin_bl I q rfl)
 | @lst n a b xs ys es ha hb hl he=>
   cases rx;cases ry;obtain ⟨its,r1,p1,_⟩:=I.list ha;obtain ⟨its2,r2,p2,_⟩:=I.list hb;have l1:=r1.length;have l2:=r2.length;refine EqBoolInt.of_rcne (SeqAt.RcNeAt.lists (e:=es) p1.isList p2.isList (by simp;omega) (by omega) (λ j h1 h2=>?_)) (fin_bl I q (by rw [LB,l1]));obtain ⟨x,hx,rx⟩:=eF r1 h1;obtain ⟨y,hy,ry⟩:=eF r2 h2;exact nu I (he j x y hx hy) X.A.in1 (by show X.A.units+1+n<cLine;omega) rx ry
 | @tup n a b xs ys es ha hb he=>
   cases rx;cases ry;obtain ⟨its,r1,p1,_⟩:=I.tuple ha;obtain ⟨its2,r2,p2,_⟩:=I.tuple hb;have l1:=r1.length;have l2:=r2.length;refine EqBoolInt.of_rcne (SeqAt.RcNeAt.tuples (e:=es) (show s.heap.IsTuple a its.toArray from p1) (show s.heap.IsTuple b its2.toArray from p2) (by omega) (λ j h1 h2=>?_)) (fin_bl I q (by rw [LB,LB,l1,l2]));obtain ⟨x,hx,rx⟩:=eF r1 h1;obtain ⟨y,hy,ry⟩:=eF r2 h2;exact nu I (he j x y hx hy) X.A.in1 (by show X.A.units+1+n<cLine;omega) rx ry
end
def iV (op:Operator) (x y:V) (H:Hp) (Q:VK):Prop:=match op,x,y with
 | .Add,.int i,.int j=>Q (.int (i+j)) H
 | .Add,.str i,.str j=>i.length+j.length<=sizeLine/\Q (.str (i++j)) H
 | .Add,.ref a,.ref b=>DQ (.ref a) (.ref b) H Q
 | .Sub,.int i,.int j=>Q (.int (i - j)) H
 | .Mult,.int i,.int j=>uV i j/\Q (.int (i*j)) H
 | .FloorDiv,.int i,.int j=>y9 i j/\Q (.int (i / j)) H
 | .Mod,.int i,.int j=>0<j/\Q (.int (i % j)) H
 | .Pow,.int i,.int j=>EW i j/\Q (.int (i ^ j.toNat)) H
 | _,_,_=>False
section
variable {X:Cx}{a b c:Expr}{ta tb tc:TE}{pos:Pos}
theorem D6 (op:Operator):ik X (binaryOp op) (iV op):=by
 intro pins s σ H x y v u Q I rx ry h;unfold iV at h;split at h
 ·exact D7 pins s σ H _ _ v u Q I rx ry ⟨_,_,rfl,rfl,h⟩
 ·exact qy pins s σ H _ _ v u Q I rx ry ⟨_,_,rfl,rfl,h.1,h.2⟩
 ·exact D5 pins s σ H _ _ v u Q I rx ry h
 ·exact DW pins s σ H _ _ v u Q I rx ry ⟨_,_,rfl,rfl,h⟩
 ·exact DZ pins s σ H _ _ v u Q I rx ry ⟨_,_,rfl,rfl,h.1,h.2⟩
 ·exact yb pins s σ H _ _ v u Q I rx ry ⟨_,_,rfl,rfl,h.1,h.2⟩
 ·exact D0 pins s σ H _ _ v u Q I rx ry ⟨_,_,rfl,rfl,h.1,h.2⟩
 ·exact DX pins s σ H _ _ v u Q I rx ry ⟨_,_,rfl,rfl,h.1,h.2⟩
 ·exact h.elim
def eqB:V->V->Option Bool
 | .non,.non=>some true
 | .int i,.int j=>some (decide (i=j))
 | .bl i,.bl j=>some (decide (i=j))
 | .str i,.str j=>some (decide (i=j))
 | .non,.int _=>some false | .int _,.non=>some false | .non,.bl _=>some false | .bl _,.non=>some false | .non,.str _=>some false | .str _,.non=>some false
 | .int _,.str _=>some false | .str _,.int _=>some false | .bl _,.str _=>some false | .str _,.bl _=>some false
 | _,_=>none
theorem pB {x y:V}{k:Bool}(h:eqB x y=some k):scal x y=true/\decide (x=y)=k:=by
 cases x<;>cases y<;>simp [eqB,scal] at h ⊢ <;>first | exact h | (subst h;rfl)
def bb (K:Frag) (op:CmpOp) (x y:V) (H:Hp) (Q:VK):Prop:=match op,x,y with
 | .Eq,.ref a,.ref b=> ∃k,pU K H 20 (.ref a) (.ref b) k/\Q (.bl k) H
 | .NotEq,.ref a,.ref b=> ∃k,pU K H 20 (.ref a) (.ref b) k/\Q (.bl (!k)) H
 | .Eq,x,y=>match eqB x y with | some k=>Q (.bl k) H | none=>False
 | .NotEq,x,y=>match eqB x y with | some k=>Q (.bl (!k)) H | none=>False
 | .Lt,.int i,.int j=>Q (.bl (decide (i<j))) H
 | .LtE,.int i,.int j=>Q (.bl (decide (i<=j))) H
 | .Gt,.int i,.int j=>Q (.bl (decide (j<i))) H
 | .GtE,.int i,.int j=>Q (.bl (decide (j<=i))) H
 | .Lt,.str i,.str j=>Q (.bl (decide (i.cps.toList<j.cps.toList))) H
 | .LtE,.str i,.str j=>Q (.bl (!decide (j.cps.toList<i.cps.toList))) H
 | .In,.str i,.str j=>Q (.bl (!(Builtin.Str.occurrences j i 0 j.length 1).isEmpty)) H
 | .NotIn,.str i,.str j=>Q (.bl (!(!(Builtin.Str.occurrences j i 0 j.length 1).isEmpty))) H
 | .In,x,.ref p=>rW K false x (.ref p) H Q
 | .NotIn,x,.ref p=>rW K true x (.ref p) H Q
 | .Is,x,.non=>Q (.bl (decide (x=.non))) H
 | .IsNot,x,.non=>Q (.bl (!decide (x=.non))) H
 | _,_,_=>False
theorem jd (op:CmpOp) (hu:X.A.units+20<cLine):ik X (compareOp op) (bb X.K op):=by
 intro pins s σ H x y v u Q I rx ry h;unfold bb at h;split at h
 ·exact D4 hu pins s σ H _ _ v u Q I rx ry h
 ·exact DY hu pins s σ H _ _ v u Q I rx ry h
 ·split at h
  ·rename_i k e;obtain ⟨h1,h2⟩:=pB e;exact IV pins s σ H _ _ v u Q I rx ry ⟨h1,by rw [h2];exact h⟩
  ·exact h.elim
 ·split at h
  ·rename_i k e;obtain ⟨h1,h2⟩:=pB e;exact IQ pins s σ H _ _ v u Q I rx ry ⟨h1,by rw [h2];exact h⟩
  ·exact h.elim
 ·exact IR pins s σ H _ _ v u Q I rx ry ⟨_,_,rfl,rfl,h⟩
 ·exact IS pins s σ H _ _ v u Q I rx ry ⟨_,_,rfl,rfl,h⟩
 ·exact IT pins s σ H _ _ v u Q I rx ry ⟨_,_,rfl,rfl,h⟩
 ·exact IU pins s σ H _ _ v u Q I rx ry ⟨_,_,rfl,rfl,h⟩
 ·exact tY pins s σ H _ _ v u Q I rx ry ⟨_,_,rfl,rfl,h⟩
 ·exact tZ pins s σ H _ _ v u Q I rx ry ⟨_,_,rfl,rfl,h⟩
 ·exact ua pins s σ H _ _ v u Q I rx ry ⟨_,_,rfl,rfl,h⟩
 ·exact mK pins s σ H _ _ v u Q I rx ry ⟨_,_,rfl,rfl,h⟩
 ·exact ub pins s σ H _ _ v u Q I rx ry h
 ·exact mL pins s σ H _ _ v u Q I rx ry h
 ·exact D3 pins s σ H _ _ v u Q I rx ry ⟨rfl,h⟩
 ·exact ya pins s σ H _ _ v u Q I rx ry ⟨rfl,h⟩
 ·exact h.elim
def bE (i:Nat):TE:=λ σ H Q=>match σ[i]? with | some (some v)=>Q v H | _=>False
theorem cv (i:Nat) {x:Str}{pos:Pos}(hN:X.N[i]? =some x:=by rfl) (hv:JR X.env.scope x:=by first | exact Or.inl rfl | exact Or.inr (Or.inl rfl) | exact Or.inr (Or.inr rfl)) (hd:(x == ("__debug__":Str))=false:=by decide)
  (hcd:(x == ("__classdict__":Str))=false:=by decide):PE X (.Name x pos) (bE i):=(DV hN hv hd hcd).imp λ σ H Q h=>by
 unfold bE at h;split at h
 ·rename_i v e;exact ⟨v,e,h⟩
 ·exact h.elim
def kx (op:Operator) (ta tb:TE):TE:=λ σ H Q=>ta σ H λ x H1=>tb σ H1 λ y H2=>iV op x y H2 Q
theorem aq {op:Operator}(ha:PE X a ta) (hb:PE X b tb):PE X (.BinOp a op b pos) (kx op ta tb):=IN (D6 op) ha hb
def dI (K:Frag) (op:CmpOp) (ta tb:TE):TE:=λ σ H Q=>ta σ H λ x H1=>tb σ H1 λ y H2=>bb K op x y H2 Q
def eK (Q:Bool->Hp->Prop):VK:=λ x H=>match x with | .bl k=>Q k H | _=>False
theorem en {Q:Bool->Hp->Prop}{x:V}{H:Hp}(h:eK Q x H):∃k,x=.bl k/\Q k H:=by
 unfold eK at h;split at h
 ·exact ⟨_,rfl,h⟩
 ·exact h.elim
theorem EG {op:CmpOp}(hu:X.A.units+20<cLine) (ha:PE X a ta) (hb:PE X b tb) (hm:behindInMarks op b=false:=by first | exact m7 _ | with_unfolding_all rfl):PE X (.Compare a [op] [b] pos) (dI X.K op ta tb):=x6 (jd op hu) ha hb hm
def fZ (t:TE):TT:=λ σ H Q=>t σ H (eK Q)
theorem EE {op:CmpOp}(hu:X.A.units+20<cLine) (ha:PE X a ta) (hb:PE X b tb) (hm:behindInMarks op b=false:=by first | exact m7 _ | with_unfolding_all rfl):PT X (.Compare a [op] [b] pos) (fZ (dI X.K op ta tb)):=by
 intro pins s σ H Q I h;refine wpAny_isTrue_Compare1 (bJ (ha pins s σ H _ I h) λ v s1 ⟨x,H1,I1,r1,q1⟩=>bJ (hb pins s1 σ H1 _ I1 q1) λ u s2 ⟨y,H2,I2,r2,q2⟩=>
  bJ (jd op hu pins s2 σ H2 x y v u _ I2 r1 r2 q2) λ c s3 ⟨z,H3,I3,r3,q3⟩=>?_) hm
 obtain ⟨k,e,q3⟩:=en q3;subst e;cases r3;exact wpAny_truthy_bool ⟨H3,I3,q3⟩
def jm (K:Frag) (op op':CmpOp) (ta tb tc:TE):TE:=λ σ H Q=>ta σ H λ x H1=>tb σ H1 λ y H2=>bb K op x y H2 (eK λ k H3=>if k=true then tc σ H3 λ w' H4=>bb K op' y w' H4 Q else Q (.bl false) H3)
theorem xh {op op':CmpOp}(hu:X.A.units+20<cLine) (ha:PE X a ta) (hb:PE X b tb) (hc:PE X c tc) (hm:lastMarks [op,op'] [b,c]=false:=by with_unfolding_all rfl):PE X (.Compare a [op,op'] [b,c] pos) (jm X.K op op' ta tb tc):=by
 intro pins s σ H Q I h;refine Compare_chain (bJ (ha pins s σ H _ I h) λ v s1 ⟨x,H1,I1,r1,q1⟩=>chain_link (bJ (hb pins s1 σ H1 _ I1 q1) λ u s2 ⟨y,H2,I2,r2,q2⟩=>
  bJ (jd op hu pins s2 σ H2 x y v u _ I2 r1 r2 q2) λ d s3 ⟨z,H3,I3,r3,q3⟩=>?_)) hm
 obtain ⟨k,e,q3⟩:=en q3;subst e;cases r3;refine wpAny_truthy_bool ?_;cases k with
 | false=>exact ite_ff ⟨.bl false,H3,I3,rfl,q3⟩
 | true=>exact ite_tt (chain_last (bJ (hc pins s3 σ H3 _ I3 q3) λ w' s4 ⟨z',H4,I4,r4,q4⟩=>jd op' hu pins s4 σ H4 y z' u w' Q I4 r2 r4 q4))
def jT (K:Frag) (op op':CmpOp) (ta tb tc:TE):TT:=λ σ H Q=>ta σ H λ x H1=>tb σ H1 λ y H2=>bb K op x y H2 (eK λ k H3=>if k=true then tc σ H3 λ w' H4=>bb K op' y w' H4 (eK Q) else Q false H3)
theorem xa {op op':CmpOp}(hu:X.A.units+20<cLine) (ha:PE X a ta) (hb:PE X b tb) (hc:PE X c tc) (hm:lastMarks [op,op'] [b,c]=false:=by with_unfolding_all rfl):PT X (.Compare a [op,op'] [b,c] pos) (jT X.K op op' ta tb tc):=by
 intro pins s σ H Q I h;refine isTrue_chain (bJ (ha pins s σ H _ I h) λ v s1 ⟨x,H1,I1,r1,q1⟩=>test_link (bJ (hb pins s1 σ H1 _ I1 q1) λ u s2 ⟨y,H2,I2,r2,q2⟩=>
  bJ (jd op hu pins s2 σ H2 x y v u _ I2 r1 r2 q2) λ d s3 ⟨z,H3,I3,r3,q3⟩=>?_)) hm
 obtain ⟨k,e,q3⟩:=en q3;subst e;cases r3;refine wpAny_truthy_bool ?_;cases k with
 | false=>exact ite_ff ⟨H3,I3,q3⟩
 | true=>
   refine ite_tt (test_last (bJ (hc pins s3 σ H3 _ I3 q3) λ w' s4 ⟨z',H4,I4,r4,q4⟩=>bJ (jd op' hu pins s4 σ H4 y z' u w' _ I4 r2 r4 q4) λ d' s5 ⟨z2,H5,I5,r5,q5⟩=>?_));obtain ⟨k2,e2,q5⟩:=en q5;subst e2;cases r5;exact wpAny_truthy_bool ⟨H5,I5,q5⟩
theorem bh {e:Expr}{t:TE}(h:PE X e t) (he:∀whole,isTrue e X.env whole=(do let v<-whole;standAt e.pos;holding [v] (truthy v)):=by intro _;rfl):PT X e (fZ t):=by intro pins s σ H Q I hw;refine isTrue_plain (bJ (h pins s σ H _ I hw) λ v s1 ⟨x,H1,I1,r1,q1⟩=>?_) (he _);obtain ⟨d,rfl,q⟩:=en q1;cases r1;exact wpAny_truthy_bool ⟨H1,I1,q⟩
variable {rest:List Expr}
def pL (ta tb:TE):TE:=λ σ H Q=>ta σ H (eK λ c H1=>if c=true then tb σ H1 Q else Q (.bl false) H1)
def yU (ta tb:TE):TE:=λ σ H Q=>ta σ H (eK λ c H1=>if c=true then Q (.bl true) H1 else tb σ H1 Q)
def tf (ta:TE):TE:=λ σ H Q=>ta σ H (eK λ c H1=>Q (.bl (!c)) H1)
theorem dq (ha:PE X a ta) (hb:PE X (.BoolOp .And (b::rest) pos) tb):PE X (.BoolOp .And (a::b::rest) pos) (pL ta tb):=by
 intro pins s σ H Q I h;refine BoolOp_and (bJ (ha pins s σ H _ I h) λ v s1 ⟨x,H1,I1,r1,q1⟩=>?_);obtain ⟨c,rfl,q1⟩:=en q1;cases r1;refine wpAny_truthy_bool ?_;cases c with
 | true=>exact hb pins s1 σ H1 Q I1 q1
 | false=>exact ⟨.bl false,H1,I1,rfl,q1⟩
theorem JC (ha:PE X a ta) (hb:PE X (.BoolOp .Or (b::rest) pos) tb):PE X (.BoolOp .Or (a::b::rest) pos) (yU ta tb):=by
 intro pins s σ H Q I h;refine BoolOp_or (bJ (ha pins s σ H _ I h) λ v s1 ⟨x,H1,I1,r1,q1⟩=>?_);obtain ⟨c,rfl,q1⟩:=en q1;cases r1;refine wpAny_truthy_bool ?_;cases c with
 | false=>exact hb pins s1 σ H1 Q I1 q1
 | true=>exact ⟨.bl true,H1,I1,rfl,q1⟩
theorem xf (ha:PE X a ta):PE X (.UnaryOp .Not a pos) (tf ta):=by intro pins s σ H Q I h;refine UnaryOp_ (bJ (ha pins s σ H _ I h) λ v s1 ⟨x,H1,I1,r1,q1⟩=>?_);obtain ⟨c,rfl,q1⟩:=en q1;cases r1;exact not_of (wpAny_truthy_bool ⟨.bl (!c),H1,I1,rfl,q1⟩)
def yV (ta:TE):TE:=λ σ H Q=>ta σ H λ x H1=>match x with | .int i=>Q (.int (-i)) H1 | _=>False
theorem nw (ha:PE X a ta):PE X (.UnaryOp .USub a pos) (yV ta):=by
 intro pins s σ H Q I h;refine UnaryOp_ (bJ (ha pins s σ H _ I h) λ v s1 ⟨x,H1,I1,r1,q1⟩=>?_);cases x with
 | int i=>exact Ds pins s1 σ H1 _ v Q I1 r1 ⟨i,rfl,q1⟩
 | _=>exact q1.elim
end
end L2
namespace L2
open PySem PySem.Spec PyProof.Rows
theorem bW:bootBuiltins "len"=some (.builtin "len"):=by decide+kernel
theorem xk:bootBuiltins "min"=some (.builtin "min"):=by decide+kernel
theorem ky:bootBuiltins "all"=some (.builtin "all"):=by decide+kernel
theorem EK:bootBuiltins "any"=some (.builtin "any"):=by decide+kernel
theorem k3:bootBuiltins "isinstance"=some (.builtin "isinstance"):=by decide+kernel
theorem jn:bootBuiltins "sorted"=some (.builtin "sorted"):=by decide+kernel
theorem rm:bootBuiltins "int"=some (.type "int"):=by decide+kernel
theorem tj:bootBuiltins "bool"=some (.type "bool"):=by decide+kernel
theorem gv:bootBuiltins "str"=some (.type "str"):=by decide+kernel
theorem dP:bootBuiltins "list"=some (.type "list"):=by decide+kernel
theorem pM:bootBuiltins "tuple"=some (.type "tuple"):=by decide+kernel
theorem rk:bootBuiltins "set"=some (.type "set"):=by decide+kernel
theorem pN:bootBuiltins "reversed"=some (.type "reversed"):=by decide+kernel
theorem nF:bootBuiltins "enumerate"=some (.type "enumerate"):=by decide+kernel
theorem EJ:bootBuiltins "zip"=some (.type "zip"):=by decide+kernel
inductive BT | int | bool | str | list | tuple | dict
 deriving DecidableEq
def BT.s:BT->String
 | .int=>"int" | .bool=>"bool" | .str=>"str" | .list=>"list" | .tuple=>"tuple" | .dict=>"dict"
def cL:BT->BT->Bool
 | .bool,.int=>true
 | .int,.int=>true | .bool,.bool=>true | .str,.str=>true | .list,.list=>true | .tuple,.tuple=>true | .dict,.dict=>true
 | _,_=>false
theorem kit_bt (K:Frag) (a T:BT):N4 K (.type a.s) (.type T.s)=some (cL a T):=by cases a<;>cases T<;>kernel_rfl
theorem yt (K:Frag) (T:BT):N4 K (.type "NoneType") (.type T.s)=some false:=by cases T<;>kernel_rfl
def pW (T:BT) (x:V) (H:Hp) (Q:VK):Prop:=match x with
 | .non=>Q (.bl false) H
 | .bl _=>Q (.bl (cL .bool T)) H
 | .int _=>Q (.bl (cL .int T)) H
 | .str _=>Q (.bl (cL .str T)) H
 | .ref a=>match H a with
   | some (.lst _)=>Q (.bl (cL .list T)) H
   | some (.frz _ (.lst _))=>Q (.bl (cL .list T)) H
   | some (.tup _)=>Q (.bl (cL .tuple T)) H
   | some (.dK _)=>Q (.bl (cL .dict T)) H
   | _=>False
 | _=>False
section
variable {X:Cx}{a b c e o:Expr}{ta tb tc te to:TE}{p p2 pos:Pos}{es:List Expr}{t:TA}
theorem Je (T:BT) {pins:List (Addr×Obj)}{s:Shared}{σ:St}{H:Hp}{x:V}{u:Value}{Q:VK}(I:aJ X pins σ H s) (rx:aN x u) (h:pW T x H Q):wpAny (model X.prog X.w) X.A (call (.builtin "isinstance") [u,.type T.s]) (EP X pins σ Q) X.xe s:=by
 have fin:∀{k:Bool} {tv:Value},jo X.K H x tv->N4 X.K tv (.type T.s)=some k->Q (.bl k) H->wpAny (model X.prog X.w) X.A (call (.builtin "isinstance") [u,.type T.s]) (EP X pins σ Q) X.xe s:=λ ty e q=>
  uo I rx ty e λ tk=>⟨.bl _,H,I.tok tk,rfl,q⟩
 unfold pW at h;cases x with
 | non=>exact fin .non (yt _ T) h
 | bl y=>exact fin (.bl y) (kit_bt _ .bool T) h
 | int y=>exact fin (.int y) (kit_bt _ .int T) h
 | str y=>exact fin (.str y) (kit_bt _ .str T) h
 | ref d=>
   dsimp only at h;split at h
   ·rename_i e;exact fin (.lst e) (kit_bt _ .list T) h
   ·rename_i e;exact fin (.frz e) (kit_bt _ .list T) h
   ·rename_i e;exact fin (.tup e) (kit_bt _ .tuple T) h
   ·rename_i e;exact fin (.dK e) (kit_bt _ .dict T) h
   ·exact h.elim
 | _=>exact h.elim
def Dj (T:BT) (ta:TE):TE:=λ σ H Q=>ta σ H λ x H1=>pW T x H1 Q
theorem JE (T:BT) {n:Str}(ha:PE X a ta) (hg:Gl X "isinstance") (hm:X.mg "isinstance"=none) (hgT:Gl X n) (hmT:X.mg n=none) (hv:bootBuiltins n=some (.type T.s)) (hn:n≠"__name__":=by decide) (hdb:(n == ("__debug__":Str))=false:=by decide)
  (he:starEach [a,.Name n p2] X.env=(false,eval a X.env)::starEach [.Name n p2] X.env:=by rfl) (he2:starEach [.Name n p2] X.env=(false,eval (.Name n p2) X.env)::starEach [] X.env:=by rfl) (hpl:(backTo pos (starEach [.Name n p2] X.env)).any (·.1)=false:=by rfl):
  PE X (.Call (.Name "isinstance" p) [a,.Name n p2] [] pos) (Dj T ta):=by
 intro pins s σ H Q I h;refine wpAny_Call_Name_kw (gR I hg hm k3 ?_ (by decide) (by decide));have hA:PA X [a,.Name n p2] (bi ta (bi (tC (.ty T.s)) cn)):=pa_cons ha (pa_cons (x9 hgT hmT hv rfl hn hdb) pa_nil he2) he;refine PyProof.Rows.callWith_builtin1 (bJ (hA pos pins s σ H (λ vs H1=> ∃x,vs=[x,.ty T.s]/\pW T x H1 Q) I ?_) λ us s1 ⟨vs,H1,I1,r1,x,e,q1⟩=>?_) he hpl
 ·have mono:(λ (x:V) H1=>pW T x H1 Q)=λ x H1=>(bi (tC (.ty T.s)) cn) σ H1 λ xs H2=> ∃y,x::xs=[y,.ty T.s]/\pW T y H2 Q:=by
   funext x H1;apply propext
   constructor
   ·intro q;exact ⟨x,rfl,q⟩
   ·rintro ⟨y,e,q⟩;have:x=y:=by injection e
    subst this;exact q
  show ta σ H _;rw [<-mono];exact h
 ·subst e;obtain ⟨u,w',rfl,ru,rt⟩:=u6 r1;cases rt;exact Je T I1 ru q1
theorem tp.imp {r r':R2}(h:tp X r) (i:∀x y H Q,r' x y H Q->r x y H Q):tp X r':=λ va sl pins s σ H x y v u Q I rx ry q hs=>h va sl pins s σ H x y v u Q I rx ry (i x y H Q q) hs
def E3 (K:Frag) (x y:V) (H:Hp) (Q:VK):Prop:=match x,y with
 | .str z,.int i=>z.length<=sizeLine/\∃c,kA z.cps.toList i=some c/\Q (.str ⟨#[c]⟩) H
 | .ref q,.int i=> ∃xs v,(aI K H q xs\/cg K H q xs)/\kA xs i=some v/\Q v H
 | _,_=>False
theorem K7:tp X (E3 X.K):=(Eo (X:=X)).imp λ x y H Q h=>by
 unfold E3 at h;split at h
 ·obtain ⟨h1,c,h2,q⟩:=h;exact .inr (.inr ⟨_,_,c,rfl,rfl,h1,h2,q⟩)
 ·obtain ⟨xs,v,h1,h2,q⟩:=h
  rcases h1 with h1 | h1
  ·exact .inl ⟨_,xs,_,v,rfl,rfl,h1,h2,q⟩
  ·exact .inr (.inl ⟨_,xs,_,v,rfl,rfl,h1,h2,q⟩)
 ·exact h.elim
def kE (K:Frag) (ta tb:TE):TE:=λ σ H Q=>ta σ H λ x H1=>tb σ H1 λ y H2=>E3 K x y H2 Q
theorem JD (ha:PE X a ta) (hb:PE X b tb) (hs:nI b:=by exact λ _ _=>rfl):PE X (.Subscript a b pos) (kE X.K ta tb):=IP K7 ha hb hs
def pK (t:TE):TO:=λ σ H Q=>t σ H λ x H1=>match x with | .int i=>Q (some i) H1 | _=>False
theorem gt (h:PE X e te):PO X (some e) (pK te):=by
 intro pins s σ H Q I hw;rw [evalPart_some];refine bJ (h pins s σ H _ I hw) λ u s1 ⟨x,H1,I1,r1,q1⟩=>?_;cases x with
 | int i=>
   obtain ⟨t,rfl⟩:=r1;exact ⟨some i,H1,I1,.int i t,q1⟩
 | _=>exact q1.elim
theorem uP.imp {r r':V->Option Int->Option Int->Hp->VK->Prop}(h:uP X r) (i:∀x lo hi H Q,r' x lo hi H Q->r x lo hi H Q):uP X r':=λ pins s σ H x v vl vu lo hi sl Q I rx hs pl pu q=>h pins s σ H x v vl vu lo hi sl Q I rx hs pl pu (i x lo hi H Q q)
def EZ (K:Frag) (x:V) (lo hi:Option Int) (H:Hp) (Q:VK):Prop:=match x with
 | .str z=>z.length<=sizeLine/\Q (.str (jN z lo hi)) H
 | .ref d=> ∃xs,aI K H d xs/\∀q,H q=none->Q (.ref q) (upd H q (.lst (gr xs lo hi)))
 | _=>False
theorem KN:uP X (EZ X.K):=((DD (X:=X)).or xO).imp λ x lo hi H Q h=>by
 unfold EZ at h;split at h
 ·exact .inl ⟨_,rfl,h.1,h.2⟩
 ·obtain ⟨xs,h1,h2⟩:=h;exact .inr ⟨_,xs,rfl,h1,h2⟩
 ·exact h.elim
def E6 (K:Frag) (te:TE) (tl th:TO):TE:=λ σ H Q=>te σ H λ x H1=>tl σ H1 λ l H2=>th σ H2 λ u H3=>EZ K x l u H3 Q
theorem JB {lo hi:Option Expr}{tl th:TO}(he:PE X e te) (hl:PO X lo tl) (hu:PO X hi th):PE X (.Subscript e (.Slice lo hi none p2) pos) (E6 X.K te tl th):=oO KN he hl hu
def cB (r:List V->Hp->VK->Prop) (t:TA):TE:=λ σ H Q=>t σ H λ vs H1=>r vs H1 Q
def m8 (K:Frag) (xs:List V) (H:Hp) (Q:VK):Prop:=match xs with
 | [.str z]=>z.length<=sizeLine/\Q (.int z.length) H
 | [.ref d]=> ∃ys,(aI K H d ys\/cg K H d ys)/\Q (.int ys.length) H
 | _=>False
theorem uI:bn X (.builtin "len") (m8 X.K):=((nE (X:=X)).or nB).imp λ xs H Q h=>by
 unfold m8 at h;split at h
 ·exact .inr ⟨_,rfl,h.1,h.2⟩
 ·obtain ⟨ys,h1,h2⟩:=h;exact .inl ⟨_,ys,rfl,h1,h2⟩
 ·exact h.elim
def v9 (xs:List V) (H:Hp) (Q:VK):Prop:=match xs with
 | [.int i,.int j]=>Q (.int (if j<i then j else i)) H
 | _=>False
theorem lR (hc:X.calm=true):bn X (.builtin "min") v9:=(uH hc).imp λ xs H Q h=>by
 unfold v9 at h;split at h
 ·exact ⟨_,_,rfl,h⟩
 ·exact h.elim
def tH (xs:List V) (H:Hp) (Q:VK):Prop:=match xs with
 | [.int i]=>i.natAbs.log2<1920/\Q (.str (toString i)) H
 | _=>False
theorem dH:bn X (.type "str") tH:=(nz (X:=X)).imp λ xs H Q h=>by
 unfold tH at h;split at h
 ·exact ⟨_,rfl,h.1,h.2⟩
 ·exact h.elim
def wz (xs:List V) (H:Hp) (Q:VK):Prop:=match xs with
 | [.str x]=> ∃n,PySem.intText? x=some n/\x.length<=640/\Q (.int n) H
 | [.bl k]=>Q (.int (if k then 1 else 0)) H
 | _=>False
theorem uJ:bn X (.type "int") wz:=((kZ (X:=X)).or uK).imp λ xs H Q h=>by
 unfold wz at h;split at h
 ·obtain ⟨n,h1,h2,q⟩:=h;exact .inl ⟨_,n,rfl,h1,h2,q⟩
 ·exact .inr (.inr ⟨_,rfl,h⟩)
 ·exact h.elim
def xq (K:Frag) (xs:List V) (H:Hp) (Q:VK):Prop:=match xs with
 | [.ref d]=> ∃ks:List Bool,aI K H d (ks.map V.bl)/\Q (.bl (ks.all id)) H
 | _=>False
theorem uM (hc:X.calm=true):bn X (.builtin "all") (xq X.K):=(xi hc).imp λ xs H Q h=>by
 unfold xq at h;split at h
 ·obtain ⟨ks,h1,q⟩:=h;exact ⟨_,ks,rfl,h1,q⟩
 ·exact h.elim
theorem Ld {id:String}{x:Str}{r:List V->Hp->VK->Prop}(hc:bn X (.builtin id) r) (hv:bootBuiltins x=some (.builtin id)) (hm:X.mg x=none) (ha:PA X (e::es) t) (hg:Gl X x:=by rfl) (hn:x≠"__name__":=by decide) (hdb:(x == ("__debug__":Str))=false:=by decide)
  (he:starEach (e::es) X.env=(false,eval e X.env)::starEach es X.env:=by rfl) (hpl:(backTo pos (starEach es X.env)).any (·.1)=false:=by rfl):PE X (.Call (.Name x p) (e::es) [] pos) (cB r t):=vY hc hg hm hv ha hn hdb he hpl
theorem Dg {T:String}{x:Str}{r:List V->Hp->VK->Prop}(hc:bn X (.type T) r) (hv:bootBuiltins x=some (.type T)) (hm:X.mg x=none) (ha:PA X (e::es) t) (hg:Gl X x:=by rfl) (hn:x≠"__name__":=by decide) (hdb:(x == ("__debug__":Str))=false:=by decide)
  (he:starEach (e::es) X.env=(false,eval e X.env)::starEach es X.env:=by rfl) (hpl:(backTo pos (starEach es X.env)).any (·.1)=false:=by rfl):PE X (.Call (.Name x p) (e::es) [] pos) (cB r t):=tV hc hg hm hv ha hn hdb he hpl
def E7 (r:V->List V->Hp->VK->Prop) (to:TE) (t:TA):TE:=λ σ H Q=>to σ H λ x H1=>match x with | .str z=>t σ H1 λ xs H2=>r (.str z) xs H2 Q | _=>False
theorem JA {name:Str}{apos cpos:Pos}{id:String}{r:V->List V->Hp->VK->Prop}(slot:Slot "str" name id) (hty:typeOf (.builtin id)=pure (.type "method_descriptor")) (hm:uR X id r) (ho:PE X o to) (ha:PA X (e::es) t)
  (hbase:attributeBase o name X.env (eval o X.env)=eval o X.env:=by rfl)
  (hfew:((backTo cpos (starEach (e::es) X.env)).all (λ x=> !x.1)&&(backToKw cpos (keywordEach [] X.env)).all (λ x=>x.1.isSome)
   &&decide ((e::es).length+([]:List Keyword).length+(if ([]:List Keyword).isEmpty then 0 else 1)<30))=true:=by rfl)
  (hline:(apos.endLine == cpos.line)=true:=by rfl) (hs:starEach (e::es) X.env=(false,eval e X.env)::starEach es X.env:=by rfl) (hplain:(backTo cpos (starEach es X.env)).any (·.1)=false:=by rfl):
  PE X (.Call (.Attribute o name apos) (e::es) [] cpos) (E7 r to t):=by
 intro pins s σ H Q I h;refine wpAny_Call_method_late hbase hfew hline rfl (bJ (ho pins s σ H _ I h) λ v s1 ⟨x,H1,I1,r1,q1⟩=>?_);cases x with
 | str z=>
   have ty:Dt X.K "str" (.str z) H1:=rfl;obtain ⟨h1,h2⟩:=iY I1 r1 ty;refine ⟨"str",id,PySem.F.plainAttrs_str,slot,hty,h1,h2,?_⟩;have hA:=ha cpos pins s1 σ H1 _ I1 q1;rw [hs] at hA ⊢;refine Calls.callWith_builtin (by show (false||(backTo cpos (starEach es X.env)).any (·.1))=false;rw [hplain]<;>rfl) (Calls.evalArgs_plain ?_)
   exact bJ hA λ us s2 ⟨vs,H2,I2,r2,q2⟩=>hm pins s2 σ H2 _ vs v us Q I2 r1 r2 q2
 | _=>exact q1.elim
def JF (r:V->List V->Hp->VK->Prop) (to:TE):TE:=λ σ H Q=>to σ H λ x H1=>match x with | .str z=>r (.str z) [] H1 Q | _=>False
def Io (x:V) (vs:List V) (H:Hp) (Q:VK):Prop:=match x,vs with
 | .str a,[.str b]=>Q (.bl (b.cps.toList.isPrefixOf a.cps.toList)) H
 | _,_=>False
theorem v5:uR X "str.startswith" Io:=(kY (X:=X)).imp λ x vs H Q h=>by
 unfold Io at h;split at h
 ·exact ⟨_,_,rfl,rfl,h⟩
 ·exact h.elim
def sj (K:Frag) (x:V) (vs:List V) (H:Hp) (Q:VK):Prop:=match x,vs with
 | .str sep,[.ref d]=> ∃ys:List Str,aI K H d (ys.map V.str)/\(ys.map (·.length)).sum+ys.length*sep.length<=16777216/\Q (.str (Txt.join sep ys)) H
 | _,_=>False
theorem v6:uR X "str.join" (sj X.K):=(yo (X:=X)).imp λ x vs H Q h=>by
 unfold sj at h;split at h
 ·obtain ⟨ys,h1,h2,q⟩:=h;exact ⟨_,_,ys,rfl,rfl,h1,h2,q⟩
 ·exact h.elim
def upA (x:V) (vs:List V) (H:Hp) (Q:VK):Prop:=match x,vs with
 | .str a,[]=>a.length<=sizeLine/\(∀c∈a.cps.toList,c<128)/\Q (.str ⟨a.cps.map up1⟩) H
 | _,_=>False
def xj (to te:TE):TE:=λ σ H Q=>to σ H λ x H1=>match x with
 | .ref l=>(∃xs,H1 l=some (.lst xs))/\te σ H1 λ y H2=> ∃xs,H2 l=some (.lst xs)/\xs.length<sizeLine/\Q .non (upd H2 l (.lst (xs++[y])))
 | _=>False
theorem gX {apos cpos:Pos}(ho:PE X o to) (he:PE X e te) (hbase:attributeBase o "append" X.env (eval o X.env)=eval o X.env:=by rfl)
  (hfew:((backTo cpos (starEach [e] X.env)).all (λ x=> !x.1)&&(backToKw cpos (keywordEach [] X.env)).all (λ x=>x.1.isSome)
   &&decide ([e].length+([]:List Keyword).length+(if ([]:List Keyword).isEmpty then 0 else 1)<30))=true:=by rfl)
  (hline:(apos.endLine == cpos.line)=true:=by rfl) (hs:starEach [e] X.env=(false,eval e X.env)::starEach [] X.env:=by rfl) (hplain:(backTo cpos (starEach [] X.env)).any (·.1)=false:=by rfl):
  PE X (.Call (.Attribute o "append" apos) [e] [] cpos) (xj to te):=by
 intro pins s σ H Q I h;refine wpAny_Call_method_late hbase hfew hline rfl (bJ (ho pins s σ H _ I h) λ v s1 ⟨x,H1,I1,r1,q1⟩=>?_);cases x with
 | ref l=>
   obtain ⟨⟨xs0,e0⟩,q1⟩:=q1;have ty:Dt X.K "list" (.ref l) H1:=.inl ⟨rfl,xs0,aI.of e0⟩;obtain ⟨h1,h2⟩:=iY I1 r1 ty;refine ⟨"list","list.append",PySem.F.plainAttrs_list,PySem.F.slot_list_append,PySem.F.type_list_append,h1,h2,?_⟩;have hA:=(pa_cons he pa_nil hs:PA X [e] (bi te cn)) cpos pins s1 σ H1 (λ vs H2=> ∃y,vs=[y]/\∃xs,H2 l=some (.lst xs)/\xs.length<sizeLine/\Q .non (upd H2 l (.lst (xs++[y])))) I1 (by
    show te σ H1 λ y H2=> ∃y',[y]=[y']/\_;have:(λ (y:V) (H2:Hp)=> ∃xs,H2 l=some (.lst xs)/\xs.length<sizeLine/\Q .non (upd H2 l (.lst (xs++[y]))))=λ y H2=> ∃y',[y]=[y']/\∃xs,H2 l=some (.lst xs)/\xs.length<sizeLine/\Q .non (upd H2 l (.lst (xs++[y']))):=by
     funext y H2;apply propext
     constructor
     ·intro z;exact ⟨y,rfl,z⟩
     ·rintro ⟨y',e,z⟩;have:y=y':=by injection e
      subst this;exact z
    rw [<-this];exact q1)
   rw [hs] at hA ⊢;refine Calls.callWith_builtin (by show (false||(backTo cpos (starEach [] X.env)).any (·.1))=false;rw [hplain]<;>rfl) (Calls.evalArgs_plain ?_)
   exact bJ hA λ us s2 ⟨vs,H2,I2,r2,y,e,xs,q3,q4,q5⟩=>ue pins s2 σ H2 _ vs v us Q I2 r1 r2 ⟨l,xs,y,rfl,e,q3,q4,q5⟩
 | _=>exact q1.elim
structure eA (P:Program) (w:World) (K:Frag) (mg:Str->Option Value) (base:Heap) (name:Str) (ps:List Str) (k:Nat) (sp:Sp):Prop where
 ex:∃f fd,bj P w K mg base eI k f fd ps sp/\mg name=some (.ref f)/\NY K (.ref f)=true/\gY K fd ps []
def gb (sp:Sp) (t:TA):TE:=λ σ H Q=>t σ H λ vs H1=>sp vs H1 Q E0
theorem sW {name:Str}{ps:List Str}{k j:Nat}{sp:Sp}(C:eA X.prog X.w X.K X.mg X.base name ps k sp) (hr:du j X.A) (hkj:k<=j) (ha:PA X (e::es) t) (hg:Gl X name:=by rfl) (hdb:(name == ("__debug__":Str))=false:=by decide)
  (he:starEach (e::es) X.env=(false,eval e X.env)::starEach es X.env:=by rfl) (hpl:(backTo pos (starEach es X.env)).any (·.1)=false:=by rfl):PE X (.Call (.Name name p) (e::es) [] pos) (gb sp t):=by
 obtain ⟨f,fd,F,hm,hk,hb⟩:=C.ex;refine (x8 F (hr.mono hkj) hg hm hk hb .nil C7 ha hdb he hpl:PE X _ (vj sp [] E0 t)).imp λ σ H Q h=>?_;unfold vj;simp only [L6];exact h
end
end L2
namespace PySem
namespace F
theorem nolen_lriQ:typeLookup (.type "list_reverseiterator") "__len__"=pure none:=by rw [typeLookup_type,builtinLookup_eq_fast];kernel_rfl
theorem hint_lriQ:typeLookup (.type "list_reverseiterator") "__length_hint__"=pure (some (.builtin "list_reverseiterator.__length_hint__")):=by rw [typeLookup_type,builtinLookup_eq_fast];kernel_rfl
end F
end PySem
namespace L2
open PySem PySem.Spec PyProof.Rows
section
variable {prog:Program}{w:World}{A:Around}{E:Value->Shared->Prop}{s:Shared}
theorem pY (hh:A.handled=none) (I l:Addr) (hne:l≠I) (items:Array Value):
  WalksS prog w A I [I,l] [I] (λ a b=>a=b) items.size (λ i v=>items[items.size - 1 - i]? =some v) (λ i s=>i<=items.size/\s.heap.IsRevIter I l ((items.size:Int) - 1 - (i:Int))/\s.heap.IsList l items) where
 sub:=λ b hb=>by simp at hb;simp [hb]
 grefl:=λ _=>rfl
 gtrans:=λ _ _ _ a b=>a.trans b
 frame:=λ _ _ _ _ x _ hk=>⟨x.1,x.2.1.at λ o e=>hk I (by simp) o e,x.2.2.at λ o e=>hk l (by simp) o e⟩
 item:=λ i s Q E hi x hQ=>by
  have e:(items.size:Int) - 1 - (i:Int)=((items.size - 1 - i:Nat):Int):=by omega
  have hit:=x.2.1;rw [e] at hit;have hx:items[items.size - 1 - i]? =some (items[items.size - 1 - i]'(by omega)):=NI (by omega);refine wpAny_pyNext_rev_item hit x.2.2 hx λ h' hit' hs'=>?_;have e2:((items.size - 1 - i:Nat):Int) - 1=(items.size:Int) - 1 - ((i+1:Nat):Int):=by omega
  rw [e2] at hit';exact hQ _ _ hx ⟨hi,hit',x.2.2.at λ o eo=>(hs'.2 l hne).trans eo⟩ ⟨λ b o hb eo=>hs'.extBut b o (λ h=>hb (by simp [h])) eo,rfl,rfl,rfl,M6 _⟩
 done:=λ s Q E x hQ=>by
   have e:(items.size:Int) - 1 - (items.size:Int)= -1:=by omega
   have hit:=x.2.1;rw [e] at hit;exact wpAny_pyNext_rev_end hh hit λ h' he'=>hQ _ ⟨λ b o hb eo=>he' b o (λ h=>hb (by simp [h])) eo,rfl,rfl,rfl,M6 _⟩
 self:=λ _ _ _ _ x hQ=>wpAny_pyIter_revIter x.2.1 hQ
theorem pH {I:Addr}{fp wr:List Addr}{G:Array GenState->Array GenState->Prop}{n:Nat}{P:Nat->Value->Prop}{St:Nat->Shared->Prop}{Q:List Value->Shared->Prop}
  (W:WalksS prog w A.in1 I fp wr G n P St) (hT:∀i s,St i s->s.TypeIs (.ref I) "list_reverseiterator") (hst:St 0 s) (hfp:∀b∈fp,b<s.heap.objs.size) (hI:I∈fp)
  (hQ:∀s' acc,Moved wr G s s'->ItemsOf P acc n->Q acc.toList s') (hn:n<=sizeLine):wpAny (model prog w) A (collect (.ref I)) Q E s:=by
 have hSf:s.heap.objs.size∉fp:=λ hm=>Nd _ (hfp _ hm);have hSI:s.heap.objs.size≠I:=λ e=>hSf (e▸hI);unfold collect;refine wpAny_bind (wpAny_runValue (codeAny_builtin F.entry_proto_collect ?_));rw [Around.under_plainId F.plain_proto_collect _];show wpAny _ A.in1 (newList [] >>= λ l=>again (.builtin "list.__iadd__" ⟨[l,.ref I],[]⟩)) _ _ s;refine wpAny_bind (wpAny_newObj_type ?_);refine wpAny_pure ⟨plainId_quiet F.plain_list_iadd _,codeAny_builtin F.entry_list_iadd ?_⟩;rw [Around.under_plainId F.plain_list_iadd _];have hst₁:=W.frame 0 s (s.heap.push {cls:=.type "list",data:=.seq ([]:List Value).toArray}) s.toks hst (M6 _) λ b _ o e=>Heap.get?_push_of_some _ e;have hS₁:(s.heap.push {cls:=.type "list",data:=.seq ([]:List Value).toArray}).get? s.heap.objs.size=some {cls:=.type "list",data:=.seq ([]:List Value).toArray}:=Heap.get?_push_size _ rfl;have h1:Builtin.List.listSameRef (.ref s.heap.objs.size) (.ref I)=false:=by simp [Builtin.List.listSameRef,hSI]
 show wpAny _ A.in1 (Builtin.List.listExtendWith (.ref s.heap.objs.size) (.ref I) (.ref s.heap.objs.size)) _ _ _;unfold Builtin.List.listExtendWith;refine wpAny_bind (wpAny_typeOf (hT 0 _ hst₁) ?_);rw [if_neg (by rw [h1];decide)];refine wpAny_bind (W.self 0 _ _ _ hst₁ ?_);refine wpAny_bind (wpAny_holding ?_);unfold Builtin.List.listLengthHint;refine wpAny_bind (wpAny_specialOf (hT 0 _ hst₁) F.nolen_lriQ ?_);show wpAny _ A.in1 (specialOf (Value.ref I) (Str.ofString "__length_hint__") >>= _) _ _ _;refine wpAny_bind (wpAny_specialOf (hT 0 _ hst₁) F.hint_lriQ ?_)
 (generalize hid:("list_reverseiterator.__length_hint__":String)=id0;(fail_if_success (clear hid id0));wp_delta;rw [show splitId id0=some ("list_reverseiterator","__length_hint__") from by subst hid;decide+kernel];subst hid)
 refine wpAny_bind (wpAny_isInstance (b:=true) (hT 0 _ hst₁) (by rw [isSubtype_type];kernel_rfl) ?_);refine wpAny_pure ?_;rw [if_neg (by decide)];refine wpAny_pure ⟨plainId_quiet F.plain_extend_loop _,codeAny_extend_loopS W hn _ hSf _ n 0 _ _ _ rfl (M9 _) hst₁ hS₁ (ItemsOf.nil P) λ s' acc' c' hm hS' hacc=>?_⟩;show wpAny _ A (load s.heap.objs.size >>= _) _ _ s';refine wpAny_bind (wpAny_load hS' ?_);exact wpAny_pure (hQ s' acc' (Moved.drop_new (o:={cls:=.type "list",data:=.seq ([]:List Value).toArray}) (tk:=s.toks) hm (M6 _)) hacc)
theorem jW:∀{l:List (Str×Tok)}{ys:List Str},(∀(i:Nat) (v:Value),(strValues l)[i]? =some v->∃y t,ys[i]? =some y/\v=Value.str y t)->l.length=ys.length->l.map (·.1)=ys:=by
 intro l ys h hl;apply MG;intro i;rw [LD]
 by_cases hi:i<l.length
 ·have e:(strValues l)[i]? =some (Value.str (l[i]).1 (l[i]).2):=by unfold strValues;rw [LD,Ly hi];rfl
  obtain ⟨y,t,h1,h2⟩:=h i _ e;injection h2 with h3 h4;rw [Ly hi,h1,<-h3];rfl
 ·rw [Mj (by omega),Mj (by omega)];rfl
theorem wx {x:Str}{t:Tok}{I l:Addr}{its:List Value}{ys:List Str}{Q:Value->Shared->Prop}(hh:A.handled=none) (hne:l≠I) (hit:s.heap.IsRevIter I l ((its.length:Int) - 1)) (hl:s.heap.IsList l its.toArray) (hi:StrsAre its ys)
  (hsz:its.length<=sizeLine) (hok:JoinOk x ys.reverse=true) (h:∀s' t' k,Moved [I] (λ a b=>a=b) s s'->Q (.str (Txt.join x ys.reverse) t') {s' with toks:=k}):
  wpAny (model prog w) A (call (.builtin "str.join") [.str x t,.ref I]) Q E s:=by
 have hlen:its.length=ys.length:=hi.length;have W:=pY (prog:=prog) (w:=w) (A:=A.in1.in1) (show A.in1.in1.handled=none from hh) I l hne its.toArray;have hst:0<=its.toArray.size/\s.heap.IsRevIter I l ((its.toArray.size:Int) - 1 - ((0:Nat):Int))/\s.heap.IsList l its.toArray:=⟨M9 _,by simpa using hit,hl⟩;have hfp:∀b∈[I,l],b<s.heap.objs.size:=λ b hb=>by
  rcases Lw.mp hb with e | hb
  ·obtain ⟨o,ho,_⟩:=hit;rw [e];exact Heap.lt_size ho
  ·obtain ⟨o,ho,_⟩:=hl;rw [LF.mp hb];exact Heap.lt_size ho
 refine wpAny_call (codeAny_call_builtin F.slot_str_join.plain F.entry_str_join (F.slot_str_join.check _ _ _ _ _ _ _ _ (typeIs_str _ _ _) (F.args_str_join_2 _ _) ?_));rw [join_tree_other];refine wpAny_bind (wpAny_typeOf hit.typeIs ?_);show wpAny _ A.in1 ((pyIter (.ref I)).tryCatch _ >>= λ it=>collect it >>= λ items=>joinTail x items) _ _ s;refine wpAny_bind (wpAny_tryCatch (W.of_in1.self 0 s _ _ hst ?_));refine wpAny_bind (pH W (λ i s x=>x.2.1.typeIs) hst hfp (by simp) (λ s' acc hm hacc=>?_) (by simpa using hsz));obtain ⟨l',hl'⟩:=exists_strValues acc.toList λ v hv=>by
  obtain ⟨j,hj,rfl⟩:=Array.mem_iff_getElem.mp (NK.mp hv);have hP:=hacc.2 j _ (NI hj);have hP:its[its.length - 1 - j]? =some acc[j]:=by simpa using hP
  have hb:its.length - 1 - j<ys.length:=by have:=(LI.mp hP).1;omega
  obtain ⟨t',e⟩:=hi.get _ _ (Ly hb);rw [hP] at e;exact ⟨_,t',Option.some.inj e⟩
 have hmap:l'.map (·.1)=ys.reverse:=by
  refine jW (λ i v hv=>?_) ?_
  ·rw [hl'] at hv;have hv:acc[i]? =some v:=by simpa using hv
   have hP:=hacc.2 i v hv;have hP:its[its.length - 1 - i]? =some v:=by simpa using hP
   have hi2:i<its.length:=by have:=(NJ.mp hv).1;have:=hacc.1;simp at this;omega
   have hb:its.length - 1 - i<ys.length:=by omega
   obtain ⟨t',e⟩:=hi.get _ _ (Ly hb);rw [hP] at e;refine ⟨_,t',?_,Option.some.inj e⟩;rw [List.getElem?_reverse (by omega)];have e3:ys.length - 1 - i=its.length - 1 - i:=by omega
   rw [e3,Ly hb]
  ·have h1:(strValues l').length=acc.toList.length:=by rw [hl']
   have h2:(strValues l').length=l'.length:=by unfold strValues;simp
   have h3:=hacc.1;rw [MY];simp at h1 h3;omega
 rw [<-hl'];have hok':=hok;rw [<-hmap] at hok';unfold JoinOk at hok';rw [ND] at hok';have g:Gives (joinTail x (strValues l')) (joinMade x l'):=by
  have g0:=gives_joinTail x l' hok';cases l' with
  | nil=>exact g0
  | cons p r=>cases r with
    | nil=>exact g0
    | cons q r'=>exact g0
 refine g prog w A (wants Q E) s' (post_join l' ⟨joinFit_length hok',λ t' k=>?_⟩);rw [hmap];exact h s' t' k hm
end
section
variable {X:Cx}{o e:Expr}{to te:TE}
def Le (K:Frag) (to te:TE):TE:=λ σ H Q=>to σ H λ x H1=>match x with
 | .str sep=>te σ H1 λ y H2=>match y with
   | .ref d=> ∃ys:List Str,aI K H2 d (ys.map V.str)/\(ys.map (·.length)).sum+ys.length*sep.length<=16777216/\Q (.str (Txt.join sep ys.reverse)) H2
   | _=>False
 | _=>False
theorem nQ:∀l:List Nat,l.reverse.sum=l.sum:=by
 intro l
 induction l with
 | nil=>rfl
 | cons a l ih=>rw [List.reverse_cons,List.sum_append,ih];simp;omega
theorem qY {p p2 apos cpos:Pos}(hc:X.calm=true) (ho:PE X o to) (he:PE X e te) (hm:X.mg "reversed"=none) (hg:Gl X "reversed":=by rfl)
  (hbase:attributeBase o "join" X.env (eval o X.env)=eval o X.env:=by rfl)
  (hfew:((backTo cpos (starEach [.Call (.Name "reversed" p) [e] [] p2] X.env)).all (λ x=> !x.1)&&(backToKw cpos (keywordEach [] X.env)).all (λ x=>x.1.isSome)
   &&decide ([Expr.Call (.Name "reversed" p) [e] [] p2].length+([]:List Keyword).length+(if ([]:List Keyword).isEmpty then 0 else 1)<30))=true:=by rfl)
  (hline:(apos.endLine == cpos.line)=true:=by rfl) (hs:starEach [.Call (.Name "reversed" p) [e] [] p2] X.env=(false,eval (.Call (.Name "reversed" p) [e] [] p2) X.env)::starEach [] X.env:=by rfl) (hplain:(backTo cpos (starEach [] X.env)).any (·.1)=false:=by rfl)
  (hs2:starEach [e] X.env=(false,eval e X.env)::starEach [] X.env:=by rfl) (hpl2:(backTo p2 (starEach [] X.env)).any (·.1)=false:=by rfl):
  PE X (.Call (.Attribute o "join" apos) [.Call (.Name "reversed" p) [e] [] p2] [] cpos) (Le X.K to te):=by
 intro pins s σ H Q I h;refine wpAny_Call_method_late hbase hfew hline rfl (bJ (ho pins s σ H _ I h) λ v s1 ⟨x,H1,I1,r1,q1⟩=>?_);cases x with
 | str sep=>
   have ty:Dt X.K "str" (.str sep) H1:=rfl;obtain ⟨h1,h2⟩:=iY I1 r1 ty;obtain ⟨tk,rfl⟩:=r1;refine ⟨"str","str.join",PySem.F.plainAttrs_str,PySem.F.slot_str_join,PySem.F.type_str_join,h1,h2,?_⟩;rw [hs];refine Calls.callWith_builtin (by show (false||(backTo cpos (starEach [] X.env)).any (·.1))=false;rw [hplain]<;>rfl) (Calls.evalArgs_plain ?_)
   show wpAny _ _ (spliced ((false,eval (.Call (.Name "reversed" p) [e] [] p2) X.env)::backTo cpos (starEach [] X.env))) _ _ s1;refine Calls.spliced_cons ?_;refine wpAny_Call_Name_kw (gR I1 hg hm pN ?_ (by decide) (by decide));have hA:PA X [e] (bi te cn):=pa_cons he pa_nil hs2;refine PyProof.Rows.callWith_type1 (bJ (hA p2 pins s1 σ H1 (λ vs H2=> ∃y,vs=[y]/\(match y with
    | .ref d=> ∃ys:List Str,aI X.K H2 d (ys.map V.str)/\(ys.map (·.length)).sum+ys.length*sep.length<=16777216/\Q (.str (Txt.join sep ys.reverse)) H2
    | _=>False)) I1 ?_) λ us s2 ⟨vs,H2,I2,r2,y,e2,q2⟩=>?_) hs2 hpl2
   ·show te σ H1 _;have q1':=q1;have:(λ (y:V) (H2:Hp)=>match y with
     | .ref d=> ∃ys:List Str,aI X.K H2 d (ys.map V.str)/\(ys.map (·.length)).sum+ys.length*sep.length<=16777216/\Q (.str (Txt.join sep ys.reverse)) H2
     | _=>False)=λ y H2=> ∃y',[y]=[y']/\(match y' with
     | .ref d=> ∃ys:List Str,aI X.K H2 d (ys.map V.str)/\(ys.map (·.length)).sum+ys.length*sep.length<=16777216/\Q (.str (Txt.join sep ys.reverse)) H2
     | _=>False):=by
     funext y H2;apply propext
     constructor
     ·intro z;exact ⟨y,rfl,z⟩
     ·rintro ⟨y',e,z⟩;have:y=y':=by injection e
      subst this;exact z
    dsimp only at q1';rw [this] at q1';exact q1'
   ·subst e2;obtain ⟨u,rfl,ru⟩:=cN r2;cases y with
    | ref d=>
      obtain ⟨ys,hd,hz,q⟩:=q2;cases ru;obtain ⟨its,rv,pl,hl⟩:=I2.list hd;have hlen:=rv.length;rw [Lv] at hlen hl;refine call_reversed_list pl.isList ?_;have I3:aJ X pins σ H2 {s2 with heap:=s2.heap.push (revObj d ((its.toArray.size:Int) - 1))}:=I2.kept (t':=s2.toks) λ b ob q=>Heap.get?_push_of_some _ q;refine Calls.spliced_nil ?_;have hne:d≠s2.heap.objs.size:=by obtain ⟨ob,hob,_⟩:=pl.isList;exact M8 (Heap.lt_size hob)
      have hfp:gH X pins H2 s2.heap.objs.size:=I2.fpOk (M6 _) I2.fresh;refine wx (its:=its) (ys:=ys) (I.ok.hd hc) hne ⟨_,Heap.get?_push_size _ rfl,rfl,by simp [revObj]⟩ (pl.isList.at λ ob q=>Heap.get?_push_of_some _ q) (io rv) (by omega) (joinOk_of ?_) λ s' t' k hm=>?_
      ·rw [List.map_reverse,nQ,MY];exact hz
      ·refine ⟨.str _,H2,?_,⟨t',rfl⟩,q⟩;have J:aJ X pins σ H2 {s2 with heap:=s'.heap,toks:=k}:=by have z:=I3.turned (it:=s2.heap.objs.size) (h':=s'.heap) (t':=k) (λ b ob hb e=>hm.heap b ob (by simpa using hb) e) hfp.1 hfp.2.1 hfp.2.2.2.1 hfp.2.2.2.2.1 hfp.2.2.2.2.2;exact z
       have e1:s'.gens=s2.gens:=hm.gens.symm;have e2:s'.drawn=s2.drawn:=hm.drawn;have e3:s'.os=s2.os:=hm.os;obtain ⟨sh,sg,sd,st,so⟩:=s';cases e1;cases e2;cases e3;exact J
    | _=>exact q2.elim
 | _=>exact q1.elim
end
end L2
namespace L2
open PySem PySem.Spec PyProof.Rows
def Ls (x:Str):It:=⟨λ i _=>i<x.length,λ i H v H'=>H'=H/\∃c,x.cps.toList[i]? =some c/\v=.str ⟨#[c]⟩,λ i _=>x.length<=i⟩
def CS (ty:String):Prop:=ty="str_ascii_iterator"\/ty="str_iterator"
theorem vb {P:Program}{w:World}{K:Frag}{tg:Expr}(it:Addr) {ty:String}(hty:CS ty) (x:Str) (t:Tok):pR P w K tg (Ls x) [it] it (λ i h=>h.IsStrIter it ty x t i) where
 mem:=by simp
 obj:=λ i h st b hb=>by
  have e:b=it:=by simpa using hb
  subst e;obtain ⟨o,e,c,d⟩:=st;exact ⟨o,e,λ v z=>by rw [d] at z;cases z⟩
 keep:=λ i h h' st k=>by obtain ⟨o,e,r⟩:=st;exact ⟨o,k it (by simp) o e,r⟩
 item:=by
  intro X hP hw hK hc i pins s σ H E I hf st hg;subst hP hw hK;obtain ⟨f0,f1,f2,f3,f4,f5⟩:=hf it (by simp);have hi:i<x.cps.size:=hg;have hx:x.cps[i]? =some x.cps[i]:=NI hi;have hx':x.cps.toList[i]? =some x.cps[i]:=by simpa using hx
  have go:∀(h':Heap) (tk:Nat),h'.IsStrIter it ty x t (i+1)->Heap.SameBut it s.heap h'->∀u,(∃tt,u=Value.str ⟨#[x.cps[i]]⟩ tt)->wpAny (model X.prog X.w) X.A (letOwnedTupleGo tg (.ref it) u) (λ _ s2=> ∃x_1 H',aJ X pins σ H' s2/\aN x_1 u/\(Ls x).yld i H x_1 H'/\s2.heap.IsStrIter it ty x t (i+1)/\∀b∈[it],H' b=none) E {s with heap:=h',toks:=tk}:=by
   intro h' tk st' sb u hu;have I1:aJ X pins σ H {s with heap:=h',toks:=tk}:=I.turned (t':=tk) (λ b o hb e=>(sb.2 b hb).trans e) f0 f1 f3 f4 f5;obtain ⟨o,e,c,d⟩:=id st';refine sG (s:={s with heap:=h',toks:=tk}) e c d (by rcases hty with z | z<;>(rw [z];decide)) ?_
   obtain ⟨tt,rfl⟩:=hu;exact ⟨.str ⟨#[x.cps[i]]⟩,H,I1,⟨tt,rfl⟩,⟨rfl,_,hx',rfl⟩,st',λ b hb=>(hf b hb).1⟩
  rcases hty with rfl | rfl
  ·exact wpAny_pyNext_ascii_item st hx λ h' st' sb=>⟨_,rfl,go h' _ st' sb _ ⟨_,rfl⟩⟩
  ·exact wpAny_pyNext_wide_item st hx λ h' st' sb=>⟨_,rfl,go h' _ st' sb _ ⟨_,rfl⟩⟩
 done:=by
   intro X hP hw hK hc i pins s σ H E I hf st hg;subst hP hw hK;obtain ⟨f0,f1,f2,f3,f4,f5⟩:=hf it (by simp);have hi:x.cps.size<=i:=hg;have hx:x.cps[i]? =none:=Array.getElem?_eq_none hi
   rcases hty with rfl | rfl
   ·exact wpAny_pyNext_ascii_end (I.ok.hd hc) st hx λ h' eb=>⟨rfl,I.turned (t':=s.toks) (λ b o hb e=>eb b o hb e) f0 f1 f3 f4 f5⟩
   ·exact wpAny_pyNext_wide_end (I.ok.hd hc) st hx λ h' eb=>⟨rfl,I.turned (t':=s.toks) (λ b o hb e=>eb b o hb e) f0 f1 f3 f4 f5⟩
 self:=λ _ _ _ _ _ st h=>by
  rcases hty with rfl | rfl
  ·exact wpAny_pyIter_striter_ascii st h
  ·exact wpAny_pyIter_striter_wide st h
section
variable {X:Cx}{tg:Expr}
def Es (tl:TE):TI:=λ σ H R=>tl σ H λ v H1=>match v with | .str x=>R (Ls x) H1 | _=>False
theorem DT {l:Expr}{tl:TE}(hl:PE X l tl):PI X tg l (Es tl):=by
 intro pins s σ H R I h;refine bJ (hl pins s σ H _ I h) λ v s1 ⟨x,H1,I1,r1,q1⟩=>?_;cases x with
 | str z=>
   obtain ⟨t,rfl⟩:=r1;refine wpAny_pyIter_strU ?_;have hty:CS (strIterType z):=by
    unfold strIterType;split
    ·exact .inl rfl
    ·exact .inr rfl
   refine ⟨s1.heap.objs.size,[s1.heap.objs.size],_,_,H1,rfl,I1.kept (t':=s1.toks) λ b o e=>Heap.get?_push_of_some _ e,vb _ hty z t,⟨_,Heap.get?_push_size _ rfl,rfl,rfl⟩,λ b hb=>?_,q1⟩;have e:b=s1.heap.objs.size:=by simpa using hb
   subst e;exact I1.fpOk (M6 _) (I1.hok.fresh (M6 _))
 | _=>exact q1.elim
theorem uE {g:TG}{tt:TT}{te:TE}{src:List (Option Nat)}{σ:St}{Q:VK}{J:It}{H1:Hp}(xs:List V) (R:Hp->Prop) (S:St->Prop) (p:V->Bool) (f:V->V) (hlen:xs.length<=sizeLine)
  (hgo:∀(i:Nat) H,R H->i<xs.length->J.go i H) (hstop:∀(i:Nat) H,R H->xs.length<=i->J.stop i H) (hyld:∀(i:Nat) H v H',R H->J.yld i H v H'->R H'/\xs[i]? =some v) (h0:R H1) (s0:S (eJ src σ))
  (hturn:∀(i:Nat) (x:V) (σ':St) (H:Hp),S σ'->R H->xs[i]? =some x->∀(Kt:V->St->Hp->Prop) (Kf:St->Hp->Prop),(p x=true->∀σ3 H5,S σ3->R H5->Kt (f x) σ3 H5)->(p x=false->∀σ3 H4,S σ3->R H4->Kf σ3 H4)->
   g x σ' H λ σ3 H3=>tt σ3 H3 λ b H4=>if b=true then te σ3 H4 λ v H5=>Kt v σ3 H5 else Kf σ3 H4)
  (hQ:∀H' d,R H'->H' d=none->Q (.ref d) (upd H' d (.lst ((xs.filter p).map f)))):fg g tt te src σ Q J H1:=by
 refine ⟨λ i m ys σ' H'=>m=xs.length - i/\i<=xs.length/\ys=((xs.take i).filter p).map f/\S σ'/\R H',⟨xs.length,by simp,M9 _,by simp,s0,h0⟩,?_⟩;rintro i m ys σ' H' ⟨rfl,hi,rfl,hS,hR⟩
 by_cases hlt:i<xs.length
 ·refine .inr ⟨hgo i H' hR hlt,?_,λ x H2 y=>?_⟩
  ·rw [Lv];have h1:=MH p (xs.take i);rw [LW] at h1;omega
  ·obtain ⟨hR2,hx⟩:=hyld i H' x H2 hR y;have tk:(xs.take (i+1)).filter p=(xs.take i).filter p++(if p x then [x] else []):=take_succ_filter p xs i x hx;refine hturn i x σ' H2 hS hR2 hx _ _ (λ hp σ3 H5 hS3 hR5=>?_) (λ hp σ3 H4 hS3 hR4=>?_)
   ·refine ⟨xs.length - (i+1),by omega,rfl,hlt,?_,hS3,hR5⟩;rw [tk,hp,if_pos rfl,LR];rfl
   ·refine ⟨xs.length - (i+1),by omega,rfl,hlt,?_,hS3,hR4⟩;rw [tk,hp,if_neg (by simp),L6]
 ·have e:i=xs.length:=by omega
  subst e;refine .inl ⟨hstop _ H' hR (M6 _),λ d hd=>?_⟩;rw [Mv];exact hQ H' d hR hd
end
end L2
namespace L2
open PySem PySem.Spec PyProof.Rows
section
variable {X:Cx}
theorem vW {x:Str}{v:V}{pos:Pos}(hg:Gl X x) (h:∃u,X.mg x=some u/\aN v u) (hd:(x == ("__debug__":Str))=false:=by decide):PE X (.Name x pos) (tC v):=by obtain ⟨u,hm,r⟩:=h;exact x3 hg hm r hd
end
theorem cq {A:Around}{k:Nat}(hr:du k A):A.units+20<cLine:=by have:=hr.units;omega
theorem ag.upd {H H':Hp}{d:Addr}{o:HO}(h:ag H H') (hd:H' d=none):ag H (upd H' d o):=λ b ob e=>by have e':=h b ob e;rw [ah (am e' hd)];exact e'
end L2
namespace L2
open PySem PySem.Spec PyProof.Rows
section
variable {X:Cx}{a b c e o:Expr}{ta tb tc te to:TE}{p p2 pos:Pos}{es:List Expr}{t:TA}
theorem gS (K:Frag) {op:CmpOp}(hu:X.A.units+20<cLine) (ha:PE X a ta) (hb:PE X b tb) (hm:behindInMarks op b=false:=by first | exact m7 _ | with_unfolding_all rfl) (hK:X.K=K:=by rfl):PE X (.Compare a [op] [b] pos) (dI K op ta tb):=by subst hK;exact EG hu ha hb hm
theorem bz (K:Frag) {op:CmpOp}(hu:X.A.units+20<cLine) (ha:PE X a ta) (hb:PE X b tb) (hm:behindInMarks op b=false:=by first | exact m7 _ | with_unfolding_all rfl) (hK:X.K=K:=by rfl):PT X (.Compare a [op] [b] pos) (fZ (dI K op ta tb)):=by subst hK;exact EE hu ha hb hm
theorem qO (K:Frag) {op op':CmpOp}(hu:X.A.units+20<cLine) (ha:PE X a ta) (hb:PE X b tb) (hc:PE X c tc) (hm:lastMarks [op,op'] [b,c]=false:=by with_unfolding_all rfl) (hK:X.K=K:=by rfl):PE X (.Compare a [op,op'] [b,c] pos) (jm K op op' ta tb tc):=by subst hK;exact xh hu ha hb hc hm
theorem yr (K:Frag) {op op':CmpOp}(hu:X.A.units+20<cLine) (ha:PE X a ta) (hb:PE X b tb) (hc:PE X c tc) (hm:lastMarks [op,op'] [b,c]=false:=by with_unfolding_all rfl) (hK:X.K=K:=by rfl):PT X (.Compare a [op,op'] [b,c] pos) (jT K op op' ta tb tc):=by subst hK;exact xa hu ha hb hc hm
theorem cx (K:Frag) (ha:PE X a ta) (hb:PE X b tb) (hs:nI b:=by exact λ _ _=>rfl) (hK:X.K=K:=by rfl):PE X (.Subscript a b pos) (kE K ta tb):=by subst hK;exact JD ha hb hs
theorem E2 (K:Frag) {lo hi:Option Expr}{tl th:TO}(he:PE X e te) (hl:PO X lo tl) (hu:PO X hi th) (hK:X.K=K:=by rfl):PE X (.Subscript e (.Slice lo hi none p2) pos) (E6 K te tl th):=by subst hK;exact JB he hl hu
theorem gG (K:Frag) (hK:X.K=K:=by rfl):bn X (.builtin "len") (m8 K):=by subst hK;exact uI
theorem ww (K:Frag) (hc:X.calm=true:=by rfl) (hK:X.K=K:=by rfl):bn X (.builtin "all") (xq K):=by subst hK;exact uM hc
theorem si (K:Frag) (hK:X.K=K:=by rfl):uR X "str.join" (sj K):=by subst hK;exact v6
theorem jL (K:Frag) {tg l:Expr}{tl:TE}(hl:PE X l tl) (hK:X.K=K:=by rfl):PI X tg l (fW K tl):=by subst hK;exact xY hl
theorem kpt (K:Frag) {tg l:Expr}{tl:TE}(hl:PE X l tl) (hK:X.K=K:=by rfl):PI X tg l (Er K tl):=by subst hK;exact DS hl
theorem kgt (K:Frag) {n:Nat}{k:Nat}{t:Dk}(h:E8 X es t) (hc:X.calm=true:=by rfl) (hn:(assignEach es X.env).length=n:=by rfl) (hst:List.findIdx? (λ x=>x.1) (assignEach es X.env)=none:=by rfl) (hK:X.K=K:=by rfl):PG X (.Tuple es k pos) (yH K n t):=by subst hK;exact DU hc h hn hst
theorem kg {x:Str}{v:V}(h:∃u,X.mg x=some u/\aN v u) (hg:Gl X x:=by rfl) (hd:(x == ("__debug__":Str))=false:=by decide):PE X (.Name x pos) (tC v):=vW hg h hd
theorem wt (T:BT) {n:Str}(hm:X.mg "isinstance"=none) (hmT:X.mg n=none) (hv:bootBuiltins n=some (.type T.s)) (ha:PE X a ta) (hg:Gl X "isinstance":=by rfl) (hgT:Gl X n:=by rfl) (hn:n≠"__name__":=by decide) (hdb:(n == ("__debug__":Str))=false:=by decide)
  (he:starEach [a,.Name n p2] X.env=(false,eval a X.env)::starEach [.Name n p2] X.env:=by rfl) (he2:starEach [.Name n p2] X.env=(false,eval (.Name n p2) X.env)::starEach [] X.env:=by rfl) (hpl:(backTo pos (starEach [.Name n p2] X.env)).any (·.1)=false:=by rfl):
  PE X (.Call (.Name "isinstance" p) [a,.Name n p2] [] pos) (Dj T ta):=JE T ha hg hm hgT hmT hv hn hdb he he2 hpl
theorem Ef {tg:Expr}{ta:TA}(hm:X.mg "range"=none) (ha:PA X [a] ta) (hg:Gl X "range":=by rfl) (hs:starEach [a] X.env=[(false,eval a X.env)]:=by rfl):PI X tg (.Call (.Name "range" p) [a] [] pos) (lL ta):=tU hg hm ha hs
theorem kjr (K:Frag) {apos cpos:Pos}(hm:X.mg "reversed"=none) (ho:PE X o to) (he:PE X e te) (hc:X.calm=true:=by rfl) (hg:Gl X "reversed":=by rfl)
  (hbase:attributeBase o "join" X.env (eval o X.env)=eval o X.env:=by rfl)
  (hfew:((backTo cpos (starEach [.Call (.Name "reversed" p) [e] [] p2] X.env)).all (λ x=> !x.1)&&(backToKw cpos (keywordEach [] X.env)).all (λ x=>x.1.isSome)
   &&decide ([Expr.Call (.Name "reversed" p) [e] [] p2].length+([]:List Keyword).length+(if ([]:List Keyword).isEmpty then 0 else 1)<30))=true:=by rfl)
  (hline:(apos.endLine == cpos.line)=true:=by rfl) (hs:starEach [.Call (.Name "reversed" p) [e] [] p2] X.env=(false,eval (.Call (.Name "reversed" p) [e] [] p2) X.env)::starEach [] X.env:=by rfl) (hplain:(backTo cpos (starEach [] X.env)).any (·.1)=false:=by rfl)
  (hs2:starEach [e] X.env=(false,eval e X.env)::starEach [] X.env:=by rfl) (hpl2:(backTo p2 (starEach [] X.env)).any (·.1)=false:=by rfl) (hK:X.K=K:=by rfl):
  PE X (.Call (.Attribute o "join" apos) [.Call (.Name "reversed" p) [e] [] p2] [] cpos) (Le K to te):=by
 subst hK;exact qY hc ho he hm hg hbase hfew hline hs hplain hs2 hpl2
theorem bp {N:List Str}{src:List (Option Nat)}{scope:Scope}(dsc:Scope) (XN:List Str) (h:qW dsc XN N src scope=true:=by decide+kernel) (he:X.env.scope=dsc:=by rfl) (hN:X.N=XN:=by rfl):cf X N src scope:=cf.of he hN h
theorem aL {i:Nat}{x:Str}(N:List Str) (hN:N.Nodup:=by decide+kernel) (hi:X.N[i]? =some x:=by rfl) (hx:E9 X.env.scope x:=by first | exact Or.inl rfl | exact Or.inr rfl) (hf:X.fn x=true\/X.env.scope.names.lookup x=some .local:=by first | exact .inl rfl | exact .inr rfl) (hNX:X.N=N:=by rfl):PG X (.Name x pos) (gName i):=
 dO (hNX▸hN) hi hx hf
theorem cz {N:List Str}{src:List (Option Nat)}{scope:Scope}{tg iter:Expr}{ifs:List Expr}{wi:TI}{g:TG}{tt:TT}(S:cf X N src scope) (hi:PI X tg iter wi) (hg:∀s H ex,PG (cxC X scope N s H ex) tg g) (ht:∀s H ex,pS (cxC X scope N s H ex) ifs tt) (he:∀s H ex,PE (cxC X scope N s H ex) e te)
  (hc:X.calm=true:=by rfl) (hs:∀x,foldedSetIterable iter X.env x=pure x:=by intro _;rfl):PE X (.ListComp e [⟨tg,iter,ifs,0⟩] scope pos) (tComp wi g tt te src):=x5 hc S hi hg ht he hs
end
end L2
namespace L2
open PySem PySem.Spec PyProof.Rows
theorem vN {K:Frag}{i j:Int}{H:Hp}{Q:VK}:(bb K .Eq (.int i) (.int j) H Q)=(Q (.bl (decide (i=j))) H):=rfl
theorem vC {K:Frag}{i j:Int}{H:Hp}{Q:VK}:(bb K .NotEq (.int i) (.int j) H Q)=(Q (.bl (!decide (i=j))) H):=rfl
theorem vM {K:Frag}{i j:Str}{H:Hp}{Q:VK}:(bb K .Eq (.str i) (.str j) H Q)=(Q (.bl (decide (i=j))) H):=rfl
theorem vB {K:Frag}{i j:Str}{H:Hp}{Q:VK}:(bb K .NotEq (.str i) (.str j) H Q)=(Q (.bl (!decide (i=j))) H):=rfl
theorem xV {K:Frag}{i j:Bool}{H:Hp}{Q:VK}:(bb K .Eq (.bl i) (.bl j) H Q)=(Q (.bl (decide (i=j))) H):=rfl
theorem xS {K:Frag}{i j:Bool}{H:Hp}{Q:VK}:(bb K .NotEq (.bl i) (.bl j) H Q)=(Q (.bl (!decide (i=j))) H):=rfl
theorem xU {K:Frag}{H:Hp}{Q:VK}:(bb K .Eq .non .non H Q)=(Q (.bl true) H):=rfl
theorem xR {K:Frag}{H:Hp}{Q:VK}:(bb K .NotEq .non .non H Q)=(Q (.bl (!true)) H):=rfl
theorem mG {K:Frag}{i:Int}{j:Str}{H:Hp}{Q:VK}:(bb K .Eq (.int i) (.str j) H Q)=(Q (.bl false) H):=rfl
theorem mw {K:Frag}{i:Int}{j:Str}{H:Hp}{Q:VK}:(bb K .NotEq (.int i) (.str j) H Q)=(Q (.bl (!false)) H):=rfl
theorem mH {K:Frag}{i:Int}{H:Hp}{Q:VK}:(bb K .Eq (.int i) .non H Q)=(Q (.bl false) H):=rfl
theorem mx {K:Frag}{i:Int}{H:Hp}{Q:VK}:(bb K .NotEq (.int i) .non H Q)=(Q (.bl (!false)) H):=rfl
theorem mD {K:Frag}{i:Str}{j:Int}{H:Hp}{Q:VK}:(bb K .Eq (.str i) (.int j) H Q)=(Q (.bl false) H):=rfl
theorem mq {K:Frag}{i:Str}{j:Int}{H:Hp}{Q:VK}:(bb K .NotEq (.str i) (.int j) H Q)=(Q (.bl (!false)) H):=rfl
theorem oE {K:Frag}{i:Str}{j:Bool}{H:Hp}{Q:VK}:(bb K .Eq (.str i) (.bl j) H Q)=(Q (.bl false) H):=rfl
theorem ot {K:Frag}{i:Str}{j:Bool}{H:Hp}{Q:VK}:(bb K .NotEq (.str i) (.bl j) H Q)=(Q (.bl (!false)) H):=rfl
theorem mB {K:Frag}{i:Str}{H:Hp}{Q:VK}:(bb K .Eq (.str i) .non H Q)=(Q (.bl false) H):=rfl
theorem mo {K:Frag}{i:Str}{H:Hp}{Q:VK}:(bb K .NotEq (.str i) .non H Q)=(Q (.bl (!false)) H):=rfl
theorem oG {K:Frag}{i:Bool}{j:Str}{H:Hp}{Q:VK}:(bb K .Eq (.bl i) (.str j) H Q)=(Q (.bl false) H):=rfl
theorem ow {K:Frag}{i:Bool}{j:Str}{H:Hp}{Q:VK}:(bb K .NotEq (.bl i) (.str j) H Q)=(Q (.bl (!false)) H):=rfl
theorem oH {K:Frag}{i:Bool}{H:Hp}{Q:VK}:(bb K .Eq (.bl i) .non H Q)=(Q (.bl false) H):=rfl
theorem ox {K:Frag}{i:Bool}{H:Hp}{Q:VK}:(bb K .NotEq (.bl i) .non H Q)=(Q (.bl (!false)) H):=rfl
theorem mF {K:Frag}{j:Int}{H:Hp}{Q:VK}:(bb K .Eq .non (.int j) H Q)=(Q (.bl false) H):=rfl
theorem ms {K:Frag}{j:Int}{H:Hp}{Q:VK}:(bb K .NotEq .non (.int j) H Q)=(Q (.bl (!false)) H):=rfl
theorem mE {K:Frag}{j:Str}{H:Hp}{Q:VK}:(bb K .Eq .non (.str j) H Q)=(Q (.bl false) H):=rfl
theorem mr {K:Frag}{j:Str}{H:Hp}{Q:VK}:(bb K .NotEq .non (.str j) H Q)=(Q (.bl (!false)) H):=rfl
theorem oF {K:Frag}{j:Bool}{H:Hp}{Q:VK}:(bb K .Eq .non (.bl j) H Q)=(Q (.bl false) H):=rfl
theorem ou {K:Frag}{j:Bool}{H:Hp}{Q:VK}:(bb K .NotEq .non (.bl j) H Q)=(Q (.bl (!false)) H):=rfl
theorem rV {K:Frag}{a b:Addr}{H:Hp}{Q:VK}:(bb K .Eq (.ref a) (.ref b) H Q)=(∃k,pU K H 20 (.ref a) (.ref b) k/\Q (.bl k) H):=rfl
theorem xQ {K:Frag}{a b:Addr}{H:Hp}{Q:VK}:(bb K .NotEq (.ref a) (.ref b) H Q)=(∃k,pU K H 20 (.ref a) (.ref b) k/\Q (.bl (!k)) H):=rfl
theorem vE {K:Frag}{i j:Int}{H:Hp}{Q:VK}:(bb K .Lt (.int i) (.int j) H Q)=(Q (.bl (decide (i<j))) H):=rfl
theorem lB {K:Frag}{i j:Int}{H:Hp}{Q:VK}:(bb K .LtE (.int i) (.int j) H Q)=(Q (.bl (decide (i<=j))) H):=rfl
theorem vL {K:Frag}{i j:Int}{H:Hp}{Q:VK}:(bb K .Gt (.int i) (.int j) H Q)=(Q (.bl (decide (j<i))) H):=rfl
theorem tS {K:Frag}{i j:Int}{H:Hp}{Q:VK}:(bb K .GtE (.int i) (.int j) H Q)=(Q (.bl (decide (j<=i))) H):=rfl
theorem vD {K:Frag}{i j:Str}{H:Hp}{Q:VK}:(bb K .Lt (.str i) (.str j) H Q)=(Q (.bl (decide (i.cps.toList<j.cps.toList))) H):=rfl
theorem lA {K:Frag}{i j:Str}{H:Hp}{Q:VK}:(bb K .LtE (.str i) (.str j) H Q)=(Q (.bl (!decide (j.cps.toList<i.cps.toList))) H):=rfl
theorem vK {K:Frag}{i j:Str}{H:Hp}{Q:VK}:(bb K .In (.str i) (.str j) H Q)=(Q (.bl (!(Builtin.Str.occurrences j i 0 j.length 1).isEmpty)) H):=rfl
theorem oq {K:Frag}{i j:Str}{H:Hp}{Q:VK}:(bb K .NotIn (.str i) (.str j) H Q)=(Q (.bl (!(!(Builtin.Str.occurrences j i 0 j.length 1).isEmpty))) H):=rfl
theorem mz {K:Frag}{i:Int}{d:Addr}{H:Hp}{Q:VK}:(bb K .In (.int i) (.ref d) H Q)=(rW K false (.int i) (.ref d) H Q):=rfl
theorem gC {K:Frag}{i:Int}{d:Addr}{H:Hp}{Q:VK}:(bb K .NotIn (.int i) (.ref d) H Q)=(rW K true (.int i) (.ref d) H Q):=rfl
theorem vJ {K:Frag}{i:Int}{H:Hp}{Q:VK}:(bb K .Is (.int i) .non H Q)=(Q (.bl false) H):=rfl
theorem oB {K:Frag}{i:Int}{H:Hp}{Q:VK}:(bb K .IsNot (.int i) .non H Q)=(Q (.bl true) H):=rfl
theorem iK {K:Frag}{i:Str}{d:Addr}{H:Hp}{Q:VK}:(bb K .In (.str i) (.ref d) H Q)=(rW K false (.str i) (.ref d) H Q):=rfl
theorem jF {K:Frag}{i:Str}{d:Addr}{H:Hp}{Q:VK}:(bb K .NotIn (.str i) (.ref d) H Q)=(rW K true (.str i) (.ref d) H Q):=rfl
theorem vG {K:Frag}{i:Str}{H:Hp}{Q:VK}:(bb K .Is (.str i) .non H Q)=(Q (.bl false) H):=rfl
theorem oy {K:Frag}{i:Str}{H:Hp}{Q:VK}:(bb K .IsNot (.str i) .non H Q)=(Q (.bl true) H):=rfl
theorem oC {K:Frag}{i:Bool}{d:Addr}{H:Hp}{Q:VK}:(bb K .In (.bl i) (.ref d) H Q)=(rW K false (.bl i) (.ref d) H Q):=rfl
theorem j2 {K:Frag}{i:Bool}{d:Addr}{H:Hp}{Q:VK}:(bb K .NotIn (.bl i) (.ref d) H Q)=(rW K true (.bl i) (.ref d) H Q):=rfl
theorem xT {K:Frag}{i:Bool}{H:Hp}{Q:VK}:(bb K .Is (.bl i) .non H Q)=(Q (.bl false) H):=rfl
theorem qt {K:Frag}{i:Bool}{H:Hp}{Q:VK}:(bb K .IsNot (.bl i) .non H Q)=(Q (.bl true) H):=rfl
theorem iL {K:Frag}{d:Addr}{H:Hp}{Q:VK}:(bb K .In .non (.ref d) H Q)=(rW K false .non (.ref d) H Q):=rfl
theorem jH {K:Frag}{d:Addr}{H:Hp}{Q:VK}:(bb K .NotIn .non (.ref d) H Q)=(rW K true .non (.ref d) H Q):=rfl
theorem vI {K:Frag}{H:Hp}{Q:VK}:(bb K .Is .non .non H Q)=(Q (.bl true) H):=rfl
theorem oA {K:Frag}{H:Hp}{Q:VK}:(bb K .IsNot .non .non H Q)=(Q (.bl false) H):=rfl
theorem my {K:Frag}{i:Addr}{d:Addr}{H:Hp}{Q:VK}:(bb K .In (.ref i) (.ref d) H Q)=(rW K false (.ref i) (.ref d) H Q):=rfl
theorem jG {K:Frag}{i:Addr}{d:Addr}{H:Hp}{Q:VK}:(bb K .NotIn (.ref i) (.ref d) H Q)=(rW K true (.ref i) (.ref d) H Q):=rfl
theorem vH {K:Frag}{i:Addr}{H:Hp}{Q:VK}:(bb K .Is (.ref i) .non H Q)=(Q (.bl false) H):=rfl
theorem oz {K:Frag}{i:Addr}{H:Hp}{Q:VK}:(bb K .IsNot (.ref i) .non H Q)=(Q (.bl true) H):=rfl
theorem IH {i j:Int}{H:Hp}{Q:VK}:(iV .Add (.int i) (.int j) H Q)=(Q (.int (i+j)) H):=rfl
theorem DO {i j:Str}{H:Hp}{Q:VK}:(iV .Add (.str i) (.str j) H Q)=(i.length+j.length<=sizeLine/\Q (.str (i++j)) H):=rfl
theorem vO {a b:Addr}{H:Hp}{Q:VK}:(iV .Add (.ref a) (.ref b) H Q)=(DQ (.ref a) (.ref b) H Q):=rfl
theorem Iw {i j:Int}{H:Hp}{Q:VK}:(iV .Sub (.int i) (.int j) H Q)=(Q (.int (i - j)) H):=rfl
theorem IB {i j:Int}{H:Hp}{Q:VK}:(iV .Mult (.int i) (.int j) H Q)=(uV i j/\Q (.int (i*j)) H):=rfl
theorem DN {i j:Int}{H:Hp}{Q:VK}:(iV .FloorDiv (.int i) (.int j) H Q)=(y9 i j/\Q (.int (i / j)) H):=rfl
theorem IC {i j:Int}{H:Hp}{Q:VK}:(iV .Mod (.int i) (.int j) H Q)=(0<j/\Q (.int (i % j)) H):=rfl
theorem IA {i j:Int}{H:Hp}{Q:VK}:(iV .Pow (.int i) (.int j) H Q)=(EW i j/\Q (.int (i ^ j.toNat)) H):=rfl
theorem IE {K:Frag}{z:Str}{i:Int}{H:Hp}{Q:VK}:(E3 K (.str z) (.int i) H Q)=(z.length<=sizeLine/\∃c,kA z.cps.toList i=some c/\Q (.str ⟨#[c]⟩) H):=rfl
theorem IF {K:Frag}{d:Addr}{i:Int}{H:Hp}{Q:VK}:(E3 K (.ref d) (.int i) H Q)=(∃xs v,(aI K H d xs\/cg K H d xs)/\kA xs i=some v/\Q v H):=rfl
theorem Iy {K:Frag}{z:Str}{lo hi:Option Int}{H:Hp}{Q:VK}:(EZ K (.str z) lo hi H Q)=(z.length<=sizeLine/\Q (.str (jN z lo hi)) H):=rfl
theorem Iz {K:Frag}{d:Addr}{lo hi:Option Int}{H:Hp}{Q:VK}:(EZ K (.ref d) lo hi H Q)=(∃xs,aI K H d xs/\∀q,H q=none->Q (.ref q) (upd H q (.lst (gr xs lo hi)))):=rfl
theorem DI {K:Frag}{z:Str}{H:Hp}{Q:VK}:(m8 K [.str z] H Q)=(z.length<=sizeLine/\Q (.int z.length) H):=rfl
theorem DJ {K:Frag}{d:Addr}{H:Hp}{Q:VK}:(m8 K [.ref d] H Q)=(∃ys,(aI K H d ys\/cg K H d ys)/\Q (.int ys.length) H):=rfl
theorem ID {i j:Int}{H:Hp}{Q:VK}:(v9 [.int i,.int j] H Q)=(Q (.int (if j<i then j else i)) H):=rfl
theorem Ix {i:Int}{H:Hp}{Q:VK}:(tH [.int i] H Q)=(i.natAbs.log2<1920/\Q (.str (toString i)) H):=rfl
theorem DL {z:Str}{H:Hp}{Q:VK}:(wz [.str z] H Q)=(∃n,PySem.intText? z=some n/\z.length<=640/\Q (.int n) H):=rfl
theorem DM {k:Bool}{H:Hp}{Q:VK}:(wz [.bl k] H Q)=(Q (.int (if k then 1 else 0)) H):=rfl
theorem IG {K:Frag}{d:Addr}{H:Hp}{Q:VK}:(xq K [.ref d] H Q)=(∃ks:List Bool,aI K H d (ks.map V.bl)/\Q (.bl (ks.all id)) H):=rfl
theorem KQ {a b:Str}{H:Hp}{Q:VK}:(Io (.str a) [.str b] H Q)=(Q (.bl (b.cps.toList.isPrefixOf a.cps.toList)) H):=rfl
theorem DK {K:Frag}{a:Str}{d:Addr}{H:Hp}{Q:VK}:(sj K (.str a) [.ref d] H Q)=(∃ys:List Str,aI K H d (ys.map V.str)/\(ys.map (·.length)).sum+ys.length*a.length<=16777216/\Q (.str (Txt.join a ys)) H):=rfl
theorem KP {a:Str}{H:Hp}{Q:VK}:(upA (.str a) [] H Q)=(a.length<=sizeLine/\(∀c∈a.cps.toList,c<128)/\Q (.str ⟨a.cps.map up1⟩) H):=rfl
theorem tQ {T:BT}{H:Hp}{Q:VK}:(pW T .non H Q)=(Q (.bl false) H):=rfl
theorem vF {T:BT}{b:Bool}{H:Hp}{Q:VK}:(pW T (.bl b) H Q)=(Q (.bl (cL .bool T)) H):=rfl
theorem tR {T:BT}{b:Int}{H:Hp}{Q:VK}:(pW T (.int b) H Q)=(Q (.bl (cL .int T)) H):=rfl
theorem tP {T:BT}{b:Str}{H:Hp}{Q:VK}:(pW T (.str b) H Q)=(Q (.bl (cL .str T)) H):=rfl
theorem r_b {k:Bool}{Q:Bool->Hp->Prop}{H:Hp}:eK Q (.bl k) H=Q k H:=rfl
end L2
namespace L2
open PySem PySem.Spec PyProof.Rows
def gj:Expr->Bool
 | .Starred _ _=>false
 | _=>true
theorem fv {e:Expr}{es:List Expr}{env:Env}(h:gj e=true):starEach (e::es) env=(false,eval e env)::starEach es env:=by
 cases e<;>first | rfl | cases h
theorem hJ {pos:Pos}{env:Env}:∀{es:List Expr},es.all gj=true->(backTo pos (starEach es env)).any (·.1)=false
 | [],_=>rfl
 | e::es,h=>by
   rw [LY,Nu] at h;rw [fv h.1];show (false||(backTo pos (starEach es env)).any (·.1))=false
   rw [hJ h.2];rfl
theorem xp {pos:Pos}{env:Env}:∀{es:List Expr},es.all gj=true->(backTo pos (starEach es env)).all (λ x=> !x.1)=true
 | [],_=>rfl
 | e::es,h=>by rw [LY,Nu] at h;rw [fv h.1];show (!false&&(backTo pos (starEach es env)).all (λ x=> !x.1))=true;rw [xp h.2];rfl
section
variable {X:Cx}{a b c e o:Expr}{ta tb tc te to:TE}{p p2 pos:Pos}{es:List Expr}{t:TA}
theorem au (ha:PE X e te) (hr:PA X es t) (h:gj e=true:=by rfl):PA X (e::es) (bi te t):=pa_cons ha hr (fv h)
theorem aD {name:Str}{ps:List Str}{k j:Nat}{sp:Sp}(C:eA X.prog X.w X.K X.mg X.base name ps k sp) (hr:du j X.A) (ha:PA X (e::es) t) (hkj:k<=j:=by decide) (hp:(e::es).all gj=true:=by rfl) (hg:Gl X name:=by rfl) (hdb:(name == ("__debug__":Str))=false:=by decide):PE X (.Call (.Name name p) (e::es) [] pos) (gb sp t):=by have hp':=hp;rw [LY,Nu] at hp';exact sW C hr hkj ha hg hdb (fv hp'.1) (hJ hp'.2)
theorem kB {id:String}{x:Str}{r:List V->Hp->VK->Prop}(hc:bn X (.builtin id) r) (hv:bootBuiltins x=some (.builtin id)) (hm:X.mg x=none) (ha:PA X (e::es) t) (hp:(e::es).all gj=true:=by rfl) (hg:Gl X x:=by rfl) (hn:x≠"__name__":=by decide) (hdb:(x == ("__debug__":Str))=false:=by decide):PE X (.Call (.Name x p) (e::es) [] pos) (cB r t):=by have hp':=hp;rw [LY,Nu] at hp';exact Ld hc hv hm ha hg hn hdb (fv hp'.1) (hJ hp'.2)
theorem pe {T:String}{x:Str}{r:List V->Hp->VK->Prop}(hc:bn X (.type T) r) (hv:bootBuiltins x=some (.type T)) (hm:X.mg x=none) (ha:PA X (e::es) t) (hp:(e::es).all gj=true:=by rfl) (hg:Gl X x:=by rfl) (hn:x≠"__name__":=by decide) (hdb:(x == ("__debug__":Str))=false:=by decide):PE X (.Call (.Name x p) (e::es) [] pos) (cB r t):=by have hp':=hp;rw [LY,Nu] at hp';exact Dg hc hv hm ha hg hn hdb (fv hp'.1) (hJ hp'.2)
theorem Da {name:Str}{apos cpos:Pos}{id:String}{r:V->List V->Hp->VK->Prop}(slot:Slot "str" name id) (hty:typeOf (.builtin id)=pure (.type "method_descriptor")) (hm:uR X id r) (ho:PE X o to) (ha:PA X (e::es) t) (hp:(e::es).all gj=true:=by rfl) (hl:(e::es).length<20:=by decide)
  (hbase:attributeBase o name X.env (eval o X.env)=eval o X.env:=by rfl) (hline:(apos.endLine == cpos.line)=true:=by rfl):PE X (.Call (.Attribute o name apos) (e::es) [] cpos) (E7 r to t):=by
 have hp':=hp;rw [LY,Nu] at hp';refine JA slot hty hm ho ha hbase ?_ hline (fv hp'.1) (hJ hp'.2);rw [xp hp];show (true&&true&&decide ((e::es).length+0+0<30))=true;rw [decide_eq_true (by omega)];rfl
end
end L2
namespace L2
open PySem
theorem c9 {t u:TS}{D:cM}{σ:St}{H:Hp}(P:St->Hp->Prop) (h:∀K:St->Hp->Prop,(∀σ' H',P σ' H'->K σ' H')->t {D with nx:=K} σ H) (h2:∀σ' H',P σ' H'->u D σ' H'):bg t u D σ H:=h (u D) h2
theorem aZ {te:TE}{i:Nat}{u:TS}{D:cM}{σ:St}{H:Hp}(P:V->Hp->Prop) (h:∀Q:VK,(∀v H',P v H'->Q v H')->te σ H Q) (h2:∀v H',P v H'->u D (σ.set i (some v)) H'):bg (tAsg te (gName i)) u D σ H:=h _ h2
theorem eC {c:TT}{t u:TS}{D:cM}{σ:St}{H:Hp}(P:Bool->Hp->Prop) (hc:∀Q:Bool->Hp->Prop,(∀b H',P b H'->Q b H')->c σ H Q) (h1:∀H',P true H'->t {D with nx:=u D} σ H') (h2:∀H',P false H'->u D σ H'):bg (lZ c t jV) u D σ H:=by
 refine hc _ λ b H' p=>?_;cases b with
 | true=>exact ji (h1 H' p)
 | false=>exact jj (h2 H' p)
end L2
namespace L2
open PySem
def g9:List Expr->Option (List V)
 | []=>some []
 | .Constant (.int i) _ _::r=>(g9 r).map (V.int i:: ·)
 | .Constant (.str x) _ _::r=>(g9 r).map (V.str x:: ·)
 | .Constant (.bool b) _ _::r=>(g9 r).map (V.bl b:: ·)
 | .Constant .none _ _::r=>(g9 r).map (V.non:: ·)
 | _=>none
def Lf (vs:List V):TA:=λ _ H Q=>Q vs H
theorem dD {X:Cx}:∀{es:List Expr}{vs:List V},g9 es=some vs->PA X es (Lf vs):=by
 intro es
 induction es with
 | nil=>intro vs h;cases h;exact pa_nil
 | cons e r ih=>
   intro vs h;unfold g9 at h;split at h
   ·rename_i e1;cases e1
   ·rename_i e1;cases e1;obtain ⟨ws,h1,h2⟩:=NN.mp h;subst h2;exact au af (ih h1)
   ·rename_i e1;cases e1;obtain ⟨ws,h1,h2⟩:=NN.mp h;subst h2;exact au aH (ih h1)
   ·rename_i e1;cases e1;obtain ⟨ws,h1,h2⟩:=NN.mp h;subst h2;exact au c8 (ih h1)
   ·rename_i e1;cases e1;obtain ⟨ws,h1,h2⟩:=NN.mp h;subst h2;exact au dC (ih h1)
   ·cases h
end L2
namespace L2
open PySem
theorem iT {g:TG}{tt:TT}{te:TE}{src:List (Option Nat)}{σ:St}{Q:VK}{J:It}{H1:Hp}(n:Nat) (N:Nat->List V->St->Hp->Prop) (hn:n<=sizeLine) (hlen:∀i ys σ H,N i ys σ H->ys.length<=i)
  (hgo:∀i ys σ H,N i ys σ H->i<n->J.go i H) (hstop:∀ys σ H,N n ys σ H->J.stop n H) (h0:N 0 [] (eJ src σ) H1)
  (hturn:∀i ys σ' H' x H2,i<n->N i ys σ' H'->J.yld i H' x H2->∀(Kt:V->St->Hp->Prop) (Kf:St->Hp->Prop),(∀v σ3 H5,N (i+1) (ys++[v]) σ3 H5->Kt v σ3 H5)->(∀σ3 H4,N (i+1) ys σ3 H4->Kf σ3 H4)->
   g x σ' H2 λ σ3 H3=>tt σ3 H3 λ b H4=>if b=true then te σ3 H4 λ v H5=>Kt v σ3 H5 else Kf σ3 H4)
  (hQ:∀ys σ' H' d,N n ys σ' H'->H' d=none->Q (.ref d) (upd H' d (.lst ys))):fg g tt te src σ Q J H1:=by
 refine ⟨λ i m ys σ' H'=>m=n - i/\i<=n/\N i ys σ' H',⟨n,by simp,M9 _,h0⟩,?_⟩;rintro i m ys σ' H' ⟨rfl,hi,hN⟩
 by_cases hlt:i<n
 ·refine .inr ⟨hgo i ys σ' H' hN hlt,?_,λ x H2 y=>?_⟩
  ·have:=hlen i ys σ' H' hN;omega
  ·exact hturn i ys σ' H' x H2 hlt hN y _ _ (λ v σ3 H5 h=>⟨n - (i+1),by omega,rfl,hlt,h⟩) (λ σ3 H4 h=>⟨n - (i+1),by omega,rfl,hlt,h⟩)
 ·have e:i=n:=by omega
  subst e;exact .inl ⟨hstop ys σ' H' hN,λ d hd=>hQ ys σ' H' d hN hd⟩
end L2
namespace L2
open PySem
theorem pr {ta:TA}{g:TG}{tb:TS}{D:cM}{σ:St}{H:Hp}(n:Int) (hta:∀Q:List V->Hp->Prop,Q [.int n] H->ta σ H Q) (h0: -(2 ^ 62)<=n) (h1:n<2 ^ 62) (Pv:Nat->St->Hp->Prop) (hp0:Pv 0 σ H)
  (hs:∀i σ H,i<n.toNat->Pv i σ H->g (.int (0+i)) σ H λ σ2 H2=>tb {D with nx:=Pv (i+1),ct:=Pv (i+1),bk:=D.nx} σ2 H2) (hd:∀σ H,Pv n.toNat σ H->D.nx σ H):tFor (lL ta) g tb D σ H:=
 hta _ ⟨n,rfl,h0,h1,lM Pv hp0 hs hd⟩
theorem km {K:Frag}{tl:TE}{g:TG}{tb:TS}{D:cM}{σ:St}{H:Hp}(P:V->Hp->Prop) (htl:∀Q:VK,(∀v H',P v H'->Q v H')->tl σ H Q)
  (h:∀v H',P v H'->∃d xs,v=.ref d/\aI K H' d xs/\∃Pv:Nat->St->Hp->Prop,Pv 0 σ H'/\(∀i σ H,i<=xs.length->Pv i σ H->aI K H d xs)/\
   (∀(i:Nat) x σ H,xs[i]? =some x->Pv i σ H->g x σ H λ σ2 H2=>tb {D with nx:=Pv (i+1),ct:=Pv (i+1),bk:=D.nx} σ2 H2)/\(∀σ H,Pv xs.length σ H->D.nx σ H)):tFor (fW K tl) g tb D σ H:=
 htl _ λ v H' p=>by obtain ⟨d,xs,rfl,hq,Pv,a,b,c,e⟩:=h v H' p;exact ⟨d,rfl,⟨xs,hq⟩,wL Pv a b c e⟩
end L2
namespace L2
open PySem PySem.Spec PyProof.Rows
def tz (ns:List Int):List Int:=firstMet (λ i=>ns.getD i 0) ns.length
theorem qr (ns:List Int):(List.range ns.length).map (λ i=>ns.getD i 0)=ns:=by
 apply MG;intro i;rw [LD]
 by_cases h:i<ns.length
 ·rw [MI h,Ly h];show some (ns.getD i 0)=_;rw [LQ,Ly h];rfl
 ·rw [Mj (by rw [Mh];omega),Mj (by omega)];rfl
theorem gU (val:Nat->Int):∀i,(firstMet val i).length=i<->((List.range i).map val).Nodup
 | 0=>by simp [firstMet_zero]
 | i+1=>by
   have ih:=gU val i;have hle:=firstMet_length_le val i;have ha:=firstMet_any val i (val i);rw [firstMet_succ,MJ,LR,Mw];unfold step_dedup
   by_cases h:(firstMet val i).any (· == val i)=true
   ·rw [if_pos h]
    constructor
    ·intro e;omega
    ·intro e;rw [ha,Ml] at h;obtain ⟨x,hx,e2⟩:=h;have:x=val i:=beq_iff_eq.mp e2;exact absurd this (e.2.2 x hx (val i) (by simp))
   ·rw [if_neg h,Lz,MF]
    constructor
    ·intro e;refine ⟨ih.mp (by omega),by simp,λ x hx y hy=>?_⟩;have hy':y=val i:=by simpa using hy
     subst hy';intro e3;apply h;rw [ha,Ml];exact ⟨x,hx,beq_iff_eq.mpr e3⟩
    ·intro e;rw [ih.mpr e.1]
theorem u7 (ns:List Int):(tz ns).length=ns.length<->ns.Nodup:=by unfold tz;rw [gU,qr]
section
variable {X:Cx}
def DE (K:Frag) (xs:List V) (H:Hp) (Q:VK):Prop:=match xs with
 | [.ref d]=> ∃ns:List Int,aI K H d (ns.map V.int)/\ns.length+1<scanBound/\∀q,H q=none->Q (.ref q) (upd H q (.set (λ k=>(tz ns).any (· == k)) (tz ns).length))
 | _=>False
theorem uG (hh:X.A.handled=none):bn X (.type "set") (DE X.K):=by
 intro pins s σ H xs us Q I r h;unfold DE at h;split at h
 ·rename_i d;obtain ⟨ns,hq,hb,q⟩:=h;obtain ⟨u,rfl,rx⟩:=cN r;cases rx;obtain ⟨its,r',pl,hz⟩:=I.list hq;have hlen:=r'.length;rw [Lv] at hlen;have hi:IntsAre its.toArray.toList ns:=kj r';have hs:its.toArray.size=ns.length:=by rw [LB,<-hlen]
  refine call_set_list hh pl.isList hi (by rw [hs];exact hb) λ h' tk hS kp=>?_;rw [hs] at hS;have k2:∀b u,s.heap.get? b=some u->h'.get? b=some u:=λ b u e=>kp b u (Heap.lt_size e) e;exact ⟨.ref s.heap.objs.size,_,I.laid (t':=tk) k2 (M6 _) (show bB X.prog X.w _ h' _ (.set _ _) from hS),rfl,q _ (I.hok.fresh (M6 _))⟩
 ·exact h.elim
def C9 (xs:List V) (H:Hp) (Q:VK):Prop:=match xs with
 | [.ref d]=> ∃S n,H d=some (.set S n)/\Q (.int n) H
 | _=>False
theorem ri:bn X (.builtin "len") C9:=by
 intro pins s σ H xs us Q I r h;unfold C9 at h;split at h
 ·rename_i d;obtain ⟨S,n,hd,q⟩:=h;obtain ⟨u,rfl,rx⟩:=cN r;cases rx;obtain ⟨o,es,ep,t,h1,h2,h3,_,_,h6,h7,h8⟩:=(show bB X.prog X.w H s.heap d (.set S n) from I.hok d _ hd);subst h8;have hb:es.size<4096:=h6;exact PySem.call_len_set h1 h2 h3 h7 (by omega) ⟨.int es.size,H,I.tok _,⟨_,rfl⟩,q⟩
 ·exact h.elim
def vt (K:Frag) (xs:List V) (H:Hp) (Q:VK):Prop:=match xs with
 | [.ref d]=> ∃ns:List Int,aI K H d (ns.map V.int)/\ns.length<64/\∀(ns':List Int) q,ns'.Perm ns->ns'.Pairwise (·<=·)->H q=none->Q (.ref q) (upd H q (.lst (ns'.map V.int)))
 | _=>False
theorem qZ:bn X (.builtin "sorted") (vt X.K):=by
 intro pins s σ H xs us Q I r h;unfold vt at h;split at h
 ·rename_i d;obtain ⟨ns,hq,hb,q⟩:=h;obtain ⟨u,rfl,rx⟩:=cN r;cases rx;obtain ⟨its,r',pl,hz⟩:=I.list hq;have hlen:=r'.length;rw [Lv] at hlen;refine sorted_ints pl.isList (kj r') (by omega) λ out ns' a1 a2 a3=>?_;obtain ⟨e,he⟩:=sortedAll_at s.heap its out;have hl:=a2.length_eq;have hz':(ns'.map V.int).length<=sizeLine:=by rw [Lv,hl,sizeLine_eq];omega
  exact ⟨.ref (s.heap.objs.size+1),_,I.laid (t':=s.toks) (λ _ _=>sortedAll_old) (Nc _) (show bB X.prog X.w _ _ _ (.lst (ns'.map V.int)) from ⟨hz',out.toList,e,iX a1,by simpa [seqObj] using he⟩),rfl,q ns' _ a2 a3 (I.hok.fresh (Nc _))⟩
 ·exact h.elim
def lE (K:Frag) (xs:List V) (H:Hp) (Q:VK):Prop:=match xs with
 | [.ref d]=> ∃ys,(aI K H d ys\/cg K H d ys)/\∀l,H l=none->Q (.ref l) (upd H l (.lst ys))
 | _=>False
theorem rh:bn X (.type "list") (lE X.K):=(nA (X:=X)).imp λ xs H Q h=>by
 unfold lE at h;split at h
 ·obtain ⟨ys,h1,q⟩:=h;exact ⟨_,ys,rfl,h1,q⟩
 ·exact h.elim
theorem K4 (K:Frag) {j:Nat}(hr:du j X.A) (hK:X.K=K:=by rfl):bn X (.type "set") (DE K):=by subst hK;exact uG hr.hd
theorem wp (K:Frag) (hK:X.K=K:=by rfl):bn X (.builtin "sorted") (vt K):=by subst hK;exact qZ
theorem kh (K:Frag) (hK:X.K=K:=by rfl):bn X (.type "list") (lE K):=by subst hK;exact rh
theorem yy {T:BT}{a:Addr}{xs:List V}{H:Hp}{Q:VK}(h:H a=some (.lst xs)) (q:Q (.bl (cL .list T)) H):pW T (.ref a) H Q:=by simp only [pW,h];exact q
theorem yx {T:BT}{a:Addr}{xs:List V}{H:Hp}{Q:VK}(h:H a=some (.tup xs)) (q:Q (.bl (cL .tuple T)) H):pW T (.ref a) H Q:=by simp only [pW,h];exact q
end
theorem pz {x:V}(h:flatV x=true):eqV x x=true:=by cases x<;>simp_all [flatV,eqV]
theorem wW {K:Frag}{H:Hp}{n:Nat}{a b:Addr}{xs:List V}(ha:aI K H a xs) (hb:aI K H b xs) (hf:xs.all flatV=true):pU K H (n+1) (.ref a) (.ref b) true:=by
 have h:pU K H (n+1) (.ref a) (.ref b) ((List.range xs.length).all λ _=>true):=.lst ha hb rfl λ i x y hx hy=>by
  rw [hx] at hy;cases hy;have hfx:=LP.mp hf x (LM hx);have:=lb.flat (K:=K) (H:=H) (n:=n) hfx hfx
  rwa [pz hfx] at this
 have e:((List.range xs.length).all λ _=>true)=true:=LP.mpr λ _ _=>rfl
 rwa [e] at h
theorem uz (zs:List Int):(zs.map V.int).all flatV=true:=LP.mpr λ x hx=>by obtain ⟨z,_,rfl⟩:=Lx.mp hx;rfl
def Fl (K:Frag) (H:Hp) (p:Addr) (f:Str) (v:V):Prop:= ∃C dx fs,H p=some (.ins C dx fs)/\rA K C/\ce K C f/\fs.lookup f=some v
def La (K:Frag) (x:V) (f:Str) (H:Hp) (Q:VK):Prop:=match x with
 | .ref a=> ∃v,Fl K H a f v/\Q v H
 | _=>False
def JG (K:Frag) (to:TE) (f:Str):TE:=λ σ H Q=>to σ H λ x H1=>La K x f H1 Q
structure kD (P:Program) (w:World) (K:Frag) (mg:Str->Option Value) (base:Heap) (name:Str) (C:Addr) (ps:List Str) (k:Nat) (sp:Sp):Prop where
 ex:∃f fd,Mk K C f/\bj P w K mg base eI k f fd ps sp/\mg name=some (.ref C)/\gY K fd ps []
def Di (C:Addr) (sp:Sp) (t:TA):TE:=λ σ H Q=>t σ H λ vs H1=> ∀x dx,H1 x=none->H1 dx=none->dx≠x->sp (.ref x::vs) (upd (upd H1 dx (.own x)) x (.ins C dx [])) (λ v H2=>v=.non/\Q (.ref x) H2) E0
section
variable {X:Cx}{e o value:Expr}{te to tv:TE}{p pos pos' apos:Pos}{es:List Expr}{t:TA}{f m:Str}
theorem fj (K:Frag) (ho:PE X o to) (hb:attributeBase o f X.env (eval o X.env)=eval o X.env:=by rfl) (hK:X.K=K:=by rfl):PE X (.Attribute o f pos) (JG K to f):=by
 subst hK;intro pins s σ H Q I h;refine yZ hb (bJ (ho pins s σ H _ I h) λ u s1 ⟨x,H1,I1,rx,q1⟩=>?_);cases x with
 | ref a=>
   obtain ⟨v,⟨C,dx,fs,ea,c,n,l⟩,q⟩:=q1;obtain rfl:u=Value.ref a:=rx;exact qQ I1 ea c n l λ u' s2 I2 ru=>⟨v,H1,I2,ru,q⟩
 | _=>exact q1.elim
theorem ii (K:Frag) (ho:PE X o to) (hv:PE X value tv) (hs:swapsWith value (some (.Attribute o f pos')) pos.line X.env=pure false:=by rfl) (hK:X.K=K:=by rfl):PS X (.Assign [.Attribute o f pos'] value pos) (tL K to tv f):=by subst hK;exact DR ho hv hs
theorem lF {name:Str}{C:Addr}{ps:List Str}{k j:Nat}{sp:Sp}(M:kD X.prog X.w X.K X.mg X.base name C ps k sp) (hr:du j X.A) (ha:PA X (e::es) t) (hkj:k+1<=j:=by decide) (hp:(e::es).all gj=true:=by rfl) (hg:Gl X name:=by rfl) (hdb:(name == ("__debug__":Str))=false:=by decide):
  PE X (.Call (.Name name p) (e::es) [] pos) (Di C sp t):=by
 obtain ⟨f,fd,MK,F,hm,hb⟩:=M.ex;have hp':=hp;rw [LY,Nu] at hp';refine (x0 MK F (hr.mono hkj) hg hm hb .nil C7 ha hdb (fv hp'.1) (hJ hp'.2):PE X _ (vh C sp [] E0 t)).imp λ σ H Q h=>?_;unfold vh;simp only [L6];exact h
end
def SameBut (k:Addr) (H H':Hp):Prop:= ∀b o,H b=some o->b≠k->H' b=some o
theorem ag.but {k:Addr}{H H':Hp}(h:ag H H'):SameBut k H H':=λ b o e _=>h b o e
theorem SameBut.self {k:Addr}{H H':Hp}{o:HO}(a:SameBut k H H'):SameBut k H (upd H' k o):=λ c ob e n=>by rw [ah n];exact a c ob e n
theorem SameBut.new {k d:Addr}{H H':Hp}{o:HO}(a:SameBut k H H') (hd:H d=none):SameBut k H (upd H' d o):=λ c ob e n=>by rw [ah (am e hd)];exact a c ob e n
theorem ag.put {d:Addr}{H H':Hp}{o:HO}(a:ag H H') (hd:H d=none):ag H (L2.upd H' d o):=λ c ob e=>by rw [ah (am e hd)];exact a c ob e
theorem dE {H:Hp}{a b:Addr}{o o':HO}(ha:H a=some o) (hb:H b=some o') (h:o≠o'):a≠b:=λ e=>by subst e;rw [ha] at hb;exact h (Option.some.inj hb)
theorem xK {to tv:TE}{f:Str}{K:Frag}{u:TS}{D:cM}{σ:St}{H:Hp}(P:V->Hp->Prop) (h:∀Q:VK,(∀v H',P v H'->Q v H')->tv σ H Q) (p C dx:Addr) (hto:∀H' (Q:VK),Q (.ref p) H'->to σ H' Q) (hc:rA K C) (hn:ce K C f)
  (h2:∀v H',P v H'->∃fs,H' p=some (.ins C dx fs)/\fs.length<1000/\u D σ (upd H' p (.ins C dx (putF f v fs)))):bg (tL K to tv f) u D σ H:=
 h _ λ v H' q=>by obtain ⟨fs,e,l,r⟩:=h2 v H' q;exact hto _ _ ⟨p,C,dx,fs,rfl,e,hc,hn,l,r⟩
theorem rF {to tv:TE}{f:Str}{K:Frag}{D:cM}{σ:St}{H:Hp}(P:V->Hp->Prop) (h:∀Q:VK,(∀v H',P v H'->Q v H')->tv σ H Q) (p C dx:Addr) (hto:∀H' (Q:VK),Q (.ref p) H'->to σ H' Q) (hc:rA K C) (hn:ce K C f)
  (h2:∀v H',P v H'->∃fs,H' p=some (.ins C dx fs)/\fs.length<1000/\D.nx σ (upd H' p (.ins C dx (putF f v fs)))):tL K to tv f D σ H:=
 h _ λ v H' q=>by obtain ⟨fs,e,l,r⟩:=h2 v H' q;exact hto _ _ ⟨p,C,dx,fs,rfl,e,hc,hn,l,r⟩
end L2
namespace L2
open PySem PySem.Spec PyProof.Rows
def Ev (t:TE) (σ:St) (H:Hp) (v:V):Prop:= ∀Q:VK,Q v H->t σ H Q
def Tv (t:TT) (σ:St) (H:Hp) (b:Bool):Prop:= ∀Q:Bool->Hp->Prop,Q b H->t σ H Q
def Av (t:TA) (σ:St) (H:Hp) (vs:List V):Prop:= ∀Q:List V->Hp->Prop,Q vs H->t σ H Q
section
variable {K:Frag}{σ:St}{H:Hp}{ta tb tc te to:TE}{t u:TT}{x y:V}{i j k:Int}{a b:Bool}{z z':Str}
theorem ao:Ev (tC x) σ H x:=λ Q q=>q
theorem ab {n:Nat}(h:σ[n]? =some (some x)):Ev (bE n) σ H x:=λ Q q=>by unfold bE;rw [h];exact q
theorem cE (ha:Ev ta σ H (.int i)) (hb:Ev tb σ H (.int j)):Ev (kx .Add ta tb) σ H (.int (i+j)):=λ Q q=>ha _ (hb _ q)
theorem jk (ha:Ev ta σ H (.int i)) (hb:Ev tb σ H (.int j)):Ev (kx .Sub ta tb) σ H (.int (i - j)):=λ Q q=>ha _ (hb _ q)
theorem gq (ha:Ev ta σ H (.int i)) (hb:Ev tb σ H (.int j)) (h:uV i j):Ev (kx .Mult ta tb) σ H (.int (i*j)):=λ Q q=>ha _ (hb _ ⟨h,q⟩)
theorem cD (ha:Ev ta σ H (.int i)) (hb:Ev tb σ H (.int j)) (h:y9 i j):Ev (kx .FloorDiv ta tb) σ H (.int (i / j)):=λ Q q=>ha _ (hb _ ⟨h,q⟩)
theorem bA (ha:Ev ta σ H (.int i)) (hb:Ev tb σ H (.int j)) (h:0<j):Ev (kx .Mod ta tb) σ H (.int (i % j)):=λ Q q=>ha _ (hb _ ⟨h,q⟩)
theorem qS (ha:Ev ta σ H (.int i)):Ev (yV ta) σ H (.int (-i)):=λ Q q=>ha _ q
theorem cK (ha:Ev ta σ H (.str z)) (hb:Ev tb σ H (.str z')) (h:z.length+z'.length<=sizeLine):Ev (kx .Add ta tb) σ H (.str (z++z')):=λ Q q=>ha _ (hb _ ⟨h,q⟩)
theorem bP {p:Addr}{f:Str}(ho:Ev to σ H (.ref p)) (h:Fl K H p f x):Ev (JG K to f) σ H x:=λ Q q=>ho _ ⟨x,h,q⟩
theorem ba {p:Addr}{xs:List V}(ho:Ev to σ H (.ref p)) (hi:Ev ta σ H (.int i)) (h:aI K H p xs\/cg K H p xs) (e:kA xs i=some x):Ev (kE K to ta) σ H x:=λ Q q=>ho _ (hi _ ⟨xs,x,h,e,q⟩)
theorem EB {c:Nat}(ho:Ev to σ H (.str z)) (hi:Ev ta σ H (.int i)) (h:z.length<=sizeLine) (e:kA z.cps.toList i=some c):Ev (kE K to ta) σ H (.str ⟨#[c]⟩):=λ Q q=>ho _ (hi _ ⟨h,c,e,q⟩)
theorem dG {p:Addr}{xs:List V}(ho:Ev to σ H (.ref p)) (h:aI K H p xs\/cg K H p xs):Ev (cB (m8 K) (bi to cn)) σ H (.int xs.length):=λ Q q=>ho _ ⟨xs,h,q⟩
theorem yR (ho:Ev to σ H (.str z)) (h:z.length<=sizeLine):Ev (cB (m8 K) (bi to cn)) σ H (.int z.length):=λ Q q=>ho _ ⟨h,q⟩
theorem wR (ha:Ev ta σ H (.int i)) (hb:Ev tb σ H (.int j)):Ev (cB v9 (bi ta (bi tb cn))) σ H (.int (if j<i then j else i)):=λ Q q=>ha _ (hb _ q)
theorem wT {p:Addr}{xs:List V}{T:BT}(ho:Ev to σ H (.ref p)) (h:H p=some (.lst xs)):Ev (Dj T to) σ H (.bl (cL .list T)):=λ Q q=>ho _ (yy h q)
theorem EC {p:Addr}{xs:List V}{T:BT}(ho:Ev to σ H (.ref p)) (h:H p=some (.tup xs)):Ev (Dj T to) σ H (.bl (cL .tuple T)):=λ Q q=>ho _ (yx h q)
theorem wU {T:BT}(ho:Ev to σ H (.int i)):Ev (Dj T to) σ H (.bl (cL .int T)):=λ Q q=>ho _ q
theorem wN (ha:Ev ta σ H (.bl a)):Ev (tf ta) σ H (.bl (!a)):=λ Q q=>ha _ q
theorem ca (ha:Ev ta σ H (.bl a)) (hb:a=true->Ev tb σ H (.bl b)):Ev (pL ta tb) σ H (.bl (a&&b)):=λ Q q=>ha _ (by
 cases a with
 | true=>exact hb rfl Q q
 | false=>exact q)
theorem Js (ha:Ev ta σ H (.bl a)) (hb:a=false->Ev tb σ H (.bl b)):Ev (yU ta tb) σ H (.bl (a||b)):=λ Q q=>ha _ (by
 cases a with
 | true=>exact q
 | false=>exact hb rfl Q q)
theorem Ju (ht:Tv t σ H b) (h1:b=true->Ev ta σ H x) (h2:b=false->Ev tb σ H y):Ev (EY t ta tb) σ H (if b=true then x else y):=λ Q q=>ht _ (by
 cases b with
 | true=>exact ji (h1 rfl _ q)
 | false=>exact jj (h2 rfl _ q))
theorem jB (ha:Ev ta σ H (.int i)) (hb:Ev tb σ H (.int j)):Ev (dI K .Eq ta tb) σ H (.bl (decide (i=j))):=λ Q q=>ha _ (hb _ q)
theorem wQ (ha:Ev ta σ H (.int i)) (hb:Ev tb σ H (.int j)):Ev (dI K .NotEq ta tb) σ H (.bl (!decide (i=j))):=λ Q q=>ha _ (hb _ q)
theorem Jt (ha:Ev ta σ H (.int i)) (hb:Ev tb σ H (.int j)):Ev (dI K .LtE ta tb) σ H (.bl (decide (i<=j))):=λ Q q=>ha _ (hb _ q)
theorem Jv (ha:Ev ta σ H (.int i)) (hb:Ev tb σ H (.int j)):Ev (dI K .Gt ta tb) σ H (.bl (decide (j<i))):=λ Q q=>ha _ (hb _ q)
theorem Jw (ha:Ev ta σ H (.int i)) (hb:Ev tb σ H (.int j)):Ev (dI K .GtE ta tb) σ H (.bl (decide (j<=i))):=λ Q q=>ha _ (hb _ q)
theorem fc (ha:Ev ta σ H (.str z)) (hb:Ev tb σ H (.str z')):Ev (dI K .Eq ta tb) σ H (.bl (decide (z=z'))):=λ Q q=>ha _ (hb _ q)
theorem nn (ha:Ev ta σ H (.str z)) (hb:Ev tb σ H (.str z')):Ev (dI K .NotEq ta tb) σ H (.bl (!decide (z=z'))):=λ Q q=>ha _ (hb _ q)
theorem EA {p q:Addr}(ha:Ev ta σ H (.ref p)) (hb:Ev tb σ H (.ref q)) (h:pU K H 20 (.ref p) (.ref q) a):Ev (dI K .NotEq ta tb) σ H (.bl (!a)):=λ Q k=>ha _ (hb _ ⟨a,h,k⟩)
theorem wB (i:Int) (ns:List Int):Dc (.int i) (ns.map V.int)=decide (i∈ns):=by
 unfold Dc;rw [ML]
 by_cases h:i∈ns
 ·rw [decide_eq_true h];exact Ml.mpr ⟨i,h,by simp [eqV]⟩
 ·rw [decide_eq_false h];apply Mt.mpr;intro y hy;have:y≠i:=λ e=>h (e▸hy);simp [eqV,this]
theorem wO {p:Addr}{ns:List Int}(ha:Ev ta σ H (.int i)) (hb:Ev tb σ H (.ref p)) (h:aI K H p (ns.map V.int)\/cg K H p (ns.map V.int)):Ev (dI K .NotIn ta tb) σ H (.bl (!decide (i∈ns))):=λ Q q=>ha _ (hb _ (by
 rw [gC];refine ⟨p,_,rfl,h,rfl,uz ns,?_⟩;rw [wB];exact q))
theorem sL (ha:Ev ta σ H .non) (hb:Ev tb σ H .non):Ev (dI K .Is ta tb) σ H (.bl true):=λ Q q=>ha _ (hb _ q)
theorem sM (ha:Ev ta σ H (.int i)) (hb:Ev tb σ H (.int j)) (hc:i<=j->Ev tc σ H (.int k)):Ev (jm K .LtE .LtE ta tb tc) σ H (.bl (decide (i<=j/\j<=k))):=λ Q q=>ha _ (hb _ (by
 rw [lB]
 by_cases h:i<=j
 ·rw [decide_eq_true h];refine hc h _ ?_;have e:decide (i<=j/\j<=k)=decide (j<=k):=by simp [h]
  rw [e] at q;exact q
 ·rw [decide_eq_false h];have e:decide (i<=j/\j<=k)=false:=by simp [h]
  rw [e] at q;exact q))
theorem aM {sp:Sp}{t:TA}{vs:List V}(ht:Av t σ H vs) (h:∀Q:VK,Q x H->sp vs H Q E0):Ev (gb sp t) σ H x:=λ Q q=>ht _ (h Q q)
theorem ar:Av cn σ H []:=λ Q q=>q
theorem ac {t:TA}{vs:List V}(ha:Ev ta σ H x) (ht:Av t σ H vs):Av (bi ta t) σ H (x::vs):=λ Q q=>ha _ (ht _ q)
theorem jE {vs:List V}:Av (Lf vs) σ H vs:=λ Q q=>q
theorem bF (h:Ev te σ H (.bl b)):Tv (fZ te) σ H b:=λ Q q=>h _ q
theorem cw (h:Tv t σ H b):Tv (nP t) σ H (!b):=λ Q q=>h _ q
theorem u9 (ha:Tv t σ H a) (hb:a=true->Tv u σ H b):Tv (xG t u) σ H (a&&b):=λ Q q=>ha _ (by
 cases a with
 | true=>exact ji (hb rfl _ q)
 | false=>exact jj q)
theorem fu (ha:Tv t σ H a) (hb:a=false->Tv u σ H b):Tv (EX t u) σ H (a||b):=λ Q q=>ha _ (by
 cases a with
 | true=>exact ji q
 | false=>exact jj (hb rfl _ q))
end
section
variable {te:TE}{c:TT}{t u:TS}{D:cM}{σ:St}{H:Hp}{v:V}{b:Bool}
theorem bS {i:Nat}(h:Ev te σ H v) (h2:u D (σ.set i (some v)) H):bg (tAsg te (gName i)) u D σ H:=h _ h2
theorem iE {i:Nat}(h:Ev te σ H v) (h2:D.nx (σ.set i (some v)) H):tAsg te (gName i) D σ H:=h _ h2
theorem aU (h:Ev te σ H v) (h2:D.rt v H):dw te D σ H:=h _ h2
theorem bq (hc:Tv c σ H b) (h1:b=true->t {D with nx:=u D} σ H) (h2:b=false->u D σ H):bg (lZ c t jV) u D σ H:=hc _ (by
 cases b with
 | true=>exact ji (h1 rfl)
 | false=>exact jj (h2 rfl))
theorem l7 (hc:Tv c σ H b) (h1:b=true->t D σ H) (h2:b=false->D.nx σ H):lZ c t jV D σ H:=hc _ (by
 cases b with
 | true=>exact ji (h1 rfl)
 | false=>exact jj (h2 rfl))
end
section
variable {K:Frag}{σ rest:St}{H:Hp}{tl te:TE}{tt:TT}{src:List (Option Nat)}{Q:VK}
theorem eN:Tv da σ H true:=λ Q q=>q
theorem pG {J:It}{xs:List V}(hz:xs.length<=sizeLine) (hs:eJ src σ=none::rest) (p:V->Bool) (f:V->V) (hgo:∀i,i<xs.length->J.go i H) (hstop:J.stop xs.length H) (hyld:∀i v H',i<xs.length->J.yld i H v H'->H'=H/\xs[i]? =some v)
  (ht:∀x∈xs,Tv tt (some x::rest) H (p x)) (he:∀x∈xs,p x=true->Ev te (some x::rest) H (f x)) (q:∀d',H d'=none->Q (.ref d') (upd H d' (.lst ((xs.filter p).map f)))):fg (gName 0) tt te src σ Q J H:=by
 refine ⟨λ i m ys σ' H'=>m=xs.length - i/\i<=xs.length/\ys=((xs.take i).filter p).map f/\(∃o,σ'=o::rest)/\H'=H,⟨xs.length,by simp,M9 _,by simp,⟨none,hs⟩,rfl⟩,?_⟩;rintro i m ys σ' H' ⟨rfl,hi,rfl,⟨o,rfl⟩,rfl⟩
 by_cases hlt:i<xs.length
 ·refine .inr ⟨hgo i hlt,?_,λ x H2 y=>?_⟩
  ·rw [Lv];have h1:=MH p (xs.take i);rw [LW] at h1;omega
  ·obtain ⟨rfl,hx⟩:=hyld i x H2 hlt y;have tk:(xs.take (i+1)).filter p=(xs.take i).filter p++(if p x then [x] else []):=take_succ_filter p xs i x hx;have hm:x∈xs:=LM hx;show tt (some x::rest) H2 _;refine ht x hm _ ?_;cases hp:p x with
   | true=>
     refine ji (he x hm hp _ ?_);refine ⟨xs.length - (i+1),by omega,rfl,hlt,?_,⟨_,rfl⟩,rfl⟩;rw [tk,hp,if_pos rfl,LR];rfl
   | false=>
     refine jj ?_;refine ⟨xs.length - (i+1),by omega,rfl,hlt,?_,⟨_,rfl⟩,rfl⟩;rw [tk,hp,if_neg (by simp),L6]
 ·have e:i=xs.length:=by omega
  subst e;refine .inl ⟨hstop,λ d hd=>?_⟩;rw [Mv];exact q d hd
theorem fB {d:Addr}{xs:List V}(hl:Ev tl σ H (.ref d)) (hx:aI K H d xs) (hz:xs.length<=sizeLine) (hs:eJ src σ=none::rest) (p:V->Bool) (f:V->V)
  (ht:∀x∈xs,Tv tt (some x::rest) H (p x)) (he:∀x∈xs,p x=true->Ev te (some x::rest) H (f x)) (q:∀d',H d'=none->Q (.ref d') (upd H d' (.lst ((xs.filter p).map f)))):tComp (fW K tl) (gName 0) tt te src σ H Q:=
 hl _ ⟨d,rfl,⟨xs,hx⟩,pG hz hs p f (λ i hi=>⟨xs,xs[i],hx,Ly hi⟩) ⟨xs,hx,M6 _⟩ (λ i v H' _ y=>⟨y.1,y.2 xs hx⟩) ht he q⟩
theorem pF {ta:TA}{n:Int}(hl:Av ta σ H [.int n]) (h0:0<=n) (hz:n.toNat<=sizeLine) (h1:n<2 ^ 62) (hs:eJ src σ=none::rest) (p:V->Bool) (f:V->V)
  (ht:∀i:Nat,i<n.toNat->Tv tt (some (.int (0+(i:Int)))::rest) H (p (.int (0+(i:Int))))) (he:∀i:Nat,i<n.toNat->p (.int (0+(i:Int)))=true->Ev te (some (.int (0+(i:Int)))::rest) H (f (.int (0+(i:Int)))))
  (q:∀d',H d'=none->Q (.ref d') (upd H d' (.lst ((((List.range n.toNat).map λ (i:Nat)=>V.int (0+(i:Int))).filter p).map f)))):tComp (lL ta) (gName 0) tt te src σ H Q:=by
 have hin:∀x∈(List.range n.toNat).map λ (i:Nat)=>V.int (0+(i:Int)),∃i:Nat,i<n.toNat/\x=.int (0+(i:Int)):=λ x hx=>by obtain ⟨i,hi,rfl⟩:=Lx.mp hx;exact ⟨i,L5.mp hi,rfl⟩
 have hlen:((List.range n.toNat).map λ (i:Nat)=>V.int (0+(i:Int))).length=n.toNat:=by simp
 refine hl _ ⟨n,rfl,by omega,h1,pG (xs:=(List.range n.toNat).map λ (i:Nat)=>V.int (0+(i:Int))) (by rw [hlen];exact hz) hs p f (λ i hi=>by rw [hlen] at hi;exact hi) (by rw [hlen];exact M6 _) (λ i v H' hi y=>⟨y.1,?_⟩) (λ x hx=>?_) (λ x hx hp=>?_) q⟩
 ·rw [hlen] at hi;rw [LD,MI hi,y.2];rfl
 ·obtain ⟨i,hi,rfl⟩:=hin x hx;exact ht i hi
 ·obtain ⟨i,hi,rfl⟩:=hin x hx;exact he i hi hp
end
section
variable {K:Frag}{te to tv:TE}{t:TA}{c:TT}{u:TS}{D:cM}{σ:St}{H:Hp}{v x y:V}
theorem qi {l:Addr}{xs:List V}(ho:Ev to σ H (.ref l)) (he:Ev te σ H y) (hl:H l=some (.lst xs)) (hz:xs.length<sizeLine) (h2:u D σ (upd H l (.lst (xs++[y])))):bg (hZ (xj to te)) u D σ H:=ho _ ⟨⟨xs,hl⟩,he _ ⟨xs,hl,hz,h2⟩⟩
theorem xL {l:Addr}{xs:List V}(ho:Ev to σ H (.ref l)) (he:Ev te σ H y) (hl:H l=some (.lst xs)) (hz:xs.length<sizeLine) (h2:D.nx σ (upd H l (.lst (xs++[y])))):hZ (xj to te) D σ H:=ho _ ⟨⟨xs,hl⟩,he _ ⟨xs,hl,hz,h2⟩⟩
theorem qh {f:Str}{p C dx:Addr}{fs:List (Str×V)}(h:Ev tv σ H v) (ho:Ev to σ H (.ref p)) (hp:H p=some (.ins C dx fs)) (hc:rA K C) (hn:ce K C f) (hl:fs.length<1000) (h2:u D σ (upd H p (.ins C dx (putF f v fs)))):bg (tL K to tv f) u D σ H:=h _ (ho _ ⟨p,C,dx,fs,rfl,hp,hc,hn,hl,h2⟩)
theorem qg {i:Nat}(h2:∀q,H q=none->u D (σ.set i (some (.ref q))) (upd H q (.lst []))):bg (tAsg (qf cn) (gName i)) u D σ H:=⟨M9 _,λ q hq=>h2 q hq⟩
end
section
variable {K:Frag}{te to ta tb ti:TE}{t:TA}{c:TT}{σ:St}{H:Hp}{Q:VK}{R:Bool->Hp->Prop}{v x y:V}{vs:List V}{sp:Sp}
theorem E5 (h:Ev te σ H v) (q:Q v H):te σ H Q:=h Q q
theorem cb (h:Av t σ H vs) (q:sp vs H Q E0):gb sp t σ H Q:=h _ q
theorem gu (h:Av t σ H vs) (q:sp vs H (eK λ c H1=>R (!c) H1) E0):nP (fZ (gb sp t)) σ H R:=h _ q
theorem EM {r:List V->Hp->VK->Prop}(h:Ev to σ H v) (q:r [v] H Q):cB r (bi to cn) σ H Q:=h _ q
theorem ve (ha:Ev ta σ H x) (hb:Ev tb σ H y) (q:∀p,H p=none->Q (.ref p) (upd H p (.tup [x,y]))):tF (bi ta (bi tb cn)) σ H Q:=ha _ (hb _ ⟨by show 2<=sizeLine;decide,q⟩)
theorem jx {i:Int}(h:Av t σ H vs) (hz:vs.length<=1000) (hi:∀H',Ev ti σ H' (.int i)) (e:kA vs i=some v) (q:∀H',ag H H'->Q v H'):kE K (qf t) ti σ H Q:=h _ ⟨M7 hz (by decide),λ p hp=>hi _ _ ⟨vs,v,.inl (aI.of ae),e,q _ ((ag.refl H).upd hp)⟩⟩
end
section
variable {K:Frag}{te to ta tb:TE}{D:cM}{σ:St}{H:Hp}{Q:VK}{x y:V}
theorem xm {l:Addr}(ho:Ev to σ H (.ref l)) (hl:∃xs,H l=some (.lst xs)) (q:te σ H λ y H2=> ∃xs,H2 l=some (.lst xs)/\xs.length<sizeLine/\D.nx σ (upd H2 l (.lst (xs++[y])))):hZ (xj to te) D σ H:=ho _ ⟨hl,q⟩
theorem Dv {d:Addr}{ys:List V}(ha:Ev ta σ H x) (hb:Ev tb σ H (.ref d)) (hd:aI K H d ys\/cg K H d ys) (q:∀c,H c=none->∀t,(upd H c (.lst ys)) t=none->Q (.ref t) (upd (upd H c (.lst ys)) t (.tup [x,.ref c]))):tF (bi ta (bi (cB (lE K) (bi tb cn)) cn)) σ H Q:=
 ha _ (hb _ ⟨ys,hd,λ c hc=>⟨by show 2<=sizeLine;decide,λ t ht=>q c hc t ht⟩⟩)
end
end L2
namespace L2
open PySem PySem.Spec PyProof.Rows
structure rB (K:Frag) (C:Addr):Prop where
 cl:rA K C
 wide:ce K C "wide"
 high:ce K C "high"
 holes:ce K C "holes"
 firm:ce K C "firm"
def kz (wi hi:Int) (ph pf:Addr):List (Str×V):=putF "firm" (.ref pf) (putF "holes" (.ref ph) (putF "high" (.int hi) (putF "wide" (.int wi) [])))
theorem yX (wi hi:Int) (ph pf:Addr):(kz wi hi ph pf).lookup ("wide":Str)=some (.int wi):=by unfold kz;rw [aw,if_neg (by decide+kernel),aw,if_neg (by decide+kernel),aw,if_neg (by decide+kernel),aw,if_pos rfl]
theorem yY (wi hi:Int) (ph pf:Addr):(kz wi hi ph pf).lookup ("high":Str)=some (.int hi):=by unfold kz;rw [aw,if_neg (by decide+kernel),aw,if_neg (by decide+kernel),aw,if_pos rfl]
theorem xl (wi hi:Int) (ph pf:Addr):(kz wi hi ph pf).lookup ("holes":Str)=some (.ref ph):=by unfold kz;rw [aw,if_neg (by decide+kernel),aw,if_pos rfl]
def firmL (wi hi:Int) (hs:List Int):List Bool:=(List.range (wi*hi).toNat).map λ (s:Nat)=> !decide ((s:Int)∈hs)
structure eM (K:Frag) (C:Addr) (H:Hp) (p:Addr) (wi hi:Int) (hs:List Int):Prop where
 ex:∃dx ph pf,H p=some (.ins C dx (kz wi hi ph pf))/\H ph=some (.lst (hs.map V.int))/\H pf=some (.lst ((firmL wi hi hs).map V.bl))
 w1:1<=wi
 w8:wi<=8
 h1:1<=hi
 h8:hi<=8
 good:∀h∈hs,0<=h/\h<wi*hi
 srt:hs.Pairwise (·<=·)
 nd:hs.Nodup
section
variable {K:Frag}{C:Addr}{H H':Hp}{p:Addr}{wi hi:Int}{hs:List Int}
theorem eM.same (B:eM K C H p wi hi hs) (s:ag H H'):eM K C H' p wi hi hs:=by obtain ⟨⟨dx,ph,pf,a,b,c⟩,w1,w8,h1,h8,g,sr,nd⟩:=B;exact ⟨⟨dx,ph,pf,s _ _ a,s _ _ b,s _ _ c⟩,w1,w8,h1,h8,g,sr,nd⟩
theorem eM.wide (B:eM K C H p wi hi hs) (D:rB K C):Fl K H p "wide" (.int wi):=by obtain ⟨dx,ph,pf,a,_,_⟩:=B.ex;exact ⟨C,dx,_,a,D.cl,D.wide,yX _ _ _ _⟩
theorem eM.high (B:eM K C H p wi hi hs) (D:rB K C):Fl K H p "high" (.int hi):=by obtain ⟨dx,ph,pf,a,_,_⟩:=B.ex;exact ⟨C,dx,_,a,D.cl,D.high,yY _ _ _ _⟩
theorem eM.holes (B:eM K C H p wi hi hs) (D:rB K C):∃ph,Fl K H p "holes" (.ref ph)/\H ph=some (.lst (hs.map V.int)):=by obtain ⟨dx,ph,pf,a,b,c⟩:=B.ex;exact ⟨ph,⟨C,dx,_,a,D.cl,D.holes,xl _ _ _ _⟩,b⟩
end
def sqK (wi s ax up:Int) (k:Nat):Int:=(s / wi+k*up)*wi+(s % wi+k*ax)
def okK (wi hi:Int) (hs:List Int) (s ax up:Int) (k:Nat):Prop:=0<=s % wi+k*ax/\s % wi+k*ax<wi/\0<=s / wi+k*up/\s / wi+k*up<hi/\¬sqK wi s ax up k∈hs
instance {wi hi:Int} {hs:List Int} {s ax up:Int} {k:Nat}:Decidable (okK wi hi hs s ax up k):=by unfold okK;infer_instance
def C2:Sp:=λ vs H Q _=> ∃t a b:Int,vs=[.int t,.int a,.int b]/\Q (.bl (decide (a<=t/\t<=b))) H
def og:Sp:=λ vs H Q _=> ∃(d:Addr) (m:Int) (hs:List Int),vs=[.ref d,.int m]/\H d=some (.lst (hs.map V.int))/\(∀h∈hs,0<=h/\h<m)/\hs.Nodup/\(hs.length:Int)<m/\m<=64/\∀H',ag H H'->Q (.bl true) H'
def l9 (K:Frag) (C:Addr):Sp:=λ vs H Q _=> ∃(p d dx:Addr) (wi hi:Int) (hs:List Int),vs=[.ref p,.int wi,.int hi,.ref d]/\H p=some (.ins C dx [])/\H d=some (.lst (hs.map V.int))/\1<=wi/\wi<=8/\1<=hi/\hi<=8/\(∀h∈hs,0<=h/\h<wi*hi)/\hs.Nodup/\(hs.length:Int)<wi*hi/\
 ∀(hs':List Int) H',hs'.Perm hs->eM K C H' p wi hi hs'->SameBut p H H'->Q .non H'
structure CA (P:Program) (w:World) (K:Frag) (mg:Str->Option Value) (base:Heap):Prop where
 is_among:eA P w K mg base "is_among" ["thing","least","most"] 2 C2
structure CB2 (P:Program) (w:World) (K:Frag) (mg:Str->Option Value) (base:Heap):Prop extends CA P w K mg base where
 are_holes:eA P w K mg base "are_holes" ["thing","many"] 3 og
end L2
namespace L2
open PySem PySem.Spec PyProof.Rows
section
variable {X:Cx}{pins:List (Addr×Obj)}{σ:St}{H:Hp}{s:Shared}{h':Heap}
theorem aJ.turned_laid {t':Nat}{e it a:Addr}{o:HO}(I:aJ X pins σ H s) (k:∀b ob,b≠e->b≠it->s.heap.get? b=some ob->h'.get? b=some ob) (he:gH X pins H e) (hi:gH X pins H it) (hp:s.heap.objs.size<=a) (new:bB X.prog X.w (upd H a o) h' a o):
  aJ X pins σ (upd H a o) {s with heap:=h',toks:=t'}:=by
 obtain ⟨e0,e1,e2,e3,e4,e5⟩:=he;obtain ⟨i0,i1,i2,i3,i4,i5⟩:=hi;have hn:H a=none:=I.hok.fresh hp;have ne:∀b u,H b=some u->b≠e:=λ b u q z=>by rw [z,e0] at q;cases q
 have nit:∀b u,H b=some u->b≠it:=λ b u q z=>by rw [z,i0] at q;cases q
 have kk:∀b ob,b∉[e,it]->s.heap.get? b=some ob->h'.get? b=some ob:=λ b ob hc q=>k b ob (λ z=>hc (by simp [z])) (λ z=>hc (by simp [z])) q;refine I.step (g':=s.gens) (d':=s.drawn) (ch:=[e,it]) (λ b hb=>?_) (λ b ob _ _ hc q _=>kk b ob hc q) (λ b ob _ _ hc q _=>⟨ob.slots,kk b ob hc q⟩)
  (λ b ob hc q n=>by rw [ah (M8 (Na (Heap.lt_size q) hp))];exact n) (λ b ob hc q=>⟨ob,kk b ob hc q⟩) (λ b xs q=>by rw [ah (am q hn)];exact q) (λ b ob u q=>by rw [ah (am q hn)];exact q)
  (λ b ps q=>⟨#[],by rw [ah (am q hn),q];simp⟩) (λ m hm=>?_) (λ b u q=>?_) I.bare
 ·rcases Lw.mp hb with rfl | hb
  ·exact ⟨e3,e1,e4,e5⟩
  ·rw [LF.mp hb];exact ⟨i3,i1,i4,i5⟩
 ·obtain ⟨ob,es,ep,ho,r⟩:=hm;exact ⟨ob,es,ep,k _ ob (Ne.symm e1) (Ne.symm i1) ho,r⟩
 ·by_cases hb:b=a
  ·subst hb;rw [ae] at q;cases q;exact new
  ·rw [ah hb] at q;refine (I.hok b u q).stay (λ c v hc z=>k c v ?_ ?_ z) (λ c z=>by rw [ah (am z hn)];exact z) λ c xs z=>by rw [ah (am z hn)];exact z
   ·rcases hc with z | z
    ·rw [z];exact ne b u q
    ·exact ne c _ z
   ·rcases hc with z | z
    ·rw [z];exact nit b u q
    ·exact nit c _ z
theorem aJ.turned2 {t':Nat}{e it:Addr}(I:aJ X pins σ H s) (k:∀b ob,b≠e->b≠it->s.heap.get? b=some ob->h'.get? b=some ob) (he:gH X pins H e) (hi:gH X pins H it):aJ X pins σ H {s with heap:=h',toks:=t'}:=by
 obtain ⟨e0,e1,e2,e3,e4,e5⟩:=he;obtain ⟨i0,i1,i2,i3,i4,i5⟩:=hi;have ne:∀b u,H b=some u->b≠e:=λ b u q z=>by rw [z,e0] at q;cases q
 have nit:∀b u,H b=some u->b≠it:=λ b u q z=>by rw [z,i0] at q;cases q
 have kk:∀b ob,b∉[e,it]->s.heap.get? b=some ob->h'.get? b=some ob:=λ b ob hc q=>k b ob (λ z=>hc (by simp [z])) (λ z=>hc (by simp [z])) q;refine I.step (g':=s.gens) (d':=s.drawn) (ch:=[e,it]) (λ b hb=>?_) (λ b ob _ _ hc q _=>kk b ob hc q) (λ b ob _ _ hc q _=>⟨ob.slots,kk b ob hc q⟩)
  (λ _ _ _ _ n=>n) (λ b ob hc q=>⟨ob,kk b ob hc q⟩) (λ _ _ q=>q) (λ _ _ _ q=>q)
  (λ b ps q=>⟨#[],by rw [q];simp⟩) (λ m hm=>?_) (λ b u q=>?_) I.bare
 ·rcases Lw.mp hb with rfl | hb
  ·exact ⟨e3,e1,e4,e5⟩
  ·rw [LF.mp hb];exact ⟨i3,i1,i4,i5⟩
 ·obtain ⟨ob,es,ep,ho,r⟩:=hm;exact ⟨ob,es,ep,k _ ob (Ne.symm e1) (Ne.symm i1) ho,r⟩
 ·refine (I.hok b u q).stay (λ c v hc z=>k c v ?_ ?_ z) (λ c z=>z) λ c xs z=>z
  ·rcases hc with z | z
   ·rw [z];exact ne b u q
   ·exact ne c _ z
  ·rcases hc with z | z
   ·rw [z];exact nit b u q
   ·exact nit c _ z
end
def JM (K:Frag) (a:Addr):It:=
 ⟨λ i H=> ∃xs x,aI K H a xs/\xs[i]? =some x,λ i H x H'=> ∃t v,x=.ref t/\H t=none/\H'=upd H t (.tup [.int (i:Int),v])/\∀xs,aI K H a xs->xs[i]? =some v,λ i H=> ∃xs,aI K H a xs/\xs.length<=i⟩
theorem qd {P:Program}{w:World}{K:Frag}{elts:List Expr}{k0:Nat}{pos:Pos}(a e it:Addr) (hne:e≠it):pR P w K (.Tuple elts k0 pos) (JM K a) [e,it] e (λ i h=>(∃old,IsEnum h e it (i:Int) old)/\h.IsListIter it a i) where
 mem:=by simp
 obj:=λ i h st b hb=>by
  obtain ⟨⟨old,he⟩,o,ho,c,d⟩:=st
  rcases Lw.mp hb with rfl | hb
  ·exact ⟨_,he,λ v z=>by cases z⟩
  ·rw [LF.mp hb];exact ⟨o,ho,λ v z=>by rw [d] at z;cases z⟩
 keep:=λ i h h' st k=>by obtain ⟨⟨old,he⟩,hi⟩:=st;exact ⟨⟨old,k e (by simp) _ he⟩,hi.at λ o x=>k it (by simp) o x⟩
 item:=by
  intro X hP hw hK hc i pins s σ H E I hf st hg;subst hP hw hK;obtain ⟨xs,x,hq,hx⟩:=hg;obtain ⟨its,rv,p,hz⟩:=I.list hq;obtain ⟨u,hu,ru⟩:=rv.get hx;obtain ⟨⟨old,he⟩,hit⟩:=st;have fe:=hf e (by simp);have fi:=hf it (by simp);obtain ⟨oL,hoL,hcL,nL,hdL⟩:=p.isList;have hai:a≠it:=λ z=>by subst z;obtain ⟨o',ho',hc',_⟩:=hit;rw [hoL] at ho';cases ho';rw [hcL] at hc';injection hc' with hz';exact absurd hz' (by decide)
  have hae:a≠e:=λ z=>by subst z;have he':s.heap.get? a=_:=he;rw [hoL] at he';cases he';injection hcL with hz';exact absurd hz' (by decide)
  have D:=Draws.list (prog:=X.prog) (w:=X.w) (A:=X.A.in1) (by show X.A.handled=none;exact I.ok.hd hc) it a hai its.toArray;have hlt:i<its.toArray.size:=by have:=(LI.mp hu).1;simpa using this
  refine wpAny_pyNext_enum_itemD D he ⟨hit,p.isList⟩ hlt hne (by simp [hne,hae.symm]) λ x' h1 tk hP' ho hs' hT hsz hk=>?_;have ex:x'=u:=by have:its.toArray[i]? =some x':=hP';rw [MZ,hu] at this;exact (Option.some.inj this).symm
  subst ex;refine ⟨_,rfl,wpAny_letOwnedTupleGo_enum ho λ h2 he2 sb=>?_⟩;have hlt2:e<s.heap.objs.size:=Heap.lt_size he;have kk:∀b ob,b≠e->b≠it->s.heap.get? b=some ob->h2.get? b=some ob:=λ b ob b1 b2 q=>(sb.2 b b1).trans (hk b ob b1 b2 q);have hT2:h2.get? s.heap.objs.size=some {cls:=.type "tuple",data:=.seq #[.int i tk,x']}:=(sb.2 _ (Nf hlt2)).trans hT;have new:bB X.prog X.w (upd H s.heap.objs.size (.tup [.int (i:Int),x])) h2 s.heap.objs.size (.tup [.int (i:Int),x]):=
   ⟨by show 2<=sizeLine;decide,[.int i tk,x'],.cons ⟨tk,rfl⟩ (.cons ru .nil),⟨_,hT2,rfl,_,rfl⟩⟩
  have I2:=I.turned_laid (t':=tk+1) kk fe fi (M6 _) new;refine ⟨.ref s.heap.objs.size,_,I2,rfl,⟨_,x,rfl,I.hok.fresh (M6 _),rfl,λ ys hy=>by rw [I.list_inj hy hq];exact hx⟩,⟨⟨_,by simpa using he2⟩,hs'.1.at λ o z=>(sb.2 it (Ne.symm hne)).trans z⟩,λ b hb=>?_⟩
  rcases Lw.mp hb with rfl | hb
  ·rw [ah (M8 hlt2)];exact fe.1
  ·rw [LF.mp hb];obtain ⟨o',ho',_⟩:=hit;rw [ah (M8 (Heap.lt_size ho'))];exact fi.1
 done:=by
   intro X hP hw hK hc i pins s σ H E I hf st hg;subst hP hw hK;obtain ⟨xs,hq,hx⟩:=hg;obtain ⟨its,rv,p,hz⟩:=I.list hq;obtain ⟨⟨old,he⟩,hit⟩:=st;have fe:=hf e (by simp);have fi:=hf it (by simp);have hl:=rv.length;obtain ⟨oL,hoL,hcL,nL,hdL⟩:=p.isList;have hai:a≠it:=λ z=>by subst z;obtain ⟨o',ho',hc',_⟩:=hit;rw [hoL] at ho';cases ho';rw [hcL] at hc';injection hc' with hz';exact absurd hz' (by decide)
   have hT:s.TypeIs (.ref e) "enumerate":=⟨_,he,rfl⟩;unfold pyNext;refine wpAny_bind (wpAny_attempt (wpAny_callSpecial?_slot (name:=Str.ofString "__next__") hT F.slot_enumerate_next
    (wpAny_call_entry F.slot_enumerate_next hT F.entry_enumerate_next ?_ (F.args_enumerate_next_1 _))))
   show wpAny _ _ (field (.ref e) 2 >>= _) _ _ _;refine wpAny_bind (wpAny_field he rfl (x:=.ref it) rfl ?_);refine wpAny_bind (wpAny_nextOf_list_end (by show X.A.handled=none;exact I.ok.hd hc) hit p.isList (by simp;omega) λ h' x he' hx'=>?_);obtain ⟨o,ho,hcx⟩:=hx';refine wpAny_bind (wpAny_isInstance (T:="StopIteration") (b:=true) ⟨o,ho,hcx⟩ isSubtype_stop ?_);exact wpAny_pure ⟨rfl,I.turned2 (t':=s.toks) (λ b ob _ b2 q=>he' b ob b2 q) fe fi⟩
 self:=λ A i s Q E st h=>by obtain ⟨⟨old,he⟩,_⟩:=st;exact wpAny_pyIter_enum he h
end L2
namespace L2
open PySem PySem.Spec PyProof.Rows
def xu (x:Str):It:=
 ⟨λ i _=>i<x.cps.size,λ i H v H'=> ∃t c,v=.ref t/\H t=none/\x.cps.toList[i]? =some c/\H'=upd H t (.tup [.int (i:Int),.str ⟨#[c]⟩]),λ i _=>i=x.cps.size⟩
theorem lP {prog:Program}{w:World}{A:Around}(hh:A.handled=none) (it:Addr) (x:Str) (t:Tok):Draws prog w A it [it] x.cps.size (λ i v=> ∃c u,x.cps[i]? =some c/\v=.str ⟨#[c]⟩ u) (λ i h=>h.IsStrIter it (strIterType x) x t i):=by
 unfold strIterType;split
 ·exact Draws.strAscii hh it x t
 ·exact Draws.strWide hh it x t
theorem qc {P:Program}{w:World}{K:Frag}{elts:List Expr}{k0:Nat}{pos:Pos}(e it:Addr) (x:Str) (t:Tok) (hne:e≠it):pR P w K (.Tuple elts k0 pos) (xu x) [e,it] e (λ i h=>(∃old,IsEnum h e it (i:Int) old)/\h.IsStrIter it (strIterType x) x t i) where
 mem:=by simp
 obj:=λ i h st b hb=>by
  obtain ⟨⟨old,he⟩,o,ho,c,d⟩:=st
  rcases Lw.mp hb with rfl | hb
  ·exact ⟨_,he,λ v z=>by cases z⟩
  ·rw [LF.mp hb];exact ⟨o,ho,λ v z=>by rw [d] at z;cases z⟩
 keep:=λ i h h' st k=>by obtain ⟨⟨old,he⟩,o,ho,r⟩:=st;exact ⟨⟨old,k e (by simp) _ he⟩,o,k it (by simp) o ho,r⟩
 item:=by
  intro X hP hw hK hc i pins s σ H E I hf st hg;subst hP hw hK;obtain ⟨⟨old,he⟩,hit⟩:=st;have fe:=hf e (by simp);have fi:=hf it (by simp);have D:=lP (prog:=X.prog) (w:=X.w) (A:=X.A.in1) (by show X.A.handled=none;exact I.ok.hd hc) it x t;refine wpAny_pyNext_enum_itemD D he hit hg hne (by simp [hne]) λ x' h1 tk hP' ho hs' hT hsz hk=>?_;obtain ⟨c,u,hcx,rfl⟩:=hP';refine ⟨_,rfl,wpAny_letOwnedTupleGo_enum ho λ h2 he2 sb=>?_⟩;have hlt2:e<s.heap.objs.size:=Heap.lt_size he;have kk:∀b ob,b≠e->b≠it->s.heap.get? b=some ob->h2.get? b=some ob:=λ b ob b1 b2 q=>(sb.2 b b1).trans (hk b ob b1 b2 q);have hT2:h2.get? s.heap.objs.size=some {cls:=.type "tuple",data:=.seq #[.int i tk,.str ⟨#[c]⟩ u]}:=(sb.2 _ (Nf hlt2)).trans hT;have new:bB X.prog X.w (upd H s.heap.objs.size (.tup [.int (i:Int),.str ⟨#[c]⟩])) h2 s.heap.objs.size (.tup [.int (i:Int),.str ⟨#[c]⟩]):=
   ⟨by show 2<=sizeLine;decide,[.int i tk,.str ⟨#[c]⟩ u],.cons ⟨tk,rfl⟩ (.cons ⟨u,rfl⟩ .nil),⟨_,hT2,rfl,_,rfl⟩⟩
  have I2:=I.turned_laid (t':=tk+1) kk fe fi (M6 _) new;have hs2:h2.IsStrIter it (strIterType x) x t (i+1):=by obtain ⟨o',ho',r⟩:=hs';exact ⟨o',(sb.2 it (Ne.symm hne)).trans ho',r⟩
  refine ⟨.ref s.heap.objs.size,_,I2,rfl,⟨_,c,rfl,I.hok.fresh (M6 _),by rw [NH];exact hcx,rfl⟩,⟨⟨_,by simpa using he2⟩,hs2⟩,λ b hb=>?_⟩
  rcases Lw.mp hb with rfl | hb
  ·rw [ah (M8 hlt2)];exact fe.1
  ·rw [LF.mp hb];obtain ⟨o',ho',_⟩:=hit;rw [ah (M8 (Heap.lt_size ho'))];exact fi.1
 done:=by intro X hP hw hK hc i pins s σ H E I hf st hg;subst hP hw hK;obtain ⟨⟨old,he⟩,hit⟩:=st;have hg:i=x.cps.size:=hg;subst hg;have fe:=hf e (by simp);have fi:=hf it (by simp);have D:=lP (prog:=X.prog) (w:=X.w) (A:=X.A.in1) (by show X.A.handled=none;exact I.ok.hd hc) it x t;exact wpAny_pyNext_enum_endD D he hit λ h' hx=>⟨rfl,I.turned2 (t':=s.toks) (λ b ob _ b2 q=>hx b ob b2 q) fe fi⟩
 self:=λ A i s Q E st h=>by obtain ⟨⟨old,he⟩,_⟩:=st;exact wpAny_pyIter_enum he h
section
variable {X:Cx}{p pos pos2:Pos}{a:Expr}{elts:List Expr}{k0:Nat}{ta:TE}
def sx (K:Frag) (ta:TE):TI:=λ σ H R=>ta σ H λ x H1=>match x with
 | .ref d=>(∃xs,aI K H1 d xs)/\R (JM K d) H1
 | .str z=>R (xu z) H1
 | _=>False
theorem xZ (hm:X.mg "enumerate"=none) (ha:PE X a ta) (hg:Gl X "enumerate":=by rfl) (hs:starEach [a] X.env=[(false,eval a X.env)]:=by rfl):PI X (.Tuple elts k0 pos2) (.Call (.Name "enumerate" p) [a] [] pos) (sx X.K ta):=by
 intro pins s σ H R I h;have hA:PA X [a] (bi ta cn):=pa_cons ha pa_nil (by rw [hs];rfl);refine Call_ (gR I hg hm nF (PyProof.Rows.callWith_type1 (bJ (hA pos pins s σ H (λ vs H1=> ∃x,vs=[x]/\(match x with | .ref d=>(∃xs,aI X.K H1 d xs)/\R (JM X.K d) H1 | .str z=>R (xu z) H1 | _=>False)) I ?_) λ us s1 ⟨vs,H1,I1,r1,x,e1,q1⟩=>?_) (by rw [hs];rfl) rfl) (by decide) (by decide))
 ·show ta σ H _;have e:(λ (x:V) (H1:Hp)=>match x with | .ref d=>(∃xs,aI X.K H1 d xs)/\R (JM X.K d) H1 | .str z=>R (xu z) H1 | _=>False)=λ x H1=>cn σ H1 λ xs H2=> ∃y,x::xs=[y]/\(match y with | .ref d=>(∃xs,aI X.K H2 d xs)/\R (JM X.K d) H2 | .str z=>R (xu z) H2 | _=>False):=by
   funext x H1;apply propext
   constructor
   ·intro q;exact ⟨x,rfl,q⟩
   ·rintro ⟨y,e,q⟩;have:x=y:=by injection e
    subst this;exact q
  rw [<-e];exact h
 ·subst e1;obtain ⟨u,rfl,ru⟩:=cN r1;cases x with
  | ref d=>
    obtain ⟨⟨xs,hq⟩,q⟩:=q1;cases ru;obtain ⟨its,rv,pl,hz⟩:=I1.list hq;refine call_enumerate_list pl.isList λ h' he hit hsz hk=>?_;have I2:aJ X pins σ H1 {s1 with heap:=h'}:=I1.kept (t':=s1.toks) hk;refine wpAny_pyIter_enum he ⟨s1.heap.objs.size+1,[s1.heap.objs.size+1,s1.heap.objs.size],_,_,H1,rfl,I2,qd d _ _ (Ni _),⟨⟨_,he⟩,hit⟩,λ b hb=>?_,q⟩
    rcases Lw.mp hb with rfl | hb
    ·exact I1.fpOk (Nc _) (I1.hok.fresh (Nc _))
    ·rw [LF.mp hb];exact I1.fpOk (M6 _) (I1.hok.fresh (M6 _))
  | str z=>
    obtain ⟨t,rfl⟩:=ru;refine call_enumerate_str λ h' he hit hsz hk=>?_;have I2:aJ X pins σ H1 {s1 with heap:=h'}:=I1.kept (t':=s1.toks) hk;refine wpAny_pyIter_enum he ⟨s1.heap.objs.size+1,[s1.heap.objs.size+1,s1.heap.objs.size],_,_,H1,rfl,I2,qc _ _ z t (Ni _),⟨⟨_,he⟩,hit⟩,λ b hb=>?_,q1⟩
    rcases Lw.mp hb with rfl | hb
    ·exact I1.fpOk (Nc _) (I1.hok.fresh (Nc _))
    ·rw [LF.mp hb];exact I1.fpOk (M6 _) (I1.hok.fresh (M6 _))
  | _=>exact q1.elim
theorem Jb (K:Frag) (hm:X.mg "enumerate"=none) (ha:PE X a ta) (hg:Gl X "enumerate":=by rfl) (hs:starEach [a] X.env=[(false,eval a X.env)]:=by rfl) (hK:X.K=K:=by rfl):PI X (.Tuple elts k0 pos2) (.Call (.Name "enumerate" p) [a] [] pos) (sx K ta):=by subst hK;exact xZ hm ha hg hs
end
end L2
namespace L2
open PySem PySem.Spec PyProof.Rows
section
variable {X:Cx}
end
end L2
namespace L2
open PySem PySem.Spec PyProof.Rows
abbrev one (c:Nat):Str:=⟨#[c]⟩
def uS (c:Nat):Prop:=97<=c/\c<=122
theorem xt:("abcdefghijklmnopqrstuvwxyz":Str).cps.toList=[97,98,99,100,101,102,103,104,105,106,107,108,109,110,111,112,113,114,115,116,117,118,119,120,121,122]:=by decide+kernel
theorem ES {i:Int}(h0:0<=i) (h1:i<26):kA ("abcdefghijklmnopqrstuvwxyz":Str).cps.toList i=some (97+i.toNat):=by
 have e:i=((i.toNat:Nat):Int):=by omega
 have hx:∀k<26,("abcdefghijklmnopqrstuvwxyz":Str).cps.toList[k]? =some (97+k):=by rw [xt];decide
 have q:=bo (hx i.toNat (by omega));rw [<-e] at q;exact q
section
variable {K:Frag}{σ rest:St}{H:Hp}{te ta tb tl:TE}{tt:TT}{R:Bool->Hp->Prop}{Q:VK}{c:Nat}{z:Str}{src:List (Option Nat)}
theorem oK:∀Q:Option Int->Hp->Prop,Q none H->iD σ H Q:=λ Q q=>q
theorem oM {i:Int}(h:Ev te σ H (.int i)):∀Q:Option Int->Hp->Prop,Q (some i) H->pK te σ H Q:=λ Q q=>h _ q
end
section
variable {K:Frag}{σ:St}{H:Hp}{tb:TE}{t:TA}{op:CmpOp}{R:Bool->Hp->Prop}{vs:List V}{sp:Sp}
end
theorem lx {σ:St}{H:Hp}{Q:VK}{to te:TE}{z:Str}{r:V->List V->Hp->VK->Prop}(ho:Ev to σ H (.str z)) (q:te σ H λ x H2=>r (.str z) [x] H2 Q):E7 r to (bi te cn) σ H Q:=ho _ q
end L2
namespace L2
open PySem PySem.Spec PyProof.Rows
section
variable {K:Frag}{σ rest:St}{H:Hp}{te to ta tb tl:TE}{t:TA}{tt u:TT}{src:List (Option Nat)}{Q:VK}{R:Bool->Hp->Prop}{D:cM}{g:TG}{tB:TS}{v x y:V}{vs:List V}{sp:Sp}
theorem ux {ta:TA}(n:Int) (hta:∀Q:List V->Hp->Prop,(∀H',ag H H'->Q [.int n] H')->ta σ H Q) (h0: -(2 ^ 62)<=n) (h1:n<2 ^ 62) (Pv:Nat->St->Hp->Prop) (hp0:∀H',ag H H'->Pv 0 σ H')
  (hs:∀i σ H,i<n.toNat->Pv i σ H->g (.int (0+i)) σ H λ σ2 H2=>tB {D with nx:=Pv (i+1),ct:=Pv (i+1),bk:=D.nx} σ2 H2) (hd:∀σ H,Pv n.toNat σ H->D.nx σ H):tFor (lL ta) g tB D σ H:=
 hta _ λ H' s=>⟨n,rfl,h0,h1,lM Pv (hp0 H' s) hs hd⟩
theorem Iv {i:Int}{Q:List V->Hp->Prop}(h:Av t σ H vs) (hz:vs.length<=1000) (hi:∀H',Ev te σ H' (.int i)) (e:kA vs i=some v) (q:∀H',ag H H'->Q [v] H'):bi (kE K (qf t) te) cn σ H Q:=jx (K:=K) (Q:=λ x H1=>Q [x] H1) h hz hi e q
theorem Im (h:Tv tt σ H false) (q:u σ H R):EX tt u σ H R:=h _ (jj q)
theorem Jo (P0:Addr->Hp->Prop) (htl:∀Q:VK,(∀d H',P0 d H'->Q (.ref d) H')->tl σ H Q)
  (h:∀d H',P0 d H'->∃xs,aI K H' d xs/\∃Pv:Nat->St->Hp->Prop,Pv 0 σ H'/\(∀i σ' H',Pv i σ' H'->aI K H' d xs)/\
   (∀(i:Nat) x σ' H' t,xs[i]? =some x->Pv i σ' H'->H' t=none->g (.ref t) σ' (upd H' t (.tup [.int (i:Int),x])) λ σ2 H2=>tB {D with nx:=Pv (i+1),ct:=Pv (i+1),bk:=D.nx} σ2 H2)/\(∀σ' H',Pv xs.length σ' H'->D.nx σ' H')):tFor (sx K tl) g tB D σ H:=by
 refine htl _ λ d H1 p1=>?_;obtain ⟨xs,hq,Pv,hp0,hl,hs,hd⟩:=h d H1 p1;refine ⟨⟨xs,hq⟩,λ i m σ' H'=>m=xs.length - i/\i<=xs.length/\Pv i σ' H',⟨_,rfl,M9 _,hp0⟩,?_⟩;rintro i m σ' H' ⟨rfl,hi,pv⟩;have hS:=hl i σ' H' pv
 by_cases hlt:i<xs.length
 ·refine .inr ⟨⟨xs,xs[i],hS,Ly hlt⟩,Pv (i+1),λ σ2 H2 p2=>⟨xs.length - (i+1),by omega,rfl,hlt,p2⟩,?_⟩;rintro x H2 ⟨t,w,rfl,ht,rfl,hx⟩;exact hs i w σ' H' t (hx xs hS) pv ht
 ·have e:i=xs.length:=by omega
  subst e;exact .inl ⟨⟨xs,hS,M6 _⟩,hd σ' H' pv⟩
theorem oi {d:Addr}{xs:List V}{lo hi:Option Int}{tl' th:TO}(ha:Ev ta σ H (.ref d)) (hl:∀Q:Option Int->Hp->Prop,Q lo H->tl' σ H Q) (hh:∀Q:Option Int->Hp->Prop,Q hi H->th σ H Q) (hx:aI K H d xs) (q:∀p,H p=none->Q (.ref p) (upd H p (.lst (gr xs lo hi)))):E6 K ta tl' th σ H Q:=ha _ (hl _ (hh _ ⟨xs,hx,q⟩))
theorem oN {ns:List Int}{i:Int}(h0:0<=i) (h1:i<ns.length):∃n:Int,kA (ns.map V.int) i=some (.int n)/\n∈ns:=by
 have hlt:i.toNat<ns.length:=by omega
 have e:(ns.map V.int)[i.toNat]? =some (.int ns[i.toNat]):=by rw [LD,Ly hlt];rfl
 have q:=bo e;have ei:((i.toNat:Nat):Int)=i:=by omega
 rw [ei] at q;exact ⟨_,q,Mi hlt⟩
theorem C6 {xs:List V}{i:Int}(h0:0<=i) (h1:i<xs.length):∃v,kA xs i=some v/\v∈xs:=by
 have hlt:i.toNat<xs.length:=by omega
 have q:=bo (Ly hlt);have ei:((i.toNat:Nat):Int)=i:=by omega
 rw [ei] at q;exact ⟨_,q,Mi hlt⟩
theorem yO {d:Addr}{xs:List V}(P0:Hp->Prop) (htl:∀Q:VK,(∀H',P0 H'->Q (.ref d) H')->tl σ H Q) (hq:∀H',P0 H'->aI K H' d xs) (Pv:Nat->St->Hp->Prop) (hp0:∀H',P0 H'->Pv 0 σ H') (hl:∀i σ' H',Pv i σ' H'->aI K H' d xs)
  (hs:∀(i:Nat) x σ' H' t,xs[i]? =some x->Pv i σ' H'->H' t=none->g (.ref t) σ' (upd H' t (.tup [.int (i:Int),x])) λ σ2 H2=>tB {D with nx:=Pv (i+1),ct:=Pv (i+1),bk:=D.nx} σ2 H2) (hd:∀σ' H',Pv xs.length σ' H'->D.nx σ' H'):tFor (sx K tl) g tB D σ H:=by
 refine htl _ λ H1 p1=>?_;refine ⟨⟨xs,hq H1 p1⟩,λ i m σ' H'=>m=xs.length - i/\i<=xs.length/\Pv i σ' H',⟨_,rfl,M9 _,hp0 H1 p1⟩,?_⟩;rintro i m σ' H' ⟨rfl,hi,pv⟩;have hS:=hl i σ' H' pv
 by_cases hlt:i<xs.length
 ·refine .inr ⟨⟨xs,xs[i],hS,Ly hlt⟩,Pv (i+1),λ σ2 H2 p2=>⟨xs.length - (i+1),by omega,rfl,hlt,p2⟩,?_⟩;rintro x H2 ⟨t,w,rfl,ht,rfl,hx⟩;exact hs i w σ' H' t (hx xs hS) pv ht
 ·have e:i=xs.length:=by omega
  subst e;exact .inl ⟨⟨xs,hS,M6 _⟩,hd σ' H' pv⟩
theorem Jk {i j:Nat}{d:Addr}{a b:V}{R:St->Hp->Prop}(h:H d=some (.tup [a,b])) (q:R ((σ.set i (some a)).set j (some b)) H):yH K 2 (pp (gName i) (pp (gName j) Ey)) (.ref d) σ H R:=⟨d,_,rfl,cg.of h,rfl,_,_,rfl,_,_,rfl,rfl,q⟩
end
def cj (c:Nat):V:=.str (one c)
end L2
namespace L2
open PySem PySem.Spec PyProof.Rows
section
variable {κ:Type} [DecidableEq κ]
def w5 (l:List κ) (x:κ):List κ:=if x∈l then l else l++[x]
def cU (val:Nat->κ):Nat->List κ
 | 0=>[]
 | i+1=>w5 (cU val i) (val i)
theorem jS (val:Nat->κ):∀i,(cU val i).length<=i
 | 0=>M6 0
 | i+1=>by
   have ih:=jS val i;show (w5 (cU val i) (val i)).length<=i+1;unfold w5
   by_cases h:val i∈cU val i
   ·rw [if_pos h];omega
   ·rw [if_neg h,Lz];show _+1<=_;omega
theorem o9 (val:Nat->κ) (x:κ):∀i,x∈cU val i<->x∈(List.range i).map val
 | 0=>by simp [cU]
 | i+1=>by
   have ih:=o9 val x i;show x∈w5 (cU val i) (val i)<->_;rw [MJ,LR,LK,<-ih];unfold w5
   by_cases h:val i∈cU val i
   ·rw [if_pos h]
    constructor
    ·exact λ z=>.inl z
    ·rintro (z | z)
     ·exact z
     ·have:x=val i:=by simpa using z
      rw [this];exact h
   ·rw [if_neg h,LK];simp
theorem kb (val:Nat->κ):∀i,(cU val i).length=i<->((List.range i).map val).Nodup
 | 0=>by simp [cU]
 | i+1=>by
   have ih:=kb val i;have hle:=jS val i;have hm:=o9 val (val i) i;show (w5 (cU val i) (val i)).length=i+1<->_;rw [MJ,LR,Mw];unfold w5
   by_cases h:val i∈cU val i
   ·rw [if_pos h]
    constructor
    ·intro z;omega
    ·intro z;exact absurd rfl (z.2.2 (val i) (hm.mp h) (val i) (by simp))
   ·rw [if_neg h,Lz]
    constructor
    ·intro z;have z:(cU val i).length+1=i+1:=z;refine ⟨ih.mp (by omega),by simp,λ a ha b hb e=>h (hm.mpr ?_)⟩;have:b=val i:=by simpa using hb
     rw [<-this,<-e];exact ha
    ·intro z;rw [ih.mpr z.1];rfl
end
section
variable {prog:Program}{w:World}{A:Around}{R:Result->Shared->Prop}{I:Addr}{fp wr:List Addr}{G:Array GenState->Array GenState->Prop}{n:Nat}{Pt:Nat->Value->Prop}{St:Nat->Shared->Prop}{κ:Type} [DecidableEq κ] {knd:KeyKind prog w κ}
theorem vw (W:WalksS prog w A.in1 I fp wr G n Pt St) (D:Addr) (hD:D∉fp) (val:Nat->κ) (hv:∀i v,Pt i v->knd.is (val i) v=true/\v.scannable=true) (hb:n+1<scanBound):
  ∀(k i:Nat) (s:Shared),n - i=k->i<=n->St i s->s.heap.SetOf knd D (λ x=>decide (x∈cU val i)) (cU val i).length->
   (∀s2,Moved (D::wr) G s s2->s2.heap.SetOf knd D (λ x=>decide (x∈cU val n)) (cU val n).length->R (.ok (.ret .none)) s2)->codeAny (model prog w) A (.builtin "set.update.loop" ⟨[.ref D,.ref I],[]⟩) R s:=by
 have nW:D∉wr:=λ z=>hD (W.sub _ z);have up:∀b∈wr,b∈D::wr:=λ b z=>LJ _ z;have mv:∀{s s2:Shared} {S:κ->Bool} {m:Nat},Moved wr G s s2->s.heap.SetOf knd D S m->s2.heap.SetOf knd D S m:=λ {s s2 S m} hm ⟨o,es,ep,t,ho,r⟩=>⟨o,es,ep,t,hm.heap D _ nW ho,r⟩;intro k
 induction k with
 | zero=>
   intro i s e1 e2 st hS hR;have e3:i=n:=by omega
   subst e3;refine codeAny_builtin F.entry_set_update_loop ?_;rw [Around.under_plainId F.plain_set_update_loop _];show wpAny _ A.in1 (pyNext (.ref I) >>= _) _ _ s;refine wpAny_bind (W.done s _ _ st λ s2 hm=>?_);show wpAny _ A.in1 (ret Value.none) _ _ s2;exact wpAny_pure (hR s2 (hm.mono up) (mv hm hS))
 | succ k ih=>
   intro i s e1 e2 st hS hR;have e3:i<n:=by omega
   refine codeAny_builtin F.entry_set_update_loop ?_;rw [Around.under_plainId F.plain_set_update_loop _];show wpAny _ A.in1 (pyNext (.ref I) >>= _) _ _ s;refine wpAny_bind (W.item i s _ _ e3 st λ v s2 hp st2 hm=>?_);obtain ⟨kv,sv⟩:=hv i v hp;have hS2:=mv hm hS;show wpAny _ A.in1 (holding [v] (setAdd D v) >>= _) _ _ s2;refine wpAny_bind (wpAny_holding ?_);unfold setAdd;refine wpAny_holding (wpAny_bind (knd.pyHash (k:=val i) kv ?_));have room:(cU val i).length+1<scanBound:=by have:=jS val i;omega
   refine wpAny_setAddHashed_of (knd:=knd) (s:={s2 with toks:=s2.toks+1}) kv sv hS2 room λ h2 sb hS3=>?_;have hS4:h2.SetOf knd D (λ x=>decide (x∈cU val (i+1))) (cU val (i+1)).length:=by
    refine SetOf_congr hS3 (λ x=>?_) ?_
    ·show (decide (x∈cU val i)||decide (x=val i))=decide (x∈w5 (cU val i) (val i))
     unfold w5
     by_cases m:val i∈cU val i
     ·rw [if_pos m]
      by_cases e:x=val i
      ·subst e;rw [decide_eq_true m];simp
      ·rw [decide_eq_false e,Ny]
     ·rw [if_neg m,Nv];simp
    ·show (if decide (val i∈cU val i)=true then _ else _)=(w5 (cU val i) (val i)).length;unfold w5
     by_cases m:val i∈cU val i
     ·rw [if_pos (decide_eq_true m),if_pos m]
     ·rw [if_neg (by rw [decide_eq_false m];decide),if_neg m,Lz];rfl
   refine wpAny_pure ⟨plainId_quiet F.plain_set_update_loop _,ih (i+1) _ (by omega) e3 (W.frame _ s2 _ _ st2 (Nc _) λ b hb o e=>?_) hS4 λ s3 hm3 hS5=>?_⟩
   ·exact (sb.2 b (λ z:b=D=>hD (z▸hb))).trans e
   ·refine hR s3 (Moved.trans W.gtrans ((hm.mono up).then_heap (Nc _) λ b o hb e=>?_) hm3) hS5;exact (sb.2 b (λ z:b=D=>hb (by rw [z];exact LH))).trans e
end
section
variable {prog:Program}{w:World}{A:Around}{E:Value->Shared->Prop}{s:Shared}{κ:Type} [DecidableEq κ] {knd:KeyKind prog w κ}
abbrev gf (led:Bool):Obj:={cls:=.type "set",dict:=none,data:=.set #[] 0 (.fresh 0 0 led)}
theorem vv {l:Addr}{its:Array Value}{Q:Value->Shared->Prop}(val:Nat->κ) (hh:A.handled=none) (hl:s.heap.IsList l its) (hv:∀i v,its[i]? =some v->knd.is (val i) v=true/\v.scannable=true) (hb:its.size+1<scanBound)
  (k:∀(h2:Heap) (tk:Nat),h2.SetOf knd s.heap.objs.size (λ x=>decide (x∈cU val its.size)) (cU val its.size).length->(∀b o,b<s.heap.objs.size->s.heap.get? b=some o->h2.get? b=some o)->Q (.ref s.heap.objs.size) {s with heap:=h2,toks:=tk}):
  wpAny (model prog w) A (call (.type "set") [.ref l]) Q E s:=by
 obtain ⟨c0,tl0,hmro⟩:=F.called_set.mro;have hmade:=F.called_set.made;have hsub:=F.called_set.sub;have n1:=F.called_set.notType;have n2:=F.called_set.canCreate;have n3:=F.typeCall_set_1 (.ref l);refine wpAny_call (codeAny_of_tree ?_);show wpAny _ _ (callAny (.type "set") _) _ _ _;refine wpAny_pure ⟨Code.quiet_builtin _ (by decide+kernel),codeAny_builtin F.entry_type_call ?_⟩;rw [Around.under_plain (weight_type_call_type "set" [.ref l] []) rfl]
 repeat (any_goals (first | assumption | wp_step))
 refine codeAny_mono (code_set_new_1 (.ref l) (E:=E) (Q₁:=λ o s1=> ∃led:Bool,o=.ref s.heap.objs.size/\s1={s with heap:=s.heap.push (gf led)}) λ led=>⟨led,rfl,rfl⟩) λ r s1 hr=>?_;cases r with
 | error e=>exact hr
 | ok fl=>
   cases fl with
   | ret ob=>
     obtain ⟨led,rfl,rfl⟩:=hr;have g0:(s.heap.push (gf led)).get? s.heap.objs.size=some (gf led):=Heap.get?_push_size _ rfl;have ty:Shared.TypeIs {s with heap:=s.heap.push (gf led)} (.ref s.heap.objs.size) "set":=⟨_,g0,rfl⟩;have m1:=F.called_set.init.lookup;have m2:=F.called_set.init.bind (.ref s.heap.objs.size)
     repeat (any_goals (first | assumption | wp_step))
     refine codeAny_mono (codeAny_call_builtin (R:=wants (λ r s2=>r=.none/\∃h2 tk,s2={s with heap:=h2,toks:=tk}/\h2.SetOf knd s.heap.objs.size (λ x=>decide (x∈cU val its.size)) (cU val its.size).length/\
       (∀b o,b<s.heap.objs.size->s.heap.get? b=some o->h2.get? b=some o)) E) F.called_set.init.plain F.entry_set_init (check_set_init_1 ty ?_)) λ r2 s2 hr2=>?_
     ·obtain ⟨⟨oc,od,oda,osl⟩,ho,hc,nl,hd⟩:=hl;simp only at hc hd;subst hc;subst hd;have hol:(s.heap.push (gf led)).get? l=some {cls:=.type "list",dict:=od,data:=.seq its nl,slots:=osl}:=Heap.get?_push_of_some _ ho;have b1:=F.sub_list_set;have b2:=F.sub_list_frozenset;have b3:(Value.type "list" == Value.type "dict")=false:=by decide
      have hl1:(s.heap.push (gf led)).IsList l its:=⟨_,hol,rfl,nl,rfl⟩;unfold Builtin.«set.__init__» noKeywords Builtin.Frozenset.updateFrom;generalize hPI:pyIter=PI
      wp_walk
      subst hPI;refine wpAny_pyIter_list hl1 (wpAny_bind (wpAny_runValue ?_));have hlt:l<s.heap.objs.size:=Heap.lt_size ho;have h3:A.in1.in1.in1.handled=none:=by simp [hh]
      have sz:(s.heap.push (gf led)).objs.size=s.heap.objs.size+1:=Heap.size_push ..;have ne1:l≠(s.heap.push (gf led)).objs.size:=by rw [sz];exact M8 (Nl hlt)
      have ne2:s.heap.objs.size∉[(s.heap.push (gf led)).objs.size,l]:=by
       rw [sz];intro z
       rcases Lw.mp z with z | z
       ·exact Ni _ z.symm
       ·exact Nf hlt (LF.mp z)
      refine vw (knd:=knd) ((Walks.list h3 _ l ne1 its).toS) s.heap.objs.size ne2 val hv hb (its.size - 0) 0 _ (by omega) (M9 _) ⟨⟨_,Heap.get?_push_size _ rfl,rfl,rfl⟩,(hl1.push _)⟩ ?_ (λ s3 hm hS3=>?_)
      ·refine SetOf_congr ((setObjOf_fresh (knd:=knd) led).setOf (Heap.get?_push_of_some _ g0) (by unfold scanBound;omega)) (λ x=>?_) rfl;show false=decide (x∈([]:List κ));simp
      ·obtain ⟨hh3,gg3,dd3,tk3,os3⟩:=s3;obtain rfl:gg3=s.gens:=hm.gens;obtain rfl:dd3=s.drawn:=hm.drawn;obtain rfl:os3=s.os:=hm.os;show wpAny _ _ _ _ _ _;refine wpAny_pure ?_;show wpAny _ _ (ret Value.none) _ _ _;refine wpAny_pure ⟨rfl,hh3,tk3,rfl,hS3,λ b o hb2 e=>?_⟩;refine hm.heap b o ?_ (Heap.get?_push_of_some _ (Heap.get?_push_of_some _ e));rw [sz];intro z
       rcases Lw.mp z with z | z
       ·exact M8 hb2 z
       ·exact M8 (Nl hb2) (LF.mp z)
     ·cases r2 with
      | error e=>exact hr2
      | ok fl2=>
        cases fl2 with
        | ret r3=>
          obtain ⟨rfl,h2,tk,rfl,hS2,kp⟩:=hr2
          repeat (any_goals (first | assumption | wp_step))
          exact k _ _ hS2 kp
        | _=>exact hr2.elim
   | _=>exact hr.elim
end
def jr (ss:List Str):List Str:=cU (λ i=>ss.getD i Str.empty) ss.length
theorem gZ (ss:List Str):(jr ss).length=ss.length<->ss.Nodup:=by
 unfold jr;rw [kb];have e:(List.range ss.length).map (λ i=>ss.getD i Str.empty)=ss:=by
  apply MG;intro i;rw [LD]
  by_cases h:i<ss.length
  ·rw [MI h,Ly h];show some (ss.getD i Str.empty)=_;rw [LQ,Ly h];rfl
  ·rw [Mj (by rw [Mh];omega),Mj (by omega)];rfl
 rw [e]
section
variable {X:Cx}
def rQ (K:Frag) (xs:List V) (H:Hp) (Q:VK):Prop:=match xs with
 | [.ref d]=> ∃ss:List Str,aI K H d (ss.map V.str)/\ss.length+1<scanBound/\∀q φ,H q=none->(∀h:Heap,φ h->∃(o:Obj) (es:Array (Int×Value)) (ep:Nat) (t:SetTable),h.get? q=some o/\o.ExactSet/\o.data=.set es ep t/\t.fits es.size=true/\es.size=(jr ss).length)->Q (.ref q) (upd H q (.ext φ))
 | _=>False
theorem rf (hh:X.A.handled=none):bn X (.type "set") (rQ X.K):=by
 intro pins s σ H xs us Q I r h;unfold rQ at h;split at h
 ·rename_i d;obtain ⟨ss,hq,hb,q⟩:=h;obtain ⟨u,rfl,rx⟩:=cN r;cases rx;obtain ⟨its,r',pl,hz⟩:=I.list hq;have hlen:=r'.length;rw [Lv] at hlen;have hs:its.toArray.size=ss.length:=by rw [LB,<-hlen]
  refine vv (knd:=PySem.strKind X.prog X.w) (λ i=>ss.getD i Str.empty) hh pl.isList (λ i v hv=>?_) (by rw [hs];exact hb) λ h2 tk hS kp=>?_
  ·rw [MZ] at hv;have hi:i<its.length:=(LI.mp hv).1;have hx:(ss.map V.str)[i]? =some (.str (ss.getD i Str.empty)):=by rw [LD,LQ,Ly (by omega)];rfl
   obtain ⟨u,hu,ru⟩:=r'.get hx;rw [hv] at hu;cases hu;obtain ⟨t,rfl⟩:=ru;exact ⟨by simp [PySem.strKind,Value.isStrOf],rfl⟩
  ·rw [hs] at hS;have k2:∀b u,s.heap.get? b=some u->h2.get? b=some u:=λ b u e=>kp b u (Heap.lt_size e) e;obtain ⟨o,es,ep,t,h1,h2',h3,_,_,h6,h7,h8⟩:=hS;refine ⟨.ref s.heap.objs.size,upd H s.heap.objs.size (.ext λ h=>h.get? s.heap.objs.size=some o),I.laid (t':=tk) k2 (M6 _) ?_,rfl,q _ _ (I.hok.fresh (M6 _)) λ h e=>⟨o,es,ep,t,e,h2',h3,h7,h8⟩⟩;exact ⟨h1,⟨o,h1⟩,λ h1 h2 e k=>k o e⟩
 ·exact h.elim
def we (xs:List V) (H:Hp) (Q:VK):Prop:=match xs with
 | [.ref d]=> ∃(φ:Heap->Prop) (n:Nat),H d=some (.ext φ)/\n<=1000/\(∀h:Heap,φ h->∃(o:Obj) (es:Array (Int×Value)) (ep:Nat) (t:SetTable),h.get? d=some o/\o.ExactSet/\o.data=.set es ep t/\t.fits es.size=true/\es.size=n)/\Q (.int n) H
 | _=>False
theorem ku:bn X (.builtin "len") we:=by
 intro pins s σ H xs us Q I r h;unfold we at h;split at h
 ·rename_i d;obtain ⟨φ,n,hd,hn,hφ,q⟩:=h;obtain ⟨u,rfl,rx⟩:=cN r;cases rx;obtain ⟨p,_,_⟩:=(show bB X.prog X.w H s.heap d (.ext φ) from I.hok d _ hd);obtain ⟨o,es,ep,t,h1,h2,h3,h4,h5⟩:=hφ _ p;subst h5;exact PySem.call_len_set h1 h2 h3 h4 (by omega) ⟨.int es.size,H,I.tok _,⟨_,rfl⟩,q⟩
 ·exact h.elim
theorem Db (K:Frag) {j:Nat}(hr:du j X.A) (hK:X.K=K:=by rfl):bn X (.type "set") (rQ K):=by subst hK;exact rf hr.hd
end
theorem pa {K:Frag}{σ:St}{H:Hp}{Q:VK}{te:TE}{d:Addr}{ss:List Str}(h:Ev te σ H (.ref d)) (hd:aI K H d (ss.map V.str)) (hl:ss.length<=1000) (q:∀H',ag H H'->Q (.int (jr ss).length) H'):cB we (bi (cB (rQ K) (bi te cn)) cn) σ H Q:=
 h _ ⟨ss,hd,by show ss.length+1<4096;omega,λ p φ hp hφ=>⟨φ,_,ae,M7 (jS _ _) hl,hφ,q _ ((ag.refl H).upd hp)⟩⟩
end L2
namespace L2
open PySem PySem.Spec PyProof.Rows
section
variable {X:Cx}
theorem tM (ks:List Bool):(List.range ks.length).any (λ i=>ks.getD i false)=ks.any id:=by
 rw [Nv,Ml,Ml]
 constructor
 ·rintro ⟨i,hi,e⟩;have hi:=L5.mp hi;rw [LQ,Ly hi] at e;exact ⟨_,Mi hi,e⟩
 ·rintro ⟨b,hb,e⟩;obtain ⟨i,hi,e2⟩:=MX.mp hb;refine ⟨i,L5.mpr hi,?_⟩;rw [LQ,Ly hi,e2];exact e
def EO (K:Frag) (xs:List V) (H:Hp) (Q:VK):Prop:=match xs with
 | [.ref d]=> ∃ks:List Bool,aI K H d (ks.map V.bl)/\Q (.bl (ks.any id)) H
 | _=>False
theorem uL (hc:X.calm=true):bn X (.builtin "any") (EO X.K):=by
 intro pins s σ H xs us Q I r h;unfold EO at h;split at h
 ·rename_i p;obtain ⟨ks,hp,q⟩:=h;obtain ⟨u,rfl,ru⟩:=cN r;cases ru;obtain ⟨its,rv,pl,hl⟩:=I.list hp;have hlen:=rv.length;rw [Lv] at hlen;refine call_any_walk (wpAny_pyIter_list pl.isList ?_);have hne:p≠s.heap.objs.size:=by obtain ⟨o,ho,_⟩:=pl.isList;exact M8 (Heap.lt_size ho)
  have W:=Walks.list (prog:=X.prog) (w:=X.w) (A:=X.A.in1) (show X.A.in1.handled=none from I.ok.hd hc) s.heap.objs.size p hne its.toArray;have hpush:∀o b ob,s.heap.get? b=some ob->(s.heap.push o).get? b=some ob:=λ o b ob e=>Heap.get?_push_of_some _ e;refine ⟨_,_,_,_,_,_,λ i=>ks.getD i false,rfl,W,⟨⟨_,Heap.get?_push_size _ rfl,rfl,rfl⟩,pl.isList.at λ o e=>hpush _ _ o e⟩,nN rv,λ h' tk k=>?_⟩;have e:(List.range its.toArray.size).any (λ i=>ks.getD i false)=ks.any id:=by rw [<-tM,LB,<-hlen]
  rw [e];refine ⟨.bl _,H,I.kept (t':=tk) (h':=h') λ b ob e=>k b ob ?_ (hpush _ b ob e),rfl,q⟩;intro hb;have:b=s.heap.objs.size:=by simpa using hb
  subst this;exact absurd (Heap.lt_size e) (Nd _)
 ·exact h.elim
theorem K6 (K:Frag) (hc:X.calm=true:=by rfl) (hK:X.K=K:=by rfl):bn X (.builtin "any") (EO K):=by subst hK;exact uL hc
end
def Thg (H:Hp):V->Prop
 | .non=>True
 | .bl _=>True
 | .int _=>True
 | .str z=>z.length<=1000
 | .ref a=>(∃xs,H a=some (.lst xs))\/(∃xs,H a=some (.tup xs))\/(∃kvs,H a=some (.dK kvs))
 | _=>False
def ki (T:BT) (H:Hp):V->Bool
 | .bl _=>cL .bool T
 | .int _=>cL .int T
 | .str _=>cL .str T
 | .ref a=>match H a with
   | some (.lst _)=>cL .list T
   | some (.tup _)=>cL .tuple T
   | some (.dK _)=>cL .dict T
   | _=>false
 | _=>false
def tupOf (H:Hp):V->Option (List V)
 | .ref a=>match H a with
   | some (.tup xs)=>some xs
   | _=>none
 | _=>none
def lstOf (H:Hp):V->Option (List V)
 | .ref a=>match H a with
   | some (.lst xs)=>some xs
   | _=>none
 | _=>none
def dt (H:Hp):Nat->V->Prop
 | 0,v=>Thg H v
 | n+1,v=>Thg H v/\∀xs,(tupOf H v=some xs\/lstOf H v=some xs)->∀x∈xs,dt H n x
theorem dt.thg {H:Hp}{n:Nat}{v:V}(h:dt H n v):Thg H v:=by
 cases n with
 | zero=>exact h
 | succ n=>exact h.1
def uY:V->Bool
 | .int _=>true
 | _=>false
def amongB (v:V) (a b:Int):Bool:=match v with
 | .int i=>decide (a<=i/\i<=b)
 | _=>false
def wordB (v:V) (ws:List Str):Bool:=match v with
 | .str z=>decide (z∈ws)
 | _=>false
section
variable {K:Frag}{σ:St}{H H':Hp}{te ta tb:TE}{v:V}{T:BT}{ws:List Str}
theorem Thg.same (h:Thg H v) (s:ag H H'):Thg H' v:=by
 cases v with
 | ref a=>
   rcases h with ⟨xs,e⟩ | ⟨xs,e⟩ | ⟨xs,e⟩
   ·exact .inl ⟨xs,s _ _ e⟩
   ·exact .inr (.inl ⟨xs,s _ _ e⟩)
   ·exact .inr (.inr ⟨xs,s _ _ e⟩)
 | _=>exact h
theorem eU (h:Thg H v) (s:ag H H'):tupOf H' v=tupOf H v:=by
 cases v with
 | ref a=>
   rcases h with ⟨xs,e⟩ | ⟨xs,e⟩ | ⟨xs,e⟩<;>simp only [tupOf,e,s _ _ e]
 | _=>rfl
theorem gp (h:Thg H v) (s:ag H H'):lstOf H' v=lstOf H v:=by
 cases v with
 | ref a=>
   rcases h with ⟨xs,e⟩ | ⟨xs,e⟩ | ⟨xs,e⟩<;>simp only [lstOf,e,s _ _ e]
 | _=>rfl
theorem dt.same {n:Nat}:∀{v:V},dt H n v->ag H H'->dt H' n v:=by
 induction n with
 | zero=>intro v h s;exact Thg.same h s
 | succ n ih=>
   intro v h s;refine ⟨h.1.same s,λ xs hx x hm=>ih (h.2 xs ?_ x hm) s⟩;rw [eU h.1 s,gp h.1 s] at hx;exact hx
theorem ge {xs:List V}(h:tupOf H v=some xs):∃a,v=.ref a/\H a=some (.tup xs):=by
 cases v with
 | ref a=>
   simp only [tupOf] at h;split at h
   ·rename_i e;cases h;exact ⟨a,rfl,e⟩
   ·cases h
 | _=>cases h
theorem fb {xs:List V}(h:lstOf H v=some xs):∃a,v=.ref a/\H a=some (.lst xs):=by
 cases v with
 | ref a=>
   simp only [lstOf] at h;split at h
   ·rename_i e;cases h;exact ⟨a,rfl,e⟩
   ·cases h
 | _=>cases h
theorem lN (h:Ev te σ H v) (t:Thg H v):Ev (Dj T te) σ H (.bl (ki T H v)):=λ Q q=>h _ (by
 cases v with
 | ref a=>
   rcases t with ⟨xs,e⟩ | ⟨xs,e⟩ | ⟨xs,e⟩<;>(simp only [pW,e];simp only [ki,e] at q;exact q)
 | non=>exact q
 | bl b=>exact q
 | int b=>exact q
 | str b=>exact q
 | _=>exact t.elim)
theorem uX (t:Thg H v):(ki .int H v&& !ki .bool H v)=uY v:=by
 cases v with
 | ref a=>rcases t with ⟨xs,e⟩ | ⟨xs,e⟩ | ⟨xs,e⟩<;>(simp only [ki,e];rfl)
 | non=>rfl
 | bl b=>rfl
 | int b=>rfl
 | str b=>rfl
 | _=>exact t.elim
theorem vm (t:Thg H v):ki .str H v=(match v with | .str _=>true | _=>false):=by
 cases v with
 | ref a=>rcases t with ⟨xs,e⟩ | ⟨xs,e⟩ | ⟨xs,e⟩<;>(simp only [ki,e];rfl)
 | non=>rfl
 | bl b=>rfl
 | int b=>rfl
 | str b=>rfl
 | _=>exact t.elim
theorem Dw (t:Thg H v):ki .tuple H v=(tupOf H v).isSome:=by
 cases v with
 | ref a=>rcases t with ⟨xs,e⟩ | ⟨xs,e⟩ | ⟨xs,e⟩<;>(simp only [ki,tupOf,e];rfl)
 | non=>rfl
 | bl b=>rfl
 | int b=>rfl
 | str b=>rfl
 | _=>exact t.elim
theorem Ed (t:Thg H v):ki .list H v=(lstOf H v).isSome:=by
 cases v with
 | ref a=>rcases t with ⟨xs,e⟩ | ⟨xs,e⟩ | ⟨xs,e⟩<;>(simp only [ki,lstOf,e];rfl)
 | non=>rfl
 | bl b=>rfl
 | int b=>rfl
 | str b=>rfl
 | _=>exact t.elim
theorem wA (z:Str) (ws:List Str):Dc (.str z) (ws.map V.str)=decide (z∈ws):=by
 unfold Dc;rw [ML]
 by_cases h:z∈ws
 ·rw [decide_eq_true h];exact Ml.mpr ⟨z,h,by simp [eqV]⟩
 ·rw [decide_eq_false h];apply Mt.mpr;intro y hy;have:y≠z:=λ e=>h (e▸hy);simp [eqV,this]
theorem uy (ss:List Str):(ss.map V.str).all flatV=true:=LP.mpr λ x hx=>by obtain ⟨z,_,rfl⟩:=Lx.mp hx;rfl
theorem wV {z:Str}{p:Addr}(ha:Ev ta σ H (.str z)) (hb:Ev tb σ H (.ref p)) (h:aI K H p (ws.map V.str)\/cg K H p (ws.map V.str)):Ev (dI K .In ta tb) σ H (.bl (decide (z∈ws))):=λ Q q=>ha _ (hb _ (by
 show bb K .In (.str z) (.ref p) H Q;rw [iK];refine ⟨p,_,rfl,h,rfl,uy ws,?_⟩;rw [wA];exact q))
end
def sortsL:List Str:=["leap","slide","jump"]
def aimsL:List Str:=["go","hit","any"]
def d0:List Str:=["without","home"]
def bN:List Str:=["lost","even","won"]
def tupB (H:Hp) (v:V) (n:Int):Bool:=match tupOf H v with
 | some xs=>decide ((xs.length:Int)=n)
 | none=>false
def je (H:Hp) (v:V) (a b:Int):Bool:=match lstOf H v with
 | some xs=>decide (a<=(xs.length:Int)/\(xs.length:Int)<=b)
 | none=>false
def limS (so:Str):Int:=if so="leap" then 3 else 1
def js (so:Str) (x y:V):Bool:=amongB x (-limS so) (limS so)&&amongB y (-limS so) (limS so)&& !(decide (x=.int 0)&&decide (y=.int 0))
def ie (xs:List V) (ws:List Str):Bool:=match xs with
 | [k,.str so,.str ai,x,y]=>wordB k ws&&decide (so∈sortsL)&&decide (ai∈aimsL)&& !(decide (so="jump")&& !decide (ai="hit"))&&js so x y
 | _=>false
def dj (H:Hp) (v:V) (ws:List Str):Bool:=match tupOf H v with
 | some xs=>ie xs ws
 | none=>false
def oQ (xs:List V) (A B:List Str):Bool:=match xs with
 | [a,b]=>wordB a A&&wordB b B
 | _=>false
def dm (H:Hp) (v:V) (A B:List Str):Bool:=match tupOf H v with
 | some xs=>oQ xs A B
 | none=>false
def pairsB (H:Hp) (v:V) (A B:List Str):Bool:=match lstOf H v with
 | some vs=>decide (vs.length<=6)&&vs.all (λ x=>dm H x A B)
 | none=>false
def ck (H:Hp) (v:V):Str:=match tupOf H v with
 | some (.str a::_)=>a
 | _=>Str.empty
def fK (H:Hp) (v:V):Str:=match tupOf H v with
 | some (_:: .str b::_)=>b
 | _=>Str.empty
def eB (H:Hp) (v:V) (ws:List Str):Bool:=pairsB H v ws ws&&match lstOf H v with
 | some vs=> !(vs.any λ x=>decide (fK H x∈vs.map (ck H)))&&decide ((vs.map (ck H)).Nodup)
 | none=>false
def jX:Sp:=λ vs H Q _=> ∃v,vs=[v]/\Thg H v/\Q (.bl (uY v)) H
def jY:Sp:=λ vs H Q _=> ∃v a b,vs=[v,.int a,.int b]/\Thg H v/\Q (.bl (amongB v a b)) H
def fI (K:Frag) (H:Hp) (d:Addr) (ws:List Str):Prop:=aI K H d (ws.map V.str)\/cg K H d (ws.map V.str)
def fw (K:Frag):Sp:=λ vs H Q _=> ∃v d ws,vs=[v,.ref d]/\Thg H v/\fI K H d ws/\Q (.bl (wordB v ws)) H
def iZ:Sp:=λ vs H Q _=> ∃v n,vs=[v,.int n]/\Thg H v/\Q (.bl (tupB H v n)) H
def l8:Sp:=λ vs H Q _=> ∃v a b,vs=[v,.int a,.int b]/\Thg H v/\Q (.bl (je H v a b)) H
def rH:Sp:=λ vs H Q _=> ∃so x y,vs=[.str so,x,y]/\Thg H x/\Thg H y/\Q (.bl (js so x y)) H
def rJ (K:Frag):Sp:=λ vs H Q _=> ∃v d ws,vs=[v,.ref d]/\dt H 1 v/\fI K H d ws/\Q (.bl (dj H v ws)) H
def rM (K:Frag):Sp:=λ vs H Q _=> ∃v d e A B,vs=[v,.ref d,.ref e]/\dt H 1 v/\fI K H d A/\fI K H e B/\Q (.bl (dm H v A B)) H
def n4 (K:Frag):Sp:=λ vs H Q _=> ∃v d e A B,vs=[v,.ref d,.ref e]/\dt H 2 v/\fI K H d A/\fI K H e B/\∀H',ag H H'->Q (.bl (pairsB H v A B)) H'
def nV (K:Frag):Sp:=λ vs H Q _=> ∃v d ws,vs=[v,.ref d]/\dt H 2 v/\fI K H d ws/\∀H',ag H H'->Q (.bl (eB H v ws)) H'
def rP (K:Frag):Sp:=λ vs H Q _=> ∃v d ws,vs=[v,.ref d]/\dt H 2 v/\fI K H d ws/\∀H',ag H H'->Q (.bl (pairsB H v d0 ws)) H'
theorem xo {σ:St}{H:Hp}{Q:VK}{ta tb:TE}{a:Bool}(ha:Ev ta σ H (.bl a)) (h1:a=true->tb σ H Q) (h2:a=false->Q (.bl false) H):pL ta tb σ H Q:=ha _ (by
 cases a with
 | true=>exact h1 rfl
 | false=>exact h2 rfl)
theorem xb {K:Frag}{σ:St}{H:Hp}{Q:VK}{ta tb:TE}{op:CmpOp}(h:ta σ H λ x H1=>tb σ H1 λ y H2=>bb K op x y H2 Q):dI K op ta tb σ H Q:=h
theorem tX {H:Hp}{v:V}{A B:List Str}(h:pairsB H v A B=true):∃xs,lstOf H v=some xs/\xs.length<=6/\∀x∈xs,∃c f1 f2,x=.ref c/\H c=some (.tup [.str f1,.str f2]):=by
 unfold pairsB at h;cases e1:lstOf H v with
 | none=>rw [e1] at h;cases h
 | some xs=>
   rw [e1] at h;have h:(decide (xs.length<=6)&&xs.all (λ x=>dm H x A B))=true:=h;rw [Nu] at h;refine ⟨xs,rfl,of_decide_eq_true h.1,λ x hx=>?_⟩;have hp:=LP.mp h.2 x hx;unfold dm at hp;cases e2:tupOf H x with
   | none=>rw [e2] at hp;cases hp
   | some ys=>
     rw [e2] at hp;obtain ⟨c,rfl,hc⟩:=ge e2;have hp:oQ ys A B=true:=hp
     match ys,hp,hc with
     | [a,b],hp,hc=>
       have hp:(wordB a A&&wordB b B)=true:=hp;rw [Nu] at hp;cases a with
       | str f1=>
         cases b with
         | str f2=>exact ⟨c,f1,f2,rfl,hc⟩
         | _=>cases hp.2
       | _=>cases hp.1
     | [],hp,_=>cases hp
     | [_],hp,_=>cases hp
     | _::_::_::_,hp,_=>cases hp
structure RG0 (P:Program) (w:World) (K:Frag) (mg:Str->Option Value) (base:Heap):Prop where
 is_whole:eA P w K mg base "is_whole" ["thing"] 1 jX
structure RG1 (P:Program) (w:World) (K:Frag) (mg:Str->Option Value) (base:Heap):Prop where
 is_among:eA P w K mg base "is_among" ["thing","least","most"] 2 jY
structure RG2 (P:Program) (w:World) (K:Frag) (mg:Str->Option Value) (base:Heap):Prop where
 is_word:eA P w K mg base "is_word" ["thing","words"] 1 (fw K)
 is_tuple_of:eA P w K mg base "is_tuple_of" ["thing","many"] 1 iZ
structure RG3 (P:Program) (w:World) (K:Frag) (mg:Str->Option Value) (base:Heap):Prop extends RG2 P w K mg base where
 is_step:eA P w K mg base "is_step" ["sort","across","up"] 3 rH
structure RG4 (P:Program) (w:World) (K:Frag) (mg:Str->Option Value) (base:Heap):Prop where
 is_list_of:eA P w K mg base "is_list_of" ["thing","least","most"] 1 l8
 is_pair:eA P w K mg base "is_pair" ["thing","firsts","seconds"] 2 (rM K)
structure RG5 (P:Program) (w:World) (K:Frag) (mg:Str->Option Value) (base:Heap):Prop where
 are_pairs:eA P w K mg base "are_pairs" ["thing","firsts","seconds"] 3 (n4 K)
end L2
namespace L2
open PySem PySem.Spec PyProof.Rows
def letB:V->Bool
 | .str z=>match z.cps.toList with
   | [c]=>decide (97<=c/\c<=122)
   | _=>false
 | _=>false
def gK:V->Str
 | .str z=>z
 | _=>Str.empty
def jf (H:Hp) (v:V):Bool:=match lstOf H v with
 | some xs=>decide (1<=xs.length/\xs.length<=6)&&xs.all letB&&decide ((xs.map gK).Nodup)
 | none=>false
def dA (H:Hp) (v:V) (ws:List Str):Bool:=match lstOf H v with
 | some xs=>decide (xs.length<=24)&&xs.all (λ x=>dj H x ws)
 | none=>false
theorem Iq:("a":Str).cps.toList=[97]:=by decide+kernel
theorem Ip:("z":Str).cps.toList=[122]:=by decide+kernel
theorem Ec {c d:Nat}:([c]<[d])<->c<d:=by
 constructor
 ·intro h;cases h with
  | rel h=>exact h
  | cons h=>cases h
 ·intro h;exact List.Lex.rel h
theorem yS {K:Frag}{σ:St}{H:Hp}{ta tb tc:TE}{x y z:Str}(ha:Ev ta σ H (.str x)) (hb:Ev tb σ H (.str y)) (hc:Ev tc σ H (.str z)):Ev (jm K .LtE .LtE ta tb tc) σ H (.bl (!decide (y.cps.toList<x.cps.toList)&& !decide (z.cps.toList<y.cps.toList))):=λ Q q=>ha _ (hb _ (by
 show bb K .LtE (.str x) (.str y) H _;rw [lA,r_b];cases h: !decide (y.cps.toList<x.cps.toList) with
 | true=>
   rw [h] at q;exact hc _ q
 | false=>
   rw [h] at q;exact q))
def i6:Sp:=λ vs H Q _=> ∃v,vs=[v]/\Thg H v/\Q (.bl (letB v)) H
def oa:Sp:=λ vs H Q _=> ∃v,vs=[v]/\dt H 1 v/\∀H',ag H H'->Q (.bl (jf H v)) H'
def nY (K:Frag):Sp:=λ vs H Q _=> ∃v d ws,vs=[v,.ref d]/\dt H 2 v/\fI K H d ws/\∀H',ag H H'->Q (.bl (dA H v ws)) H'
theorem wc {v:V}(h:letB v=true):∃c,v=.str (one c)/\uS c:=by
 cases v with
 | str z=>
   match e:z.cps.toList with
   | [c]=>
     simp only [letB,e] at h;exact ⟨c,by rw [str_ext (x:=z) (y:=one c) (by rw [e])],of_decide_eq_true (p:=97<=c/\c<=122) h⟩
   | []=>simp only [letB,e] at h;cases h
   | _::_::_=>simp only [letB,e] at h;cases h
 | _=>cases h
structure xx (K:Frag) (C:Addr):Prop where
 cl:rA K C
 board:ce K C "board"
 kinds:ce K C "kinds"
 rules:ce K C "rules"
 turns:ce K C "turns"
 ends:ce K C "ends"
 stuck:ce K C "stuck"
def gf1 (b:Addr):List (Str×V):=putF "board" (.ref b) []
def gf2 (b k:Addr):List (Str×V):=putF "kinds" (.ref k) (gf1 b)
def gf3 (b k r:Addr):List (Str×V):=putF "rules" (.ref r) (gf2 b k)
def gf4 (b k r t:Addr):List (Str×V):=putF "turns" (.ref t) (gf3 b k r)
def yF (b k r t e:Addr):List (Str×V):=putF "ends" (.ref e) (gf4 b k r t)
def fX (b k r t e:Addr) (st:Str):List (Str×V):=putF "stuck" (.str st) (yF b k r t e)
section
variable {b k r t e:Addr}{st:Str}
theorem wH:(fX b k r t e st).lookup ("board":Str)=some (.ref b):=by unfold fX yF gf4 gf3 gf2 gf1;rw [aw,if_neg (by decide+kernel),aw,if_neg (by decide+kernel),aw,if_neg (by decide+kernel),aw,if_neg (by decide+kernel),aw,if_neg (by decide+kernel),aw,if_pos rfl]
theorem wG:(fX b k r t e st).lookup ("kinds":Str)=some (.ref k):=by unfold fX yF gf4 gf3 gf2;rw [aw,if_neg (by decide+kernel),aw,if_neg (by decide+kernel),aw,if_neg (by decide+kernel),aw,if_neg (by decide+kernel),aw,if_pos rfl]
theorem wF:(fX b k r t e st).lookup ("rules":Str)=some (.ref r):=by unfold fX yF gf4 gf3;rw [aw,if_neg (by decide+kernel),aw,if_neg (by decide+kernel),aw,if_neg (by decide+kernel),aw,if_pos rfl]
theorem wD:(fX b k r t e st).lookup ("turns":Str)=some (.ref t):=by unfold fX yF gf4;rw [aw,if_neg (by decide+kernel),aw,if_neg (by decide+kernel),aw,if_pos rfl]
theorem yE:(fX b k r t e st).lookup ("ends":Str)=some (.ref e):=by unfold fX yF;rw [aw,if_neg (by decide+kernel),aw,if_pos rfl]
theorem wE:(fX b k r t e st).lookup ("stuck":Str)=some (.str st):=by unfold fX;rw [aw,if_pos rfl]
theorem Ex:(gf1 b).length<=1/\(gf2 b k).length<=2/\(gf3 b k r).length<=3/\(gf4 b k r t).length<=4/\(yF b k r t e).length<=5:=by have a1:(gf1 b).length<=1:=bL "board" (.ref b) [];have a2:(gf2 b k).length<=(gf1 b).length+1:=bL "kinds" (.ref k) (gf1 b);have a3:(gf3 b k r).length<=(gf2 b k).length+1:=bL "rules" (.ref r) (gf2 b k);have a4:(gf4 b k r t).length<=(gf3 b k r).length+1:=bL "turns" (.ref t) (gf3 b k r);have a5:(yF b k r t e).length<=(gf4 b k r t).length+1:=bL "ends" (.ref e) (gf4 b k r t);omega
end
structure fo (C:Addr) (H:Hp) (p b:Addr) (ks rs ts es:List V) (st:Str):Prop where
 ex:∃dx kq rq tq eq,H p=some (.ins C dx (fX b kq rq tq eq st))/\H kq=some (.lst ks)/\H rq=some (.lst rs)/\H tq=some (.lst ts)/\H eq=some (.lst es)
section
variable {K:Frag}{C:Addr}{H H':Hp}{p b:Addr}{ks rs ts es:List V}{st:Str}
theorem fo.same (G:fo C H p b ks rs ts es st) (s:ag H H'):fo C H' p b ks rs ts es st:=by obtain ⟨dx,kq,rq,tq,eq,a,c,d,e,f⟩:=G.ex;exact ⟨dx,kq,rq,tq,eq,s _ _ a,s _ _ c,s _ _ d,s _ _ e,s _ _ f⟩
theorem fo.board (G:fo C H p b ks rs ts es st) (D:xx K C):Fl K H p "board" (.ref b):=by obtain ⟨dx,kq,rq,tq,eq,a,_⟩:=G.ex;exact ⟨C,dx,_,a,D.cl,D.board,wH⟩
theorem fo.kinds (G:fo C H p b ks rs ts es st) (D:xx K C):∃q,Fl K H p "kinds" (.ref q)/\H q=some (.lst ks):=by obtain ⟨dx,kq,rq,tq,eq,a,c,d,e,f⟩:=G.ex;exact ⟨kq,⟨C,dx,_,a,D.cl,D.kinds,wG⟩,c⟩
theorem fo.rules (G:fo C H p b ks rs ts es st) (D:xx K C):∃q,Fl K H p "rules" (.ref q)/\H q=some (.lst rs):=by obtain ⟨dx,kq,rq,tq,eq,a,c,d,e,f⟩:=G.ex;exact ⟨rq,⟨C,dx,_,a,D.cl,D.rules,wF⟩,d⟩
theorem fo.turns (G:fo C H p b ks rs ts es st) (D:xx K C):∃q,Fl K H p "turns" (.ref q)/\H q=some (.lst ts):=by obtain ⟨dx,kq,rq,tq,eq,a,c,d,e,f⟩:=G.ex;exact ⟨tq,⟨C,dx,_,a,D.cl,D.turns,wD⟩,e⟩
theorem fo.ends (G:fo C H p b ks rs ts es st) (D:xx K C):∃q,Fl K H p "ends" (.ref q)/\H q=some (.lst es):=by obtain ⟨dx,kq,rq,tq,eq,a,c,d,e,f⟩:=G.ex;exact ⟨eq,⟨C,dx,_,a,D.cl,D.ends,yE⟩,f⟩
theorem fo.stuck (G:fo C H p b ks rs ts es st) (D:xx K C):Fl K H p "stuck" (.str st):=by obtain ⟨dx,kq,rq,tq,eq,a,_⟩:=G.ex;exact ⟨C,dx,_,a,D.cl,D.stuck,wE⟩
end
section
variable {H H':Hp}{v:V}{A B ws:List Str}
theorem qw (t:Thg H v) (s:ag H H'):dm H' v A B=dm H v A B:=by unfold dm;rw [eU t s]
theorem qq (t:Thg H v) (s:ag H H'):dj H' v ws=dj H v ws:=by unfold dj;rw [eU t s]
theorem uw (t:Thg H v) (s:ag H H'):ck H' v=ck H v:=by unfold ck;rw [eU t s]
theorem tI (t:Thg H v) (s:ag H H'):fK H' v=fK H v:=by unfold fK;rw [eU t s]
theorem pQ {f g:V->Bool}{xs:List V}(h:∀x∈xs,f x=g x):xs.all f=xs.all g:=by
 induction xs with
 | nil=>rfl
 | cons a r ih=>rw [LY,LY,h a (by simp),ih λ x hx=>h x (by simp [hx])]
theorem xn {f g:V->Bool}{xs:List V}(h:∀x∈xs,f x=g x):xs.any f=xs.any g:=by
 induction xs with
 | nil=>rfl
 | cons a r ih=>rw [L9,L9,h a (by simp),ih λ x hx=>h x (by simp [hx])]
theorem jw (t:dt H 2 v) (s:ag H H'):pairsB H' v A B=pairsB H v A B:=by
 unfold pairsB;rw [gp t.1 s];cases e:lstOf H v with
 | none=>rfl
 | some xs=>
   show (_&&xs.all _)=(_&&xs.all _);rw [pQ (g:=λ x=>dm H x A B) λ x hx=>qw (t.2 xs (.inr e) x hx).thg s]
theorem oo (t:dt H 2 v) (s:ag H H'):dA H' v ws=dA H v ws:=by
 unfold dA;rw [gp t.1 s];cases e:lstOf H v with
 | none=>rfl
 | some xs=>
   show (_&&xs.all _)=(_&&xs.all _);rw [pQ (g:=λ x=>dj H x ws) λ x hx=>qq (t.2 xs (.inr e) x hx).thg s]
theorem nM (t:dt H 2 v) (s:ag H H'):eB H' v ws=eB H v ws:=by
 unfold eB;rw [jw t s,gp t.1 s];cases e:lstOf H v with
 | none=>rfl
 | some xs=>
   have tx:∀x∈xs,Thg H x:=λ x hx=>(t.2 xs (.inr e) x hx).thg;have em:xs.map (ck H')=xs.map (ck H):=Md λ x hx=>uw (tx x hx) s;show (_&&((!xs.any λ x=>decide (fK H' x∈xs.map (ck H')))&&decide ((xs.map (ck H')).Nodup)))=(_&&((!xs.any λ x=>decide (fK H x∈xs.map (ck H)))&&decide ((xs.map (ck H)).Nodup)));rw [em,xn (g:=λ x=>decide (fK H x∈xs.map (ck H))) λ x hx=>by rw [tI (tx x hx) s]]
end
def jP (K:Frag) (C:Addr):Sp:=λ vs H Q _=> ∃(p b kd rd td ed dx:Addr) (ws:List Str) (rs ts es:List V) (st:Str),vs=[.ref p,.ref b,.ref kd,.ref rd,.ref td,.ref ed,.str st]/\H p=some (.ins C dx [])/\H kd=some (.lst (ws.map V.str))/\H rd=some (.lst rs)/\H td=some (.lst ts)/\H ed=some (.lst es)/\
 dt H 1 (.ref kd)/\dt H 2 (.ref rd)/\dt H 2 (.ref td)/\dt H 2 (.ref ed)/\jf H (.ref kd)=true/\dA H (.ref rd) ws=true/\eB H (.ref td) ws=true/\pairsB H (.ref ed) d0 ws=true/\st∈bN/\st.length<=1000/\
 ∀H',fo C H' p b (ws.map V.str) rs ts es st->SameBut p H H'->Q .non H'
structure Lu (P:Program) (w:World) (K:Frag) (mg:Str->Option Value) (base:Heap):Prop where
 is_list_of:eA P w K mg base "is_list_of" ["thing","least","most"] 1 l8
 is_letter:eA P w K mg base "is_letter" ["thing"] 1 i6
 is_rule:eA P w K mg base "is_rule" ["thing","kinds"] 4 (rJ K)
structure GG2 (P:Program) (w:World) (K:Frag) (mg:Str->Option Value) (base:Heap):Prop where
 are_kinds:eA P w K mg base "are_kinds" ["thing"] 2 oa
 are_rules:eA P w K mg base "are_rules" ["thing","kinds"] 5 (nY K)
 is_turns:eA P w K mg base "is_turns" ["thing","kinds"] 4 (nV K)
 is_ends:eA P w K mg base "is_ends" ["thing","kinds"] 4 (rP K)
 is_word:eA P w K mg base "is_word" ["thing","words"] 1 (fw K)
theorem jO {K:Frag}{σ:St}{H:Hp}{to te:TE}{u:TS}{D:cM}{f:Str}{p C dx d:Addr}{fs:List (Str×V)}{xs:List V}(he:Ev te σ H (.ref d)) (hd:H d=some (.lst xs)) (ho:∀H',Ev to σ H' (.ref p)) (hp:H p=some (.ins C dx fs)) (hc:rA K C) (hn:ce K C f) (hl:fs.length<1000)
  (h2:∀q,H q=none->u D σ (upd (upd H q (.lst xs)) p (.ins C dx (putF f (.ref q) fs)))):bg (tL K to (cB (lE K) (bi te cn)) f) u D σ H:=
 he _ ⟨xs,.inl (aI.of hd),λ q hq=>ho _ _ ⟨p,C,dx,fs,rfl,by rw [ah (am hp hq)];exact hp,hc,hn,hl,h2 q hq⟩⟩
end L2
namespace L2
open PySem
theorem gc {N P:List Str}{sc:Scope}(a:sc.kind=.function:=by rfl) (b:sc.isCoroutine=false:=by rfl) (c:sc.isGenerator=false:=by rfl) (d:N.Nodup:=by decide+kernel) (e:N.take P.length=P:=by rfl) (f:∀x∈P,sc.names.lookup x=some .local\/sc.names.lookup x=some .cell:=by decide+kernel) (g:∀y∈sc.names,y.2≠.free:=by decide+kernel):aG N P sc:=⟨a,b,c,d,e,f,g⟩
end L2
namespace L2
open PySem PySem.Spec PyProof.Rows
def uO (H:Hp):V->Prop
 | .non=>True
 | .bl _=>True
 | .int _=>True
 | .str z=>z.length<=1000
 | .ref a=>(∃xs,H a=some (.lst xs))\/(∃xs,H a=some (.tup xs))
 | _=>False
def jp (H:Hp):Nat->V->Prop
 | 0,v=>uO H v
 | n+1,v=>uO H v/\∀xs,(tupOf H v=some xs\/lstOf H v=some xs)->∀x∈xs,jp H n x
theorem uO.thg {H:Hp}{v:V}(h:uO H v):Thg H v:=by
 cases v with
 | ref a=>
   rcases h with h | h
   ·exact .inl h
   ·exact .inr (.inl h)
 | _=>exact h
theorem jp.n {H:Hp}:∀{n:Nat}{v:V},jp H n v->dt H n v
 | 0,v,h=>uO.thg h
 | n+1,v,h=>⟨h.1.thg,λ xs hx x hm=>(h.2 xs hx x hm).n⟩
theorem jp.flat {H:Hp}{n:Nat}{v:V}(h:uO H v) (f:flatV v=true):jp H n v:=by
 cases n with
 | zero=>exact h
 | succ n=>
   refine ⟨h,λ xs hx=>?_⟩;cases v with
   | ref a=>cases f
   | _=>rcases hx with z | z<;>cases z
theorem jp.lst {H:Hp}{n:Nat}{a:Addr}{xs:List V}(h:H a=some (.lst xs)) (hx:∀x∈xs,jp H n x):jp H (n+1) (.ref a):=⟨.inl ⟨xs,h⟩,λ ys hy=>by
 rcases hy with z | z
 ·simp only [tupOf,h] at z;cases z
 ·simp only [lstOf,h] at z;cases z;exact hx⟩
theorem jp.tup {H:Hp}{n:Nat}{a:Addr}{xs:List V}(h:H a=some (.tup xs)) (hx:∀x∈xs,jp H n x):jp H (n+1) (.ref a):=⟨.inr ⟨xs,h⟩,λ ys hy=>by
 rcases hy with z | z
 ·simp only [tupOf,h] at z;cases z;exact hx
 ·simp only [lstOf,h] at z;cases z⟩
section
variable {X:Cx}{a b:Expr}{ta tb:TE}{pos:Pos}
end
section
variable {K:Frag}{σ:St}{H:Hp}{ta tb te:TE}{v:V}{z:Str}{d:Addr}{ws:List Str}{i j:Int}
end
end L2
namespace L2
open PySem PySem.Spec PyProof.Rows
def pk:V->Bool
 | .ref _=>true
 | _=>false
theorem fY {K:Frag}{H:Hp}{n:Nat}{x:V}(h:(flatV x||pk x)=true):lb K H n x x true:=by
 cases hf:flatV x with
 | true=>
   have:=lb.flat (K:=K) (H:=H) (n:=n) hf hf;rw [pz hf] at this;exact this
 | false=>
   cases x with
   | ref a=>exact .same
   | _=>first | (cases hf;done) | (rw [hf] at h;cases h)
theorem iR {K:Frag}{H:Hp}{n:Nat}{a b:Addr}{xs:List V}(ha:aI K H a xs) (hb:aI K H b xs) (hf:∀x∈xs,(flatV x||pk x)=true):pU K H (n+1) (.ref a) (.ref b) true:=by
 have h:=pU.lst (es:=λ _=>true) (n:=n) ha hb rfl (λ i x y hx hy=>by
  rw [hx] at hy;cases hy;exact fY (hf x (LM hx)))
 rw [show ((List.range xs.length).all λ _=>true)=true from LP.mpr λ _ _=>rfl] at h;exact h
section
variable {X:Cx}{a b:Expr}{ta tb:TE}{pos:Pos}
end
section
variable {X:Cx}{a b e o:Expr}{ta tb te to:TE}{pos p2:Pos}
theorem K0 (K:Frag) {lo hi:Option Expr}{tl th:TO}(he:PE X e te) (hl:PO X lo tl) (hu:PO X hi th) (hK:X.K=K:=by rfl):PE X (.Subscript e (.Slice lo hi none p2) pos) (KL (DP K) te tl th):=by subst hK;exact oO DC he hl hu
end
section
variable {K:Frag}{te to ta tb ti:TE}{u:TS}{D:cM}{σ:St}{H:Hp}{Q:VK}{v:V}
end
end L2
namespace L2
open PySem PySem.Spec PyProof.Rows
structure ZAp (z TI TO i1 i2:Addr):Prop where
 a:TI≠z
 b:TO≠z
 c:i1≠z
 d:i2≠z
 e:TI≠TO
 f:TO≠i1
 g:TO≠i2
 h:i1≠i2
 i:TI≠i1
 j:TI≠i2
section
variable {prog:Program}{w:World}{A:Around}{E:Value->Shared->Prop}{s:Shared}{z TI TO i1 i2:Addr}{n1 n2 i:Nat}{P1 P2:Nat->Value->Prop}{S1 S2:Nat->Heap->Prop}{a b:Value}
end
section
variable {prog:Program}{w:World}{A:Around}{E:Value->Shared->Prop}{s:Shared}
end
end L2
namespace L2
open PySem PySem.Spec PyProof.Rows
section
variable {X:Cx}{pins:List (Addr×Obj)}{σ:St}{H:Hp}{s:Shared}{h':Heap}
theorem aJ.turnedN {t':Nat}{fp:List Addr}(I:aJ X pins σ H s) (k:∀b ob,b∉fp->s.heap.get? b=some ob->h'.get? b=some ob) (hf:∀b∈fp,gH X pins H b):aJ X pins σ H {s with heap:=h',toks:=t'}:=by
 have nf:∀b u,H b=some u->b∉fp:=λ b u q z=>by rw [(hf b z).1] at q;cases q
 have nl:X.env.locals∉fp:=λ z=>(hf _ z).2.1 rfl;refine I.step (g':=s.gens) (d':=s.drawn) (ch:=fp) (λ b hb=>⟨(hf b hb).2.2.2.1,(hf b hb).2.1,(hf b hb).2.2.2.2.1,(hf b hb).2.2.2.2.2⟩) (λ b ob _ _ hc q _=>k b ob hc q) (λ b ob _ _ hc q _=>⟨ob.slots,k b ob hc q⟩)
  (λ _ _ _ _ n=>n) (λ b ob hc q=>⟨ob,k b ob hc q⟩) (λ _ _ q=>q) (λ _ _ _ q=>q) (λ b ps q=>⟨#[],by rw [q];simp⟩) (λ m hm=>?_) (λ b u q=>?_) I.bare
 ·obtain ⟨ob,es,ep,ho,r⟩:=hm;exact ⟨ob,es,ep,k _ ob nl ho,r⟩
 ·refine (I.hok b u q).stay (λ c v hc z=>k c v ?_ z) (λ c z=>z) λ c xs z=>z
  rcases hc with z | z
  ·rw [z];exact nf b u q
  ·exact nf c _ z
theorem aJ.turned_laidN {t':Nat}{fp:List Addr}{a:Addr}{o:HO}(I:aJ X pins σ H s) (k:∀b ob,b∉fp->s.heap.get? b=some ob->h'.get? b=some ob) (hf:∀b∈fp,gH X pins H b) (hp:s.heap.objs.size<=a) (new:bB X.prog X.w (upd H a o) h' a o):
  aJ X pins σ (upd H a o) {s with heap:=h',toks:=t'}:=by
 have hn:H a=none:=I.hok.fresh hp;have nf:∀b u,H b=some u->b∉fp:=λ b u q z=>by rw [(hf b z).1] at q;cases q
 have nl:X.env.locals∉fp:=λ z=>(hf _ z).2.1 rfl;refine I.step (g':=s.gens) (d':=s.drawn) (ch:=fp) (λ b hb=>⟨(hf b hb).2.2.2.1,(hf b hb).2.1,(hf b hb).2.2.2.2.1,(hf b hb).2.2.2.2.2⟩) (λ b ob _ _ hc q _=>k b ob hc q) (λ b ob _ _ hc q _=>⟨ob.slots,k b ob hc q⟩)
  (λ b ob hc q n=>by rw [ah (M8 (Na (Heap.lt_size q) hp))];exact n) (λ b ob hc q=>⟨ob,k b ob hc q⟩) (λ b xs q=>by rw [ah (am q hn)];exact q) (λ b ob u q=>by rw [ah (am q hn)];exact q)
  (λ b ps q=>⟨#[],by rw [ah (am q hn),q];simp⟩) (λ m hm=>?_) (λ b u q=>?_) I.bare
 ·obtain ⟨ob,es,ep,ho,r⟩:=hm;exact ⟨ob,es,ep,k _ ob nl ho,r⟩
 ·by_cases hb:b=a
  ·subst hb;rw [ae] at q;cases q;exact new
  ·rw [ah hb] at q;refine (I.hok b u q).stay (λ c v hc z=>k c v ?_ z) (λ c z=>by rw [ah (am z hn)];exact z) λ c xs z=>by rw [ah (am z hn)];exact z
   rcases hc with z | z
   ·rw [z];exact nf b u q
   ·exact nf c _ z
end
section
variable {X:Cx}{p pos pos2:Pos}{a b:Expr}{elts:List Expr}{k0:Nat}{ta tb:TE}
end
section
variable {K:Frag}{σ rest:St}{H:Hp}{t:TA}{te:TE}{src:List (Option Nat)}{Q:VK}{x y:Str}
end
section
variable {K:Frag}{te ta tb:TE}{t ta':TA}{c:TT}{u e t1:TS}{D:cM}{σ:St}{H:Hp}{Q:VK}{R:List V->Hp->Prop}{v:V}
theorem iF (P:St->Hp->Prop) (hu:∀σ' H',P σ' H'->u D σ' H') (h:(∀σ' H',P σ' H'->u D σ' H')->bg (lZ c t1 e) u D σ H):bg (lZ c t1 e) u D σ H:=h hu
theorem C8 {d:Addr}{ys:List V}(h:Ev te σ H (.ref d)) (hd:aI K H d ys\/cg K H d ys) (q:∀l,H l=none->Q (.ref l) (upd H l (.lst ys))):cB (lE K) (bi te cn) σ H Q:=h _ ⟨ys,hd,q⟩
theorem iA {i:Nat}(h:te σ H (λ v H'=>D.nx (σ.set i (some v)) H')):tAsg te (gName i) D σ H:=h
theorem ay (h:Ev te σ H v) (q:ta' σ H (λ xs H2=>R (v::xs) H2)):bi te ta' σ H R:=h _ q
theorem bR (h:te σ H (λ x H1=>ta' σ H1 (λ xs H2=>R (x::xs) H2))):bi te ta' σ H R:=h
theorem bZ (q:R [] H):cn σ H R:=q
theorem fV (q:t σ H (λ vs H2=>vs.length<=sizeLine/\∀p,H2 p=none->Q (.ref p) (upd H2 p (.lst vs)))):qf t σ H Q:=q
theorem jD (h:ta σ H λ x H1=>tb σ H1 λ y H2=>iV .Add x y H2 Q):kx .Add ta tb σ H Q:=h
theorem hG {a b:Addr}{xs ys:List V}(ha:H a=some (.lst xs)) (hb:H b=some (.lst ys)) (hz:xs.length+ys.length<=1000) (q:∀p,H p=none->Q (.ref p) (upd H p (.lst (xs++ys)))):iV .Add (.ref a) (.ref b) H Q:=by rw [vO];exact ⟨a,b,xs,ys,rfl,rfl,ha,hb,M7 hz (by decide),q⟩
end
theorem D8 {a b:Nat}:(one a=one b)<->a=b:=by
 constructor
 ·intro h;have h:(one a).cps.toList=(one b).cps.toList:=by rw [h]
  have h:[a]=[b]:=h;injection h
 ·intro h;rw [h]
end L2
namespace L2
open PySem PySem.Spec PyProof.Rows
section
variable {X:Cx}
end
end L2
namespace L2
open PySem PySem.Spec PyProof.Rows
section
variable {X:Cx}{a e:Expr}{ta te tb:TE}{p p2 pos:Pos}
end
section
variable {K:Frag}{σ:St}{H:Hp}{ta tb te to:TE}{Q:VK}{i j:Int}
end
section
variable {K:Frag}{σ:St}{H:Hp}{ta tb te to:TE}{Q:VK}{c:TT}{t e:TS}{D:cM}
theorem sK {i:Int}(ha:Ev ta σ H (.int i)) (h:i.natAbs.log2<1920):Ev (cB tH (bi ta cn)) σ H (.str (toString i)):=λ Q q=>ha _ ⟨h,q⟩
end
section
variable {K:Frag}{ta:TA}{te tl:TE}{src:List (Option Nat)}{σ rest:St}{H:Hp}{Q:VK}
end
end L2
namespace L2
open PySem PySem.Spec PyProof.Rows
section
variable {X:Cx}{pins:List (Addr×Obj)}{σ:St}{H H':Hp}{s s':Shared}
end
section
variable {X:Cx}{e:Expr}{es:List Expr}{ta:TA}{ts:TS}{p pos bpos np hpos tpos:Pos}{sp:Sp}{k j i:Nat}{name xc n:Str}{ps:List Str}{C0:Addr}{b₀:Stmt}{suite:List Stmt}
end
end L2
namespace PySem.W
open PySem PySem.Spec PySem.Calls PyProof.Rows Builtin Builtin.ObjectAttr Builtin.Getset_descriptor
section
variable {prog:Program}{w:World}{A:Around}{E:Value->Shared->Prop}{s:Shared}{K:Frag}{x D:Addr}{o:Obj}
end
end PySem.W
namespace L2
open PySem PySem.Spec PyProof.Rows
section
variable {X:Cx}{a b e o:Expr}{ta tb te to:TE}{p pos:Pos}{es:List Expr}{t:TA}
end
end L2
namespace L2
open PySem
section
variable {M:Model}{A:Around}{E:Value->Shared->Prop}{s:Shared}{base:Heap}{env:Env}{outer:List Env}{L e:Addr}{Q:Unit->Shared->Prop}
end
section
variable {prog:Program}{w:World}{A:Around}{E:Value->Shared->Prop}{s:Shared}
end
end L2
namespace PySem
end PySem
namespace L2
open PySem PySem.Spec PyProof.Rows
section
variable {prog:Program}{w:World}{A:Around}{E:Value->Shared->Prop}{s:Shared}
end
section
variable {M:Model}{A:Around}{E:Value->Shared->Prop}{s:Shared}{base:Heap}{env:Env}{outer:List Env}{L e:Addr}{cls a0:Value}{Q:Unit->Shared->Prop}
end
section
variable {X:Cx}{pins:List (Addr×Obj)}{σ:St}{H H':Hp}{s s':Shared}
end
section
variable {X:Cx}{e:Expr}{es:List Expr}{ta:TA}{ts:Addr->TS}{p pos bpos np hpos tpos:Pos}{sp:Sp}{k j i:Nat}{name xc n:Str}{ps:List Str}{C0:Addr}{b₀:Stmt}{suite:List Stmt}
end
end L2
namespace L2
open PySem PySem.Spec PyProof.Rows
section
variable {X:Cx}{a b e o:Expr}{ta tb te to:TE}{p pos:Pos}{es:List Expr}{t:TA}
end
section
variable {X:Cx}{e:Expr}{es:List Expr}{ta:TA}{ts:Addr->TS}{p pos bpos np hpos tpos:Pos}{sp:Sp}{k j i:Nat}{name xc n:Str}{ps:List Str}{C C0:Addr}{b₀:Stmt}{suite:List Stmt}
end
section
variable {K:Frag}{C C0 ea:Addr}{sp:Sp}{i:Nat}{ta t:TA}{ts:Addr->TS}{u:TS}{D:cM}{σ:St}{H:Hp}{Q:VK}{vs:List V}
end
end L2
namespace L2
open PySem PySem.Spec PyProof.Rows
section
variable {prog:Program}{w:World}{A:Around}{E:Value->Shared->Prop}{s:Shared}
variable {K:Type} [DecidableEq K] {knd:KeyKind prog w K}
end
end L2
namespace L2
open PySem
end L2
namespace L2
open PySem
def lp (mask:Nat) (h:Int):Nat->Nat×Nat
 | 0=>(SetTable.bits h % (mask+1),SetTable.bits h)
 | n+1=>SetTable.leap mask (lp mask h n).1 (lp mask h n).2
end L2
namespace L2
open PySem
def sl (mask:Nat) (h:Int) (n c:Nat):Nat:=(lp mask h n).1+c
end L2
namespace L2
open PySem
end L2
namespace L2
open PySem
end L2
namespace L2
open PySem
end L2
namespace L2
open PySem
section
variable {M:Model}{prog:Program}{w:World}{A:Around}{E:Value->Shared->Prop}{s:Shared}
end
section
variable {prog:Program}{w:World}{A:Around}{E:Value->Shared->Prop}{s:Shared}
end
end L2
namespace L2
open PySem
section
variable {prog:Program}{w:World}{A:Around}{E:Value->Shared->Prop}{s:Shared}
end
end L2
namespace L2
open PySem
section
variable {prog:Program}{w:World}
end
section
variable {prog:Program}{w:World}{A:Around}{E:Value->Shared->Prop}
end
section
variable {prog:Program}{w:World}{A:Around}{E:Value->Shared->Prop}{s:Shared}
end
end L2
namespace L2
open PySem
section
variable {prog:Program}{w:World}{A:Around}{E:Value->Shared->Prop}{s:Shared}
end
section
variable {prog:Program}{w:World}{κ:Type} [DecidableEq κ] {knd:KeyKind prog w κ}{A:Around}{E:Value->Shared->Prop}{s:Shared}
end
end L2
namespace L2
open PySem
section
variable {prog:Program}{w:World}{A:Around}{E:Value->Shared->Prop}{s:Shared}
end
end L2
namespace L2
open PySem
section
variable {prog:Program}{w:World}{A:Around}{E:Value->Shared->Prop}{s:Shared}
end
end L2
namespace L2
open PySem PySem.Spec PyProof.Rows
section
variable {prog:Program}{w:World}{A:Around}{R:Result->Shared->Prop}{I:Addr}{fp wr:List Addr}{G:Array GenState->Array GenState->Prop}{n:Nat}{Pt:Nat->Value->Prop}{St:Nat->Shared->Prop}{κ:Type} [DecidableEq κ] {knd:KeyKind prog w κ}
end
section
variable {prog:Program}{w:World}{A:Around}{E:Value->Shared->Prop}{s:Shared}{κ:Type} [DecidableEq κ] {knd:KeyKind prog w κ}
end
end L2
namespace L2
open PySem PySem.Spec PyProof.Rows
section
variable {prog:Program}{w:World}{A:Around}{R:Result->Shared->Prop}{I:Addr}{fp wr:List Addr}{G:Array GenState->Array GenState->Prop}{n:Nat}{Pt:Nat->Value->Prop}{St:Nat->Shared->Prop}
end
section
variable {prog:Program}{w:World}{A:Around}{E:Value->Shared->Prop}{s:Shared}
end
end L2
namespace L2
open PySem PySem.W PyProof.Rows
structure Lp (n:Nat) (lt:Nat->Nat->Bool):Prop where
 tr:∀a b c,a<n->b<n->c<n->lt a b=true->lt b c=true->lt a c=true
 as:∀a b,a<n->b<n->lt a b=true->lt b a=false
 tt:∀a b,a<n->b<n->a≠b->lt a b=false->lt b a=true
section
variable {n:Nat}{lt:Nat->Nat->Bool}{s:Shared}{cmp:Nat->Nat->(Bool->Shared->Prop)->Shared->Prop}(O:Lp n lt) (hc:∀i j (C:Bool->Shared->Prop),i<n->j<n->C (lt i j) s->cmp i j C s)
include O hc
omit O hc in
theorem KW {p q:Array Nat}{n:Nat}(h:p.toList.Perm (List.range n)) (e:q.Perm p):q.toList.Perm (List.range n):=(Array.perm_iff_toList_perm.mp e).trans h
end
end L2
namespace L2
open PySem PySem.W PySem.Calls PyProof.Rows
section
variable {prog:Program}{w:World}{A:Around}{E:Value->Shared->Prop}{s:Shared}
end
end L2
namespace L2
open PySem PySem.Spec PyProof.Rows
section
variable {prog:Program}{w:World}{A:Around}{E:Value->Shared->Prop}{s:Shared}
end
end L2
namespace L2
open PySem PySem.Spec PyProof.Rows
section
variable {X:Cx}
end
section
variable {P:Program}{w:World}{K:Frag}{σ:St}{H:Hp}{Q:VK}{te:TE}
end
end L2
namespace L2
open PySem PySem.Spec PyProof.Rows
section
variable {X:Cx}{a b:Expr}{ta tb:TE}{pos:Pos}
end
section
variable {K:Frag}{σ:St}{H:Hp}{ta tb:TE}{x y:V}{k:Bool}{Q:VK}
end
theorem jz {X:Cx}{o i:Expr}{pos:Pos}{td ty:TE}(hu:X.A.units+20<cLine) (ho:PE X o td) (hi:PE X i ty) (hs:y6 i:=by exact λ _ _=>rfl):PE X (.Subscript o i pos) (vi td ty):=x4 (by omega) ho hi hs
section
variable {K:Frag}{σ:St}{H:Hp}{Q:VK}
end
end L2
namespace L2
open PySem PySem.W PySem.Calls PySem.Spec PyProof.Rows
section
variable {prog:Program}{w:World}{A:Around}{E:Value->Shared->Prop}{s:Shared}
end
end L2
namespace L2
open PySem PySem.W PySem.Calls PySem.Spec PyProof.Rows
section
variable {prog:Program}{w:World}{A:Around}{E:Value->Shared->Prop}{s:Shared}
end
end L2
namespace L2
open PySem PySem.W PySem.Calls PySem.Spec PyProof.Rows
section
variable {X:Cx}
end
end L2
namespace L2
open PySem PySem.Spec PyProof.Rows
section
variable {X:Cx}{a b c e o:Expr}{ta tb tc te to:TE}{p p2 pos:Pos}{es:List Expr}{t:TA}
def EI (to te:TE):TE:=λ σ H Q=>to σ H λ x H1=>match x with
 | .ref l=>(∃xs,H1 l=some (.lst xs))/\te σ H1 λ y H2=> ∃b xs zs,y=.ref b/\H2 l=some (.lst xs)/\H2 b=some (.lst zs)/\xs.length+zs.length<=sizeLine/\Q .non (upd H2 l (.lst (xs++zs)))
 | _=>False
theorem kr {apos cpos:Pos}(ho:PE X o to) (he:PE X e te) (hbase:attributeBase o "extend" X.env (eval o X.env)=eval o X.env:=by rfl)
  (hfew:((backTo cpos (starEach [e] X.env)).all (λ x=> !x.1)&&(backToKw cpos (keywordEach [] X.env)).all (λ x=>x.1.isSome)
   &&decide ([e].length+([]:List Keyword).length+(if ([]:List Keyword).isEmpty then 0 else 1)<30))=true:=by rfl)
  (hline:(apos.endLine == cpos.line)=true:=by rfl) (hs:starEach [e] X.env=(false,eval e X.env)::starEach [] X.env:=by rfl) (hplain:(backTo cpos (starEach [] X.env)).any (·.1)=false:=by rfl):
  PE X (.Call (.Attribute o "extend" apos) [e] [] cpos) (EI to te):=by
 intro pins s σ H Q I h;refine wpAny_Call_method_late hbase hfew hline rfl (bJ (ho pins s σ H _ I h) λ v s1 ⟨x,H1,I1,r1,q1⟩=>?_);cases x with
 | ref l=>
   obtain ⟨⟨xs0,e0⟩,q1⟩:=q1;have ty:Dt X.K "list" (.ref l) H1:=.inl ⟨rfl,xs0,aI.of e0⟩;obtain ⟨h1,h2⟩:=iY I1 r1 ty;refine ⟨"list","list.extend",PySem.F.plainAttrs_list,PySem.F.slot_list_extend,PySem.F.type_list_extend,h1,h2,?_⟩;have hA:=(pa_cons he pa_nil hs:PA X [e] (bi te cn)) cpos pins s1 σ H1 (λ vs H2=>jQ (.ref l) vs H2 Q) I1 (by
    show te σ H1 λ y H2=>jQ (.ref l) [y] H2 Q;have:(λ (y:V) (H2:Hp)=> ∃b xs zs,y=.ref b/\H2 l=some (.lst xs)/\H2 b=some (.lst zs)/\xs.length+zs.length<=sizeLine/\Q .non (upd H2 l (.lst (xs++zs))))=λ y H2=>jQ (.ref l) [y] H2 Q:=by
     funext y H2;apply propext
     constructor
     ·rintro ⟨b,xs,zs,rfl,z⟩;exact ⟨l,b,xs,zs,rfl,rfl,z⟩
     ·rintro ⟨l',b,xs,zs,e1,e2,z⟩;cases e1;have:y=.ref b:=by injection e2
      exact ⟨b,xs,zs,this,z⟩
    rw [<-this];exact q1)
   rw [hs] at hA ⊢;refine Calls.callWith_builtin (by show (false||(backTo cpos (starEach [] X.env)).any (·.1))=false;rw [hplain]<;>rfl) (Calls.evalArgs_plain ?_)
   exact bJ hA λ us s2 ⟨vs,H2,I2,r2,q3⟩=>ud pins s2 σ H2 _ vs v us Q I2 r1 r2 q3
 | _=>exact q1.elim
end
section
variable {P:Program}{w:World}{K:Frag}{σ:St}{H:Hp}{Q:VK}{te to:TE}{D:cM}{u:TS}
end
end L2
namespace L2
open PySem PySem.Spec PyProof.Rows
section
variable {K:Frag}{c:Nat}{H:Hp}{Q:VK}
end
theorem vf {t:TT}{ta tb:TE}{σ:St}{H:Hp}{Q:VK}{b:Bool}(hc:Tv t σ H b) (h1:b=true->ta σ H Q) (h2:b=false->tb σ H Q):EY t ta tb σ H Q:=hc _ (by
 cases b with
 | true=>exact ji (h1 rfl)
 | false=>exact jj (h2 rfl))
structure aK where
 kd:Str
 so:Str
 ai:Str
 ax:Int
 up:Int
abbrev aK.vs (r:aK):List V:=[.str r.kd,.str r.so,.str r.ai,.int r.ax,.int r.up]
abbrev aK.dy (r:aK) (sd:Int):Int:=if sd=0 then r.up else -r.up
end L2
namespace L2
open PySem PySem.Spec PyProof.Rows
def fC (H:Hp) (us:List (aK×Addr)):Prop:= ∀z∈us,H z.2=some (.tup z.1.vs)
theorem fC.same {H H':Hp}{us:List (aK×Addr)}(h:fC H us) (s:ag H H'):fC H' us:=λ z hz=>s _ _ (h z hz)
abbrev dZ (us:List (aK×Addr)):List V:=us.map λ z=>V.ref z.2
theorem Jr {to te:TE}{σ:St}{H:Hp}{D:cM}{l:Addr}{xs:List V}(ho:Ev to σ H (.ref l)) (hl:H l=some (.lst xs)) (q:te σ H λ y H2=> ∃b xs zs,y=.ref b/\H2 l=some (.lst xs)/\H2 b=some (.lst zs)/\xs.length+zs.length<=sizeLine/\D.nx σ (upd H2 l (.lst (xs++zs)))):hZ (EI to te) D σ H:=ho _ ⟨⟨xs,hl⟩,q⟩
end L2
namespace L2
open PySem PySem.Spec PyProof.Rows
structure fE (H:Hp) (d:Addr) (ks:List Nat):Prop where
 at_:H d=some (.lst (ks.map cj))
 ltr:∀k∈ks,uS k
 l1:1<=ks.length
 l6:ks.length<=6
 nd:ks.Nodup
theorem fE.same {H H':Hp}{d:Addr}{ks:List Nat}(h:fE H d ks) (s:ag H H'):fE H' d ks:=⟨s _ _ h.at_,h.ltr,h.l1,h.l6,h.nd⟩
theorem rZ {ss:List Str}{i:Int}(h0:0<=i) (h1:i<ss.length):∃s,kA (ss.map V.str) i=some (.str s)/\s∈ss:=by obtain ⟨v,e1,e2⟩:=C6 (xs:=ss.map V.str) h0 (by rw [Lv];exact h1);obtain ⟨s,hs,rfl⟩:=Lx.mp e2;exact ⟨s,e1,hs⟩
theorem fE.pick {H:Hp}{d:Addr}{ks:List Nat}(h:fE H d ks) (i:Int):∃k∈ks,kA (ks.map cj) (i % ((ks.map cj).length:Int))=some (cj k):=by
 have hl:(0:Int)<((ks.map cj).length:Int):=by rw [Lv];have:=h.l1;omega
 obtain ⟨v,e1,e2⟩:=C6 (xs:=ks.map cj) (Nn i (by omega)) (No i hl);obtain ⟨k,hk,rfl⟩:=Lx.mp e2;exact ⟨k,hk,e1⟩
theorem xF {t:TA}{σ:St}{H:Hp}{Q:VK}(q:t σ H (λ vs H2=>vs.length<=sizeLine/\∀p,H2 p=none->Q (.ref p) (upd H2 p (.tup vs)))):tF t σ H Q:=q
structure fG (ks:List Nat) (u:aK):Prop where
 kd:∃c∈ks,u.kd=one c
 so:u.so∈sortsL
 ai:u.ai∈aimsL
 jh:u.so="jump"->u.ai="hit"
 ax: -(if u.so="leap" then 3 else 1)<=u.ax/\u.ax<=(if u.so="leap" then 3 else 1)
 up: -(if u.so="leap" then 3 else 1)<=u.up/\u.up<=(if u.so="leap" then 3 else 1)
 n0:¬(u.ax=0/\u.up=0)
def rO:Sp:=λ vs H Q _=> ∃(c:Int) (d:Addr) (ks:List Nat),vs=[.int c,.ref d]/\fE H d ks/\∀(t:Addr) (u:aK) (H':Hp),fG ks u->H t=none->H' t=some (.tup u.vs)->ag H H'->Q (.ref t) H'
theorem lQ {ta:TA}{te:TE}{src:List (Option Nat)}{σ rest:St}{H:Hp}{Q:VK}{n:Int}(hl:∀Q':List V->Hp->Prop,(∀H',ag H H'->Q' [.int n] H')->ta σ H Q') (h0:0<=n) (h1:n<=1000) (hs:eJ src σ=none::rest) (R:Nat->Hp->V->Prop) (hR:∀i H H' v,R i H v->ag H H'->R i H' v)
  (he:∀(i:Nat) H',i<n.toNat->ag H H'->∀Q:VK,(∀v H2,R i H2 v->ag H' H2->Q v H2)->te (some (.int (0+(i:Int)))::rest) H' Q)
  (q:∀d H' ys,ag H H'->H' d=none->ys.length=n.toNat->(∀i y,ys[i]? =some y->R i H' y)->Q (.ref d) (upd H' d (.lst ys))):tComp (lL ta) (gName 0) da te src σ H Q:=by
 refine hl _ λ H0 s0=>⟨n,rfl,by omega,by omega,?_⟩;refine iT n.toNat (λ i ys σ' H'=>ag H H'/\(∃v,σ'=v::rest)/\ys.length=i/\∀j y,ys[j]? =some y->R j H' y) (by rw [sizeLine_eq];omega)
  (λ i ys σ H h=>Ng h.2.2.1) (λ i ys σ H _ hi=>hi) (λ ys σ H _=>M6 _) ⟨s0,⟨none,hs⟩,rfl,λ j y hy=>by simp at hy⟩ ?_ ?_
 ·rintro i ys _ H1 x H2 hi ⟨s1,⟨v0,rfl⟩,hl,hy⟩ ⟨rfl,rfl⟩ Kt Kf ht hf;simp only [gName,da,Mm,if_true];exact (he i _ hi s1 _ λ v H2 rv s2=>ht _ _ _ ⟨s1.trans s2,⟨_,rfl⟩,by rw [Lz,hl];rfl,λ j y hm=>by
   by_cases hj:j<ys.length
   ·rw [ME hj] at hm;exact hR _ _ _ _ (hy j y hm) s2
   ·rw [MD (by omega)] at hm;have e0:j - ys.length=0:=by have:=(LI.mp hm).1;simp at this;exact this
    rw [e0] at hm;have:v=y:=by simpa using hm
    subst this;have:j=i:=by omega
    subst this;exact rv⟩)
 ·rintro ys _ H1 dd ⟨s1,_,hl,hy⟩ hd;exact q dd H1 ys s1 hd hl hy
def dJ (H:Hp) (zs:List ((Str×Str)×Addr)):Prop:= ∀z∈zs,H z.2=some (.tup [.str z.1.1,.str z.1.2])
theorem dJ.same {H H':Hp}{zs:List ((Str×Str)×Addr)}(h:dJ H zs) (s:ag H H'):dJ H' zs:=λ z hz=>s _ _ (h z hz)
abbrev bv (zs:List ((Str×Str)×Addr)):List V:=zs.map λ z=>V.ref z.2
structure pT (ks:List Nat) (zs:List ((Str×Str)×Addr)):Prop where
 len:zs.length<=6
 kd:∀z∈zs,(∃a∈ks,z.1.1=one a)/\∃b∈ks,z.1.2=one b
 nd:(zs.map λ z=>z.1.1).Nodup
 ap:∀z∈zs,∀y∈zs,¬z.1.2=y.1.1
theorem se {a b:Nat}(h:one a=one b):a=b:=by unfold one at h;simp only [Str.mk.injEq] at h;have:=congrArg Array.toList h;simpa using this
theorem rX {H:Hp}(F:Nat->Str×Str):∀(ys:List V) (o:Nat),(∀i y,ys[i]? =some y->∃a,y=.ref a/\H a=some (.tup [.str (F (o+i)).1,.str (F (o+i)).2]))->∃zs:List ((Str×Str)×Addr),ys=bv zs/\dJ H zs/\zs.length=ys.length/\∀i z,zs[i]? =some z->z.1=F (o+i)
 | [],o,_=>⟨[],rfl,λ _ z=>(nomatch z),rfl,λ i z h=>by simp at h⟩
 | y::ys,o,h=>by
   obtain ⟨a,rfl,ha⟩:=h 0 y rfl;obtain ⟨zs,rfl,h1,h2,h3⟩:=rX F ys (o+1) λ i y hy=>by obtain ⟨a,e1,e2⟩:=h (i+1) y (by simpa using hy);exact ⟨a,e1,by rw [show o+1+i=o+(i+1) by omega];exact e2⟩
   refine ⟨(F o,a)::zs,rfl,λ z hz=>?_,by simp,λ i z hz=>?_⟩
   ·rcases Lw.mp hz with rfl | hz
    ·exact ha
    ·exact h1 z hz
   ·cases i with
    | zero=>
      have:(F o,a)=z:=by simpa using hz
      rw [<-this];rfl
    | succ i=>
      rw [h3 i z (by simpa using hz),show o+1+i=o+(i+1) by omega]
end L2
namespace L2
open PySem PySem.W PySem.Calls PySem.Spec PyProof.Rows
section
variable {X:Cx}
end
end L2
namespace L2
open PySem PySem.W PySem.Calls PySem.Spec PyProof.Rows
end L2
namespace L2
open PySem PySem.Spec PyProof.Rows
theorem eT {H H1 H':Hp}{x dx:Addr}{o1 o2:HO}(s:ag H H1) (nx:H1 x=none) (nd:H1 dx=none) (sb:SameBut x (upd (upd H1 dx o1) x o2) H'):ag H H':=λ b o e=>by have e1:=s b o e;have nbx:=am e1 nx;have nbd:=am e1 nd;exact sb b o (by rw [ah nbx,ah nbd];exact e1) nbx
theorem lG {H:Hp}{q:Addr}{ks:List Nat}(h:H q=some (.lst (ks.map cj))) (hl:∀k∈ks,uS k) (nd:ks.Nodup) (k1:1<=ks.length) (k6:ks.length<=6):jf H (.ref q)=true:=by
 have e:lstOf H (.ref q)=some (ks.map cj):=by simp only [lstOf,h]
 unfold jf;rw [e];dsimp only;rw [Lv,decide_eq_true ⟨k1,k6⟩,Nx,Nu];refine ⟨LP.mpr λ x hx=>?_,decide_eq_true ?_⟩
 ·obtain ⟨k,hk,rfl⟩:=Lx.mp hx;exact decide_eq_true (p:=97<=k/\k<=122) (hl k hk)
 ·rw [LC];exact Mx.mpr (nd.imp λ hab e=>hab (D8.mp e))
theorem eA.imp {P:Program}{w:World}{K:Frag}{mg:Str->Option Value}{base:Heap}{name:Str}{ps:List Str}{k:Nat}{sp sp':Sp}(C:eA P w K mg base name ps k sp) (h:∀vs H Q E,sp' vs H Q E->sp vs H Q E):eA P w K mg base name ps k sp':=by obtain ⟨f,fd,F,a,b,c⟩:=C.ex;exact ⟨f,fd,F.imp h,a,b,c⟩
theorem EQ {P:Program}{w:World}{K:Frag}{mg:Str->Option Value}{base:Heap}(C:eA P w K mg base "is_among" ["thing","least","most"] 2 jY):eA P w K mg base "is_among" ["thing","least","most"] 2 C2:=eA.imp C λ vs H Q E h=>by obtain ⟨t,a,b,rfl,q⟩:=h;exact ⟨.int t,a,b,rfl,trivial,q⟩
theorem yD {ks:List Nat}{u:aK}(g:fG ks u):ie u.vs (ks.map one)=true:=by
 obtain ⟨c,hc,e⟩:=g.kd;show (wordB (.str u.kd) (ks.map one)&&decide (u.so∈sortsL)&&decide (u.ai∈aimsL)&& !(decide (u.so="jump")&& !decide (u.ai="hit"))&&js u.so (.int u.ax) (.int u.up))=true;have h1:wordB (.str u.kd) (ks.map one)=true:=decide_eq_true (Lx.mpr ⟨c,hc,e.symm⟩);have h2:(!(decide (u.so="jump")&& !decide (u.ai="hit")))=true:=by
  by_cases z:u.so="jump"
  ·rw [g.jh z];simp
  ·simp [z]
 have h3:js u.so (.int u.ax) (.int u.up)=true:=by
  have a:=g.ax;have b:=g.up;have n:=g.n0;unfold js amongB limS;have e1:decide (-(if u.so="leap" then (3:Int) else 1)<=u.ax/\u.ax<=if u.so="leap" then 3 else 1)=true:=decide_eq_true a;have e2:decide (-(if u.so="leap" then (3:Int) else 1)<=u.up/\u.up<=if u.so="leap" then 3 else 1)=true:=decide_eq_true b;dsimp only;rw [e1,e2]
  by_cases z:u.ax=0
  ·have z2:¬u.up=0:=λ w=>n ⟨z,w⟩;simp [z,z2]
  ·simp [z]
 rw [h1,decide_eq_true g.so,decide_eq_true g.ai,h2,h3];rfl
theorem kc {H:Hp}{a:Addr}{xs:List V}(h:H a=some (.lst xs)):lstOf H (.ref a)=some xs:=by simp only [lstOf,h]
theorem lY {H:Hp}{a:Addr}{xs:List V}(h:H a=some (.tup xs)):tupOf H (.ref a)=some xs:=by simp only [tupOf,h]
theorem ly {H:Hp}{d:Addr}{us:List (aK×Addr)}{ks:List Nat}(h:H d=some (.lst (dZ us))) (R:fC H us) (g:∀z∈us,fG ks z.1) (h24:us.length<=24):dA H (.ref d) (ks.map one)=true:=by unfold dA;rw [kc h];show (decide ((dZ us).length<=24)&&(dZ us).all λ x=>dj H x (ks.map one))=true;rw [Lv,decide_eq_true h24,Nx,LP];intro x hx;obtain ⟨z,hz,rfl⟩:=Lx.mp hx;unfold dj;rw [lY (R z hz)];exact yD (g z hz)
theorem jc {H:Hp}{d:Addr}{zs:List ((Str×Str)×Addr)}{A B:List Str}(h:H d=some (.lst (bv zs))) (R:dJ H zs) (g:∀z∈zs,z.1.1∈A/\z.1.2∈B) (h6:zs.length<=6):pairsB H (.ref d) A B=true:=by unfold pairsB;rw [kc h];show (decide ((bv zs).length<=6)&&(bv zs).all λ x=>dm H x A B)=true;rw [Lv,decide_eq_true h6,Nx,LP];intro x hx;obtain ⟨z,hz,rfl⟩:=Lx.mp hx;unfold dm;rw [lY (R z hz)];show (decide (z.1.1∈A)&&decide (z.1.2∈B))=true;rw [decide_eq_true (g z hz).1,decide_eq_true (g z hz).2];rfl
theorem li {H:Hp}{d:Addr}{zs:List ((Str×Str)×Addr)}{ks:List Nat}(h:H d=some (.lst (bv zs))) (R:dJ H zs) (g:pT ks zs):eB H (.ref d) (ks.map one)=true:=by
 unfold eB;rw [jc h R (λ z hz=>?_) g.len,kc h,Nx]
 ·have e1:(bv zs).map (ck H)=zs.map λ z=>z.1.1:=by rw [LC];refine Md λ z hz=>?_;show ck H (.ref z.2)=_;unfold ck;rw [lY (R z hz)]
  show (!((bv zs).any λ x=>decide (fK H x∈(bv zs).map (ck H)))&&decide (((bv zs).map (ck H)).Nodup))=true;rw [e1,decide_eq_true g.nd,NE,ND,Mt];intro x hx w;obtain ⟨z,hz,rfl⟩:=Lx.mp hx;have w:=of_decide_eq_true w;have e2:fK H (.ref z.2)=z.1.2:=by unfold fK;rw [lY (R z hz)]
  rw [e2] at w;obtain ⟨y,hy,e⟩:=Lx.mp w;exact g.ap z hz y hy e.symm
 ·obtain ⟨⟨a,ha,e1⟩,b,hb,e2⟩:=g.kd z hz;exact ⟨Lx.mpr ⟨a,ha,e1.symm⟩,Lx.mpr ⟨b,hb,e2.symm⟩⟩
theorem oS (a:Nat):(one a).length<=1000:=by show 1<=1000;decide
theorem DB {s:Str}(h:s∈sortsL):s.length<=1000:=(by decide:∀s∈sortsL,s.length<=1000) s h
theorem ER {s:Str}(h:s∈aimsL):s.length<=1000:=(by decide:∀s∈aimsL,s.length<=1000) s h
theorem vy {H:Hp}{d:Addr}{us:List (aK×Addr)}{ks:List Nat}(h:H d=some (.lst (dZ us))) (R:fC H us) (g:∀z∈us,fG ks z.1):dt H 2 (.ref d):=by
 refine jp.n (jp.lst h λ x hx=>?_);obtain ⟨z,hz,rfl⟩:=Lx.mp hx;refine jp.tup (R z hz) λ y hy=>?_;obtain ⟨c,_,e⟩:=(g z hz).kd;simp only [aK.vs,Lw,LO,or_false] at hy
 rcases hy with rfl | rfl | rfl | rfl | rfl
 ·exact jp.flat (show z.1.kd.length<=1000 by rw [e];exact oS c) rfl
 ·exact jp.flat (DB (g z hz).so) rfl
 ·exact jp.flat (ER (g z hz).ai) rfl
 ·exact jp.flat trivial rfl
 ·exact jp.flat trivial rfl
theorem mJ {H:Hp}{d:Addr}{zs:List ((Str×Str)×Addr)}(h:H d=some (.lst (bv zs))) (R:dJ H zs) (g:∀z∈zs,z.1.1.length<=1000/\z.1.2.length<=1000):dt H 2 (.ref d):=by
 refine jp.n (jp.lst h λ x hx=>?_);obtain ⟨z,hz,rfl⟩:=Lx.mp hx;refine jp.tup (R z hz) λ y hy=>?_;simp only [Lw,LO,or_false] at hy
 rcases hy with rfl | rfl
 ·exact jp.flat (g z hz).1 rfl
 ·exact jp.flat (g z hz).2 rfl
theorem wv {H:Hp}{d:Addr}{ks:List Nat}(h:fE H d ks):dt H 1 (.ref d):=by refine jp.n (jp.lst h.at_ λ x hx=>?_);obtain ⟨c,_,rfl⟩:=Lx.mp hx;exact jp.flat (oS c) rfl
end L2
namespace L2
open PySem PySem.Spec PyProof.Rows
end L2
namespace L2
open PySem PySem.Spec PyProof.Rows
end L2
namespace L2
open PySem PySem.W PySem.Calls PySem.Spec PyProof.Rows
section
variable {prog:Program}{w:World}{A:Around}{E:Value->Shared->Prop}{s:Shared}
end
section
variable {X:Cx}
end
section
variable {X:Cx}{a b:Expr}{ta tb:TE}{pos:Pos}
end
end L2
namespace L2
open PySem PySem.Spec PyProof.Rows
end L2
namespace L2
open PySem PySem.Spec PyProof.Rows
theorem Fl.keepS {K:Frag}{H H':Hp}{p:Addr}{f:Str}{x:V}(h:Fl K H p f x) (s:ag H H'):Fl K H' p f x:=by obtain ⟨C,dx,fs,a,r⟩:=h;exact ⟨C,dx,fs,s _ _ a,r⟩
end L2
namespace L2
open PySem PySem.Spec PyProof.Rows
section
variable {K:Frag}{σ:St}{H:Hp}{ta tb te:TE}
theorem wP {a b:Addr}{k:Bool}(h1:Ev ta σ H (.ref a)) (h2:Ev tb σ H (.ref b)) (h:pU K H 20 (.ref a) (.ref b) k):Ev (dI K .NotEq ta tb) σ H (.bl (!k)):=λ Q q=>h1 _ (h2 _ ⟨k,h,q⟩)
theorem qX {op:CmpOp}{R:Bool->Hp->Prop}(h:ta σ H λ x H1=>tb σ H1 λ y H2=>bb K op x y H2 (eK R)):fZ (dI K op ta tb) σ H R:=h
end
end L2
namespace L2
open PySem PySem.Spec PyProof.Rows
end L2
namespace L2
open PySem PySem.Spec PyProof.Rows
theorem iw {te:TE}{D:cM}{σ:St}{H:Hp}(h:te σ H D.rt):dw te D σ H:=h
end L2
namespace L2
open PySem PySem.Spec PyProof.Rows
def tk3 (s:Int) (x:Int×Int):List Int:=[s,x.1,x.2]
end L2
namespace L2
open PySem PySem.Spec PyProof.Rows
theorem wK {K:Frag}{tl:TE}{g:TG}{tb:TS}{D:cM}{σ:St}{H:Hp}(P:V->Hp->Prop) (htl:∀Q:VK,(∀v H',P v H'->Q v H')->tl σ H Q)
  (h:∀v H',P v H'->∃d xs,v=.ref d/\cg K H' d xs/\∃Pv:Nat->St->Hp->Prop,Pv 0 σ H'/\(∀i σ H,i<=xs.length->Pv i σ H->cg K H d xs)/\
   (∀(i:Nat) x σ H,xs[i]? =some x->Pv i σ H->g x σ H λ σ2 H2=>tb {D with nx:=Pv (i+1),ct:=Pv (i+1),bk:=D.nx} σ2 H2)/\(∀σ H,Pv xs.length σ H->D.nx σ H)):tFor (Er K tl) g tb D σ H:=
 htl _ λ v H' p=>by obtain ⟨d,xs,rfl,hq,Pv,a,b,c,e⟩:=h v H' p;exact ⟨d,rfl,⟨xs,hq⟩,yN Pv a b c e⟩
theorem EF {K:Frag}{op:CmpOp}{ta tb:TE}{σ:St}{H:Hp}{Q:VK}(h:ta σ H λ x H1=>tb σ H1 λ y H2=>bb K op x y H2 Q):dI K op ta tb σ H Q:=h
theorem EH {sp:Sp}{t:TA}{σ:St}{H:Hp}{Q:VK}(h:t σ H λ vs H1=>sp vs H1 Q E0):gb sp t σ H Q:=h
theorem yT {sp:Sp}{t:TA}{σ:St}{H:Hp}{R:Bool->Hp->Prop}(h:t σ H λ vs H1=>sp vs H1 (eK λ c H2=>R (!c) H2) E0):nP (fZ (gb sp t)) σ H R:=h
theorem Df (xs:List V):gr xs none (some 1)=xs.take 1:=by
 unfold gr;rw [HT.sIx_none];have:HT.sIx xs.length xs.length (some 1)=min 1 xs.length:=HT.sIx_nat _ _ 1;rw [this,List.drop_zero,Nat.sub_zero];cases xs with
 | nil=>rfl
 | cons a l=>simp
end L2
namespace L2
open PySem PySem.Spec PyProof.Rows
end L2
namespace L2
open PySem PySem.Spec PyProof.Rows
section
variable {K:Frag}{σ:St}{H:Hp}{ta tb te:TE}{x:V}
end
end L2
namespace L2
open PySem PySem.Spec PyProof.Rows
theorem Dx {t:TA}{σ:St}{H:Hp}{Q:VK}{vs:List V}(h:Av t σ H vs) (hl:vs.length<=1000) (q:∀p,H p=none->Q (.ref p) (upd H p (.tup vs))):tF t σ H Q:=h _ ⟨M7 hl (by decide),q⟩
end L2
namespace L2
open PySem PySem.Spec PyProof.Rows
end L2
namespace L2
open PySem PySem.Spec PyProof.Rows
end L2
namespace L2
open PySem PySem.Spec PyProof.Rows
end L2
namespace L2
open PySem PySem.Spec PyProof.Rows
end L2
namespace L2
open PySem PySem.Spec PyProof.Rows
end L2
namespace L2
open PySem PySem.Spec PyProof.Rows
section
variable {X:Cx}{a b:Expr}{ta tb:TE}{pos:Pos}
end
end L2
namespace L2
open PySem PySem.Spec PyProof.Rows
end L2
namespace L2
open PySem PySem.Spec PyProof.Rows
theorem sT {K:Frag}{tl:TE}{g:TG}{tt:TT}{te:TE}{src:List (Option Nat)}{σ:St}{H:Hp}{Q:VK}(q:tl σ H λ x H2=> ∃a,x=.ref a/\(∃xs,aI K H2 a xs)/\fg g tt te src σ Q (Fb K a) H2):tComp (fW K tl) g tt te src σ H Q:=q
theorem Iu {K:Frag}{te:TE}{tl th:TO}{σ:St}{H:Hp}{Q:VK}{a:Addr}{xs:List V}{lo hi:Option Int}(ha:Ev te σ H (.ref a)) (hl:∀Q:Option Int->Hp->Prop,Q lo H->tl σ H Q) (hh:∀Q:Option Int->Hp->Prop,Q hi H->th σ H Q) (hx:cg K H a xs)
  (hw:¬(HT.sIx xs.length 0 lo=0/\HT.sIx xs.length xs.length hi=xs.length)) (q:∀p,H p=none->Q (.ref p) (upd H p (.tup (gr xs lo hi)))):KL (DP K) te tl th σ H Q:=ha _ (hl _ (hh _ ⟨a,xs,rfl,hx,hw,q⟩))
end L2
namespace L2
open PySem PySem.Spec PyProof.Rows
section
variable {X:Cx}{a b:Expr}{ta tb:TE}{pos:Pos}
end
section
variable {K:Frag}{σ:St}{H:Hp}{Q:VK}{ta tb te:TE}{z:Str}{b:Bool}
end
end L2
namespace L2
open PySem PySem.Spec PyProof.Rows
section
variable {K:Frag}{tl te:TE}{tt:TT}{src:List (Option Nat)}{σ rest:St}{H:Hp}{Q:VK}
end
section
variable {X:Cx}{a b:Expr}{ta tb:TE}
end
end L2
namespace L2
open PySem PySem.Spec PyProof.Rows
section
variable {X:Cx}{tg:Expr}
end
section
variable {prog:Program}{w:World}{A:Around}{E:Value->Shared->Prop}{s:Shared}{R:Result->Shared->Prop}
variable {I:Addr}{fp wr:List Addr}{G:Array GenState->Array GenState->Prop}{n:Nat}{P:Nat->Value->Prop}{St:Nat->Shared->Prop}
end
end L2
namespace L2
open PySem PySem.Spec PyProof.Rows
section
variable {X:Cx}{e:Expr}{te:TE}
end
end L2
namespace L2
open PySem PySem.Spec PyProof.Rows
theorem iB (a b:Value):argsOk "tuple.index" ⟨[a,b],[]⟩:=by unfold argsOk;rw [signature?_of (id:="tuple.index") (n:=['x','e','d','n','i']) (o:=['e','l','p','u','t']) (by kernel_rfl) PySem.F.owner_tuple];kernel_rfl
section
variable {X:Cx}{o e:Expr}{to te:TE}
end
end L2
namespace L2
open PySem PySem.Spec PyProof.Rows
def lnT (z:Str) (w i:Nat):Str:=⟨((z.cps.toList.drop (i*w)).take w).toArray⟩
end L2
namespace L2
open PySem PySem.Spec PyProof.Rows
end L2
namespace L2
open PySem PySem.Spec PyProof.Rows
end L2
namespace L2
open PySem PySem.Spec PyProof.Rows
section
variable {K:Frag}{σ:St}{H:Hp}{n n' m m':Nat}{ta tb te:TE}
end
end L2
namespace L2
open PySem PySem.Spec PyProof.Rows
end L2
namespace L2
open PySem PySem.Spec PyProof.Rows
end L2
namespace L2
open PySem PySem.Spec PyProof.Rows
end L2
namespace L2
open PySem PySem.Spec PyProof.Rows
end L2
namespace L2
open PySem PySem.Spec PyProof.Rows
end L2
namespace L2
open PySem PySem.Spec PyProof.Rows
section
variable {prog:Program}{w:World}{A:Around}{E:Value->Shared->Prop}{s:Shared}
end
section
variable {X:Cx}{pos:Pos}
end
end L2
namespace L2
open PySem PySem.Spec PyProof.Rows
end L2
namespace L2
open PySem PySem.Spec PyProof.Rows
section
variable {prog:Program}{w:World}{A:Around}{E:Value->Shared->Prop}{s:Shared}
variable {K:Type} [DecidableEq K] {knd:KeyKind prog w K}
end
end L2
namespace L2
open PySem PySem.Spec PyProof.Rows
section
variable {X:Cx}{p pos pos2:Pos}{a b:Expr}{elts:List Expr}{k0:Nat}{ta tb:TE}
end
section
variable {X:Cx}{a b:Expr}
end
end L2
namespace L2
open PySem PySem.Spec PyProof.Rows
end L2
namespace L2
open PySem PySem.Spec PyProof.Rows
structure JJ (z TI TO i1 i2:Addr) (F1 F2:List Addr):Prop extends ZAp z TI TO i1 i2 where
 p1:∀q∈F1,q≠z
 p2:∀q∈F1,q≠TO
 p3:∀q∈F1,q≠i2
 q1:∀q∈F2,q≠z
 q2:∀q∈F2,q≠TO
 q3:∀q∈F2,q≠i1
section
variable {prog:Program}{w:World}{A:Around}{E:Value->Shared->Prop}{s:Shared}{z TI TO i1 i2:Addr}{F1 F2:List Addr}{n1 n2 i:Nat}{P1 P2:Nat->Value->Prop}{S1 S2:Nat->Heap->Prop}{a b:Value}
theorem xC {Q:Value->Shared->Prop}(D1:Draws prog w A i1 F1 n1 P1 S1) (D2:Draws prog w A i2 F2 n2 P2 S2) (ap:JJ z TI TO i1 i2 F1 F2) (hz:IsZip s.heap z TI TO .none) (hTI:IsPair s.heap TI (.ref i1) (.ref i2)) (hTO:IsPair s.heap TO a b) (h1:S1 i s.heap) (h2:S2 i s.heap) (l1:i<n1) (l2:i<n2)
  (hQ:∀x y h' tk,P1 i x->P2 i y->IsZip h' z TI TO (rawInt s.heap.objs.size)->IsPair h' TO x y->S1 (i+1) h'->S2 (i+1) h'->IsPair h' s.heap.objs.size x y->(∀c o,c≠z->c≠TO->c≠i1->c≠i2->s.heap.get? c=some o->h'.get? c=some o)->Q (.ref s.heap.objs.size) {s with heap:=h',toks:=tk}):
  wpAny (model prog w) A (Builtin.«zip.__next__» ⟨[.ref z],[]⟩) (λ fin s'=> ∃v,fin=.done (.ret v)/\Q v s') E s:=by
 have f1:∀{k:Nat} {c:Addr} {g g':Heap},S1 k g->Heap.SameBut c g g'->(∀q∈F1,q≠c)->S1 k g':=λ st sb ne=>D1.frame _ _ _ st λ q hq o ho=>sb.extBut _ _ (ne q hq) ho;have f2:∀{k:Nat} {c:Addr} {g g':Heap},S2 k g->Heap.SameBut c g g'->(∀q∈F2,q≠c)->S2 k g':=λ st sb ne=>D2.frame _ _ _ st λ q hq o ho=>sb.extBut _ _ (ne q hq) ho;refine wpAny_bind (m:=field (.ref z) 2) (wpAny_field hz rfl (x:=.bool false) rfl (wpAny_bind (m:=field (.ref z) 3) (wpAny_field hz rfl (x:=.ref TI) rfl (wpAny_bind (wpAny_seqItems hTI rfl ?_)))));refine wpAny_bind (m:=Builtin.SmallTypes.ownedTupleIsFree (.ref z)) ?_;unfold Builtin.SmallTypes.ownedTupleIsFree;refine wpAny_bind (wpAny_field hz rfl (x:=.none) rfl (wpAny_pure ?_));rw [if_pos rfl];refine wpAny_bind (wpAny_rule ?_);refine wpAny_bind (wpAny_field hz rfl (x:=.ref TO) rfl (wpAny_bind (wpAny_setField_rec hz (by simp) λ g1 zz1 b1=>wpAny_bind ?_)));have z1:IsZip g1 z TI TO .ellipsis:=zz1;simp only [List.zipIdx_cons,List.zipIdx_nil,Mu,List.forIn_nil];refine wpAny_bind (wpAny_bind (wpAny_onRaise (wpAny_bind (m:=Builtin.SmallTypes.nextOf (.ref i1)) (D1.item i _ _ _ l1 (f1 h1 b1 ap.p1) λ x g2 k2 p1 t2 b2=>wpAny_pure ?_))));have o2:IsPair g2 TO a b:=b2.extBut _ _ ap.f (b1.extBut _ _ ap.b hTO);refine wpAny_bind (wpAny_seqItems o2 rfl (wpAny_bind (wpAny_updateSeq_pair o2 λ g3 oo3 b3=>wpAny_bind (wpAny_letGo (wpAny_pure ?_)))));have o3:IsPair g3 TO x b:=oo3;refine wpAny_bind (wpAny_bind (wpAny_onRaise (wpAny_bind (m:=Builtin.SmallTypes.nextOf (.ref i2)) (D2.item i _ _ _ l2 (f2 (f2 (f2 h2 b1 ap.q1) b2 ap.q3) b3 ap.q2) λ y g4 k4 p2 t4 b4=>wpAny_pure ?_))));have o4:IsPair g4 TO x b:=b4.extBut _ _ ap.g o3;refine wpAny_bind (wpAny_seqItems o4 rfl (wpAny_bind (wpAny_updateSeq_pair o4 λ g5 oo5 b5=>wpAny_bind (wpAny_letGo (wpAny_pure (wpAny_pure ?_))))));have o5:IsPair g5 TO x y:=oo5;have n5:g5.objs.size=s.heap.objs.size:=by rw [b5.1,b4.1,b3.1,b2.1,b1.1]
 have z5:IsZip g5 z TI TO .ellipsis:=b5.extBut _ _ ap.b.symm (b4.extBut _ _ ap.d.symm (b3.extBut _ _ ap.b.symm (b2.extBut _ _ ap.c.symm z1)));have u1:S1 (i+1) g5:=f1 (f1 (f1 t2 b3 ap.p2) b4 ap.p3) b5 ap.p2;have u2:S2 (i+1) g5:=f2 t4 b5 ap.q2;have zl:z<g5.objs.size:=Heap.lt_size z5;refine wpAny_bind (wpAny_seqItems o5 rfl (wpAny_bind (wpAny_newTuple (wpAny_bind (m:=Builtin.SmallTypes.ownedTupleHandOut (.ref z) (.ref g5.objs.size)) ?_))));unfold Builtin.SmallTypes.ownedTupleHandOut;have z6:IsZip (g5.push {cls:=.type "tuple",data:=.seq #[x,y]}) z TI TO .ellipsis:=Heap.get?_push_of_some _ z5;refine wpAny_bind (wpAny_setField_rec z6 (by simp) λ g7 zz7 b7=>wpAny_setField_rec (show IsZip g7 z TI TO (rawInt g5.objs.size) from zz7) (by simp) λ g8 zz8 b8=>wpAny_pure ⟨_,rfl,?_⟩);have z8:IsZip g8 z TI TO (rawInt g5.objs.size):=zz8;have up:∀c o,c≠z->g5.get? c=some o->g8.get? c=some o:=λ c o c1 e=>b8.extBut _ _ c1 (b7.extBut _ _ c1 (Heap.get?_push_of_some _ e));have t8:IsPair g8 g5.objs.size x y:=b8.extBut _ _ (Nf zl) (b7.extBut _ _ (Nf zl) (Heap.get?_push_size _ rfl));show Q (.ref g5.objs.size) _;rw [n5] at z8 t8 ⊢;exact hQ x y g8 k4 p1 p2 z8 (up _ _ ap.b o5) (D1.frame _ _ _ u1 λ q hq o ho=>up _ _ (ap.p1 q hq) ho) (D2.frame _ _ _ u2 λ q hq o ho=>up _ _ (ap.q1 q hq) ho) t8 λ c o c1 c2 c3 c4 e=>up c o c1 (b5.extBut _ _ c2 (b4.extBut _ _ c4 (b3.extBut _ _ c2 (b2.extBut _ _ c3 (b1.extBut _ _ c1 e)))))
theorem Do {Q:Fin->Shared->Prop}(D1:Draws prog w A i1 F1 n1 P1 S1) (ap:JJ z TI TO i1 i2 F1 F2) (hz:IsZip s.heap z TI TO .none) (hTI:IsPair s.heap TI (.ref i1) (.ref i2)) (h1:S1 n1 s.heap)
  (hE:∀h' e,(∀c o,c≠z->c≠i1->s.heap.get? c=some o->h'.get? c=some o)->(∃o,h'.get? e=some o/\o.cls=.type "StopIteration")->E (.ref e) {s with heap:=h'}):wpAny (model prog w) A (Builtin.«zip.__next__» ⟨[.ref z],[]⟩) Q E s:=by
 have f1:∀{k:Nat} {c:Addr} {g g':Heap},S1 k g->Heap.SameBut c g g'->(∀q∈F1,q≠c)->S1 k g':=λ st sb ne=>D1.frame _ _ _ st λ q hq o ho=>sb.extBut _ _ (ne q hq) ho;refine wpAny_bind (m:=field (.ref z) 2) (wpAny_field hz rfl (x:=.bool false) rfl (wpAny_bind (m:=field (.ref z) 3) (wpAny_field hz rfl (x:=.ref TI) rfl (wpAny_bind (wpAny_seqItems hTI rfl ?_)))));refine wpAny_bind (m:=Builtin.SmallTypes.ownedTupleIsFree (.ref z)) ?_;unfold Builtin.SmallTypes.ownedTupleIsFree;refine wpAny_bind (wpAny_field hz rfl (x:=.none) rfl (wpAny_pure ?_));rw [if_pos rfl];refine wpAny_bind (wpAny_rule ?_);refine wpAny_bind (wpAny_field hz rfl (x:=.ref TO) rfl (wpAny_bind (wpAny_setField_rec hz (by simp) λ g1 zz1 b1=>wpAny_bind ?_)));have z1:IsZip g1 z TI TO .ellipsis:=zz1;simp only [List.zipIdx_cons,List.zipIdx_nil,Mu,List.forIn_nil];refine wpAny_bind (wpAny_bind (wpAny_onRaise (wpAny_bind (m:=Builtin.SmallTypes.nextOf (.ref i1)) (D1.done _ _ _ (f1 h1 b1 ap.p1) λ g2 e b2 he=>?_))));obtain ⟨oe,hoe,hce⟩:=he;have z2:IsZip g2 z TI TO .ellipsis:=b2 _ _ ap.c.symm z1;have ne:e≠z:=λ q=>by rw [q] at hoe;have z2':g2.get? z=_:=z2;rw [z2'] at hoe;cases hoe;simp at hce
 exact wpAny_setField_rec z2 (by simp) λ g3 _ b3=>hE g3 e (λ c o c1 c3 q=>b3.extBut _ _ c1 (b2 _ _ c3 (b1.extBut _ _ c1 q))) ⟨oe,b3.extBut _ _ ne hoe,hce⟩
theorem xB {Q:Option Value->Shared->Prop}(D1:Draws prog w A.in1 i1 F1 n1 P1 S1) (D2:Draws prog w A.in1 i2 F2 n2 P2 S2) (ap:JJ z TI TO i1 i2 F1 F2) (hz:IsZip s.heap z TI TO .none) (hTI:IsPair s.heap TI (.ref i1) (.ref i2)) (hTO:IsPair s.heap TO a b) (h1:S1 i s.heap) (h2:S2 i s.heap) (l1:i<n1) (l2:i<n2)
  (hQ:∀x y h' tk,P1 i x->P2 i y->IsZip h' z TI TO (rawInt s.heap.objs.size)->IsPair h' TO x y->S1 (i+1) h'->S2 (i+1) h'->IsPair h' s.heap.objs.size x y->(∀c o,c≠z->c≠TO->c≠i1->c≠i2->s.heap.get? c=some o->h'.get? c=some o)->Q (some (.ref s.heap.objs.size)) {s with heap:=h',toks:=tk}):
  wpAny (model prog w) A (pyNext (.ref z)) Q E s:=by
 have hT:s.TypeIs (.ref z) "zip":=⟨_,hz,rfl⟩;unfold pyNext;exact wpAny_bind (wpAny_attempt (wpAny_callSpecial?_slot (name:=Str.ofString "__next__") hT F.slot_zip_next (wpAny_call_entry F.slot_zip_next hT F.entry_zip_next (xC D1 D2 ap hz hTI hTO h1 h2 l1 l2 λ x y h' tk q1 q2 q3 q4 q5 q6 q7 q8=>wpAny_pure (hQ x y h' tk q1 q2 q3 q4 q5 q6 q7 q8)) (F.args_zip_next_1 _))))
theorem xA {Q:Option Value->Shared->Prop}(D1:Draws prog w A.in1 i1 F1 n1 P1 S1) (ap:JJ z TI TO i1 i2 F1 F2) (hz:IsZip s.heap z TI TO .none) (hTI:IsPair s.heap TI (.ref i1) (.ref i2)) (h1:S1 n1 s.heap)
  (hQ:∀h',(∀c o,c≠z->c≠i1->s.heap.get? c=some o->h'.get? c=some o)->Q none {s with heap:=h'}):wpAny (model prog w) A (pyNext (.ref z)) Q E s:=by
 have hT:s.TypeIs (.ref z) "zip":=⟨_,hz,rfl⟩;unfold pyNext;refine wpAny_bind (wpAny_attempt (wpAny_callSpecial?_slot (name:=Str.ofString "__next__") hT F.slot_zip_next (wpAny_call_entry F.slot_zip_next hT F.entry_zip_next (Do D1 ap hz hTI h1 λ h' e hk he=>?_) (F.args_zip_next_1 _))));obtain ⟨o,ho,hc⟩:=he;exact wpAny_bind (wpAny_isInstance (T:="StopIteration") (b:=true) ⟨o,ho,hc⟩ isSubtype_stop (wpAny_pure (hQ _ hk)))
end
section
variable {prog:Program}{w:World}{A:Around}{E:Value->Shared->Prop}{s:Shared}
theorem vd {it t:Addr}{i:Nat}{items}{x:Value}{Q:Value->Shared->Prop}(hit:s.heap.IsTupleIter it t i) (ht:s.heap.IsTuple t items) (hx:items[i]? =some x)
  (hQ:∀h',h'.IsTupleIter it t (i+1)->Heap.SameBut it s.heap h'->Q x {s with heap:=h'}):wpAny (model prog w) A (Builtin.SmallTypes.nextOf (.ref it)) Q E s:=by
 obtain ⟨o,ho,hc,hd⟩:=id hit;obtain ⟨ol,hol,_,nl,hdl⟩:=ht;unfold Builtin.SmallTypes.nextOf;refine wpAny_bind (wpAny_callSpecial?_slot (name:=Str.ofString "__next__") hit.typeIs F.slot_tuple_iterator_next (wpAny_call_entry F.slot_tuple_iterator_next hit.typeIs F.entry_tuple_iterator_next ?_ (F.args_tuple_iterator_next_1 _)));refine wpAny_bind (m:=field (.ref it) 0) (wpAny_field ho hd (x:=.ref t) rfl ?_);show wpAny _ _ (if (Value.ref t == Value.none)=true then _ else _) _ _ s;rw [if_neg (show¬((Value.ref t == Value.none)=true) from Nt)];refine wpAny_bind (m:=field (.ref it) 1) (wpAny_field ho hd (x:=.int i 0) rfl ?_);refine wpAny_bind (m:=seqItems? (.ref t)) (wpAny_seqItems hol hdl ?_);simp only [Np,hx];refine wpAny_bind (wpAny_setField ho hd (by simp) (wpAny_pure ⟨x,rfl,wpAny_pure (hQ _ ?_ (Heap.SameBut.update ..))⟩));exact ⟨_,Heap.get?_update_self _ ho (Obj.isFreed_of_fields (Obj.data_mapFields hd _)),(Obj.cls_mapFields ..).trans hc,by rw [Obj.data_mapFields hd];simp [rawInt]⟩
theorem vc {it t:Addr}{i:Nat}{items}{Q:Value->Shared->Prop}(hh:A.handled=none) (hit:s.heap.IsTupleIter it t i) (ht:s.heap.IsTuple t items) (hx:items[i]? =none)
  (hE:∀h' e,Heap.ExtBut it s.heap h'->(∃o,h'.get? e=some o/\o.cls=.type "StopIteration")->E (.ref e) {s with heap:=h'}):wpAny (model prog w) A (Builtin.SmallTypes.nextOf (.ref it)) Q E s:=by
 obtain ⟨o,ho,hc,hd⟩:=id hit;obtain ⟨ol,hol,_,nl,hdl⟩:=ht;unfold Builtin.SmallTypes.nextOf;refine wpAny_bind (wpAny_callSpecial?_slot (name:=Str.ofString "__next__") hit.typeIs F.slot_tuple_iterator_next (wpAny_call_entry F.slot_tuple_iterator_next hit.typeIs F.entry_tuple_iterator_next ?_ (F.args_tuple_iterator_next_1 _)));refine wpAny_bind (m:=field (.ref it) 0) (wpAny_field ho hd (x:=.ref t) rfl ?_);show wpAny _ _ (if (Value.ref t == Value.none)=true then _ else _) _ _ s;rw [if_neg (show¬((Value.ref t == Value.none)=true) from Nt)];refine wpAny_bind (m:=field (.ref it) 1) (wpAny_field ho hd (x:=.int i 0) rfl ?_);refine wpAny_bind (m:=seqItems? (.ref t)) (wpAny_seqItems hol hdl ?_);simp only [Np,hx];refine wpAny_bind (wpAny_rule (wpAny_bind (wpAny_setField ho hd (by simp) ?_)));refine wpAny_bind (m:=newExc (.type "StopIteration") []) ?_;simp only [newExc,newTuple];refine wpAny_bind (wpAny_newObj_type ?_ (by size_fits));refine wpAny_bind (m:=firstArgMember _ _) (wpAny_of_eq (a:=Value.none) (by first | rfl | (simp only [firstArgMember];rfl)) ?_)
 refine wpAny_newObj_type ?_ (by size_fits);simp only [raiseNew];refine wpAny_bind (wpAny_handled ?_);first | rw [show A.in1.handled=none from hh] | rw [hh]
 refine wpAny_bind (wpAny_pure (wpAny_throw ?_));exact hE _ _ (((Heap.SameBut.update ..).extBut.push _).push _) ⟨_,Heap.get?_push_size _ rfl,rfl⟩
end
theorem lO {prog:Program}{w:World}{A:Around}(hh:A.handled=none) (it l:Addr) (hne:l≠it) (items:Array Value):Draws prog w A it [it,l] items.size (λ i v=>items[i]? =some v) (λ i h=>h.IsTupleIter it l i/\h.IsTuple l items) where
 live:=λ _ _ st=>let ⟨o,ho,_⟩:=st.1;⟨o,ho⟩
 frame:=λ _ _ _ st hk=>⟨st.1.at λ o e=>hk it (by simp) o e,let ⟨o,ho,r⟩:=st.2;⟨o,hk l (by simp) o ho,r⟩⟩
 item:=λ i s Q E hi st hQ=>vd st.1 st.2 (x:=items[i]) (by simp [hi]) λ h' hit' hs'=>hQ _ h' s.toks (by simp [hi]) ⟨hit',let ⟨o,ho,r⟩:=st.2;⟨o,hs'.extBut _ _ hne ho,r⟩⟩ hs'
 done:=λ s Q E st hE=>vc hh st.1 st.2 (by simp) hE
abbrev yI (l1:Addr):Obj:={cls:=.type "tuple_iterator",data:=.fields #[.ref l1,.int 0 0]}
abbrev yJ (l2:Addr):Obj:={cls:=.type "list_iterator",data:=.fields #[.ref l2,.int 0 0]}
abbrev Il (h:Heap) (l1 l2:Addr):Heap:=(h.push (yI l1)).push (yJ l2)
abbrev JO (h:Heap) (l1 l2:Addr):Heap:=(Il h l1 l2).push {cls:=.type "tuple",data:=.seq #[.ref h.objs.size,.ref (h.push (yI l1)).objs.size]}
abbrev JN (h:Heap) (l1 l2:Addr):Heap:=(JO h l1 l2).push {cls:=.type "tuple",data:=.seq #[.none,.none]}
abbrev Dp (h:Heap) (l1 l2:Addr):Heap:=(JN h l1 l2).push {cls:=.type "zip",data:=.fields #[.none,.bool false,.bool false,.ref (Il h l1 l2).objs.size,.ref (JO h l1 l2).objs.size]}
theorem qK (l1 l2:Addr) (xs ys:Array Value):Meets (Builtin.«zip.__new__» ⟨[.type "zip",.ref l1,.ref l2],[]⟩) (λ _ R s=>s.heap.IsTuple l1 xs/\s.heap.IsList l2 ys/\R (.ok (.ret (.ref (JN s.heap l1 l2).objs.size))) {s with heap:=Dp s.heap l1 l2}):=
 .of_wp λ prog w A R s h=>by
  obtain ⟨hp,g,d,tk,os⟩:=s;obtain ⟨hl1,hl2,h⟩:=h;have hsub:=sub_zip;have hL1:Heap.IsTuple (Shared.heap ⟨hp,g,d,tk,os⟩) l1 xs:=hl1;have hL2:Heap.IsList (Shared.heap ⟨hp.push (yI l1),g,d,tk,os⟩) l2 ys:=Heap.IsList.push hl2 _
  wp_walk using wpAny_pyIter_tuple hL1,wpAny_pyIter_list hL2
  exact ⟨_,rfl,h⟩
end L2
namespace L2
open PySem PySem.Spec PyProof.Rows
section
variable {prog:Program}{w:World}{A:Around}{E:Value->Shared->Prop}{s:Shared}
theorem uF {l1 l2:Addr}{xs ys:Array Value}{Q:Value->Shared->Prop}(hl1:s.heap.IsTuple l1 xs) (hl2:s.heap.IsList l2 ys)
  (h:∀h',IsZip h' (s.heap.objs.size+4) (s.heap.objs.size+2) (s.heap.objs.size+3) .none->IsPair h' (s.heap.objs.size+2) (.ref s.heap.objs.size) (.ref (s.heap.objs.size+1))->IsPair h' (s.heap.objs.size+3) .none .none->
   h'.IsTupleIter s.heap.objs.size l1 0->h'.IsListIter (s.heap.objs.size+1) l2 0->(∀c o,s.heap.get? c=some o->h'.get? c=some o)->Q (.ref (s.heap.objs.size+4)) {s with heap:=h'}):wpAny (model prog w) A (call (.type "zip") [.ref l1,.ref l2]) Q E s:=by
 refine callType_new F.called_zip (by decide) (F.typeCall_zip_2 _ _) (F.newCall_zip_2 _ _) (λ obj=>F.args_object_init_3 obj _ _) F.entry_zip_new (qK l1 l2 xs ys) ⟨hl1,hl2,?_⟩;have y1:(s.heap.push (yI l1)).objs.size=s.heap.objs.size+1:=Heap.size_push ..;have y2:(Il s.heap l1 l2).objs.size=s.heap.objs.size+2:=by rw [Heap.size_push,y1]
 have y3:(JO s.heap l1 l2).objs.size=s.heap.objs.size+3:=by rw [Heap.size_push,y2]
 have y4:(JN s.heap l1 l2).objs.size=s.heap.objs.size+4:=by rw [Heap.size_push,y3]
 have g5:(Dp s.heap l1 l2).get? (JN s.heap l1 l2).objs.size=some _:=Heap.get?_push_size _ rfl;have up2:∀c o,(Il s.heap l1 l2).get? c=some o->(Dp s.heap l1 l2).get? c=some o:=λ c o e=>Heap.get?_push_of_some _ (Heap.get?_push_of_some _ (Heap.get?_push_of_some _ e));have g4:(Dp s.heap l1 l2).get? (JO s.heap l1 l2).objs.size=some _:=Heap.get?_push_of_some _ (Heap.get?_push_size _ rfl);have g3:(Dp s.heap l1 l2).get? (Il s.heap l1 l2).objs.size=some _:=Heap.get?_push_of_some _ (Heap.get?_push_of_some _ (Heap.get?_push_size _ rfl));have g2:(Dp s.heap l1 l2).get? (s.heap.push (yI l1)).objs.size=some (yJ l2):=up2 _ _ (Heap.get?_push_size _ rfl);have g1:(Dp s.heap l1 l2).get? s.heap.objs.size=some (yI l1):=up2 _ _ (Heap.get?_push_of_some _ (Heap.get?_push_size _ rfl));show _/\_;rw [y2,y3,y4] at g5;rw [y1,y2] at g3;rw [y3] at g4;rw [y1] at g2;rw [y4];exact ⟨⟨_,g5,rfl⟩,h _ g5 g3 g4 ⟨_,g1,rfl,rfl⟩ ⟨_,g2,rfl,rfl⟩ λ c o e=>up2 _ _ (Heap.get?_push_of_some _ (Heap.get?_push_of_some _ e))⟩
end
def EV (K:Frag) (a b:Addr):It:=
 ⟨λ i H=> ∃xs ys x y,cg K H a xs/\aI K H b ys/\xs[i]? =some x/\ys[i]? =some y,λ i H v H'=> ∃t x y,v=.ref t/\H t=none/\(∀xs,cg K H a xs->xs[i]? =some x)/\(∀ys,aI K H b ys->ys[i]? =some y)/\H'=upd H t (.tup [x,y]),λ i H=> ∃xs ys,cg K H a xs/\aI K H b ys/\xs.length=i⟩
def ZYt (z TI TO i1 i2 l1 l2:Addr) (i:Nat) (h:Heap):Prop:=IsZip h z TI TO .none/\IsPair h TI (.ref i1) (.ref i2)/\(∃a b,IsPair h TO a b)/\h.IsTupleIter i1 l1 i/\h.IsListIter i2 l2 i
theorem tD {P:Program}{w:World}{K:Frag}{elts:List Expr}{k0:Nat}{pos:Pos}(z TI TO i1 i2 l1 l2:Addr) (ap:JJ z TI TO i1 i2 [i1,l1] [i2,l2]) (n1:l1≠i1) (n2:l2≠i2):pR P w K (.Tuple elts k0 pos) (EV K l1 l2) [z,TI,TO,i1,i2] z (ZYt z TI TO i1 i2 l1 l2) where
 mem:=by simp
 obj:=λ i h st b hb=>by
  obtain ⟨hz,hTI,⟨a,a',hTO⟩,⟨o1,q1,c1,d1⟩,o2,q2,c2,d2⟩:=st;simp only [Lw,LO,or_false] at hb
  rcases hb with rfl | rfl | rfl | rfl | rfl
  ·exact ⟨_,hz,λ v e=>by cases e⟩
  ·exact ⟨_,hTI,λ v e=>by cases e⟩
  ·exact ⟨_,hTO,λ v e=>by cases e⟩
  ·exact ⟨o1,q1,λ v e=>by rw [d1] at e;cases e⟩
  ·exact ⟨o2,q2,λ v e=>by rw [d2] at e;cases e⟩
 keep:=λ i h h' st k=>by obtain ⟨hz,hTI,⟨a,a',hTO⟩,⟨o1,q1,r1⟩,o2,q2,r2⟩:=st;exact ⟨k z (by simp) _ hz,k TI (by simp) _ hTI,⟨a,a',k TO (by simp) _ hTO⟩,⟨o1,k i1 (by simp) _ q1,r1⟩,o2,k i2 (by simp) _ q2,r2⟩
 item:=by
  intro X hP hw hK hc i pins s σ H E I hf st hg;subst hP hw hK;obtain ⟨hz,hTI,⟨a,a',hTO⟩,h1,h2⟩:=st;obtain ⟨xs,ys,x,y,hx,hy,ex,ey⟩:=hg;obtain ⟨its1,rv1,p1,_⟩:=I.tuple hx;obtain ⟨its2,rv2,p2,_⟩:=I.list hy;obtain ⟨u1,hu1,ru1⟩:=rv1.get ex;obtain ⟨u2,hu2,ru2⟩:=rv2.get ey;have hh:X.A.in1.handled=none:=by show X.A.handled=none;exact I.ok.hd hc
  have D1:=lO (prog:=X.prog) (w:=X.w) hh i1 l1 n1 its1.toArray;have D2:=Draws.list (prog:=X.prog) (w:=X.w) hh i2 l2 n2 its2.toArray;have w1:its1.toArray[i]? =some u1:=by simpa using hu1
  have w2:its2.toArray[i]? =some u2:=by simpa using hu2
  refine xB D1 D2 ap hz hTI hTO ⟨h1,p1⟩ ⟨h2,p2.isList⟩ (by obtain ⟨q,_⟩:=NJ.mp w1;exact q) (by obtain ⟨q,_⟩:=NJ.mp w2;exact q) λ v1 v2 g1 tk e1 e2 z1 o1 s1 s2 t1 k1=>?_;rw [w1] at e1;obtain rfl:=Option.some.inj e1;rw [w2] at e2;obtain rfl:=Option.some.inj e2;refine ⟨_,rfl,wpAny_letOwnedTupleGo_zip z1 λ g2 z2 sb=>?_⟩;have lz:z<s.heap.objs.size:=Heap.lt_size hz;have kk:∀b ob,b∉[z,TI,TO,i1,i2]->s.heap.get? b=some ob->g2.get? b=some ob:=λ b ob hb q=>by simp only [Lw,LO,or_false,not_or] at hb;exact (sb.2 b hb.1).trans (k1 b ob hb.1 hb.2.2.1 hb.2.2.2.1 hb.2.2.2.2 q)
  have t2:g2.get? s.heap.objs.size=some {cls:=.type "tuple",data:=.seq #[u1,u2]}:=(sb.2 _ (Nf lz)).trans t1;have new:bB X.prog X.w (upd H s.heap.objs.size (.tup [x,y])) g2 s.heap.objs.size (.tup [x,y]):=
   ⟨by show 2<=sizeLine;decide,[u1,u2],.cons ru1 (.cons ru2 .nil),⟨_,t2,rfl,_,rfl⟩⟩
  have I2:=I.turned_laidN (t':=tk) kk hf (M6 _) new;obtain ⟨⟨q1,v1,r1⟩,_⟩:=s1;obtain ⟨⟨q2,v2,r2⟩,_⟩:=s2;have kTI:g1.get? TI=_:=k1 _ _ ap.a ap.e ap.i ap.j hTI;refine ⟨.ref s.heap.objs.size,_,I2,rfl,⟨_,x,y,rfl,I.hok.fresh (M6 _),λ xs' h'=>by rw [I.tuple_inj h' hx];exact ex,λ ys' h'=>by rw [I.list_inj h' hy];exact ey,rfl⟩,⟨z2,(sb.2 _ ap.a).trans kTI,⟨_,_,(sb.2 _ ap.b).trans o1⟩,⟨q1,(sb.2 _ ap.c).trans v1,r1⟩,q2,(sb.2 _ ap.d).trans v2,r2⟩,λ b hb=>?_⟩;have hlt:b<s.heap.objs.size:=by
   simp only [Lw,LO,or_false] at hb
   rcases hb with rfl | rfl | rfl | rfl | rfl
   ·exact lz
   ·exact Heap.lt_size hTI
   ·exact Heap.lt_size hTO
   ·obtain ⟨o,ho,_⟩:=h1;exact Heap.lt_size ho
   ·obtain ⟨o,ho,_⟩:=h2;exact Heap.lt_size ho
  rw [ah (M8 hlt)];exact (hf b hb).1
 done:=by
   intro X hP hw hK hc i pins s σ H E I hf st hg;subst hP hw hK;obtain ⟨hz,hTI,⟨a,a',hTO⟩,h1,h2⟩:=st;obtain ⟨xs,ys,hx,hy,hl⟩:=hg;obtain ⟨its1,rv1,p1,_⟩:=I.tuple hx;have rl:=rv1.length;have D1:=lO (prog:=X.prog) (w:=X.w) (A:=X.A.in1) (by show X.A.handled=none;exact I.ok.hd hc) i1 l1 n1 its1.toArray;have e:i=its1.toArray.size:=by simp;omega
   subst e;exact xA D1 ap hz hTI ⟨h1,p1⟩ λ h' hx=>⟨rfl,I.turnedN (t':=s.toks) (λ b ob hb q=>by
    simp only [Lw,LO,or_false,not_or] at hb;exact hx b ob hb.1 hb.2.2.2.1 q) hf⟩
 self:=λ A i s Q E st h=>wpAny_pyIter_zip st.1 h
section
variable {X:Cx}{p pos pos2:Pos}{a b:Expr}{elts:List Expr}{k0:Nat}{ta tb:TE}
def C4 (K:Frag) (R:It->Hp->Prop) (vs:List V) (H:Hp):Prop:= ∃l1 l2 xs ys,vs=[.ref l1,.ref l2]/\cg K H l1 xs/\aI K H l2 ys/\R (EV K l1 l2) H
def sw (K:Frag) (t:TA):TI:=λ σ H R=>t σ H λ vs H1=>C4 K R vs H1
theorem Ja (K:Frag) {t:TA}(hm:X.mg "zip"=none) (hA:PA X [a,b] t) (hg:Gl X "zip":=by rfl) (hs:starEach [a,b] X.env=(false,eval a X.env)::starEach [b] X.env:=by rfl) (hp:(backTo pos (starEach [b] X.env)).any (·.1)=false:=by rfl) (hK:X.K=K:=by rfl):PI X (.Tuple elts k0 pos2) (.Call (.Name "zip" p) [a,b] [] pos) (sw K t):=by
 subst hK;intro pins s σ H R I h;refine Call_ (gR I hg hm EJ (PyProof.Rows.callWith_type1 (bJ (hA pos pins s σ H (λ vs H1=>C4 X.K R vs H1) I h) λ us s1 ⟨vs,H1,I1,r1,q1⟩=>?_) hs hp) (by decide) (by decide));obtain ⟨l1,l2,xs,ys,rfl,hx,hy,q1⟩:=q1;obtain ⟨u1,u2,rfl,e1,e2⟩:=u6 r1;cases e1;cases e2;obtain ⟨its1,rv1,p1,_⟩:=I1.tuple hx;obtain ⟨its2,rv2,p2,_⟩:=I1.list hy;refine uF p1 p2.isList λ h' q2 q3 q4 q5 q6 hk=>?_;have I2:aJ X pins σ H1 {s1 with heap:=h'}:=I1.kept (t':=s1.toks) hk;have b1:l1<s1.heap.objs.size:=by obtain ⟨o,ho,_⟩:=p1;exact Heap.lt_size ho
 have b2:l2<s1.heap.objs.size:=by obtain ⟨o,ho,_⟩:=p2.isList;exact Heap.lt_size ho
 have f:∀i j:Nat,i≠j->s1.heap.objs.size+i≠s1.heap.objs.size+j:=λ i j h=>by omega
 have g:∀{l:Nat} (j:Nat),l<s1.heap.objs.size->l≠s1.heap.objs.size+j:=λ j h=>by omega
 have c2:∀{l:Addr} {i j:Nat},l<s1.heap.objs.size->i≠j->∀q∈[s1.heap.objs.size+i,l],q≠s1.heap.objs.size+j:=λ hl hij q hq=>by
  simp only [Lw,LO,or_false] at hq
  rcases hq with rfl | rfl
  ·exact f _ _ hij
  ·exact g _ hl
 refine wpAny_pyIter_zip q2 ⟨s1.heap.objs.size+4,[s1.heap.objs.size+4,s1.heap.objs.size+2,s1.heap.objs.size+3,s1.heap.objs.size+0,s1.heap.objs.size+1],_,_,H1,rfl,I2,tD _ _ _ (s1.heap.objs.size+0) _ l1 l2 ⟨⟨f 2 4 (by decide),f 3 4 (by decide),f 0 4 (by decide),f 1 4 (by decide),f 2 3 (by decide),f 3 0 (by decide),f 3 1 (by decide),f 0 1 (by decide),f 2 0 (by decide),f 2 1 (by decide)⟩,c2 b1 (by decide),c2 b1 (by decide),c2 b1 (by decide),c2 b2 (by decide),c2 b2 (by decide),c2 b2 (by decide)⟩ (g 0 b1) (g 1 b2),⟨q2,q3,⟨_,_,q4⟩,q5,q6⟩,λ b hb=>?_,q1⟩;have hb2:s1.heap.objs.size<=b:=by
  simp only [Lw,LO,or_false] at hb
  rcases hb with rfl | rfl | rfl | rfl | rfl
  all_goals exact Nat.le_add_right _ _
 exact I1.fpOk hb2 (I1.hok.fresh hb2)
end
theorem Ik {K:Frag}{t:TA}{g:TG}{tt:TT}{te:TE}{src:List (Option Nat)}{σ:St}{H:Hp}{Q:VK}(h:t σ H λ vs H1=>tComp (sw K (λ _ H R=>R vs H)) g tt te src σ H1 Q):tComp (sw K t) g tt te src σ H Q:=h
theorem uD {K:Frag}{σ rest:St}{H:Hp}{te:TE}{src:List (Option Nat)}{Q:VK}{l1 l2:Addr}{xs ys:List V}(h1:cg K H l1 xs) (h2:aI K H l2 ys) (hlen:xs.length=ys.length) (hz:xs.length<=1000) (k1:∀H',ag H H'->cg K H' l1 xs) (hs:eJ src σ=none::none::rest) (f:V->V->V)
  (he:∀(i:Nat) (x y:V) (H':Hp),xs[i]? =some x->ys[i]? =some y->ag H H'->∀Q:VK,(∀H2,ag H' H2->Q (f x y) H2)->te (some x::some y::rest) H' Q)
  (q:∀H' d,ag H H'->H' d=none->Q (.ref d) (upd H' d (.lst (List.zipWith f xs ys)))):tComp (sw K (λ _ H R=>R [.ref l1,.ref l2] H)) (yH K 2 (pp (gName 0) (pp (gName 1) Ey))) da te src σ H Q:=by
 refine ⟨l1,l2,xs,ys,rfl,h1,h2,?_⟩;show fg _ da te src σ Q (EV K l1 l2) H;refine iT xs.length (λ i vs σ' H'=>ag H H'/\(∃o0 o1,σ'=o0::o1::rest)/\vs=List.zipWith f (xs.take i) (ys.take i)) (M7 hz (by decide)) (λ i vs σ H h=>?_) (λ i vs σ H' h hi=>⟨xs,ys,_,_,k1 _ h.1,h.1.seq h2,Ly hi,Ly (by omega)⟩) (λ vs σ H' h=>⟨xs,ys,k1 _ h.1,h.1.seq h2,rfl⟩) ⟨ag.refl H,⟨_,_,hs⟩,by simp⟩ ?_ ?_
 ·rw [h.2.2,MM,LW,LW];omega
 ·rintro i vs _ H1 v H2 hi ⟨s1,⟨o0,o1,rfl⟩,rfl⟩ ⟨tq,x,y,rfl,ht0,hx,hy,rfl⟩ Kt Kf kt kf;have ex:=hx xs (k1 _ s1);have ey:=hy ys (s1.seq h2);have s2:ag H (upd H1 tq (.tup [x,y])):=s1.upd ht0;refine ⟨tq,_,rfl,cg.of ae,rfl,_,_,rfl,_,_,rfl,rfl,?_⟩;simp only [da,if_true];refine he i x y _ ex ey s2 _ λ H3 s3=>kt _ _ _ ⟨s2.trans s3,⟨_,_,rfl⟩,?_⟩;rw [Mn,Mn,ex,ey];rw [List.zipWith_append (by rw [LW,LW,hlen])];rfl
 ·rintro vs σ' H' d ⟨s1,_,rfl⟩ hd;rw [Mc (M6 _),Mc (by omega)];exact q H' d s1 hd
end L2
namespace L2
open PySem PySem.Spec PyProof.Rows
def Dl (P:Program) (w:World) (K:Frag) (a:Addr) (kvs:List (Key×V)):Prop:=(a == sysModules)=false/\
 ∃(o:Obj) (es:Array DictEntry) (ep:Nat) (vs:List (Key×Value)),K.lookup a=some o/\o.ExactDict/\o.data=.dict es ep/\KeysOf (bD P w) es/\Pairs (bD P w) es.toList vs/\(vs.map (·.1)).Nodup/\KV kvs vs
section
variable {X:Cx}{pins:List (Addr×Obj)}{σ:St}{H:Hp}{s:Shared}{a:Addr}
theorem Dl.at {kvs:List (Key×V)}(d:Dl X.prog X.w X.K a kvs) (I:aJ X pins σ H s):(a == sysModules)=false/\∃vs,KV kvs vs/\s.heap.DictOf (bD X.prog X.w) a vs:=by obtain ⟨z,o,es,ep,vs,h1,h2,h3,h4,h5,h6,h7⟩:=d;exact ⟨z,vs,h7,o,es,ep,I.kIn a o h1,h2,h3,h4,h5,h6⟩
end
def CQ (kvs:List (Key×V)) (ty:TE):TE:=λ σ H Q=>ty σ H λ y H2=> ∃k,y=kV k/\Q ((valV kvs k).getD .non) H2
def vk (kvs:List (Key×V)) (ty:TE):TE:=λ σ H Q=>ty σ H λ y H2=> ∃k v,y=kV k/\valV kvs k=some v/\Q v H2
section
variable {X:Cx}{o e:Expr}{apos cpos pos:Pos}{ty:TE}{a:Addr}{kvs:List (Key×V)}
theorem Jd {P:Program}{w:World}{K:Frag}(d:Dl P w K a kvs) (ho:PE X o (tC (.ref a))) (he:PE X e ty) (hP:X.prog=P:=by rfl) (hw:X.w=w:=by rfl) (hK:X.K=K:=by rfl) (hb:attributeBase o "get" X.env (eval o X.env)=eval o X.env:=by rfl)
  (hf:((backTo cpos (starEach [e] X.env)).all (λ x=> !x.1)&&(backToKw cpos (keywordEach [] X.env)).all (λ x=>x.1.isSome)&&decide (([e]:List Expr).length+([]:List Keyword).length+(if ([]:List Keyword).isEmpty then 0 else 1)<30))=true:=by rfl)
  (hl:(apos.endLine == cpos.line)=true:=by rfl) (ht:backTo cpos (starEach [e] X.env)=[(false,eval e X.env)]:=by rfl):PE X (.Call (.Attribute o "get" apos) [e] [] cpos) (CQ kvs ty):=by
 subst hP hw hK;intro pins s σ H Q I h;refine wpAny_Call_method hb hf hl PySem.F.plainAttrs_dict PySem.F.slot_dict_get PySem.F.type_dict_get (bJ (ho pins s σ H (λ x H1=>x=.ref a/\CQ kvs ty σ H1 Q) I ⟨rfl,h⟩) λ u s1 ⟨x,H1,I1,rx,ex,q1⟩=>?_);subst ex;obtain rfl:u=Value.ref a:=rx;obtain ⟨z,vs,rel,dd⟩:=d.at I1;refine ⟨dd.typeIs,λ b q=>?_,?_⟩
 ·cases q;obtain ⟨ob,_,_,h1,h2,_⟩:=dd;exact ⟨ob,h1,h2.2.1⟩
 rw [ht];refine Calls.callWith_builtin rfl (Calls.evalArgs_plain (Calls.spliced_cons (bJ (he pins s1 σ H1 _ I1 q1) λ iv s2 ⟨y,H2,I2,ry,k,ey,q2⟩=>Calls.spliced_nil ?_)));subst ey;obtain ⟨z,vs,rel,dd⟩:=d.at I2;exact call_meetsIn PySem.F.slot_dict_get dd.typeIs PySem.F.entry_dict_get (PySem.F.args_dict_get_2 _ _) (meets_dict_get (bD X.prog X.w) a (pd ry) z) ⟨_,dd.mapOf,⟨(valV kvs k).getD .non,H2,I2.tok _,(rel.val k).getD (d:=.non) (d':=.none) rfl,q2⟩⟩
theorem El {P:Program}{w:World}{K:Frag}(d:Dl P w K a kvs) (ho:PE X o (tC (.ref a))) (he:PE X e ty) (hs:y6 e:=by exact λ _ _=>rfl) (hP:X.prog=P:=by rfl) (hw:X.w=w:=by rfl) (hK:X.K=K:=by rfl):PE X (.Subscript o e pos) (vk kvs ty):=by subst hP hw hK;intro pins s σ H Q I h;refine rD PySem.F.slot_dict_getitem.lookup hs (bJ (ho pins s σ H (λ x H1=>x=.ref a/\vk kvs ty σ H1 Q) I ⟨rfl,h⟩) λ u s1 ⟨x,H1,I1,rx,ex,q1⟩=>bJ (he pins s1 σ H1 _ I1 q1) λ iv s2 ⟨y,H2,I2,ry,k,v,ey,l,q2⟩=>?_);subst ex ey;obtain rfl:u=Value.ref a:=rx;obtain ⟨z,vs,rel,dd⟩:=d.at I2;obtain ⟨w',hw,rw'⟩:=hV.some_of (v:=v) (o:=valueAt vs k) (by rw [<-l];exact rel.val k);exact ⟨dd.typeIs,wpAny_getItem_of (pd ry) dd.mapOf hw ⟨v,H2,I2.tok _,rw',q2⟩⟩
end
def Ir (x:V) (vs:List V) (H:Hp) (Q:VK):Prop:=match x,vs with
 | .str a,[.str b]=>b.length=1/\a.length<=1000/\∀p,H p=none->Q (.ref p) (upd H p (.lst ((Txt.split a b).map V.str)))
 | _,_=>False
theorem nK:∀(tk:Nat) (xs:List Str),aV (xs.map V.str) (strsFrom tk xs)
 | _,[]=>.nil
 | tk,x::r=>.cons ⟨tk,rfl⟩ (nK (tk+1) r)
theorem yn {X:Cx}:uR X "str.split" Ir:=by
 intro pins s σ H x vs v us Q I rx rv h;unfold Ir at h;split at h
 ·rename_i a b;obtain ⟨hb,ha,q⟩:=h;obtain ⟨t,rfl⟩:=rx;obtain ⟨u1,rfl,t1,rfl⟩:=cN rv;have hy:(b.length == 0)=false:=by rw [hb];rfl
  have hl:(Txt.split a b).length<=sizeLine:=by
   unfold Txt.split;split
   ·show 1<=sizeLine;decide
   split
   ·show 1<=sizeLine;decide
   ·rw [length_partsBetween];have:=StrLaws.occ_length_le a b 0 a.length (a.length+1);rw [sizeLine_eq];omega
  have new:∀{k:Nat} {its:List Value},aV ((Txt.split a b).map V.str) its->EP X pins σ Q (.ref s.heap.objs.size) {s with heap:=s.heap.push {cls:=.type "list",data:=.seq its.toArray},toks:=k}:=λ hv=>⟨.ref s.heap.objs.size,_,I.lnew hv (by rw [Lv];exact hl),rfl,q _ I.fresh⟩;have it:Txt.split a b=[a]->aV ((Txt.split a b).map V.str) [Value.str a t]:=λ e=>by rw [e];exact .cons ⟨t,rfl⟩ .nil
  have hz:a.length<=sizeLine:=M7 ha (by decide);cases h1:(decide (a.length<b.length)||decide (Builtin.Str.strKind a<Builtin.Str.strKind b))
  ·cases hf:(Builtin.Str.occurrences a b 0 a.length (a.length+1)).isEmpty
   ·have e:Txt.split a b=Builtin.Str.partsBetween a (Builtin.Str.occurrences a b 0 a.length (a.length+1)) b.length:=(if_neg (ne_true_of_eq_false h1)).trans (if_neg (ne_true_of_eq_false hf));refine call_meets F.slot_str_split (typeIs_str _ _ _) F.entry_str_split (F.args_str_split_2 _ _) (meets_str_split_sep a b t t1 h1 hy hf hz (by rw [<-e];exact hl)) ?_;exact new (by rw [e];exact nK _ _)
   ·exact call_meets F.slot_str_split (typeIs_str _ _ _) F.entry_str_split (F.args_str_split_2 _ _) (meets_str_split_not_found a b t t1 h1 hy hf) (new (k:=s.toks) (it ((if_neg (ne_true_of_eq_false h1)).trans (if_pos hf))))
  ·exact call_meets F.slot_str_split (typeIs_str _ _ _) F.entry_str_split (F.args_str_split_2 _ _) (meets_str_split_cannot_occur a b t t1 h1) (new (k:=s.toks) (it (if_pos h1)))
 ·exact h.elim
end L2
namespace L2
open PySem PySem.Spec PyProof.Rows
theorem jA {β:Type}{prog:Program}{w:World}{A:Around}{E:Value->Shared->Prop}{s:Shared}{f:Nat->β->Sem (ForInStep β)}{R:β->Shared->Prop}{s0:β}{j:Nat}
  (miss:∀k,k<j->∀Q':ForInStep β->Shared->Prop,Q' (.yield s0) s->wpAny (model prog w) A (f k s0) Q' E s) (hit:wpAny (model prog w) A (f j s0) (λ r s'=> ∃b,r=.done b/\R b s') E s):
  ∀(m i:Nat),i<=j->j<i+m->wpAny (model prog w) A (forIn (List.range' i m 1) s0 f) R E s
 | 0,i,h1,h2=>absurd h2 (by omega)
 | m+1,i,h1,h2=>by
   rw [List.range'_succ,Mu]
   by_cases e:i=j
   ·subst e;refine wpAny_bind (wpAny_mono hit (λ r s' h=>?_) (λ _ _ z=>z));obtain ⟨b,rfl,q⟩:=h;exact wpAny_pure q
   ·exact wpAny_bind (miss i (by omega) _ (jA miss hit m (i+1) (by omega) (by omega)))
theorem lX {l:Addr}{items:Array Value}{x:Value}{n:Nat}{dd:Option Addr}{sl:Array (Option Value)}(e:Value->Bool) (j:Nat) (hj:j<items.size) (hit:e items[j]=true) (hno:∀m (hm:m<items.size),m<j->e items[m]=false):
  Meets (Builtin.«tuple.index» ⟨[.ref l,x],[]⟩)
   (λ A R s=>s.heap.get? l=some {cls:=.type "tuple",dict:=dd,data:=.seq items n,slots:=sl}/\(∀y,y∈items->SeqAt.EqAt A.in1 s y x (e y))/\R (.ok (.ret (.int j s.toks))) {s with toks:=s.toks+1}):=by
 intro prog w A R s h;obtain ⟨hp,g,d,tk,os⟩:=s;obtain ⟨hl,he,h⟩:=h;unfold Builtin.«tuple.index»;refine wpAny_bind (wpAny_mono (Q:=λ p s1=>p=(Value.ref l,[x])/\s1=⟨hp,g,d,tk,os⟩) (E:=λ e s'=>R (.error e) s') ?h0 ?h2 (λ _ _ z=>z))
 case h0=>wp_walk;exact ⟨rfl,rfl⟩
 rintro _ _ ⟨rfl,rfl⟩;dsimp only;refine wpAny_bind (wpAny_mono (Q:=λ p s1=>p=items/\s1=⟨hp,g,d,tk,os⟩) (E:=λ e s'=>R (.error e) s') ?h1 ?h3 (λ _ _ z=>z))
 case h1=>wp_walk using AutoSeq1.wpAny_loadPart' hl;exact ⟨rfl,rfl⟩
 rintro its _ ⟨ei,rfl⟩;obtain rfl:=ei.symm;refine wpAny_bind (wpAny_pure ?_);refine wpAny_bind (wpAny_pure ?_);rw [Std.Legacy.Range.forIn_eq_forIn_range'];have es:Std.Legacy.Range.size [0:min items.size items.size]=items.size:=by simp [Std.Legacy.Range.size]
 dsimp only;rw [es];refine wpAny_bind (jA (j:=j) (λ k hk Q' q=>?_) ?_ items.size 0 (M9 _) (by omega))
 ·have hki:k<items.size:=by omega
  have e1:items[k]? =some items[k]:=by simp [hki]
  simp only [e1];refine wpAny_bind (he _ (NM hki) prog w _ _ ?_);rw [hno k hki hk,if_neg Nt]
  wp_walk
  exact q
 ·have e1:items[j]? =some items[j]:=by simp [hj]
  simp only [e1];refine wpAny_bind (he _ (NM hj) prog w _ _ ?_);rw [hit,if_pos rfl]
  wp_walk
  refine ⟨_,rfl,?_⟩
  wp_walk
  exact h
def eG (K:Frag) (p:Addr) (ws:List Str):Prop:= ∃(its:List Value) (n:Nat) (sl:Array (Option Value)),K.lookup p=some ⟨.type "tuple",none,.seq its.toArray n,sl⟩/\aV (ws.map V.str) its
section
variable {X:Cx}{o e:Expr}{to te:TE}
def Dh (K:Frag) (to te:TE):TE:=λ σ H Q=>to σ H λ x H1=>match x with
 | .ref p=> ∃ws:List Str,eG K p ws/\te σ H1 λ y H2=> ∃z,y=.str z/\z∈ws/\Q (.int (ws.idxOf z:Nat)) H2
 | _=>False
theorem sV (K:Frag) {apos cpos:Pos}(ho:PE X o to) (he:PE X e te) (hbase:attributeBase o "index" X.env (eval o X.env)=eval o X.env:=by rfl)
  (hfew:((backTo cpos (starEach [e] X.env)).all (λ x=> !x.1)&&(backToKw cpos (keywordEach [] X.env)).all (λ x=>x.1.isSome)
   &&decide ([e].length+([]:List Keyword).length+(if ([]:List Keyword).isEmpty then 0 else 1)<30))=true:=by rfl)
  (hline:(apos.endLine == cpos.line)=true:=by rfl) (hs:starEach [e] X.env=(false,eval e X.env)::starEach [] X.env:=by rfl) (hplain:(backTo cpos (starEach [] X.env)).any (·.1)=false:=by rfl) (hK:X.K=K:=by rfl):
  PE X (.Call (.Attribute o "index" apos) [e] [] cpos) (Dh K to te):=by
 subst hK;intro pins s σ H Q I h;refine wpAny_Call_method_late hbase hfew hline rfl (bJ (ho pins s σ H _ I h) λ v s1 ⟨x,H1,I1,r1,q1⟩=>?_);cases x with
 | ref l=>
   obtain ⟨ws,⟨its,n,sl,hk,rv⟩,q1⟩:=q1;cases r1;have ty:Dt X.K "tuple" (.ref l) H1:=.inr (.inl ⟨rfl,_,hk,rfl,rfl⟩);obtain ⟨h1,h2⟩:=iY (x:=.ref l) (v:=.ref l) I1 rfl ty;refine ⟨"tuple","tuple.index",PySem.F.plainAttrs_tuple,PySem.F.slot_tuple_index,PySem.F.type_tuple_index,h1,h2,?_⟩;have hA:=(pa_cons he pa_nil hs:PA X [e] (bi te cn)) cpos pins s1 σ H1 (λ vs H2=> ∃y,vs=[y]/\∃z,y=.str z/\z∈ws/\Q (.int (ws.idxOf z:Nat)) H2) I1 (by
    show te σ H1 λ y H2=> ∃y',[y]=[y']/\_;have:(λ (y:V) (H2:Hp)=> ∃z,y=.str z/\z∈ws/\Q (.int (ws.idxOf z:Nat)) H2)=λ y H2=> ∃y',[y]=[y']/\∃z,y'=.str z/\z∈ws/\Q (.int (ws.idxOf z:Nat)) H2:=by
     funext y H2;apply propext
     constructor
     ·intro z;exact ⟨y,rfl,z⟩
     ·rintro ⟨y',e,z⟩;have:y=y':=by injection e
      subst this;exact z
    rw [<-this];exact q1)
   rw [hs] at hA ⊢;refine Calls.callWith_builtin (by show (false||(backTo cpos (starEach [] X.env)).any (·.1))=false;rw [hplain]<;>rfl) (Calls.evalArgs_plain ?_)
   refine bJ hA λ us s2 ⟨vs,H2,I2,r2,y,e,z,e2,hz,q5⟩=>?_;subst e e2;obtain ⟨u,rfl,ru⟩:=cN r2;have ho:=I2.kIn _ _ hk;have hlen:=rv.length;rw [Lv] at hlen;have hj:ws.idxOf z<ws.length:=List.idxOf_lt_length_iff.mpr hz;have fl:(ws.map V.str).all flatV=true:=LP.mpr λ y hy=>by obtain ⟨k,_,rfl⟩:=Lx.mp hy;rfl
   have at_:∀m (hm:m<its.length),pA (.str z) its[m]=decide (ws[m]'(by omega)=z):=λ m hm=>by
    have hx:(ws.map V.str)[m]? =some (V.str (ws[m]'(by omega))):=by rw [LD,Ly (by omega)];rfl
    obtain ⟨w,hw,rw'⟩:=rv.get hx;rw [Ly hm] at hw;have hw:its[m]=w:=Option.some.inj hw;rw [hw,qU rw' rfl];rfl
   refine call_meets PySem.F.slot_tuple_index ⟨_,ho,rfl⟩ PySem.F.entry_tuple_index (iB _ _) (lX (items:=its.toArray) (pA (.str z)) (ws.idxOf z) (by rw [LB];omega) ?_ ?_) ⟨ho,λ w hw=>fU ru rfl rv fl w (by simpa using hw),?_⟩
   ·rw [M0,at_ _ (by omega),List.getElem_idxOf hj];exact decide_eq_true rfl
   ·intro m hm hlt;have hm':m<its.length:=by simpa using hm
    rw [M0,at_ m hm'];refine decide_eq_false λ w=>?_;have h1:=List.not_of_lt_findIdx (p:=(· == z)) (xs:=ws) (i:=m) hlt;rw [w] at h1;simp at h1
   ·exact ⟨.int (ws.idxOf z:Nat),H2,I2.tok _,⟨_,rfl⟩,q5⟩
 | _=>exact q1.elim
def wy (K:Frag) (x:V) (vs:List V) (H:Hp) (Q:VK):Prop:=match x,vs with
 | .str sep,[.ref d]=> ∃ys:List Str,cg K H d (ys.map V.str)/\(ys.map (·.length)).sum+ys.length*sep.length<=16777216/\Q (.str (Txt.join sep ys)) H
 | _,_=>False
theorem lj:∀{ys:List Str}{its:List Value},aV (ys.map V.str) its->∃l:List (Str×Tok),its=strValues l/\l.map (·.1)=ys
 | [],_,.nil=>⟨[],rfl,rfl⟩
 | y::ys,_,.cons h t=>by obtain ⟨k,rfl⟩:=h;obtain ⟨l,rfl,e⟩:=lj t;exact ⟨(y,k)::l,rfl,by rw [LL,e]⟩
theorem Eg (K:Frag) (hK:X.K=K:=by rfl):uR X "str.join" (wy K):=by
 subst hK;intro pins s σ H x vs v us Q I rx rv h;unfold wy at h;split at h
 ·rename_i sep d;obtain ⟨ys,hd,hz,q⟩:=h;obtain ⟨t,rfl⟩:=rx;obtain ⟨u1,rfl,e1⟩:=cN rv;cases e1;obtain ⟨its,r,⟨ob,ho,hc,n,hdt⟩,_⟩:=I.tuple hd;obtain ⟨l,rfl,el⟩:=lj r;have hl:Builtin.Str.tooLong ((l.map (·.1)).toArray.foldl (· + ·.length+sep.length) 0)=false:=by rw [el,StrLaws.joinTotal];exact decide_eq_false (by rw [<-sizeLine_eq] at hz;exact Nat.not_lt.mpr hz)
  refine call_meets F.slot_str_join (typeIs_str _ _ _) F.entry_str_join (F.args_str_join_2 _ _) (meets_str_join_tuple sep t d l hl) ⟨⟨ob,n,ho,hc,hdt⟩,post_join l ⟨joinFit_length hl,λ t' k=>?_⟩⟩;refine ⟨.str (Txt.join sep ys),H,I.tok _,⟨t',?_⟩,q⟩;rw [el]
 ·exact h.elim
end
theorem Jc {X:Cx}{o i value:Expr}{pos pos':Pos}{td ty tv:TE}(hu:X.A.units+20<cLine) (ho:PE X o td) (hi:PE X i ty) (hv:PE X value tv) (hs:swapsWith value (some (.Subscript o i pos')) pos.line X.env=pure false:=by rfl):PS X (.Assign [.Subscript o i pos'] value pos) (rT td ty tv):=xX (by omega) ho hi hv hs
end L2
namespace L2
open PySem PySem.Spec PyProof.Rows
section
variable {X:Cx}{pos:Pos}
end
section
variable {X:Cx}{o e:Expr}{to te:TE}
def JH (to:TE):TE:=λ σ H Q=>to σ H λ x H1=>match x with
 | .ref l=>(∃xs,H1 l=some (.lst xs))/\vP (.ref l) [] H1 Q
 | _=>False
theorem xg {apos cpos:Pos}(ho:PE X o to) (hbase:attributeBase o "clear" X.env (eval o X.env)=eval o X.env:=by rfl) (hline:(apos.endLine == cpos.line)=true:=by rfl):
  PE X (.Call (.Attribute o "clear" apos) [] [] cpos) (JH to):=by
 intro pins s σ H Q I h;refine wpAny_Call_method0_late hbase hline (bJ (ho pins s σ H _ I h) λ v s1 ⟨x,H1,I1,r1,q1⟩=>?_);cases x with
 | ref l=>
   obtain ⟨⟨xs0,e0⟩,q1⟩:=q1;have ty:Dt X.K "list" (.ref l) H1:=.inl ⟨rfl,xs0,aI.of e0⟩;obtain ⟨h1,h2⟩:=iY I1 r1 ty;exact ⟨"list","list.clear",PySem.F.plainAttrs_list,PySem.F.slot_list_clear,PySem.F.type_list_clear,h1,h2,Calls.callWith_builtin rfl (PySem.evalArgs_none (v7 pins s1 σ H1 _ [] v [] Q I1 r1 .nil q1))⟩
 | _=>exact q1.elim
end
end L2
local macro_rules | `(tactic| walk_at "rd")=> `(tactic| simp only [L2.bg,L2.lZ,L2.dw,L2.tAsg,L2.gName,L2.jV,L2.hZ,L2.bE,L2.tC,L2.kx,L2.iV,L2.dI,L2.bb,L2.eqB,L2.fZ,L2.eK,L2.pL,L2.yU,L2.tf,L2.yV,L2.Dj,L2.pW,L2.kE,L2.E3,L2.E6,L2.EZ,L2.pK,L2.iD,L2.cB,L2.bi,L2.cn,L2.E7,L2.JF,L2.gb,L2.nP,L2.xG,L2.EX,L2.EY,L2.jm,L2.jT,L2.m8,L2.v9,L2.tH,L2.wz,L2.Io,L2.upA,L2.Le,My,Mz,Mm,M1])
seal L2.PE L2.PT L2.PA L2.PS L2.ro L2.PG L2.E8 L2.PI L2.PO L2.pS L2.PW L2.bn L2.uR L2.ik L2.Lo L2.tp L2.uP
namespace L2
open PySem PySem.Spec PyProof.Rows
theorem bj.or {P:Program}{w:World}{K:Frag}{mg:Str->Option Value}{base:Heap}{CX:tw}{k:Nat}{f:Addr}{fd:FuncData}{ps:List Str}{sp sp':Sp}(F:bj P w K mg base CX k f fd ps sp) (G:bj P w K mg base CX k f fd ps sp'):
  bj P w K mg base CX k f fd ps (λ vs H Q E=>sp vs H Q E\/sp' vs H Q E):=
 ⟨λ vs H Q E h=>h.elim (F.len vs H Q E) (G.len vs H Q E),λ A outer s H args us vs Q E hr he hb hv hs=>hs.elim (F.run A outer s H args us vs Q E hr he hb hv) (G.run A outer s H args us vs Q E hr he hb hv)⟩
theorem j8 (s:String):(Str.ofString s).cps.toList=s.toList.map Char.toNat:=by rw [Str.ofString_eq_toList]
theorem xI {n:Int}(h:n<0):("-":Str)++Str.ofString (toString (-n))=Str.ofString (toString n):=by
 apply str_ext;have e:(0:Int) - n= -n:=by omega
 rw [PyProof.Rows.toString_neg h,e,cS,j8,j8,j8,String.toList_append,LR]
def rG:Sp:=λ vs H Q _=> ∃n:Int,vs=[.int n]/\0<=n/\n<10 ^ 60/\∀H',ag H H'->Q (.str (Str.ofString (toString n))) H'
def vo:Sp:=λ vs H Q _=> ∃n:Int,vs=[.int n]/\n.natAbs<10 ^ 60/\∀H',ag H H'->Q (.str (Str.ofString (toString n))) H'
def xN:Sp:=λ vs H Q _=> ∃n:Int,vs=[.int n]/\n<0/\n.natAbs<10 ^ 60/\∀H',ag H H'->Q (.str (Str.ofString (toString n))) H'
def iQ (l:List Nat):List Nat:=match l with
 | 45::r=>r
 | l=>l
def iN (l:List Nat):Bool:=decide (1<=(iQ l).length)&&decide ((iQ l).length<=9)&&(iQ l).all (λ c=>decide (48<=c/\c<=57))&& !((iQ l).head? == some 48&& !(l == [48]))
def ym (x:Str):Option Int:=if iN x.cps.toList=true then PySem.intText? x else none
def mZ (x:Str):V:=match ym x with
 | some n=>.int n
 | none=>.non
theorem uc {x:Str}(h:iN x.cps.toList=true) (hl:x.length<=600):∃n,PySem.intText? x=some n:=by
 unfold iN at h;simp only [Nu,decide_eq_true_eq,LP] at h;obtain ⟨⟨⟨h1,h2⟩,h3⟩,h4⟩:=h
 match e:x.cps.toList,h1,h3 with
 | [],h1,_=>simp [iQ] at h1
 | c::r,h1,h3=>
   by_cases hc:c=45
   ·subst hc;exact ⟨_,PySem.intText_neg e (λ d hd=>h3 d hd) (by intro z;subst z;simp [iQ] at h1) (by omega)⟩
   ·have ef:iQ (c::r)=c::r:=by
     unfold iQ;split
     ·rename_i z;cases z;exact absurd rfl hc
     ·rfl
    rw [ef] at h3;refine ⟨_,PySem.intText_digits (x:=x) (by rw [e];exact λ d hd=>h3 d hd) (by rw [e];simp) (by omega)⟩
def CW:Sp:=λ vs H Q _=> ∃x,vs=[.str x]/\x.length<=100/\∀H',ag H H'->Q (mZ x) H'
def fig (x:Str):Str:=if [45].isPrefixOf x.cps.toList=true then jN x (some 1) none else x
theorem tG:("-":Str).cps.toList=[45]:=by decide+kernel
theorem str_0:("0":Str).cps.toList=[48]:=by decide+kernel
theorem xJ:("0123456789":Str).cps.toList=[48,49,50,51,52,53,54,55,56,57]:=by decide+kernel
theorem Lc (x:Str):(jN x (some 1) none).cps.toList=x.cps.toList.drop 1:=by
 rw [jl];show ((x.cps.toList.drop (min 1 x.length)).take (x.length - min 1 x.length))=_;rw [bG]
 by_cases h:x.cps.toList.length=0
 ·have:x.cps.toList=[]:=MW.mp h;rw [this];simp
 ·have e:min 1 x.cps.toList.length=1:=by omega
  rw [e,Mc (by rw [LU];exact M6 _)]
theorem px (x:Str):(fig x).cps.toList=iQ x.cps.toList:=by
 unfold fig
 match e:x.cps.toList with
 | []=>simp [iQ,List.isPrefixOf,e]
 | c::r=>
   by_cases hc:c=45
   ·subst hc;rw [if_pos (by simp [List.isPrefixOf]),Lc,e];rfl
   ·rw [if_neg (by simp [List.isPrefixOf];exact λ z=>hc z.symm),e];unfold iQ;split
    ·rename_i z;cases z;exact absurd rfl hc
    ·rfl
theorem wM (l:List Nat):(iQ l).length<=l.length:=by
 unfold iQ;split
 ·simp
 ·exact M6 _
theorem yQ (x:Str):(fig x).length<=x.length:=by rw [bG,px,bG x];exact wM _
theorem Ep (c:Nat):decide (c∈("0123456789":Str).cps.toList)=decide (48<=c/\c<=57):=by rw [xJ,Nv];simp only [decide_eq_true_eq,Lw,LO,or_false];omega
section
variable {P:Program}{w:World}{K:Frag}{mg:Str->Option Value}{base:Heap}
theorem DG (x:Str) (H:Hp) (k:VK) (hx:x.length<=100) (h:k (.str (fig x)) H):
  EY (fZ (E7 Io (bE 0) (bi (tC (.str "-")) cn))) (E6 K (bE 0) (pK (tC (.int 1))) iD) (bE 0) [some (.str x),none] H k:=by
 walk_at "rd"
 rw [tG];unfold fig at h
 by_cases hp:[45].isPrefixOf x.cps.toList=true
 ·rw [if_pos hp] at h;rw [if_pos hp];exact ⟨M7 hx (by decide),h⟩
 ·rw [if_neg hp] at h;rw [if_neg hp];exact h
theorem DH (x y:Str) (H:Hp) (k:VK) (hy:y.length<=100) (h:∀H' d,ag H H'->H' d=none->k (.ref d) (upd H' d (.lst ((y.cps.toList.map λ c=>decide (48<=c/\c<=57)).map V.bl)))):
  tComp (Es (bE 1)) (gName 0) da (dI K .In (bE 0) (tC (.str "0123456789"))) [none] [some (.str x),some (.str y)] H k:=by
 unfold tComp;simp only [Es,bE,Mz,My];have hl:(y.cps.toList.map λ c=>V.str ⟨#[c]⟩).length=y.length:=by rw [Lv,<-bG]
 refine uE (y.cps.toList.map λ c=>V.str ⟨#[c]⟩) (λ H'=>ag H H') (λ σ=> ∃v,σ=[v]) (λ _=>true) (λ v=>match v with | .str z=>.bl (decide (z.cps.toList.headD 0∈("0123456789":Str).cps.toList)) | _=>.non) (by rw [hl];exact M7 hy (by decide))
  (λ i H' _ hi=>by rw [hl] at hi;exact hi) (λ i H' _ hi=>by rw [hl] at hi;exact hi) (λ i H' v H'' hR hv=>?_) (ag.refl H) ⟨none,rfl⟩ (λ i v σ' H' hS hR hv Kt Kf ht hf=>?_) (λ H' d hR hd=>?_)
 ·obtain ⟨rfl,c,hc,rfl⟩:=hv;exact ⟨hR,by rw [LD,hc];rfl⟩
 ·obtain ⟨v0,rfl⟩:=hS;rw [LD] at hv;cases hc:y.cps.toList[i]? with
  | none=>rw [hc] at hv;cases hv
  | some c=>
    rw [hc] at hv;have hv:V.str ⟨#[c]⟩=v:=Option.some.inj hv;subst hv;simp only [gName,da,Mm,if_true]
    walk_at "rd"
    rw [StrLaws.found_one];exact ht rfl _ _ ⟨_,rfl⟩ hR
 ·have:=h H' d hR hd;rw [LZ.mpr (λ _ _=>rfl),LC];rw [LC] at this;have e:(y.cps.toList.map ((λ v=>match v with | V.str z=>V.bl (decide (z.cps.toList.headD 0∈("0123456789":Str).cps.toList)) | _=>V.non)∘λ c=>V.str ⟨#[c]⟩))=y.cps.toList.map (V.bl∘λ c=>decide (48<=c/\c<=57)):=by apply Md;intro c _;show V.bl (decide (c∈("0123456789":Str).cps.toList))=V.bl (decide (48<=c/\c<=57));rw [Ep]
  rw [e];exact this
theorem yk {x:Str}{n:Int}(h:iN x.cps.toList=true) (e:PySem.intText? x=some n):mZ x=.int n:=by unfold mZ ym;rw [if_pos h,e]
theorem yl {x:Str}(h:¬iN x.cps.toList=true):mZ x=.non:=by unfold mZ ym;rw [if_neg h]
theorem vS (c:Nat) (l:List Nat):[c].isPrefixOf l=(l.head? == some c):=by
 cases l with
 | nil=>rfl
 | cons a r=>
   show (c == a&&true)=(some a == some c);rw [NE,Nv];simp;exact eq_comm
theorem Dq (x:Str):(x=("0":Str))<->x.cps.toList=[48]:=by
 constructor
 ·intro h;rw [h,str_0]
 ·intro h;apply str_ext;rw [h,str_0]
end
def lawAt (ns:List Int) (k:Int):Int:=((if 0<ns.length then ns.getD (k % (ns.length:Int)).toNat 0 else 0)+17*k)*48271 % 1000003
theorem iO (ns:List Int) (k:Int):0<=lawAt ns k/\lawAt ns k<1000003:=by unfold lawAt;exact ⟨Nn _ (by decide),No _ (by decide)⟩
theorem EN {α:Type}{xs:List α}{i:Int}(h0:0<=i) (h1:i<xs.length):∃v,kA xs i=some v/\xs[i.toNat]? =some v:=by
 have hx:xs[i.toNat]? =some (xs[i.toNat]'(by omega)):=Ly (by omega);refine ⟨_,?_,hx⟩;have e:i=((i.toNat:Nat):Int):=by omega
 have:=bo hx;rw [<-e] at this;exact this
def kG (K:Frag):Sp:=λ vs H Q _=> ∃a ns k,vs=[.ref a,.int k]/\aI K H a (ns.map V.int)/\0<=k/\k<=1000/\Q (.int (lawAt ns k)) H
theorem lD {n:Int}(h:n.natAbs<10 ^ 60):n.natAbs.log2<1920:=by
 have hz:n.natAbs<2 ^ 200:=by
  have:(10:Nat) ^ 60<2 ^ 200:=by decide
  omega
 by_cases hz0:n.natAbs=0
 ·rw [hz0];decide
 ·have:=(Nat.log2_lt hz0).mpr hz;omega
end L2
namespace K07
open PySem L2
def bC (i:Nat):Stmt:=PySem.Challenge.pw_playboard_k07_games_written.main.body.getD i (.Pass ⟨0,0,0,0⟩)
abbrev rS:Stmt:=bC 0
abbrev eZ:Stmt:=eO (bC 5) 0
abbrev eW:Stmt:=bC 9
theorem oj:aG ["thing"] ["thing"] (ak eW):=gc
abbrev dS:Stmt:=bC 10
theorem me:aG ["thing"] ["thing"] (ak dS):=gc
abbrev eY:Stmt:=bC 11
theorem om:aG ["thing","least","most"] ["thing","least","most"] (ak eY):=gc
abbrev bV:Stmt:=bC 12
theorem cA:aG ["number","group","groups","left"] ["number"] (ak bV):=gc
abbrev cV:Stmt:=bC 13
theorem iG:aG ["text","figures"] ["text"] (ak cV):=gc
abbrev cZ:Stmt:=bC 16
theorem mj:aG ["thing","many"] ["thing","many"] (ak cZ):=gc
abbrev bM:Stmt:=eO (bC 17) 0
theorem iH:aG ["self","wide","high","holes"] ["self","wide","high","holes"] (ak bM):=gc
abbrev jv:Stmt:=eO (bC 17) 1
abbrev gz:Stmt:=eO (bC 17) 2
abbrev ic:Stmt:=eO (bC 17) 3
abbrev gB:Stmt:=eO (bC 17) 4
abbrev fM:Stmt:=bC 26
theorem ql:aG ["thing","words"] ["thing","words"] (ak fM):=gc
abbrev cQ:Stmt:=bC 27
theorem j0:aG ["thing","many"] ["thing","many"] (ak cQ):=gc
abbrev df:Stmt:=bC 28
theorem kJ:aG ["thing","least","most"] ["thing","least","most"] (ak df):=gc
abbrev fN:Stmt:=bC 29
theorem j1:aG ["sort","across","up","longest"] ["sort","across","up"] (ak fN):=gc
abbrev fO:Stmt:=bC 30
theorem ir:aG ["thing","kinds","sort","aim"] ["thing","kinds"] (ak fO):=gc
abbrev fP:Stmt:=bC 31
theorem qm:aG ["thing","firsts","seconds"] ["thing","firsts","seconds"] (ak fP):=gc
abbrev cX:Stmt:=bC 32
theorem mh:aG ["thing","firsts","seconds"] ["thing","firsts","seconds"] (ak cX):=gc
abbrev cT:Stmt:=bC 33
theorem ju:aG ["thing","kinds","firsts"] ["thing","kinds"] (ak cT):=gc
abbrev fQ:Stmt:=bC 34
theorem qo:aG ["thing","kinds"] ["thing","kinds"] (ak fQ):=gc
abbrev cY:Stmt:=bC 35
theorem mi:aG ["thing"] ["thing"] (ak cY):=gc
abbrev cW:Stmt:=bC 36
theorem mf:aG ["thing","kinds"] ["thing","kinds"] (ak cW):=gc
abbrev cp:Stmt:=eO (bC 38) 0
theorem i9:aG ["self","board","kinds","rules","turns","ends","stuck"] ["self","board","kinds","rules","turns","ends","stuck"] (ak cp):=gc
abbrev gw:Stmt:=eO (bC 38) 1
abbrev ib:Stmt:=eO (bC 38) 2
abbrev dR:Stmt:=bC 42
theorem md:aG ["rule"] ["rule"] (ak dR):=gc
abbrev cr:Stmt:=bC 43
theorem ip:aG ["game","board","lines"] ["game"] (ak cr):=gc
abbrev fL:Stmt:=bC 44
theorem iq:aG ["form","word","fits"] ["form","word"] (ak fL):=gc
abbrev dz:Stmt:=bC 45
theorem fz:aG ["line","words","form","parts"] ["line"] (ak dz):=gc
abbrev de:Stmt:=bC 46
theorem kI:aG ["sort","last"] ["sort","last"] (ak de):=gc
abbrev dc:Stmt:=bC 47
theorem bw:aG ["lines","found","sort","last","at","line","parts"] ["lines"] (ak dc):=gc
abbrev cu:Stmt:=bC 48
theorem cC:aG ["lines","found","size","board","kinds","rules","turns","ends"] ["lines"] (ak cu):=gc
abbrev fR:Stmt:=bC 50
theorem iu:aG ["_law_script","_law_k","_law_cell"] ["_law_script","_law_k"] (ak fR):=gc
abbrev dg:Stmt:=bC 51
theorem kK:aG ["_law_thing"] ["_law_thing"] (ak dg):=gc
abbrev dU:Stmt:=bC 52
theorem ml:aG ["_law_cell"] ["_law_cell"] (ak dU):=gc
abbrev di:Stmt:=bC 53
theorem bU:aG ["_law_script","_law_k","_law_many","_law_count","_law_found","_law_j","_law_square"] ["_law_script","_law_k","_law_many"] (ak di):=gc
abbrev cJ:Stmt:=bC 54
theorem cP:aG ["_law_script","_law_k","_law_cell","_law_letters","_law_step","_law_many"] ["_law_script","_law_k"] (ak cJ):=gc
abbrev dX:Stmt:=bC 55
theorem bH:aG ["_law_cell","_law_kinds_here","_law_sort","_law_far","_law_aim","_law_across","_law_up"] ["_law_cell","_law_kinds_here"] (ak dX):=gc
abbrev cH:Stmt:=bC 56
theorem dM:aG ["_law_script","_law_k","_law_kinds_here","_law_cell","_law_many"] ["_law_script","_law_k","_law_kinds_here"] (ak cH):=gc
abbrev cF:Stmt:=bC 57
theorem cO:aG ["_law_script","_law_k","_law_kinds_here","_law_cell","_law_many","_law_others"] ["_law_script","_law_k","_law_kinds_here"] (ak cF):=gc
abbrev dY:Stmt:=bC 58
theorem db:aG ["_law_script","_law_k","_law_kinds_here","_law_cell","_law_found","_law_j","_law_one"] ["_law_script","_law_k","_law_kinds_here"] (ak dY):=gc
abbrev dh:Stmt:=bC 59
theorem dN:aG ["_law_script","_law_k","_law_kinds_here","_law_rules_here","_law_turns_here"] ["_law_script","_law_k"] (ak dh):=gc
abbrev bI:Stmt:=bC 60
theorem bT:aG ["_law_wide","_law_high","_law_holes_here","_law_parts_here","_law_stuck","_law_texts","_law_one"] ["_law_wide","_law_high","_law_holes_here","_law_parts_here","_law_stuck"] (ak bI):=gc
abbrev dW:Stmt:=bC 61
theorem gh:aG ["_law_game","_law_wide","_law_high","_law_holes_here","_law_parts_here","_law_stuck","_law_board","_law_rule_here"] ["_law_game","_law_wide","_law_high","_law_holes_here","_law_parts_here","_law_stuck"] (ak dW):=gc
abbrev cI:Stmt:=bC 62
theorem bK:aG ["_law_game","_law_wide","_law_high","_law_holes_here","_law_parts_here","_law_stuck","_law_kept","_law_due","_law_found","_law_turned","_law_texts","_law_handed","_law_again"] ["_law_game","_law_wide","_law_high","_law_holes_here","_law_parts_here","_law_stuck","_law_kept"] (ak cI):=gc
abbrev ia:Stmt:=bC 63
theorem eV:aG ["_law_script","_law_wide","_law_high","_law_holes_here","_law_parts_here","_law_others","_law_stuck","_law_game","_law_other","_law_kept","_law_turn"] ["_law_script"] (ak ia):=gc
structure Txt (mg:Str->Option Value) (aS aA aE aW aO aF:Addr):Prop where
 isinstance:mg "isinstance"=none
 int:mg "int"=none
 bool:mg "bool"=none
 str:mg "str"=none
 list:mg "list"=none
 tuple:mg "tuple"=none
 len:mg "len"=none
 range:mg "range"=none
 all:mg "all"=none
 any:mg "any"=none
 set:mg "set"=none
 sorted:mg "sorted"=none
 min:mg "min"=none
 dict:mg "dict"=none
 zip:mg "zip"=none
 enumerate:mg "enumerate"=none
 reversed:mg "reversed"=none
 MOST_PAIRS:∃u,mg "MOST_PAIRS"=some u/\aN (.int 6) u
 MOST_KINDS:∃u,mg "MOST_KINDS"=some u/\aN (.int 6) u
 MOST_RULES:∃u,mg "MOST_RULES"=some u/\aN (.int 24) u
 FIGURES:∃u,mg "FIGURES"=some u/\aN (.str "0123456789") u
 MOST_FIGURES:∃u,mg "MOST_FIGURES"=some u/\aN (.int 9) u
 LONGEST:∃u,mg "LONGEST"=some u/\aN (.int 8) u
 SORTS:∃u,mg "SORTS"=some u/\aN (.ref aS) u
 AIMS:∃u,mg "AIMS"=some u/\aN (.ref aA) u
 END_WORDS:∃u,mg "END_WORDS"=some u/\aN (.ref aE) u
 STUCK_WORDS:∃u,mg "STUCK_WORDS"=some u/\aN (.ref aW) u
 ORDER:∃u,mg "ORDER"=some u/\aN (.ref aO) u
 FORMS:∃u,mg "FORMS"=some u/\aN (.ref aF) u
section
variable {P:Program}{w:World}{K:Frag}{mg:Str->Option Value}{base:Heap}{aS aA aE aW aO aF:Addr}
theorem jJ {f:Addr}{fd:FuncData}(F:bX K "number_text" "number_text" bV f fd) (T:Txt mg aS aA aE aW aO aF):bj P w K mg base eI 1 f fd ["number"] rG:=by
 refine F.ok cA (λ vs H Q E h=>?_) (λ cdv A outer s H vs Q E hr h=>?_)
 ·obtain ⟨n,rfl,_⟩:=h;rfl
 ·obtain ⟨n,rfl,h0,h1,k⟩:=h;have hu:=cq hr;refine ⟨_,(aa (bf (bz K hu (cv 0) af) jb aC)
   (aa (av (i:=1) cA.nd rfl (Or.inl rfl) (aq af af))
   (aa (av (i:=2) cA.nd rfl (Or.inl rfl) (bu pa_nil))
   (aa (av (i:=3) cA.nd rfl (Or.inl rfl) (cv 0))
   (aa (vR PassesOwn.never (bz K hu (cv 3) (cv 1)) jb)
   (aa (cy (gX (cv 2) (Dg dH gv T.str (pa_cons (cv 3) pa_nil))))
   (aj (az (kjr K T.reversed aH (cv 2)))))))))),?_⟩
  show bg _ _ _ [oJ n,none,none,none] H
  walk_at "rd"
  rw [decide_eq_false (by omega:¬n<0)];refine jj ⟨⟨by decide,by decide,by decide⟩,?_⟩;simp only [qf,cn];refine ⟨M9 _,λ p hp=>?_⟩;refine ⟨λ m σ' H'=>m=0/\σ'=[oJ n,oJ (10 ^ (60:Int).toNat),oR p,oJ n]/\H'=upd H p (.lst []),⟨0,rfl,rfl,rfl⟩,?_⟩;rintro m σ' H' ⟨rfl,rfl,rfl⟩
  walk_at "rd"
  have hlt:¬((10:Int) ^ (60:Int).toNat<=n):=by
   have e:(10:Int) ^ (60:Int).toNat=10 ^ 60:=by decide
   rw [e];omega
  rw [decide_eq_false hlt];simp only [Nw,if_false];simp only [xj,bE,My,Mz,ae];refine ⟨⟨_,rfl⟩,?_⟩;have hlog:n.natAbs.log2<1920:=by
   have hz:n.natAbs<2 ^ 200:=by
    have:(10:Nat) ^ 60<2 ^ 200:=by decide
    omega
   by_cases hz0:n.natAbs=0
   ·rw [hz0];decide
   ·have:=(Nat.log2_lt hz0).mpr hz;omega
  refine ⟨hlog,[],ae,by decide,?_⟩;refine ⟨[Str.ofString (toString n)],aI.of ae,?_,?_⟩
  ·have:=PyProof.Rows.toString_length_le h0 (by decide) h1;show (Str.ofString (toString n)).length+0+1*0<=16777216;omega
  ·show Q (.str (Str.ofString (toString n))) _;refine k _ ?_;rw [xE];exact (ag.refl H).upd hp
theorem jK {f:Addr}{fd:FuncData}(F:bX K "number_text" "number_text" bV f fd) (T:Txt mg aS aA aE aW aO aF) (C:eA P w K mg base "number_text" ["number"] 1 rG):bj P w K mg base eI 2 f fd ["number"] xN:=by
 refine F.ok cA (λ vs H Q E h=>?_) (λ cdv A outer s H vs Q E hr h=>?_)
 ·obtain ⟨n,rfl,_⟩:=h;rfl
 ·obtain ⟨n,rfl,h0,h1,k⟩:=h;have hu:=cq hr;refine ⟨_,(aa (bf (bz K hu (cv 0) af) (aj (az (aq aH (sW C hr (by decide) (pa_cons (nw (cv 0)) pa_nil))))) aC) jb),?_⟩;show bg _ _ _ [oJ n,none,none,none] H
  walk_at "rd"
  rw [decide_eq_true h0];refine ji ⟨-n,rfl,by omega,by omega,λ H' s=>?_⟩;have hz:=PyProof.Rows.toString_length_le (v:= -n) (by omega) (k:=60) (by decide) (by omega);have ez:sizeLine=16777216:=sizeLine_eq;refine ⟨by show 1+_<=sizeLine;omega,?_⟩;have hk:=k H' s;rw [<-xI h0] at hk;exact hk
theorem j5 {f:Addr}{fd:FuncData}(F:bX K "number_text" "number_text" bV f fd) (T:Txt mg aS aA aE aW aO aF) (hm:mg "number_text"=some (.ref f)) (hb:gY K fd ["number"] []):bj P w K mg base eI 2 f fd ["number"] vo:=by
 have N:=jJ (P:=P) (w:=w) (base:=base) F T;have M:=jK (P:=P) (w:=w) (base:=base) F T ⟨f,fd,N,hm,F.kp,hb⟩;refine ((N.mono (by decide:1<=2)).or M).imp λ vs H Q E h=>?_;obtain ⟨n,rfl,h1,k⟩:=h
 by_cases h0:n<0
 ·exact .inr ⟨n,rfl,h0,h1,k⟩
 ·exact .inl ⟨n,rfl,by omega,by omega,k⟩
theorem mN {f:Addr}{fd:FuncData}(F:bX K "number_of" "number_of" cV f fd) (T:Txt mg aS aA aE aW aO aF):bj P w K mg base eI 1 f fd ["text"] CW:=by
 refine F.ok iG (λ vs H Q E h=>?_) (λ cdv A outer s H vs Q E hr h=>?_)
 ·obtain ⟨x,rfl,_⟩:=h;rfl
 ·obtain ⟨x,rfl,hx,k⟩:=h;have hu:=cq hr;refine ⟨_,(aa (av (i:=1) iG.nd rfl (Or.inl rfl) (gN (bh (Da PySem.F.slot_str_startswith PySem.F.type_str_startswith v5 (cv 0) (au aH pa_nil))) (E2 K (cv 0) (gt af) gi) (cv 0)))
   (aa (bf (bm (yr K hu af (kB (gG K) bW T.len (au (cv 1) pa_nil)) (kg T.MOST_FIGURES))) (aj (az dC)) aC)
   (aa (bf (bm (bh (kB (ww K) ky T.all (au (cz (bp (N:=["sign"]) (src:=[none]) (ak cV) ["text","figures"]) (DT (cv 1)) (λ _ _ _=>(aL (i:=0) ["sign"])) (λ _ _ _=>aP) (λ _ _ _=>(gS K hu (cv 0) (kg T.FIGURES)))) pa_nil)))) (aj (az dC)) aC)
   (aa (bf (PW.pt (qu (bh (Da PySem.F.slot_str_startswith PySem.F.type_str_startswith v5 (cv 1) (au aH pa_nil))) (mI (bz K hu (cv 0) aH)))) (aj (az dC)) aC)
   (aj (az (pe uJ rm T.int (au (cv 0) pa_nil)))))))),?_⟩
  show bg _ _ _ [oT x,none] H;simp only [bg,tAsg];refine DG x H _ hx ?_;have hy:=yQ x;have el:=px x;generalize fig x=y at hy el ⊢;have hy':y.length<=sizeLine:=M7 hy (M7 hx (by decide));have hlen:y.length=(iQ x.cps.toList).length:=by rw [bG,el]
  have no:¬iN x.cps.toList=true->∀H',ag H H'->Q .non H':=λ h H' s=>by
   have:=k H' s
   rwa [yl h] at this
  have yes:iN x.cps.toList=true->∀H',ag H H'->∃n,PySem.intText? x=some n/\x.length<=640/\Q (.int n) H':=λ h H' s=>by obtain ⟨n,e⟩:=uc h (by omega);have:=k H' s;rw [yk h e] at this;exact ⟨n,e,by omega,this⟩
  have ok:iN x.cps.toList=(decide (1<=y.length)&&decide (y.length<=9)&&y.cps.toList.all (λ c=>decide (48<=c/\c<=57))&& !(y.cps.toList.head? == some 48&& !decide (x=("0":Str)))):=by unfold iN;rw [<-el,<-bG,show (x.cps.toList == [48])=decide (x=("0":Str)) by rw [Nv];simp [Dq]]
  walk_at "rd"
  refine ⟨hy',?_⟩
  by_cases a1:1<=y.length
  ·rw [decide_eq_true (by omega:(1:Int)<=(y.length:Int)),if_pos rfl]
   by_cases a2:y.length<=9
   ·rw [decide_eq_true (by omega:(y.length:Int)<=9)];simp only [Nz,Nw,if_false];refine DH x y H _ (by omega) λ H' d hs hd=>?_;have hs':=hs.upd (o:=.lst ((y.cps.toList.map λ c=>decide (48<=c/\c<=57)).map V.bl)) hd;simp only [xq];refine ⟨_,aI.of ae,?_⟩;simp only [eK,MA];rw [decide_eq_true a1,decide_eq_true a2,Nx,Nx] at ok;have ea:(y.cps.toList.all (id∘λ c=>decide (48<=c/\c<=57)))=y.cps.toList.all (λ c=>decide (48<=c/\c<=57)):=rfl;rw [ea];cases a3:y.cps.toList.all (λ c=>decide (48<=c/\c<=57)) with
    | false=>
      rw [a3,NB] at ok;exact no (by rw [ok];simp) _ hs'
    | true=>
      rw [a3,Nx] at ok;simp only [Nz,Nw,if_false];rw [str_0,vS];cases a4:(y.cps.toList.head? == some 48) with
      | false=>
        rw [a4,NB,NA] at ok;simp only [Nw,if_false];exact yes ok _ hs'
      | true=>
        rw [a4,Nx,Bool.not_not] at ok;simp only [if_true]
        by_cases a5:x=("0":Str)
        ·simp only [a5,decide_true,Nz,Nw,if_false];rw [decide_eq_true a5] at ok;have:=yes ok _ hs';rw [a5] at this;exact this
        ·rw [decide_eq_false a5] at ok;rw [decide_eq_false a5];exact no (by rw [ok];simp) _ hs'
   ·rw [decide_eq_false (by omega:¬(y.length:Int)<=9)];rw [decide_eq_false a2] at ok;simp only [NA,if_true];exact no (by rw [ok];simp) _ (ag.refl H)
  ·rw [decide_eq_false (by omega:¬(1:Int)<=(y.length:Int))];rw [decide_eq_false a1] at ok;simp only [NA,Nw,if_false,if_true];exact no (by rw [ok];simp) _ (ag.refl H)
theorem oV {f:Addr}{fd:FuncData}(F:bX K "is_whole" "is_whole" eW f fd) (T:Txt mg aS aA aE aW aO aF):bj P w K mg base eI 1 f fd ["thing"] jX:=by
 refine F.ok oj (λ vs H Q E h=>?_) (λ cdv A outer s H vs Q E hr h=>?_)
 ·obtain ⟨v,rfl,_⟩:=h;rfl
 ·obtain ⟨v,rfl,t,q⟩:=h;refine ⟨_,(aj (az (dq (wt .int T.isinstance T.int rm (cv 0)) (dB (xf (wt .bool T.isinstance T.bool tj (cv 0))))))),?_⟩;show dw _ _ [some v] H;refine aU (ca (lN (ab rfl) t) (λ _=>wN (lN (ab rfl) t))) ?_;rw [uX t];exact q
theorem oX {f:Addr}{fd:FuncData}(F:bX K "is_among" "is_among" eY f fd) (T:Txt mg aS aA aE aW aO aF) (C:RG0 P w K mg base):bj P w K mg base eI 2 f fd ["thing","least","most"] jY:=by
 refine F.ok om (λ vs H Q E h=>?_) (λ cdv A outer s H vs Q E hr h=>?_)
 ·obtain ⟨v,a,b,rfl,_⟩:=h;rfl
 ·obtain ⟨v,a,b,rfl,t,q⟩:=h;have hu:=cq hr;refine ⟨_,(aj (az (dq (aD C.is_whole hr (au (cv 0) pa_nil)) (dB (qO K hu (cv 1) (cv 0) (cv 2)))))),?_⟩;show dw _ _ [some v,oJ a,oJ b] H;have hc:=aM (sp:=jX) (σ:=[some v,oJ a,oJ b]) (H:=H) (ac (ab (n:=0) rfl) ar) (λ Q q=>⟨v,rfl,t,q⟩);cases v with
  | int i=>exact aU (ca hc (λ _=>sM (ab rfl) (ab rfl) (λ _=>ab rfl))) q
  | _=>exact aU (ca (b:=false) hc (λ h=>by cases h)) q
theorem qB {f:Addr}{fd:FuncData}(F:bX K "is_word" "is_word" fM f fd) (T:Txt mg aS aA aE aW aO aF):bj P w K mg base eI 1 f fd ["thing","words"] (fw K):=by
 refine F.ok ql (λ vs H Q E h=>?_) (λ cdv A outer s H vs Q E hr h=>?_)
 ·obtain ⟨v,d,ws,rfl,_⟩:=h;rfl
 ·obtain ⟨v,d,ws,rfl,t,hw,q⟩:=h;have hu:=cq hr;refine ⟨_,(aj (az (dq (wt .str T.isinstance T.str gv (cv 0)) (dB (gS K hu (cv 0) (cv 1)))))),?_⟩;show dw _ _ [some v,oR d] H;have hs:=lN (T:=.str) (te:=bE 0) (σ:=[some v,oR d]) (ab rfl) t;rw [vm t] at hs;cases v with
  | str z=>exact aU (ca hs (λ _=>wV (ab rfl) (ab rfl) hw)) q
  | _=>exact aU (ca (b:=false) hs (λ h=>by cases h)) q
theorem j6 {f:Addr}{fd:FuncData}(F:bX K "is_tuple_of" "is_tuple_of" cQ f fd) (T:Txt mg aS aA aE aW aO aF):bj P w K mg base eI 1 f fd ["thing","many"] iZ:=by
 refine F.ok j0 (λ vs H Q E h=>?_) (λ cdv A outer s H vs Q E hr h=>?_)
 ·obtain ⟨v,n,rfl,_⟩:=h;rfl
 ·obtain ⟨v,n,rfl,t,q⟩:=h;have hu:=cq hr;refine ⟨_,(aj (az (dq (wt .tuple T.isinstance T.tuple pM (cv 0)) (dB (gS K hu (kB (gG K) bW T.len (au (cv 0) pa_nil)) (cv 1)))))),?_⟩;show dw _ _ [some v,oJ n] H;have hs:=lN (T:=.tuple) (te:=bE 0) (σ:=[some v,oJ n]) (ab rfl) t;rw [Dw t] at hs;unfold tupB at q;cases e:tupOf H v with
  | none=>
    rw [e] at hs q;exact aU (ca (b:=false) hs (λ h=>by cases h)) q
  | some xs=>
    rw [e] at hs q;obtain ⟨a,rfl,ha⟩:=ge e;exact aU (ca hs (λ _=>jB (dG (ab rfl) (.inr (cg.of ha))) (ab rfl))) q
theorem kN {f:Addr}{fd:FuncData}(F:bX K "is_list_of" "is_list_of" df f fd) (T:Txt mg aS aA aE aW aO aF):bj P w K mg base eI 1 f fd ["thing","least","most"] l8:=by
 refine F.ok kJ (λ vs H Q E h=>?_) (λ cdv A outer s H vs Q E hr h=>?_)
 ·obtain ⟨v,a,b,rfl,_⟩:=h;rfl
 ·obtain ⟨v,a,b,rfl,t,q⟩:=h;have hu:=cq hr;refine ⟨_,(aj (az (dq (wt .list T.isinstance T.list dP (cv 0)) (dB (qO K hu (cv 1) (kB (gG K) bW T.len (au (cv 0) pa_nil)) (cv 2)))))),?_⟩;show dw _ _ [some v,oJ a,oJ b] H;have hs:=lN (T:=.list) (te:=bE 0) (σ:=[some v,oJ a,oJ b]) (ab rfl) t;rw [Ed t] at hs;unfold je at q;cases e:lstOf H v with
  | none=>
    rw [e] at hs q;exact aU (ca (b:=false) hs (λ h=>by cases h)) q
  | some xs=>
    rw [e] at hs q;obtain ⟨d,rfl,hd⟩:=fb e;exact aU (ca hs (λ _=>sM (ab rfl) (dG (ab rfl) (.inl (aI.of hd))) (λ _=>ab rfl))) q
theorem qC {f:Addr}{fd:FuncData}(F:bX K "is_step" "is_step" fN f fd) (T:Txt mg aS aA aE aW aO aF) (C:RG1 P w K mg base):bj P w K mg base eI 3 f fd ["sort","across","up"] rH:=by
 refine F.ok j1 (λ vs H Q E h=>?_) (λ cdv A outer s H vs Q E hr h=>?_)
 ·obtain ⟨so,x,y,rfl,_⟩:=h;rfl
 ·obtain ⟨so,x,y,rfl,tx,ty,q⟩:=h;have hu:=cq hr;refine ⟨_,(aa (av (i:=3) j1.nd rfl (Or.inl rfl) (gN (bz K hu (cv 0) aH) af af))
   (aa (bf (PW.pt (fS (bm (bh (aD C.is_among hr (au (cv 1) (au (nw (cv 3)) (au (cv 3) pa_nil)))))) (eE (bm (bh (aD C.is_among hr (au (cv 2) (au (nw (cv 3)) (au (cv 3) pa_nil))))))))) (aj (az c8)) aC)
   (aj (az (JC (gS K hu (cv 1) af) (dB (gS K hu (cv 2) af))))))),?_⟩
  show bg _ _ _ [oT so,some x,some y,none] H;refine bS (v:=.int (limS so)) (λ Q q=>?_) ?_
  ·refine E5 (Ju (bF (fc (ab rfl) ao)) (λ _=>ao) (λ _=>ao)) ?_;unfold limS at q
   by_cases h:so="leap"
   ·rw [if_pos h] at q;rw [decide_eq_true h];exact q
   ·rw [if_neg h] at q;rw [decide_eq_false h];exact q
  unfold js at q;generalize limS so=l at q ⊢;refine bq (fu (cw (bF (aM (ac (ab rfl) (ac (qS (ab rfl)) (ac (ab rfl) ar))) (λ Q q=>⟨x, -l,l,rfl,tx,q⟩)))) (λ _=>cw (bF (aM (ac (ab rfl) (ac (qS (ab rfl)) (ac (ab rfl) ar))) (λ Q q=>⟨y, -l,l,rfl,ty,q⟩))))) (λ h=>?_) (λ h=>?_)
  ·refine aU ao ?_;have e:(amongB x (-l) l&&amongB y (-l) l&& !(decide (x=.int 0)&&decide (y=.int 0)))=false:=by cases h1:amongB x (-l) l<;>cases h2:amongB y (-l) l<;>simp_all
   rw [e] at q;exact q
  ·have h1:amongB x (-l) l=true:=by cases h1:amongB x (-l) l<;>simp_all
   have h2:amongB y (-l) l=true:=by cases h2:amongB y (-l) l<;>simp_all
   cases x with
   | int i=>
     cases y with
     | int j=>
       refine aU (Js (wQ (ab rfl) ao) (λ _=>wQ (ab rfl) ao)) ?_;rw [h1,h2] at q;have ei:∀k:Int,decide (V.int k=V.int 0)=decide (k=0):=λ k=>by
        by_cases e:k=0
        ·rw [decide_eq_true e,decide_eq_true (congrArg V.int e)]
        ·rw [decide_eq_false e,decide_eq_false (λ z=>e (by injection z))]
       rw [ei,ei] at q;have e:(true&&true&& !(decide (i=0)&&decide (j=0)))=(!decide (i=0)|| !decide (j=0)):=by cases decide (i=0)<;>cases decide (j=0)<;>rfl
       rw [e] at q;exact q
     | _=>cases h2
   | _=>cases h1
theorem qE {f:Addr}{fd:FuncData}(F:bX K "is_pair" "is_pair" fP f fd) (T:Txt mg aS aA aE aW aO aF) (C:RG2 P w K mg base):bj P w K mg base eI 2 f fd ["thing","firsts","seconds"] (rM K):=by
 refine F.ok qm (λ vs H Q E h=>?_) (λ cdv A outer s H vs Q E hr h=>?_)
 ·obtain ⟨v,d,e,A,B,rfl,_⟩:=h;rfl
 ·obtain ⟨v,d,e,A,B,rfl,t,hA,hB,q⟩:=h;have hu:=cq hr;refine ⟨_,(aj (az (dq (aD C.is_tuple_of hr (au (cv 0) (au af pa_nil))) (dq (aD C.is_word hr (au (cx K (cv 0) af) (au (cv 1) pa_nil))) (dB (aD C.is_word hr (au (cx K (cv 0) af) (au (cv 2) pa_nil)))))))),?_⟩;show dw _ _ [some v,oR d,oR e] H;have hc:=aM (sp:=iZ) (σ:=[some v,oR d,oR e]) (H:=H) (x:=.bl (tupB H v 2)) (ac (ab (n:=0) rfl) (ac (ao (x:=.int 2)) ar)) (λ Q q=>⟨v,2,rfl,t.thg,q⟩);unfold dm at q;unfold tupB at hc;cases e1:tupOf H v with
  | none=>
    rw [e1] at hc q;exact aU (ca (b:=false) hc (λ h=>by cases h)) q
  | some xs=>
    rw [e1] at hc q;obtain ⟨a,rfl,ha⟩:=ge e1;have tx:=t.2 xs (.inl e1)
    by_cases hl:(xs.length:Int)=2
    ·match xs,hl,e1,ha,tx,q,hc with
     | [x,y],_,e1,ha,tx,q,hc=>
       exact aU (ca hc (λ _=>ca (aM (ac (ba (ab rfl) ao (.inr (cg.of ha)) (bo (j:=0) rfl)) (ac (ab rfl) ar)) (λ Q q=>⟨x,d,A,rfl,tx x (by simp),hA,q⟩))
        (λ _=>aM (ac (ba (ab rfl) ao (.inr (cg.of ha)) (bo (j:=1) rfl)) (ac (ab rfl) ar)) (λ Q q=>⟨y,e,B,rfl,tx y (by simp),hB,q⟩)))) q
    ·have e2:oQ xs A B=false:=by
      unfold oQ;split
      ·exact absurd rfl hl
      ·rfl
     have hc2:Ev (gb iZ (bi (bE 0) (bi (tC (.int 2)) cn))) [some (.ref a),some (.ref d),some (.ref e)] H (.bl (decide ((xs.length:Int)=2))):=hc;rw [decide_eq_false hl] at hc2;have q2:Q (.bl (oQ xs A B)) H:=q;rw [e2] at q2;exact aU (ca (b:=false) hc2 (λ h=>by cases h)) q2
theorem qD {f:Addr}{fd:FuncData}(F:bX K "is_rule" "is_rule" fO f fd) (T:Txt mg aS aA aE aW aO aF) (hS:∀H,fI K H aS sortsL) (hA:∀H,fI K H aA aimsL) (C:RG3 P w K mg base):bj P w K mg base eI 4 f fd ["thing","kinds"] (rJ K):=by
 refine F.ok ir (λ vs H Q E h=>?_) (λ cdv A outer s H vs Q E hr h=>?_)
 ·obtain ⟨v,d,ws,rfl,_⟩:=h;rfl
 ·obtain ⟨v,d,ws,rfl,t,hw,q⟩:=h;have hu:=cq hr;refine ⟨_,(aa (bf (PW.pt (fS (bm (bh (aD C.is_tuple_of hr (au (cv 0) (au af pa_nil))))) (eE (bm (bh (aD C.is_word hr (au (cx K (cv 0) af) (au (cv 1) pa_nil)))))))) (aj (az c8)) aC)
   (aa (av (i:=2) ir.nd rfl (Or.inl rfl) (cx K (cv 0) af))
   (aa (av (i:=3) ir.nd rfl (Or.inl rfl) (cx K (cv 0) af))
   (aa (bf (PW.pt (fS (bm (bh (aD C.is_word hr (au (cv 2) (au (kg T.SORTS) pa_nil))))) (eE (bm (bh (aD C.is_word hr (au (cv 3) (au (kg T.AIMS) pa_nil)))))))) (aj (az c8)) aC)
   (aa (bf (PW.pt (qu (bz K hu (cv 2) aH) (mI (bz K hu (cv 3) aH)))) (aj (az c8)) aC)
   (aj (az (aD C.is_step hr (au (cv 2) (au (cx K (cv 0) af) (au (cx K (cv 0) af) pa_nil))))))))))),?_⟩
  show bg _ _ _ [some v,oR d,none,none] H;have rb:tupB H v 5=false->dj H v ws=false:=λ h=>by
   unfold tupB at h;unfold dj;cases e1:tupOf H v with
   | none=>rfl
   | some xs=>
     rw [e1] at h;have h:¬(xs.length:Int)=5:=of_decide_eq_false h;show ie xs ws=false;unfold ie;split
     ·exact absurd rfl h
     ·rfl
  cases hb0:tupB H v 5 with
  | false=>
    rw [rb hb0] at q;refine bq (fu (b:=false) (cw (bF (aM (sp:=iZ) (x:=.bl (tupB H v 5)) (ac (ab rfl) (ac ao ar)) (λ Q q=>⟨v,5,rfl,t.thg,q⟩)))) (λ h=>?_)) (λ _=>aU ao q) (λ h=>?_)
    ·rw [hb0] at h;cases h
    ·rw [hb0] at h;cases h
  | true=>
    obtain ⟨xs,e1,hl⟩:∃xs,tupOf H v=some xs/\(xs.length:Int)=5:=by
     unfold tupB at hb0;cases e1:tupOf H v with
     | none=>rw [e1] at hb0;cases hb0
     | some xs=>rw [e1] at hb0;exact ⟨xs,rfl,of_decide_eq_true hb0⟩
    unfold dj at q;rw [e1] at q;have q:Q (.bl (ie xs ws)) H:=q;obtain ⟨a,rfl,ha⟩:=ge e1;have tx:=t.2 xs (.inl e1)
    match xs,hl,e1,ha,tx,q with
    | [k,so,ai,x,y],_,e1,ha,tx,q=>
      have hq:cg K H a [k,so,ai,x,y]:=cg.of ha;have hb:tupB H (.ref a) 5=true:=by unfold tupB;rw [e1];rfl
      refine bq (fu (cw (bF (aM (sp:=iZ) (x:=.bl (tupB H (.ref a) 5)) (ac (ab rfl) (ac ao ar)) (λ Q q=>⟨.ref a,5,rfl,t.thg,q⟩)))) (λ _=>cw (bF (aM (sp:=fw K) (ac (ba (ab rfl) ao (.inr hq) (bo (j:=0) rfl)) (ac (ab rfl) ar)) (λ Q q=>⟨k,d,ws,rfl,tx k (by simp),hw,q⟩))))) (λ h=>?_) (λ h=>?_)
      ·rw [hb] at h;have hk:wordB k ws=false:=by
        cases hk:wordB k ws
        ·rfl
        ·rw [hk] at h;cases h
       refine aU ao ?_;have e2:ie [k,so,ai,x,y] ws=false:=by
        unfold ie;split
        ·rename_i z;cases z;rw [hk];simp
        ·rfl
       rw [e2] at q;exact q
      ·rw [hb] at h;have hk:wordB k ws=true:=by
        cases hk:wordB k ws
        ·rw [hk] at h;cases h
        ·rfl
       refine bS (v:=so) (ba (ab rfl) ao (.inr hq) (bo (j:=1) rfl)) ?_;refine bS (v:=ai) (ba (ab rfl) ao (.inr hq) (bo (j:=2) rfl)) ?_;refine bq (fu (cw (bF (aM (sp:=fw K) (ac (ab rfl) (ac ao ar)) (λ Q q=>⟨so,aS,sortsL,rfl,tx so (by simp),hS H,q⟩)))) (λ _=>cw (bF (aM (sp:=fw K) (ac (ab rfl) (ac ao ar)) (λ Q q=>⟨ai,aA,aimsL,rfl,tx ai (by simp),hA H,q⟩))))) (λ h=>?_) (λ h=>?_)
       ·refine aU ao ?_;have e2:ie [k,so,ai,x,y] ws=false:=by
         unfold ie;split
         ·rename_i k' so' ai' x' y' z;cases z;have h:(!decide (so'∈sortsL)|| !decide (ai'∈aimsL))=true:=h
          cases h1:decide (so'∈sortsL)<;>cases h2:decide (ai'∈aimsL)<;>simp_all
         ·rfl
        rw [e2] at q;exact q
       ·have h1:wordB so sortsL=true:=by cases h1:wordB so sortsL<;>simp_all
        have h2:wordB ai aimsL=true:=by cases h2:wordB ai aimsL<;>simp_all
        cases so with
        | str so=>
          cases ai with
          | str ai=>
            have h1:decide (so∈sortsL)=true:=h1;have h2:decide (ai∈aimsL)=true:=h2;have eR:ie [k,.str so,.str ai,x,y] ws=(!(decide (so="jump")&& !decide (ai="hit"))&&js so x y):=by show (wordB k ws&&decide (so∈sortsL)&&decide (ai∈aimsL)&& !(decide (so="jump")&& !decide (ai="hit"))&&js so x y)=_;rw [hk,h1,h2];simp
            rw [eR] at q;refine bq (u9 (bF (fc (ab rfl) ao)) (λ _=>bF (nn (ab rfl) ao))) (λ h=>?_) (λ h=>?_)
            ·refine aU ao ?_;rw [h] at q;exact q
            ·rw [h] at q;exact cb (ac (ab rfl) (ac (ba (ab rfl) ao (.inr hq) (bo (j:=3) rfl)) (ac (ba (ab rfl) ao (.inr hq) (bo (j:=4) rfl)) ar))) ⟨so,x,y,rfl,tx x (by simp),tx y (by simp),q⟩
          | _=>cases h2
        | _=>cases h1
theorem mQ {f:Addr}{fd:FuncData}(F:bX K "are_pairs" "are_pairs" cX f fd) (T:Txt mg aS aA aE aW aO aF) (C:RG4 P w K mg base):bj P w K mg base eI 3 f fd ["thing","firsts","seconds"] (n4 K):=by
 refine F.ok mh (λ vs H Q E h=>?_) (λ cdv A outer s H vs Q E hr h=>?_)
 ·obtain ⟨v,d,e,A,B,rfl,_⟩:=h;rfl
 ·obtain ⟨v,d,e,A,B,rfl,t,hA,hB,q⟩:=h;have hu:=cq hr;refine ⟨_,(aj (az (dq (aD C.is_list_of hr (au (cv 0) (au af (au (kg T.MOST_PAIRS) pa_nil)))) (dB (kB (ww K) ky T.all (au (cz (bp (N:=["part","firsts","seconds"]) (src:=[none,some 1,some 2]) (ak cX) ["thing","firsts","seconds"]) (jL K (cv 0)) (λ _ _ _=>(aL (i:=0) ["part","firsts","seconds"])) (λ _ _ _=>aP) (λ _ _ _=>(aD C.is_pair hr (au (cv 0) (au (cv 1) (au (cv 2) pa_nil)))))) pa_nil)))))),?_⟩;show dw _ _ [some v,oR d,oR e] H;refine xo (a:=je H v 0 6) (aM (ac (ab rfl) (ac ao (ac ao ar))) (λ Q q=>⟨v,0,6,rfl,t.thg,q⟩)) (λ h=>?_) (λ h=>?_)
  ·unfold je at h;cases e1:lstOf H v with
   | none=>rw [e1] at h;cases h
   | some xs=>
     rw [e1] at h;have h:0<=(xs.length:Int)/\(xs.length:Int)<=6:=of_decide_eq_true h;obtain ⟨a,rfl,ha⟩:=fb e1;have tx:=t.2 xs (.inr e1);refine fB (d:=a) (xs:=xs) (rest:=[oR d,oR e]) (ab rfl) (aI.of ha) (by rw [sizeLine_eq];omega) rfl (λ _=>true) (λ x=>.bl (dm H x A B)) (λ x hx=>eN) (λ x hx _=>?_) (λ p hp=>?_)
     ·exact aM (ac (ab rfl) (ac (ab rfl) (ac (ab rfl) ar))) (λ Q q=>⟨x,d,e,A,B,rfl,tx x hx,hA,hB,q⟩)
     ·refine ⟨xs.map (λ x=>dm H x A B),?_,?_⟩
      ·have e2:(xs.filter λ _=>true).map (λ x=>V.bl (dm H x A B))=(xs.map (λ x=>dm H x A B)).map V.bl:=by rw [LZ.mpr (λ _ _=>rfl),LC];rfl
       rw [<-e2];exact aI.of ae
      ·have k:=q _ ((ag.refl H).upd (o:=.lst ((xs.filter λ _=>true).map (λ x=>V.bl (dm H x A B)))) hp);unfold pairsB at k;rw [e1] at k;have e3:(decide (xs.length<=6)&&xs.all (λ x=>dm H x A B))=(xs.map (λ x=>dm H x A B)).all id:=by rw [decide_eq_true (by omega:xs.length<=6),MA];rfl
       have k:Q (.bl (decide (xs.length<=6)&&xs.all (λ x=>dm H x A B))) _:=k;rw [e3] at k;exact k
  ·have k:=q H (ag.refl H);have e2:pairsB H v A B=false:=by
    unfold pairsB;unfold je at h;cases e1:lstOf H v with
    | none=>rfl
    | some xs=>
      rw [e1] at h;have h:¬(0<=(xs.length:Int)/\(xs.length:Int)<=6):=of_decide_eq_false h;show (decide (xs.length<=6)&&_)=false;rw [decide_eq_false (by omega:¬xs.length<=6)];rfl
   rw [e2] at k;exact k
theorem qF {f:Addr}{fd:FuncData}(F:bX K "is_ends" "is_ends" fQ f fd) (T:Txt mg aS aA aE aW aO aF) (hE:∀H,fI K H aE d0) (C:RG5 P w K mg base):bj P w K mg base eI 4 f fd ["thing","kinds"] (rP K):=by
 refine F.ok qo (λ vs H Q E h=>?_) (λ cdv A outer s H vs Q E hr h=>?_)
 ·obtain ⟨v,d,ws,rfl,_⟩:=h;rfl
 ·obtain ⟨v,d,ws,rfl,t,hw,q⟩:=h;refine ⟨_,(aj (az (aD C.are_pairs hr (au (cv 0) (au (kg T.END_WORDS) (au (cv 1) pa_nil)))))),?_⟩;show dw _ _ [some v,oR d] H;exact cb (ac (ab rfl) (ac ao (ac (ab rfl) ar))) ⟨v,aE,d,d0,ws,rfl,t,hE H,hw,q⟩
theorem oW {f:Addr}{fd:FuncData}(F:bX K "is_turns" "is_turns" cT f fd) (T:Txt mg aS aA aE aW aO aF) (C:RG5 P w K mg base):bj P w K mg base eI 4 f fd ["thing","kinds"] (nV K):=by
 refine F.ok ju (λ vs H Q E h=>?_) (λ cdv A outer s H vs Q E hr h=>?_)
 ·obtain ⟨v,d,ws,rfl,_⟩:=h;rfl
 ·obtain ⟨v,d,ws,rfl,t,hw,q⟩:=h;have hu:=cq hr;refine ⟨_,(aa (bf (bm (bh (aD C.are_pairs hr (au (cv 0) (au (cv 1) (au (cv 1) pa_nil)))))) (aj (az c8)) aC)
   (aa (av (i:=2) ju.nd rfl (Or.inr rfl) (cz (bp (N:=["pair"]) (src:=[none]) (ak cT) ["thing","kinds","firsts"]) (jL K (cv 0)) (λ _ _ _=>(aL (i:=0) ["pair"])) (λ _ _ _=>aP) (λ _ _ _=>(cx K (cv 0) af))))
   (aa (bf (bh (kB (K6 K) EK T.any (au (cz (bp (N:=["pair","firsts"]) (src:=[none,some 2]) (ak cT) ["thing","kinds","firsts"]) (jL K (cv 0)) (λ _ _ _=>(aL (i:=0) ["pair","firsts"])) (λ _ _ _=>aP) (λ _ _ _=>(gS K hu (cx K (cv 0) af) (cv 1)))) pa_nil))) (aj (az c8)) aC)
   (aj (az (gS K hu (kB ku bW T.len (au (pe (Db K hr) rk T.set (au (cv 2) pa_nil)) pa_nil)) (kB (gG K) bW T.len (au (cv 2) pa_nil)))))))),?_⟩
  show bg _ _ _ [some v,oR d,none] H;refine eC (λ b H'=>b=(!pairsB H v ws ws)/\ag H H') (λ Q q=>gu (ac (ab rfl) (ac (ab rfl) (ac (ab rfl) ar))) ⟨v,d,d,ws,ws,rfl,t,hw,hw,λ H' s=>q _ _ ⟨rfl,s⟩⟩) (λ H1 h=>?_) (λ H1 h=>?_)
  ·obtain ⟨hb,s1⟩:=h;have k:=q H1 s1;have e0:pairsB H v ws ws=false:=by
    cases z:pairsB H v ws ws
    ·rfl
    ·rw [z] at hb;cases hb
   unfold eB at k;rw [e0] at k;exact aU ao k
  ·obtain ⟨hb,s1⟩:=h;have e0:pairsB H v ws ws=true:=by
    cases z:pairsB H v ws ws
    ·rw [z] at hb;cases hb
    ·rfl
   unfold eB at q;rw [e0] at q;obtain ⟨xs,e1,l6,hp⟩:=tX e0;rw [e1] at q;have q:∀H',ag H H'->Q (.bl (!(xs.any λ x=>decide (fK H x∈xs.map (ck H)))&&decide ((xs.map (ck H)).Nodup))) H':=q;obtain ⟨a,rfl,ha⟩:=fb e1;have ha1:=s1 _ _ ha;refine aZ (λ u H'=> ∃fq,u=.ref fq/\H' fq=some (.lst ((xs.map (ck H)).map V.str))/\ag H1 H') (λ Q q=>?_) ?_
   ·refine fB (d:=a) (xs:=xs) (rest:=[]) (ab rfl) (aI.of ha1) (by rw [sizeLine_eq];omega) rfl (λ _=>true) (λ x=>.str (ck H x)) (λ x hx=>eN) (λ x hx _=>?_) (λ p hp'=>?_)
    ·obtain ⟨c,f1,f2,rfl,hc⟩:=hp x hx;have e:ck H (.ref c)=f1:=by simp only [ck,tupOf,hc]
     rw [e];exact ba (ab rfl) ao (.inr (cg.of (s1 _ _ hc))) (bo (j:=0) rfl)
    ·have e:(xs.filter λ _=>true).map (λ x=>V.str (ck H x))=(xs.map (ck H)).map V.str:=by rw [LZ.mpr (λ _ _=>rfl),LC];rfl
     rw [e];exact q _ _ ⟨p,rfl,ae,(ag.refl H1).upd hp'⟩
   rintro _ H2 ⟨fq,rfl,hf,s2⟩;have ha2:=s2 _ _ ha1;refine eC (λ b H'=>b=(xs.any λ x=>decide (fK H x∈xs.map (ck H)))/\ag H2 H') (λ Q q=>?_) (λ H3 h=>?_) (λ H3 h=>?_)
   ·refine fB (d:=a) (xs:=xs) (rest:=[oR fq]) (ab rfl) (aI.of ha2) (by rw [sizeLine_eq];omega) rfl (λ _=>true) (λ x=>.bl (decide (fK H x∈xs.map (ck H)))) (λ x hx=>eN) (λ x hx _=>?_) (λ p hp'=>?_)
    ·obtain ⟨c,f1,f2,rfl,hc⟩:=hp x hx;have e:fK H (.ref c)=f2:=by simp only [fK,tupOf,hc]
     rw [e];exact wV (ba (ab rfl) ao (.inr (cg.of (s2 _ _ (s1 _ _ hc)))) (bo (j:=1) rfl)) (ab rfl) (.inl (aI.of hf))
    ·refine ⟨xs.map (λ x=>decide (fK H x∈xs.map (ck H))),?_,?_⟩
     ·have e2:(xs.filter λ _=>true).map (λ x=>V.bl (decide (fK H x∈xs.map (ck H))))=(xs.map (λ x=>decide (fK H x∈xs.map (ck H)))).map V.bl:=by rw [LZ.mpr (λ _ _=>rfl),LC];rfl
      rw [<-e2];exact aI.of ae
     ·have e3:(xs.map (λ x=>decide (fK H x∈xs.map (ck H)))).any id=xs.any λ x=>decide (fK H x∈xs.map (ck H)):=by rw [ML];rfl
      rw [e3];exact q _ _ ⟨rfl,(ag.refl H2).upd hp'⟩
   ·have k:=q H3 ((s1.trans s2).trans h.2);rw [<-h.1] at k;exact aU ao k
   ·have s03:=(s1.trans s2).trans h.2;show dw _ _ [oR a,oR d,oR fq] H3;have hf3:=h.2 _ _ hf;refine xb (pa (ss:=xs.map (ck H)) (ab rfl) (aI.of hf3) (by rw [Lv];omega) (λ H4 s4=>?_));refine E5 (dG (ab rfl) (.inl (aI.of (s4 _ _ hf3)))) ?_;have k:=q H4 (s03.trans s4);rw [<-h.1] at k;have e4:decide ((((jr (xs.map (ck H))).length:Nat):Int)=((((xs.map (ck H)).map V.str).length:Nat):Int))=decide ((xs.map (ck H)).Nodup):=by
     rw [Lv (f:=V.str)]
     by_cases hn:(xs.map (ck H)).Nodup
     ·rw [decide_eq_true hn,decide_eq_true (by rw [(gZ _).mpr hn])]
     ·rw [decide_eq_false hn,decide_eq_false (λ z=>hn ((gZ _).mp (by omega)))]
    show Q (.bl (decide ((((jr (xs.map (ck H))).length:Nat):Int)=((((xs.map (ck H)).map V.str).length:Nat):Int)))) H4;rw [e4];exact k
theorem mO {f:Addr}{fd:FuncData}(F:bX K "is_letter" "is_letter" dS f fd) (T:Txt mg aS aA aE aW aO aF):bj P w K mg base eI 1 f fd ["thing"] i6:=by
 refine F.ok me (λ vs H Q E h=>?_) (λ cdv A outer s H vs Q E hr h=>?_)
 ·obtain ⟨v,rfl,_⟩:=h;rfl
 ·obtain ⟨v,rfl,t,q⟩:=h;have hu:=cq hr;refine ⟨_,(aj (az (dq (wt .str T.isinstance T.str gv (cv 0)) (dq (gS K hu (kB (gG K) bW T.len (au (cv 0) pa_nil)) af) (dB (qO K hu aH (cv 0) aH)))))),?_⟩;show dw _ _ [some v] H;have hs:=lN (T:=.str) (te:=bE 0) (σ:=[some v]) (ab rfl) t;rw [vm t] at hs;cases v with
  | str z=>
    refine aU (ca hs (λ _=>ca (jB (yR (ab rfl) (M7 (show z.length<=1000 from t) (by decide))) ao) (λ _=>yS ao (ab rfl) ao))) ?_;rw [Iq,Ip];have e:(true&&(decide ((z.length:Int)=1)&&(!decide (z.cps.toList<[97])&& !decide ([122]<z.cps.toList))))=letB (.str z):=by
     rw [bG]
     match e:z.cps.toList with
     | [c]=>
       simp only [letB,e,Ec];rw [Nv];simp
     | []=>simp only [letB,e];rfl
     | _::_::r=>
       simp only [letB,e];rw [decide_eq_false (by simp only [LG];omega)];rfl
    have q2:=q;rw [<-e] at q2;exact q2
  | _=>exact aU (ca (b:=false) hs (λ h=>by cases h)) q
theorem mR {f:Addr}{fd:FuncData}(F:bX K "are_kinds" "are_kinds" cY f fd) (T:Txt mg aS aA aE aW aO aF) (C:Lu P w K mg base):bj P w K mg base eI 2 f fd ["thing"] oa:=by
 refine F.ok mi (λ vs H Q E h=>?_) (λ cdv A outer s H vs Q E hr h=>?_)
 ·obtain ⟨v,rfl,_⟩:=h;rfl
 ·obtain ⟨v,rfl,t,q⟩:=h;have hu:=cq hr;refine ⟨_,(aa (bf (PW.pt (fS (bm (bh (aD C.is_list_of hr (au (cv 0) (au af (au (kg T.MOST_KINDS) pa_nil)))))) (eE (bm (bh (kB (ww K) ky T.all (au (cz (bp (N:=["part"]) (src:=[none]) (ak cY) ["thing"]) (jL K (cv 0)) (λ _ _ _=>(aL (i:=0) ["part"])) (λ _ _ _=>aP) (λ _ _ _=>(aD C.is_letter hr (au (cv 0) pa_nil)))) pa_nil))))))) (aj (az c8)) aC)
   (aj (az (gS K hu (kB ku bW T.len (au (pe (Db K hr) rk T.set (au (cv 0) pa_nil)) pa_nil)) (kB (gG K) bW T.len (au (cv 0) pa_nil)))))),?_⟩
  show bg _ _ _ [some v] H;have eL:Ev (gb l8 (bi (bE 0) (bi (tC (.int 1)) (bi (tC (.int 6)) cn)))) [some v] H (.bl (je H v 1 6)):=aM (ac (ab rfl) (ac ao (ac ao ar))) (λ Q q=>⟨v,1,6,rfl,t.thg,q⟩);unfold jf at q;cases e1:lstOf H v with
  | none=>
    have hb:je H v 1 6=false:=by unfold je;rw [e1]
    rw [hb] at eL;rw [e1] at q;refine bq (b:=true) (λ Q q=>cw (bF eL) _ (ji q)) (λ _=>aU ao (q H (ag.refl H))) (λ h=>by cases h)
  | some xs=>
    rw [e1] at q;have q:∀H',ag H H'->Q (.bl (decide (1<=xs.length/\xs.length<=6)&&xs.all letB&&decide ((xs.map gK).Nodup))) H':=q;obtain ⟨a,rfl,ha⟩:=fb e1;have tx:=t.2 xs (.inr e1);have hb:je H (.ref a) 1 6=decide (1<=xs.length/\xs.length<=6):=by unfold je;rw [e1];show decide ((1:Int)<=xs.length/\(xs.length:Int)<=6)=_;rw [decide_eq_decide];omega
    rw [hb] at eL
    by_cases hl:1<=xs.length/\xs.length<=6
    ·rw [decide_eq_true hl] at eL q;refine eC (λ b H'=>b=(!xs.all letB)/\ag H H') (λ Q q=>?_) (λ H1 h=>?_) (λ H1 h=>?_)
     ·refine Im (cw (bF eL)) ?_;refine fB (d:=a) (xs:=xs) (rest:=[]) (ab rfl) (aI.of ha) (by rw [sizeLine_eq];omega) rfl (λ _=>true) (λ x=>.bl (letB x)) (λ x hx=>eN) (λ x hx _=>?_) (λ p hp=>?_)
      ·exact aM (ac (ab rfl) ar) (λ Q q=>⟨x,rfl,tx x hx,q⟩)
      ·refine ⟨xs.map letB,?_,?_⟩
       ·have e2:(xs.filter λ _=>true).map (λ x=>V.bl (letB x))=(xs.map letB).map V.bl:=by rw [LZ.mpr (λ _ _=>rfl),LC];rfl
        rw [<-e2];exact aI.of ae
       ·have e3:(xs.map letB).all id=xs.all letB:=by rw [MA];rfl
        rw [e3];exact q _ _ ⟨rfl,(ag.refl H).upd hp⟩
     ·have k:=q H1 h.2;have e0:xs.all letB=false:=by
       cases z:xs.all letB
       ·rfl
       ·rw [z] at h;cases h.1
      rw [e0] at k;exact aU ao k
     ·obtain ⟨hq,s1⟩:=h;have e0:xs.all letB=true:=by
       cases z:xs.all letB
       ·rw [z] at hq;cases hq
       ·rfl
      have e5:xs=(xs.map gK).map V.str:=by
       rw [LC];have:∀x∈xs,x=(V.str∘gK) x:=λ x hx=>by obtain ⟨c,rfl,_⟩:=wc (LP.mp e0 x hx);rfl
       exact (List.map_id xs).symm.trans (Md this)
      have ha1:=s1 _ _ ha;rw [e5] at ha1;show dw _ _ [oR a] H1;refine xb (pa (ss:=xs.map gK) (ab rfl) (aI.of ha1) (by rw [Lv];omega) (λ H4 s4=>?_));refine E5 (dG (ab rfl) (.inl (aI.of (s4 _ _ ha1)))) ?_;have k:=q H4 (s1.trans s4);rw [e0] at k;have e4:decide ((((jr (xs.map gK)).length:Nat):Int)=((((xs.map gK).map V.str).length:Nat):Int))=decide ((xs.map gK).Nodup):=by
       rw [Lv (f:=V.str)]
       by_cases hn:(xs.map gK).Nodup
       ·rw [decide_eq_true hn,decide_eq_true (by rw [(gZ _).mpr hn])]
       ·rw [decide_eq_false hn,decide_eq_false (λ z=>hn ((gZ _).mp (by omega)))]
      show Q (.bl (decide ((((jr (xs.map gK)).length:Nat):Int)=((((xs.map gK).map V.str).length:Nat):Int)))) H4;rw [e4];exact k
    ·rw [decide_eq_false hl] at eL q;exact bq (b:=true) (λ Q q=>cw (bF eL) _ (ji q)) (λ _=>aU ao (q H (ag.refl H))) (λ h=>by cases h)
theorem mP {f:Addr}{fd:FuncData}(F:bX K "are_rules" "are_rules" cW f fd) (T:Txt mg aS aA aE aW aO aF) (C:Lu P w K mg base):bj P w K mg base eI 5 f fd ["thing","kinds"] (nY K):=by
 refine F.ok mf (λ vs H Q E h=>?_) (λ cdv A outer s H vs Q E hr h=>?_)
 ·obtain ⟨v,d,ws,rfl,_⟩:=h;rfl
 ·obtain ⟨v,d,ws,rfl,t,hw,q⟩:=h;have hu:=cq hr;refine ⟨_,(aj (az (dq (aD C.is_list_of hr (au (cv 0) (au af (au (kg T.MOST_RULES) pa_nil)))) (dB (kB (ww K) ky T.all (au (cz (bp (N:=["part","kinds"]) (src:=[none,some 1]) (ak cW) ["thing","kinds"]) (jL K (cv 0)) (λ _ _ _=>(aL (i:=0) ["part","kinds"])) (λ _ _ _=>aP) (λ _ _ _=>(aD C.is_rule hr (au (cv 0) (au (cv 1) pa_nil))))) pa_nil)))))),?_⟩;show dw _ _ [some v,oR d] H;refine xo (a:=je H v 0 24) (aM (ac (ab rfl) (ac ao (ac ao ar))) (λ Q q=>⟨v,0,24,rfl,t.thg,q⟩)) (λ h=>?_) (λ h=>?_)
  ·unfold je at h;cases e1:lstOf H v with
   | none=>rw [e1] at h;cases h
   | some xs=>
     rw [e1] at h;have h:0<=(xs.length:Int)/\(xs.length:Int)<=24:=of_decide_eq_true h;obtain ⟨a,rfl,ha⟩:=fb e1;have tx:=t.2 xs (.inr e1);refine fB (d:=a) (xs:=xs) (rest:=[oR d]) (ab rfl) (aI.of ha) (by rw [sizeLine_eq];omega) rfl (λ _=>true) (λ x=>.bl (dj H x ws)) (λ x hx=>eN) (λ x hx _=>?_) (λ p hp=>?_)
     ·exact aM (ac (ab rfl) (ac (ab rfl) ar)) (λ Q q=>⟨x,d,ws,rfl,tx x hx,hw,q⟩)
     ·refine ⟨xs.map (λ x=>dj H x ws),?_,?_⟩
      ·have e2:(xs.filter λ _=>true).map (λ x=>V.bl (dj H x ws))=(xs.map (λ x=>dj H x ws)).map V.bl:=by rw [LZ.mpr (λ _ _=>rfl),LC];rfl
       rw [<-e2];exact aI.of ae
      ·have k:=q _ ((ag.refl H).upd (o:=.lst ((xs.filter λ _=>true).map (λ x=>V.bl (dj H x ws)))) hp);unfold dA at k;rw [e1] at k;have e3:(decide (xs.length<=24)&&xs.all (λ x=>dj H x ws))=(xs.map (λ x=>dj H x ws)).all id:=by rw [decide_eq_true (by omega:xs.length<=24),MA];rfl
       have k:Q (.bl (decide (xs.length<=24)&&xs.all (λ x=>dj H x ws))) _:=k;rw [e3] at k;exact k
  ·have k:=q H (ag.refl H);have e2:dA H v ws=false:=by
    unfold dA;unfold je at h;cases e1:lstOf H v with
    | none=>rfl
    | some xs=>
      rw [e1] at h;have h:¬(0<=(xs.length:Int)/\(xs.length:Int)<=24):=of_decide_eq_false h;show (decide (xs.length<=24)&&_)=false;rw [decide_eq_false (by omega:¬xs.length<=24)];rfl
   rw [e2] at k;exact k
theorem mY {f cG:Addr}{fd:FuncData}(F:bX K "__init__" "Game.__init__" cp f fd) (T:Txt mg aS aA aE aW aO aF) (hW:∀H,fI K H aW bN) (B:xx K cG) (C:GG2 P w K mg base):bj P w K mg base eI 6 f fd ["self","board","kinds","rules","turns","ends","stuck"] (jP K cG):=by
 refine F.ok i9 (λ vs H Q E h=>?_) (λ cdv A outer s H vs Q E hr h=>?_)
 ·obtain ⟨p,b,kd,rd,td,ed,dx,ws,rs,ts,es,st,rfl,_⟩:=h;rfl
 ·obtain ⟨p,b,kd,rd,td,ed,dx,ws,rs,ts,es,st,rfl,hp,hk,hr',ht,he,tk,tr,tt,te,bk,br,bt,be,hst,lst',q⟩:=h;have hu:=cq hr;have wk:∀H',ag H H'->fI K H' kd ws:=λ H' s=>.inl (aI.of (s _ _ hk));refine ⟨_,(aa (bf (bm (bh (aD C.are_kinds hr (au (cv 2) pa_nil)))) (aj cR) aC)
   (aa (bf (bm (bh (aD C.are_rules hr (au (cv 3) (au (cv 2) pa_nil))))) (aj cR) aC)
   (aa (bf (bm (bh (aD C.is_turns hr (au (cv 4) (au (cv 2) pa_nil))))) (aj cR) aC)
   (aa (bf (bm (bh (aD C.is_ends hr (au (cv 5) (au (cv 2) pa_nil))))) (aj cR) aC)
   (aa (bf (bm (bh (aD C.is_word hr (au (cv 6) (au (kg T.STUCK_WORDS) pa_nil))))) (aj cR) aC)
   (aa (ii K (cv 0) (cv 1))
   (aa (ii K (cv 0) (pe (kh K) dP T.list (au (cv 2) pa_nil)))
   (aa (ii K (cv 0) (pe (kh K) dP T.list (au (cv 3) pa_nil)))
   (aa (ii K (cv 0) (pe (kh K) dP T.list (au (cv 4) pa_nil)))
   (aa (ii K (cv 0) (pe (kh K) dP T.list (au (cv 5) pa_nil)))
   (aj (ii K (cv 0) (cv 6))))))))))))),?_⟩
  show bg _ _ _ [oR p,oR b,oR kd,oR rd,oR td,oR ed,oT st] H;refine eC (λ b H'=>b=false/\ag H H') (λ Q q=>gu (ac (ab rfl) ar) ⟨.ref kd,rfl,tk,λ H' s=>?_⟩) (λ H' h=>by cases h.1) (λ H1 h=>?_)
  ·rw [bk];exact q _ _ ⟨rfl,s⟩
  obtain ⟨_,s1⟩:=h;have eqR:dA H1 (.ref rd) ws=dA H (.ref rd) ws:=oo tr s1;refine eC (λ b H'=>b=false/\ag H1 H') (λ Q q=>gu (ac (ab rfl) (ac (ab rfl) ar)) ⟨.ref rd,kd,ws,rfl,tr.same s1,wk _ s1,λ H' s=>?_⟩) (λ H' h=>by cases h.1) (λ H2 h=>?_)
  ·rw [eqR,br];exact q _ _ ⟨rfl,s⟩
  obtain ⟨_,s2⟩:=h;have s02:=s1.trans s2;have eqT:eB H2 (.ref td) ws=eB H (.ref td) ws:=nM tt s02;refine eC (λ b H'=>b=false/\ag H2 H') (λ Q q=>gu (ac (ab rfl) (ac (ab rfl) ar)) ⟨.ref td,kd,ws,rfl,tt.same s02,wk _ s02,λ H' s=>?_⟩) (λ H' h=>by cases h.1) (λ H3 h=>?_)
  ·rw [eqT,bt];exact q _ _ ⟨rfl,s⟩
  obtain ⟨_,s3⟩:=h;have s03:=s02.trans s3;have eqE:pairsB H3 (.ref ed) d0 ws=pairsB H (.ref ed) d0 ws:=jw te s03;refine eC (λ b H'=>b=false/\ag H3 H') (λ Q q=>gu (ac (ab rfl) (ac (ab rfl) ar)) ⟨.ref ed,kd,ws,rfl,te.same s03,wk _ s03,λ H' s=>?_⟩) (λ H' h=>by cases h.1) (λ H4 h=>?_)
  ·rw [eqE,be];exact q _ _ ⟨rfl,s⟩
  obtain ⟨_,s4⟩:=h;have s04:=s03.trans s4;refine bq (cw (bF (aM (ac (ab rfl) (ac ao ar)) (λ Q q=>⟨.str st,aW,bN,rfl,lst',hW H4,q⟩)))) (λ h=>?_) (λ _=>?_)
  ·have e:wordB (.str st) bN=true:=decide_eq_true hst;rw [e] at h;cases h
  have gl:=λ b k r t e=>Ex (b:=b) (k:=k) (r:=r) (t:=t) (e:=e);have nk:p≠kd:=dE hp hk (by intro z;cases z);have nr:p≠rd:=dE hp hr' (by intro z;cases z);have nt:p≠td:=dE hp ht (by intro z;cases z);have ne':p≠ed:=dE hp he (by intro z;cases z);have h4:∀(G:Hp),SameBut p H G->G kd=some (.lst (ws.map V.str))/\G rd=some (.lst rs)/\G td=some (.lst ts)/\G ed=some (.lst es):=λ G sb=>⟨sb _ _ hk nk.symm,sb _ _ hr' nr.symm,sb _ _ ht nt.symm,sb _ _ he ne'.symm⟩;refine qh (ab rfl) (ab rfl) (s04 _ _ hp) B.cl B.board (by decide) ?_;generalize hG5:upd H4 p (HO.ins cG dx (putF "board" (V.ref b) []))=G5;have p5:G5 p=some (.ins cG dx (gf1 b)):=hG5▸ae;have b5:SameBut p H G5:=hG5▸s04.but.self;have nfree:∀(G:Hp) (q:Addr),SameBut p H G->G p≠none->G q=none->H q=none:=λ G q sb hpp hq=>by
   cases e:H q with
   | none=>rfl
   | some o=>
     by_cases z:q=p
     ·rw [z] at hq;exact absurd hq hpp
     ·have:=sb q o e z;rw [hq] at this;cases this
  refine jO (ab rfl) (h4 _ b5).1 (λ H'=>ab rfl) p5 B.cl B.kinds (by have:=(gl b 0 0 0 0).1;omega) (λ kq hkq=>?_);have nkq:p≠kq:=am p5 hkq;generalize hG6:upd (upd G5 kq (HO.lst (ws.map V.str))) p (HO.ins cG dx (putF "kinds" (V.ref kq) (gf1 b)))=G6;have p6:G6 p=some (.ins cG dx (gf2 b kq)):=hG6▸ae;have k6:G6 kq=some (.lst (ws.map V.str)):=by rw [<-hG6,ah nkq.symm,ae]
  have b6:SameBut p H G6:=hG6▸(b5.new (nfree _ _ b5 (by rw [p5];simp) hkq)).self;refine jO (ab rfl) (h4 _ b6).2.1 (λ H'=>ab rfl) p6 B.cl B.rules (by have:=(gl b kq 0 0 0).2.1;omega) (λ rq hrq=>?_);have nrq:p≠rq:=am p6 hrq;generalize hG7:upd (upd G6 rq (HO.lst rs)) p (HO.ins cG dx (putF "rules" (V.ref rq) (gf2 b kq)))=G7;have p7:G7 p=some (.ins cG dx (gf3 b kq rq)):=hG7▸ae;have r7:G7 rq=some (.lst rs):=by rw [<-hG7,ah nrq.symm,ae]
  have k7:G7 kq=some (.lst (ws.map V.str)):=by rw [<-hG7,ah nkq.symm,ah (am k6 hrq)];exact k6
  have b7:SameBut p H G7:=hG7▸(b6.new (nfree _ _ b6 (by rw [p6];simp) hrq)).self;refine jO (ab rfl) (h4 _ b7).2.2.1 (λ H'=>ab rfl) p7 B.cl B.turns (by have:=(gl b kq rq 0 0).2.2.1;omega) (λ tq htq=>?_);have ntq:p≠tq:=am p7 htq;generalize hG8:upd (upd G7 tq (HO.lst ts)) p (HO.ins cG dx (putF "turns" (V.ref tq) (gf3 b kq rq)))=G8;have p8:G8 p=some (.ins cG dx (gf4 b kq rq tq)):=hG8▸ae;have t8:G8 tq=some (.lst ts):=by rw [<-hG8,ah ntq.symm,ae]
  have r8:G8 rq=some (.lst rs):=by rw [<-hG8,ah nrq.symm,ah (am r7 htq)];exact r7
  have k8:G8 kq=some (.lst (ws.map V.str)):=by rw [<-hG8,ah nkq.symm,ah (am k7 htq)];exact k7
  have b8:SameBut p H G8:=hG8▸(b7.new (nfree _ _ b7 (by rw [p7];simp) htq)).self;refine jO (ab rfl) (h4 _ b8).2.2.2 (λ H'=>ab rfl) p8 B.cl B.ends (by have:=(gl b kq rq tq 0).2.2.2.1;omega) (λ eq heq=>?_);have neq:p≠eq:=am p8 heq;generalize hG9:upd (upd G8 eq (HO.lst es)) p (HO.ins cG dx (putF "ends" (V.ref eq) (gf4 b kq rq tq)))=G9;have p9:G9 p=some (.ins cG dx (yF b kq rq tq eq)):=hG9▸ae;have e9:G9 eq=some (.lst es):=by rw [<-hG9,ah neq.symm,ae]
  have t9:G9 tq=some (.lst ts):=by rw [<-hG9,ah ntq.symm,ah (am t8 heq)];exact t8
  have r9:G9 rq=some (.lst rs):=by rw [<-hG9,ah nrq.symm,ah (am r8 heq)];exact r8
  have k9:G9 kq=some (.lst (ws.map V.str)):=by rw [<-hG9,ah nkq.symm,ah (am k8 heq)];exact k8
  have b9:SameBut p H G9:=hG9▸(b8.new (nfree _ _ b8 (by rw [p8];simp) heq)).self;refine rF (λ v H'=>v=.str st/\H'=G9) (λ Q q=>E5 (v:=.str st) (ab rfl) (q _ _ ⟨rfl,rfl⟩)) p cG dx (λ H' Q q=>ab rfl Q q) B.cl B.stuck ?_;rintro _ _ ⟨rfl,rfl⟩;refine ⟨_,p9,by have:=(gl b kq rq tq eq).2.2.2.2;omega,?_⟩;refine q _ ⟨dx,kq,rq,tq,eq,ae,?_,?_,?_,?_⟩ b9.self
  ·rw [ah nkq.symm];exact k9
  ·rw [ah nrq.symm];exact r9
  ·rw [ah ntq.symm];exact t9
  ·rw [ah neq.symm];exact e9
end
end K07
local macro_rules | `(tactic| walk_at "rd")=> `(tactic| simp only [L2.bg,L2.lZ,L2.dw,L2.tAsg,L2.gName,L2.jV,L2.hZ,L2.bE,L2.tC,L2.kx,L2.dI,L2.fZ,L2.pL,L2.yU,L2.tf,L2.yV,L2.Dj,L2.kE,L2.E6,L2.pK,L2.iD,L2.cB,L2.bi,L2.Lf,L2.cn,L2.E7,L2.JF,L2.gb,L2.nP,L2.xG,L2.EX,L2.EY,L2.jm,L2.jT,L2.vN,L2.vC,L2.vM,L2.vB,L2.xV,L2.xS,L2.xU,L2.xR,L2.mG,L2.mw,L2.mH,L2.mx,L2.mD,L2.mq,L2.oE,L2.ot,L2.mB,L2.mo,L2.oG,L2.ow,L2.oH,L2.ox,L2.mF,L2.ms,L2.mE,L2.mr,L2.oF,L2.ou,L2.rV,L2.xQ,L2.vE,L2.lB,L2.vL,L2.tS,L2.vD,L2.lA,L2.vK,L2.oq,L2.mz,L2.gC,L2.vJ,L2.oB,L2.iK,L2.jF,L2.vG,L2.oy,L2.oC,L2.j2,L2.xT,L2.qt,L2.iL,L2.jH,L2.vI,L2.oA,L2.my,L2.jG,L2.vH,L2.oz,L2.IH,L2.DO,L2.vO,L2.Iw,L2.IB,L2.DN,L2.IC,L2.IA,L2.IE,L2.IF,L2.Iy,L2.Iz,L2.DI,L2.DJ,L2.ID,L2.Ix,L2.DL,L2.DM,L2.IG,L2.KQ,L2.DK,L2.KP,L2.tQ,L2.vF,L2.tR,L2.tP,L2.r_b,My,Mz,Mm,M1,Lv,Nz,NA,Nw,if_true,if_false,decide_true,decide_false])
namespace K07
open PySem L2
def vp:Sp:=λ vs H Q _=> ∃c:Int,vs=[.int c]/\0<=c/\∀z:Int,1<=z->z<=8->Q (.int z) H
def n9 (K:Frag):Sp:=λ vs H Q _=> ∃(a:Addr) (ns:List Int) (k m:Int),vs=[.ref a,.int k,.int m]/\aI K H a (ns.map V.int)/\0<=k/\k<=900/\1<=m/\m<=64/\
 ∀(q:Addr) (hs:List Int) (H':Hp),H q=none->H' q=some (.lst (hs.map V.int))->(∀h∈hs,0<=h/\h<m)->hs.Nodup->(hs.length:Int)<m->ag H H'->Q (.ref q) H'
structure L1 (P:Program) (w:World) (K:Frag) (mg:Str->Option Value) (base:Heap):Prop where
 _law_at:eA P w K mg base "_law_at" ["_law_script","_law_k"] 1 (kG K)
section
variable {P:Program}{w:World}{K:Frag}{mg:Str->Option Value}{base:Heap}{aS aA aE aW aO aF:Addr}
theorem mS {f:Addr}{fd:FuncData}(F:bX K "are_holes" "are_holes" cZ f fd) (T:Txt mg aS aA aE aW aO aF) (C:CA P w K mg base):bj P w K mg base eI 3 f fd ["thing","many"] og:=by
 refine F.ok mj (λ vs H Q E h=>?_) (λ cdv A outer s H vs Q E hr h=>?_)
 ·obtain ⟨d,m,hs,rfl,_⟩:=h;rfl
 ·obtain ⟨d,m,hs,rfl,hd,good,nd,hl,m64,k⟩:=h;have hu:=cq hr;have hS:aI K H d (hs.map V.int):=aI.of hd;refine ⟨_,(aa (bf (PW.pt (fS (bm (bh (wt .list T.isinstance T.list dP (cv 0)))) (eE (bz K hu (kB (gG K) bW T.len (au (cv 0) pa_nil)) (cv 1))))) (aj (az c8)) aC)
   (aa (bf (bm (bh (kB (ww K) ky T.all (au (cz (bp (N:=["hole","many"]) (src:=[none,some 1]) (ak cZ) ["thing","many"]) (jL K (cv 0)) (λ _ _ _=>(aL (i:=0) ["hole","many"])) (λ _ _ _=>aP) (λ _ _ _=>(aD C.is_among hr (au (cv 0) (au af (au (aq (cv 1) af) pa_nil)))))) pa_nil)))) (aj (az c8)) aC)
   (aj (az (gS K hu (kB ri bW T.len (au (pe (K4 K hr) rk T.set (au (cv 0) pa_nil)) pa_nil)) (kB (gG K) bW T.len (au (cv 0) pa_nil))))))),?_⟩
  show bg _ _ _ [oR d,oJ m] H;refine bq (fu (cw (bF (wT (ab rfl) hd))) (λ _=>(bF (Jw (dG (ab rfl) (.inl hS)) (ab rfl))))) (λ h=>?_) (λ _=>?_)
  ·have h:decide (m<=((hs.map V.int).length:Int))=true:=h;have h:=of_decide_eq_true h;rw [Lv] at h;omega
  refine eC (λ b H'=>b=false/\ag H H') (λ Q q=>?_) (λ H' h=>by cases h.1) (λ H1 h=>?_)
  ·refine fB (d:=d) (xs:=hs.map V.int) (rest:=[oJ m]) (ab rfl) hS (by rw [Lv,sizeLine_eq];omega) rfl (λ _=>true) (λ _=>.bl true) (λ x hx=>eN) (λ x hx _=>?_) (λ d' hd'=>?_)
   ·obtain ⟨z,hz,rfl⟩:=Lx.mp hx;have g:=good z hz;refine aM (ac (ab rfl) (ac ao (ac (jk (ab rfl) ao) ar))) (λ Q q=>⟨z,0,m - 1,rfl,?_⟩);rw [decide_eq_true (by omega:0<=z/\z<=m - 1)];exact q
   ·refine ⟨List.replicate hs.length true,?_,?_⟩
    ·have e:((hs.map V.int).filter λ _=>true).map (λ _=>V.bl true)=(List.replicate hs.length true).map V.bl:=by rw [LZ.mpr (λ _ _=>rfl),LC,List.map_replicate];show hs.map (λ _=>V.bl true)=_;rw [List.map_const']
     rw [<-e];exact aI.of ae
    ·have e:(List.replicate hs.length true).all id=true:=by simp
     rw [e];exact q _ _ ⟨rfl,(ag.refl H).upd hd'⟩
  obtain ⟨_,s1⟩:=h;have hS1:=s1.seq hS;simp only [dw,dI,cB,bi,cn];refine E5 (ab rfl) ?_;refine ⟨hs,hS1,by have:scanBound=4096:=rfl;omega,λ q hq=>?_⟩;refine ⟨_,_,ae,?_⟩;have s2:ag H1 (upd H1 q (.set (λ k=>(tz hs).any (· == k)) (tz hs).length)):=(ag.refl H1).upd hq;refine E5 (v:=.ref d) (ab rfl) ⟨_,.inl (s2.seq hS1),?_⟩;rw [Lv,(u7 hs).mpr nd];show Q (.bl (decide ((hs.length:Int)=hs.length))) _;rw [decide_eq_true rfl];exact k _ (s1.trans ((ag.refl H1).upd hq))
theorem kX {f cB:Addr}{fd:FuncData}(F:bX K "__init__" "Board.__init__" bM f fd) (T:Txt mg aS aA aE aW aO aF) (B:rB K cB) (C:CB2 P w K mg base):bj P w K mg base eI 4 f fd ["self","wide","high","holes"] (l9 K cB):=by
 refine F.ok iH (λ vs H Q E h=>?_) (λ cdv A outer s H vs Q E hr h=>?_)
 ·obtain ⟨p,d,dx,wi,hi,hs,rfl,_⟩:=h;rfl
 ·obtain ⟨p,d,dx,wi,hi,hs,rfl,hp,hd,w1,w8,h1,h8,good,nd,hl,k⟩:=h;have hu:=cq hr;have m1:wi*hi<=8*8:=Nq w8 h8 (by omega) (by omega);have m0:0<=wi*hi:=Int.mul_nonneg (by omega) (by omega);have npd:p≠d:=dE hp hd (by intro z;cases z);refine ⟨_,(aa (bf (PW.pt (fS (bm (bh (aD C.is_among hr (au (cv 1) (au af (au (kg T.LONGEST) pa_nil)))))) (eE (bm (bh (aD C.is_among hr (au (cv 2) (au af (au (kg T.LONGEST) pa_nil))))))))) (aj cR) aC)
   (aa (bf (bm (bh (aD C.are_holes hr (au (cv 3) (au (aq (cv 1) (cv 2)) pa_nil))))) (aj cR) aC)
   (aa (ii K (cv 0) (cv 1))
   (aa (ii K (cv 0) (cv 2))
   (aa (ii K (cv 0) (kB (wp K) jn T.sorted (au (cv 3) pa_nil)))
   (aj (ii K (cv 0) (cz (bp (N:=["square","self"]) (src:=[none,some 0]) (ak bM) ["self","wide","high","holes"]) (Ef T.range (au (aq (cv 1) (cv 2)) pa_nil)) (λ _ _ _=>(aL (i:=0) ["square","self"])) (λ _ _ _=>aP) (λ _ _ _=>(gS K hu (cv 0) (fj K (cv 1)))))))))))),?_⟩
  show bg _ _ _ [oR p,oJ wi,oJ hi,oR d] H;refine bq (fu (cw (bF (aM (ac (ab rfl) (ac ao (ac ao ar))) (λ Q q=>⟨wi,1,8,rfl,q⟩)))) (λ _=>(cw (bF (aM (ac (ab rfl) (ac ao (ac ao ar))) (λ Q q=>⟨hi,1,8,rfl,q⟩)))))) (λ h=>?_) (λ _=>?_)
  ·rw [decide_eq_true (⟨w1,w8⟩:1<=wi/\wi<=8),decide_eq_true (⟨h1,h8⟩:1<=hi/\hi<=8)] at h;cases h
  refine eC (λ b H'=>b=false/\ag H H') (λ Q q=>?_) (λ H' h=>by cases h.1) (λ H1 h=>?_)
  ·exact gu (ac (ab rfl) (ac (gq (ab rfl) (ab rfl) (.inl ⟨by omega,by omega⟩)) ar)) ⟨d,wi*hi,hs,rfl,hd,good,nd,hl,by omega,λ H' s=>q _ _ ⟨rfl,s⟩⟩
  obtain ⟨_,s1⟩:=h;refine qh (ab rfl) (ab rfl) (s1 _ _ hp) B.cl B.wide (by decide) ?_;have a1:=bL "wide" (V.int wi) [];have a2:=bL "high" (V.int hi) (putF "wide" (V.int wi) []);simp only [LV] at a1;refine qh (ab rfl) (ab rfl) ae B.cl B.high (by omega) ?_;generalize hH3:upd (upd H1 p (HO.ins cB dx (putF "wide" (V.int wi) []))) p (HO.ins cB dx (putF "high" (V.int hi) (putF "wide" (V.int wi) [])))=H3;have p3:H3 p=some (.ins cB dx (putF "high" (V.int hi) (putF "wide" (V.int wi) []))):=hH3▸ae;have s3:SameBut p H H3:=hH3▸(s1.but.self.self);have d3:H3 d=some (.lst (hs.map V.int)):=s3 _ _ hd npd.symm;refine xK (λ v H'=> ∃(hs':List Int) (q:Addr),v=.ref q/\hs'.Perm hs/\hs'.Pairwise (·<=·)/\H3 q=none/\H'=upd H3 q (.lst (hs'.map V.int))) (λ Q q=>?_) p cB dx (λ H' Q q=>ab rfl Q q) B.cl B.holes ?_
  ·exact EM (ab rfl) ⟨hs,aI.of d3,by omega,λ hs' q' h1 h2 h3=>q _ _ ⟨hs',q',rfl,h1,h2,h3,rfl⟩⟩
  rintro _ _ ⟨hs',q,rfl,pm,sr,hq,rfl⟩;have npq:p≠q:=am p3 hq;have a3:=bL "holes" (V.ref q) (putF "high" (V.int hi) (putF "wide" (V.int wi) []));refine ⟨_,(by rw [ah npq];exact p3),(by omega),?_⟩;generalize hH4:upd (upd H3 q (HO.lst (hs'.map V.int))) p (HO.ins cB dx (putF "holes" (V.ref q) (putF "high" (V.int hi) (putF "wide" (V.int wi) []))))=H4;have p4:H4 p=some (.ins cB dx (putF "holes" (V.ref q) (putF "high" (V.int hi) (putF "wide" (V.int wi) [])))):=hH4▸ae;have q4:H4 q=some (.lst (hs'.map V.int)):=by rw [<-hH4,ah npq.symm,ae]
  have hqH:H q=none:=by
   cases e:H q with
   | none=>rfl
   | some o=>
     have:=s3 q o e npq.symm;rw [hq] at this;cases this
  have s4:SameBut p H H4:=hH4▸((s3.new hqH).self);have f4:Fl K H4 p "holes" (.ref q):=⟨cB,dx,_,p4,B.cl,B.holes,by rw [aw,if_pos rfl]⟩;refine rF (λ v H'=> ∃(pf:Addr),v=.ref pf/\H4 pf=none/\H'=upd H4 pf (.lst ((firmL wi hi hs').map V.bl))) (λ Q k'=>?_) p cB dx (λ H' Q q=>ab rfl Q q) B.cl B.firm ?_
  ·refine pF (n:=wi*hi) (rest:=[oR p]) (ac (gq (ab rfl) (ab rfl) (.inl ⟨by omega,by omega⟩)) ar) m0 (by rw [sizeLine_eq];omega) (by omega) rfl (λ _=>true) (λ x=>match x with | .int i=>.bl (!decide (i∈hs')) | _=>.non) (λ i hi=>eN) (λ i hi _=>?_) (λ d' hd'=>?_)
   ·exact (wO (ab rfl) (bP (ab rfl) (f4)) (.inl (aI.of q4)))
   ·refine k' _ _ ⟨d',rfl,hd',?_⟩;have e:(((List.range (wi*hi).toNat).map λ (i:Nat)=>V.int (0+(i:Int))).filter λ _=>true).map (λ x=>match x with | .int i=>V.bl (!decide (i∈hs')) | _=>.non)=(firmL wi hi hs').map V.bl:=by rw [LZ.mpr (λ _ _=>rfl),LC];unfold firmL;rw [LC];refine Md λ i _=>?_;show V.bl (!decide (0+(i:Int)∈hs'))=V.bl (!decide ((i:Int)∈hs'));rw [Nr]
    rw [e]
  rintro _ _ ⟨pf,rfl,hpf,rfl⟩;have npf:p≠pf:=am p4 hpf;have nqf:q≠pf:=am q4 hpf;have hfH:H pf=none:=by
   cases e:H pf with
   | none=>rfl
   | some o=>
     have:=s4 pf o e npf.symm;rw [hpf] at this;cases this
  refine ⟨_,(by rw [ah npf];exact p4),(by omega),?_⟩;refine k hs' _ pm ⟨⟨dx,q,pf,ae,by rw [ah npq.symm,ah nqf];exact q4,by rw [ah npf.symm,ae]⟩,w1,w8,h1,h8,λ h hh=>good h (pm.mem_iff.mp hh),sr,pm.nodup_iff.mpr nd⟩ ((s4.new hfH).self)
theorem qH {f:Addr}{fd:FuncData}(F:bX K "_law_at" "_law_at" fR f fd) (T:Txt mg aS aA aE aW aO aF):bj P w K mg base eI 1 f fd ["_law_script","_law_k"] (kG K):=by
 refine F.ok iu (λ vs H Q E h=>?_) (λ cdv A outer s H vs Q E hr h=>?_)
 ·obtain ⟨a,ns,k,rfl,_⟩:=h;rfl
 ·obtain ⟨a,ns,k,rfl,hS,h0,h1,q⟩:=h;have hu:=cq hr;refine ⟨_,(aa (av (i:=2) iu.nd rfl (Or.inl rfl) af)
   (aa (bf (bz K hu (kB (gG K) bW T.len (au (cv 0) pa_nil)) af) (aj (av (i:=2) iu.nd rfl (Or.inl rfl) (cx K (cv 0) (aq (cv 1) (kB (gG K) bW T.len (au (cv 0) pa_nil)))))) aC)
   (aj (az (aq (aq (aq (cv 2) (aq af (cv 1))) af) af))))),?_⟩
  show bg _ _ _ [oR a,oJ k,none] H;unfold lawAt at q
  walk_at "rd"
  refine ⟨_,.inl hS,?_⟩;rw [Lv]
  by_cases hn:0<ns.length
  ·rw [decide_eq_true (by omega:(0:Int)<(ns.length:Int)),if_pos rfl];rw [if_pos hn] at q;refine ⟨_,.inl hS,?_⟩;rw [Lv];have hm0:=Nn k (by omega:(ns.length:Int)≠0);have hm1:=No k (by omega:(0:Int)<(ns.length:Int));obtain ⟨v,e1,e2⟩:=EN (xs:=ns.map V.int) hm0 (by rw [Lv];exact hm1);refine ⟨by omega,_,v,.inl hS,e1,?_⟩;have hv:v=.int (ns.getD (k % (ns.length:Int)).toNat 0):=by
    rw [LD] at e2;cases e:ns[(k % (ns.length:Int)).toNat]? with
    | none=>rw [e] at e2;cases e2
    | some z=>
      rw [e] at e2;rw [LQ,e];exact (Option.some.inj e2).symm
   subst hv;exact ⟨.inl ⟨by decide,by decide⟩,.inr ⟨by decide,by decide⟩,by decide,q⟩
  ·rw [decide_eq_false (by omega:¬(0:Int)<(ns.length:Int))];rw [if_neg hn] at q;simp only [Nw,if_false];exact ⟨.inl ⟨by decide,by decide⟩,.inr ⟨by decide,by decide⟩,by decide,q⟩
theorem mT {f:Addr}{fd:FuncData}(F:bX K "_law_side" "_law_side" dU f fd) (T:Txt mg aS aA aE aW aO aF):bj P w K mg base eI 1 f fd ["_law_cell"] vp:=by
 refine F.ok ml (λ vs H Q E h=>?_) (λ cdv A outer s H vs Q E hr h=>?_)
 ·obtain ⟨v,rfl,_⟩:=h;rfl
 ·obtain ⟨c,rfl,c0,q⟩:=h;have hu:=cq hr;refine ⟨_,(aa (bf (bz K hu (aq (cv 0) af) af) (aj (az (aq af (aq (aq (cv 0) af) af)))) aC)
   (aj (az (aq af (aq (aq (cv 0) af) af))))),?_⟩
  show bg _ _ _ [oJ c] H;refine bq (bF (jB (bA (ab rfl) ao (by decide)) ao)) (λ _=>?_) (λ _=>?_)
  ·exact aU (cE ao (bA (cD (ab rfl) ao ⟨by decide,by decide⟩) ao (by decide))) (q _ (by omega) (by omega))
  ·exact aU (cE ao (bA (cD (ab rfl) ao ⟨by decide,by decide⟩) ao (by decide))) (q _ (by omega) (by omega))
theorem kW {f:Addr}{fd:FuncData}(F:bX K "_law_holes" "_law_holes" di f fd) (T:Txt mg aS aA aE aW aO aF) (C:L1 P w K mg base):bj P w K mg base eI 2 f fd ["_law_script","_law_k","_law_many"] (n9 K):=by
 refine F.ok bU (λ vs H Q E h=>?_) (λ cdv A outer s H vs Q E hr h=>?_)
 ·obtain ⟨a,ns,k,m,rfl,_⟩:=h;rfl
 ·obtain ⟨a,ns,k,m,rfl,hS,k0,k1,m1,m64,q⟩:=h;have hu:=cq hr;have r0:=iO ns k;refine ⟨_,(aa (av (i:=3) bU.nd rfl (Or.inl rfl) (aq (aD C._law_at hr (au (cv 0) (au (cv 1) pa_nil))) af))
   (aa (bf (bz K hu (cv 3) af) (aj (av (i:=3) bU.nd rfl (Or.inl rfl) af)) aC)
   (aa (bf (bz K hu (cv 3) af) (aj (av (i:=3) bU.nd rfl (Or.inl rfl) (aq (aq (aD C._law_at hr (au (cv 0) (au (cv 1) pa_nil))) af) (cv 2)))) aC)
   (aa (av (i:=4) bU.nd rfl (Or.inl rfl) (bu pa_nil))
   (aa (gL PassesOwn.never rfl (Ef T.range (au (kB (lR rfl) xk T.min (au (cv 3) (au (aq (cv 2) af) pa_nil))) pa_nil)) (dO (i:=5) bU.nd rfl (Or.inl rfl)) (aa (av (i:=6) bU.nd rfl (Or.inl rfl) (aq (aq (aq (aD C._law_at hr (au (cv 0) (au (aq (cv 1) af) pa_nil))) (aq (aq af (cv 5)) (cv 5))) (aq af (cv 5))) (cv 2)))
   (aj (bf (bz K hu (cv 6) (cv 4)) (aj (cy (gX (cv 4) (cv 6)))) aC))))
   (aj (az (cv 4)))))))),?_⟩
  show bg _ _ _ [oR a,oJ k,oJ m,none,none,none,none] H;refine bS (bA (aM (ac (ab rfl) (ac (ab rfl) ar)) (λ Q q=>⟨a,ns,k,rfl,hS,k0,by omega,q⟩)) ao (by decide)) ?_;generalize hc0:lawAt ns k % 12=c0;have tail:∀c:Int,0<=c->c<1000003->∀(u:TS),u=u->True:=λ _ _ _ _ _=>True.intro;have hc00:0<=c0/\c0<12:=by omega
  refine c9 (λ σ' H'=> ∃c:Int,0<=c/\c<1000003/\σ'=[oR a,oJ k,oJ m,oJ c,none,none,none]/\H'=H) (λ K' hK=>?_) ?_
  ·refine l7 (bF (Jv (ab rfl) ao)) (λ _=>?_) (λ _=>hK _ _ ⟨c0,by omega,by omega,rfl,rfl⟩);exact iE ao (hK _ _ ⟨0,by omega,by omega,rfl,rfl⟩)
  rintro _ H1 ⟨c1,c10,c11,rfl,rfl⟩;refine c9 (λ σ' H'=> ∃c:Int,0<=c/\c<1000003/\σ'=[oR a,oJ k,oJ m,oJ c,none,none,none]/\H'=H1) (λ K' hK=>?_) ?_
  ·refine l7 (bF (jB (ab rfl) ao)) (λ _=>?_) (λ _=>hK _ _ ⟨c1,by omega,by omega,rfl,rfl⟩);refine iE (bA (cD (aM (ac (ab rfl) (ac (ab rfl) ar)) (λ Q q=>⟨a,ns,k,rfl,hS,k0,by omega,q⟩)) ao ⟨by decide,by decide⟩) (ab rfl) (by omega)) (hK _ _ ⟨_,?_,?_,rfl,rfl⟩)
   ·exact Nn _ (by omega)
   ·have:=No (lawAt ns k / 12) (by omega:0<m);omega
  rintro _ H2 ⟨c2,c20,c21,rfl,rfl⟩;refine qg λ q1 hq1=>?_;have sm:ag H2 (upd H2 q1 (.lst [])):=(ag.refl H2).upd hq1;refine c9 (λ σ' H'=> ∃hs:List Int,(∃o5 o6,σ'=[oR a,oJ k,oJ m,oJ c2,oR q1,o5,o6])/\H' q1=some (.lst (hs.map V.int))/\(∀h∈hs,0<=h/\h<m)/\hs.Nodup/\(hs.length:Int)<m/\ag H2 H') (λ K' hK=>?_) ?_
  ·generalize hn:(if m - 1<c2 then m - 1 else c2)=n;have n0:0<=n/\n<=m - 1:=by
    by_cases h:m - 1<c2
    ·rw [if_pos h] at hn;omega
    ·rw [if_neg h] at hn;omega
   refine pr n (λ Q q=>(ac (wR (ab rfl) (jk (ab rfl) ao)) ar) _ (by rw [hn];exact q)) (by omega) (by omega)
    (λ i σ' H'=> ∃hs:List Int,(∃o5 o6,σ'=[oR a,oJ k,oJ m,oJ c2,oR q1,o5,o6])/\H' q1=some (.lst (hs.map V.int))/\(∀h∈hs,0<=h/\h<m)/\hs.Nodup/\hs.length<=i/\ag H2 H')
    ⟨[],⟨_,_,rfl⟩,ae,(λ h hh=>by cases hh),MB,M6 _,sm⟩ ?_ (λ σ' H' h=>?_)
   ·rintro i _ H3 hi ⟨hs,⟨o5,o6,rfl⟩,h3,gd,nd,hl,s3⟩;show bg _ _ _ [oR a,oJ k,oJ m,oJ c2,oR q1,oJ (0+(i:Int)),o6] H3;have hS3:=s3.seq hS;have i64:0<=0+(i:Int)/\0+(i:Int)<64:=by omega
    generalize 0+(i:Int)=j at i64 ⊢;refine bS (bA (cE (cE (aM (ac (ab rfl) (ac (cE (ab rfl) ao) ar)) (λ Q q=>⟨a,ns,k+1,rfl,hS3,by omega,by omega,q⟩)) (gq (gq ao (ab rfl) (.inl ⟨by decide,by decide⟩)) (ab rfl) (.inr ⟨by omega,by omega⟩))) (gq ao (ab rfl) (.inl ⟨by decide,by decide⟩))) (ab rfl) (by omega)) ?_;generalize hsq:(lawAt ns (k+1)+7*j*j+3*j) % m=sq;have sq0:0<=sq:=hsq▸Nn _ (by omega);have sq1:sq<m:=hsq▸No _ (by omega);refine l7 (bF (wO (ab rfl) (ab rfl) (.inl (aI.of h3)))) (λ h=>?_) (λ _=>⟨hs,⟨_,_,rfl⟩,h3,gd,nd,by omega,s3⟩);have hni:¬sq∈hs:=λ z=>by rw [decide_eq_true z] at h;cases h
    refine xL (ab rfl) (ab rfl) h3 (by rw [Lv,sizeLine_eq];omega) ⟨hs++[sq],⟨_,_,rfl⟩,?_,λ h hh=>?_,?_,?_,s3.put hq1⟩
    ·rw [ae,LR];rfl
    ·rcases LK.mp hh with z | z
     ·exact gd h z
     ·rw [LF.mp z];exact ⟨sq0,sq1⟩
    ·rw [Mw];refine ⟨nd,by simp,λ x hx y hy e=>?_⟩;rw [LF.mp hy] at e;exact hni (e▸hx)
    ·rw [Lz];show hs.length+1<=_;omega
   ·obtain ⟨hs,o,h3,gd,nd,hl,s3⟩:=h;exact hK _ _ ⟨hs,o,h3,gd,nd,by omega,s3⟩
  rintro _ H3 ⟨hs,⟨o5,o6,rfl⟩,h3,gd,nd,hl,s3⟩;show dw _ _ _ _;exact aU (ab rfl) (q q1 hs H3 hq1 h3 gd nd hl s3)
end
end K07
namespace K07
open PySem L2
def CZ (K:Frag):Sp:=λ vs H Q _=> ∃(a:Addr) (ns:List Int) (k:Int),vs=[.ref a,.int k]/\aI K H a (ns.map V.int)/\0<=k/\k<=1000/\∀(q:Addr) (ks:List Nat) (H':Hp),fE H' q ks->H q=none->ag H H'->Q (.ref q) H'
section
variable {P:Program}{w:World}{K:Frag}{mg:Str->Option Value}{base:Heap}{aS aA aE aW aO aF:Addr}
theorem kU {f:Addr}{fd:FuncData}(F:bX K "_law_kinds" "_law_kinds" cJ f fd) (T:Txt mg aS aA aE aW aO aF) (C:L1 P w K mg base):bj P w K mg base eI 2 f fd ["_law_script","_law_k"] (CZ K):=by
 refine F.ok cP (λ vs H Q E h=>?_) (λ cdv A outer s H vs Q E hr h=>?_)
 ·obtain ⟨a,ns,k,rfl,_⟩:=h;rfl
 ·obtain ⟨a,ns,k,rfl,hS,k0,k1,q⟩:=h;have hu:=cq hr;refine ⟨_,(aa (av (i:=2) cP.nd rfl (Or.inr rfl) (aD C._law_at hr (au (cv 0) (au (cv 1) pa_nil))))
   (aa (av (i:=3) cP.nd rfl (Or.inr rfl) aH)
   (aa (av (i:=4) cP.nd rfl (Or.inr rfl) (cx K (bu (dD rfl)) (aq (aq (cv 2) af) af)))
   (aa (av (i:=5) cP.nd rfl (Or.inl rfl) (cx K (bu (dD rfl)) (aq (aq (cv 2) af) af)))
   (aj (az (cz (bp (N:=["_law_j","_law_letters","_law_cell","_law_step"]) (src:=[none,some 3,some 2,some 4]) (ak cJ) ["_law_script","_law_k","_law_cell","_law_letters","_law_step","_law_many"]) (Ef T.range (au (cv 5) pa_nil)) (λ _ _ _=>(aL (i:=0) ["_law_j","_law_letters","_law_cell","_law_step"])) (λ _ _ _=>aP) (λ _ _ _=>(cx K (cv 1) (aq (aq (cv 2) (aq (cv 0) (cv 3))) af)))))))))),?_⟩
  show bg _ _ _ [oR a,oJ k,none,none,none,none] H;refine bS (aM (sp:=kG K) (ac (ab rfl) (ac (ab rfl) ar)) (λ Q q=>⟨a,ns,k,rfl,hS,k0,k1,q⟩)) ?_;generalize lawAt ns k=c;refine bS ao ?_;refine aZ (λ v H'=> ∃st:Int,v=.int st/\st∈([1,3,5,7,9,11,15,17,19,21,23,25]:List Int)/\ag H H') (λ Q q=>?_) ?_
  ·obtain ⟨n,e,hn⟩:=oN (ns:=[1,3,5,7,9,11,15,17,19,21,23,25]) (i:=c / 26 % 12) (by omega) (by show _<(12:Int);omega);exact jx jE (by decide) (λ H'=>(bA (cD (ab rfl) ao ⟨by decide,by decide⟩) ao (by decide))) e (λ H' s=>q _ _ ⟨n,rfl,hn,s⟩)
  rintro _ H1 ⟨st,rfl,hst,s1⟩;refine aZ (λ v H'=> ∃n:Int,v=.int n/\n∈([1,2,3,2,3,6,4,5]:List Int)/\ag H1 H') (λ Q q=>?_) ?_
  ·obtain ⟨n,e,hn⟩:=oN (ns:=[1,2,3,2,3,6,4,5]) (i:=c / 312 % 8) (by omega) (by show _<(8:Int);omega);exact jx jE (by decide) (λ H'=>(bA (cD (ab rfl) ao ⟨by decide,by decide⟩) ao (by decide))) e (λ H' s=>q _ _ ⟨n,rfl,hn,s⟩)
  rintro _ H2 ⟨n,rfl,hn,s2⟩;have hn6:1<=n/\n<=6:=by simp only [Lw,LO,or_false] at hn;omega
  show dw _ _ [oR a,oJ k,oJ c,oT ("abcdefghijklmnopqrstuvwxyz"),oJ st,oJ n] H2;refine pF (n:=n) (rest:=[oT ("abcdefghijklmnopqrstuvwxyz"),oJ c,oJ st]) (ac (ab rfl) ar) (by omega) (by rw [sizeLine_eq];omega) (by omega) rfl (λ _=>true)
   (λ x=>match x with | .int i=>cj (97+((c+i*st) % 26).toNat) | _=>.non) (λ i hi=>eN) (λ i hi _=>?_) (λ d hd=>?_)
  ·have hlt:0<=0+(i:Int)/\0+(i:Int)<6:=by omega
   exact EB (ab rfl) (bA (cE (ab rfl) (gq (ab rfl) (ab rfl) (.inl ⟨by omega,by omega⟩))) ao (by decide)) (by decide) (ES (by omega) (by omega))
  ·refine q d ((List.range n.toNat).map λ (i:Nat)=>97+((c+(0+(i:Int))*st) % 26).toNat) _ ⟨?_,?_,?_,?_,?_⟩ ((s1.trans s2).free hd) ((s1.trans s2).upd hd)
   ·rw [ae,LZ.mpr (λ _ _=>rfl),LC,LC];rfl
   ·intro x hx;obtain ⟨i,_,rfl⟩:=Lx.mp hx
    constructor<;>omega
   ·rw [Lv,Mh];omega
   ·rw [Lv,Mh];omega
   ·rw [MN,Mx,MO];intro x y hx hy hxy e;rw [Mh] at hx hy;rw [M2,M2] at e;simp only [Lw,LO,or_false] at hst;have ex:(c+(0+(x:Int))*st) % 26=(c+(0+(y:Int))*st) % 26:=by omega
    rcases hst with rfl | rfl | rfl | rfl | rfl | rfl | rfl | rfl | rfl | rfl | rfl | rfl
    all_goals omega
theorem mV {f:Addr}{fd:FuncData}(F:bX K "_law_rule" "_law_rule" dX f fd) (T:Txt mg aS aA aE aW aO aF):bj P w K mg base eI 1 f fd ["_law_cell","_law_kinds_here"] rO:=by
 refine F.ok bH (λ vs H Q E h=>?_) (λ cdv A outer s H vs Q E hr h=>?_)
 ·obtain ⟨c,d,ks,rfl,_⟩:=h;rfl
 ·obtain ⟨c,d,ks,rfl,hk,q⟩:=h;have hu:=cq hr;refine ⟨_,(aa (av (i:=2) bH.nd rfl (Or.inl rfl) (cx K (bu (dD rfl)) (aq (cv 0) af)))
   (aa (av (i:=3) bH.nd rfl (Or.inl rfl) af)
   (aa (bf (bz K hu (cv 2) aH) (aj (av (i:=3) bH.nd rfl (Or.inl rfl) (cx K (bu (dD rfl)) (aq (aq (cv 0) af) af)))) aC)
   (aa (av (i:=4) bH.nd rfl (Or.inl rfl) (cx K (bu (dD rfl)) (aq (aq (cv 0) af) af)))
   (aa (bf (bz K hu (cv 2) aH) (aj (av (i:=4) bH.nd rfl (Or.inl rfl) aH)) aC)
   (aa (av (i:=5) bH.nd rfl (Or.inl rfl) (aq (aq (aq (cv 0) af) (aq (aq af (cv 3)) af)) (cv 3)))
   (aa (av (i:=6) bH.nd rfl (Or.inl rfl) (aq (aq (aq (cv 0) af) (aq (aq af (cv 3)) af)) (cv 3)))
   (aa (bf (PW.pt (qu (bz K hu (cv 5) af) (mI (bz K hu (cv 6) af)))) (aj (av (i:=6) bH.nd rfl (Or.inl rfl) (cx K (bu (au af (au (nw af) pa_nil))) (aq (aq (cv 0) af) af)))) aC)
   (aj (az (gk (au (cx K (cv 1) (aq (aq (cv 0) af) (kB (gG K) bW T.len (au (cv 1) pa_nil)))) (au (cv 2) (au (cv 4) (au (cv 5) (au (cv 6) pa_nil)))))))))))))))),?_⟩
  show bg _ _ _ [oJ c,oR d,none,none,none,none,none] H;refine aZ (λ v H'=> ∃so:Str,v=.str so/\so∈sortsL/\ag H H') (λ Q q=>?_) ?_
  ·obtain ⟨n,e,hn⟩:=rZ (ss:=sortsL) (i:=c % 3) (by omega) (by show _<(3:Int);omega);exact jx jE (by decide) (λ H'=>(bA (ab rfl) ao (by decide))) e (λ H' s=>q _ _ ⟨n,rfl,hn,s⟩)
  rintro _ H1 ⟨so,rfl,hso,s1⟩;refine bS ao ?_;show bg _ _ _ [oJ c,oR d,oT so,oJ 1,none,none,none] H1;refine iF (λ σ' H'=>ag H1 H'/\∃fr:Int,σ'=[oJ c,oR d,oT so,oJ fr,none,none,none]/\1<=fr/\fr<=(if so="leap" then 3 else 1)) ?_ (λ go=>?_)
  rotate_left
  ·refine bq (bF (fc (ab rfl) ao)) (λ h=>?_) (λ h=>go _ _ ⟨ag.refl _,1,rfl,by decide,by split<;>omega⟩);obtain ⟨n,e,hn⟩:=oN (ns:=[1,2,3,3]) (i:=c / 3 % 4) (by omega) (by show _<(4:Int);omega);have hn6:1<=n/\n<=3:=by simp only [Lw,LO,or_false] at hn;omega
   exact iA (jx jE (by decide) (λ H'=>(bA (cD (ab rfl) ao ⟨by decide,by decide⟩) ao (by decide))) e (λ H' s=>go _ _ ⟨s,n,rfl,hn6.1,by rw [if_pos (of_decide_eq_true h)];exact hn6.2⟩))
  rintro _ H2 ⟨s2,fr,rfl,f0,f1⟩;have fr3:fr<=3:=by split at f1<;>omega
  refine aZ (λ v H'=> ∃so:Str,v=.str so/\so∈aimsL/\ag H2 H') (λ Q q=>?_) ?_
  ·obtain ⟨n,e,hn⟩:=rZ (ss:=aimsL) (i:=c / 12 % 3) (by omega) (by show _<(3:Int);omega);exact jx jE (by decide) (λ H'=>(bA (cD (ab rfl) ao ⟨by decide,by decide⟩) ao (by decide))) e (λ H' s=>q _ _ ⟨n,rfl,hn,s⟩)
  rintro _ H3 ⟨ai,rfl,hai,s3⟩;show bg _ _ _ [oJ c,oR d,oT so,oJ fr,oT ai,none,none] H3;refine iF (λ σ' H'=>H'=H3/\∃ai:Str,σ'=[oJ c,oR d,oT so,oJ fr,oT ai,none,none]/\ai∈aimsL/\(so="jump"->ai="hit")) ?_ (λ go=>?_)
  rotate_left
  ·exact bq (bF (fc (ab rfl) ao)) (λ h=>iE ao (go _ _ ⟨rfl,"hit",rfl,by decide,λ _=>rfl⟩)) (λ h=>go _ _ ⟨rfl,ai,rfl,hai,λ z=>absurd z (of_decide_eq_false h)⟩)
  rintro _ H3 ⟨rfl,ai,rfl,hai,hjh⟩;refine bS (jk (bA (cD (ab rfl) ao ⟨by decide,by decide⟩) (cE (gq ao (ab rfl) (.inl ⟨by decide,by decide⟩)) ao) (by omega)) (ab rfl)) ?_;refine bS (jk (bA (cD (ab rfl) ao ⟨by decide,by decide⟩) (cE (gq ao (ab rfl) (.inl ⟨by decide,by decide⟩)) ao) (by omega)) (ab rfl)) ?_;have a0:=Nn (c / 36) (by omega:2*fr+1≠0);have a1:=No (c / 36) (by omega:0<2*fr+1);have b0:=Nn (c / 252) (by omega:2*fr+1≠0);have b1:=No (c / 252) (by omega:0<2*fr+1);have hax: -fr<=c / 36 % (2*fr+1) - fr/\c / 36 % (2*fr+1) - fr<=fr:=by omega
  have hup: -fr<=c / 252 % (2*fr+1) - fr/\c / 252 % (2*fr+1) - fr<=fr:=by omega
  generalize c / 36 % (2*fr+1) - fr=ax at hax;generalize c / 252 % (2*fr+1) - fr=up at hup;show bg _ _ _ [oJ c,oR d,oT so,oJ fr,oT ai,oJ ax,oJ up] H3;refine iF (λ σ' H'=>ag H3 H'/\∃up:Int,σ'=[oJ c,oR d,oT so,oJ fr,oT ai,oJ ax,oJ up]/\-fr<=up/\up<=fr/\¬(ax=0/\up=0)) ?_ (λ go=>?_)
  rotate_left
  ·refine bq (u9 (bF (jB (ab rfl) ao)) (λ _=>bF (jB (ab rfl) ao))) (λ h=>?_) (λ h=>go _ _ ⟨ag.refl _,up,rfl,hup.1,hup.2,λ z=>by simp [z.1,z.2] at h⟩);obtain ⟨n,e,hn⟩:=oN (ns:=[1, -1]) (i:=c / 1764 % 2) (by omega) (by show _<(2:Int);omega);exact iA (jx (ac ao (ac (qS ao) ar)) (by decide) (λ H'=>(bA (cD (ab rfl) ao ⟨by decide,by decide⟩) ao (by decide))) e (λ H' s=>go _ _ ⟨s,n,rfl,by simp only [Lw,LO,or_false] at hn;omega,by simp only [Lw,LO,or_false] at hn;omega,by simp only [Lw,LO,or_false] at hn;omega⟩))
  rintro _ H4 ⟨s4,up,rfl,u0,u1,n0⟩;have s04:=((s1.trans s2).trans s3).trans s4;have hk4:=hk.same s04;obtain ⟨k,hkm,ek⟩:=hk4.pick (c / 3528);have hpos:(0:Int)<((ks.map cj).length:Int):=by rw [Lv];have:=hk.l1;omega
  refine xF (ay (ba (ab rfl) (bA (cD (ab rfl) ao ⟨by decide,by decide⟩) (dG (ab rfl) (.inl (aI.of hk4.at_))) hpos) (.inl (aI.of hk4.at_)) ek) (ay (ab rfl) (ay (ab rfl) (ay (ab rfl) (ay (ab rfl) (bZ ⟨by show 5<=sizeLine;decide,λ p hp=>?_⟩))))));exact q p ⟨one k,so,ai,ax,up⟩ _ ⟨⟨k,hkm,rfl⟩,hso,hai,hjh,⟨by show -(if so="leap" then 3 else 1)<=ax;omega,Int.le_trans hax.2 f1⟩,⟨by show -(if so="leap" then 3 else 1)<=up;omega,Int.le_trans u1 f1⟩,n0⟩ (s04.free hp) ae (s04.upd hp)
end
end K07
namespace K07
open PySem L2
def CT (K:Frag):Sp:=λ vs H Q _=> ∃(a:Addr) (ns:List Int) (k:Int) (d:Addr) (ks:List Nat),vs=[.ref a,.int k,.ref d]/\aI K H a (ns.map V.int)/\0<=k/\k<=900/\fE H d ks/\∀(q:Addr) (zs:List ((Str×Str)×Addr)) (H':Hp),pT ks zs->dJ H' zs->H q=none->H' q=some (.lst (bv zs))->ag H H'->Q (.ref q) H'
def CU (K:Frag):Sp:=λ vs H Q _=> ∃(a:Addr) (ns:List Int) (k:Int) (d:Addr) (ks:List Nat),vs=[.ref a,.int k,.ref d]/\aI K H a (ns.map V.int)/\0<=k/\k<=900/\fE H d ks/\∀(q:Addr) (us:List (aK×Addr)) (H':Hp),(∀z∈us,fG ks z.1)->us.length<=24->fC H' us->H q=none->H' q=some (.lst (dZ us))->ag H H'->Q (.ref q) H'
theorem vz {H:Hp}{ks:List Nat}:∀(ys:List V),(∀y∈ys,∃a u,y=.ref a/\H a=some (.tup (aK.vs u))/\fG ks u)->∃us:List (aK×Addr),ys=dZ us/\fC H us/\(∀z∈us,fG ks z.1)/\us.length=ys.length
 | [],_=>⟨[],rfl,λ _ z=>(nomatch z),λ _ z=>(nomatch z),rfl⟩
 | y::ys,h=>by
   obtain ⟨a,u,rfl,ha,g⟩:=h y (LH ..);obtain ⟨us,rfl,h1,h2,h3⟩:=vz ys λ y hy=>h y (LJ _ hy);refine ⟨(u,a)::us,rfl,λ z hz=>?_,λ z hz=>?_,by rw [LG,h3,LG]⟩
   ·rcases Lw.mp hz with rfl | hz
    ·exact ha
    ·exact h1 z hz
   ·rcases Lw.mp hz with rfl | hz
    ·exact g
    ·exact h2 z hz
structure L2k (P:Program) (w:World) (K:Frag) (mg:Str->Option Value) (base:Heap):Prop extends L1 P w K mg base where
 _law_rule:eA P w K mg base "_law_rule" ["_law_cell","_law_kinds_here"] 1 rO
section
variable {P:Program}{w:World}{K:Frag}{mg:Str->Option Value}{base:Heap}{aS aA aE aW aO aF:Addr}
theorem kQ {f:Addr}{fd:FuncData}(F:bX K "_law_rules" "_law_rules" cH f fd) (T:Txt mg aS aA aE aW aO aF) (C:L2k P w K mg base):bj P w K mg base eI 2 f fd ["_law_script","_law_k","_law_kinds_here"] (CU K):=by
 refine F.ok dM (λ vs H Q E h=>?_) (λ cdv A outer s H vs Q E hr h=>?_)
 ·obtain ⟨a,ns,k,d,ks,rfl,_⟩:=h;rfl
 ·obtain ⟨a,ns,k,d,ks,rfl,hS,k0,k1,hk,q⟩:=h;have hu:=cq hr;refine ⟨_,(aa (av (i:=3) dM.nd rfl (Or.inl rfl) (aD C._law_at hr (au (cv 0) (au (cv 1) pa_nil))))
   (aa (av (i:=4) dM.nd rfl (Or.inl rfl) (aq (cv 3) af))
   (aa (bf (bz K hu (aq (aq (cv 3) af) af) af) (aj (av (i:=4) dM.nd rfl (Or.inl rfl) (aq (aq (cv 3) af) af))) aC)
   (aj (az (cz (bp (N:=["_law_j","_law_kinds_here","_law_script","_law_k"]) (src:=[none,some 2,some 0,some 1]) (ak cH) ["_law_script","_law_k","_law_kinds_here","_law_cell","_law_many"]) (Ef T.range (au (cv 4) pa_nil)) (λ _ _ _=>(aL (i:=0) ["_law_j","_law_kinds_here","_law_script","_law_k"])) (λ _ _ _=>aP) (λ _ _ _=>(aD C._law_rule hr (au (aD C._law_at hr (au (cv 2) (au (aq (aq (cv 3) af) (cv 0)) pa_nil))) (au (cv 1) pa_nil)))))))))),?_⟩
  show bg _ _ _ [oR a,oJ k,oR d,none,none] H;refine bS (aM (sp:=kG K) (ac (ab rfl) (ac (ab rfl) ar)) (λ Q q=>⟨a,ns,k,rfl,hS,k0,by omega,q⟩)) ?_;generalize lawAt ns k=c;refine bS (bA (ab rfl) ao (by decide)) ?_;show bg _ _ _ [oR a,oJ k,oR d,oJ c,oJ (c % 7)] H;refine iF (λ σ' H'=>H'=H/\∃m:Int,σ'=[oR a,oJ k,oR d,oJ c,oJ m]/\0<=m/\m<=24) ?_ (λ go=>?_)
  rotate_left
  ·exact bq (bF (jB (bA (cD (ab rfl) ao ⟨by decide,by decide⟩) ao (by decide)) ao)) (λ h=>iE (bA (cD (ab rfl) ao ⟨by decide,by decide⟩) ao (by decide)) (go _ _ ⟨rfl,_,rfl,by omega,by omega⟩)) (λ h=>go _ _ ⟨rfl,_,rfl,by omega,by omega⟩)
  rintro _ H ⟨rfl,m,rfl,m0,m1⟩;show dw _ _ [oR a,oJ k,oR d,oJ c,oJ m] H;refine lQ (n:=m) (λ Q' z'=>(ac (ab rfl) ar) _ (z' _ (ag.refl _))) (by omega) (by omega) rfl
   (λ i H' v=> ∃a u,v=.ref a/\H' a=some (.tup (aK.vs u))/\fG ks u) (λ i H1 H2 v ⟨a,u,e1,e2,g⟩ s=>⟨a,u,e1,s _ _ e2,g⟩) (λ i H' hi s' Q2 z2=>?_) (λ p H' ys s' hp hyl hy=>?_)
  ·exact cb (ac (aM (sp:=kG K) (ac (ab rfl) (ac (cE (cE (ab rfl) ao) (ab rfl)) ar)) (λ Q q=>⟨a,ns,_,rfl,s'.seq hS,by omega,by omega,q⟩)) (ac (ab rfl) ar)) ⟨_,d,ks,rfl,hk.same s',λ t u H2 g n e s2=>z2 _ _ ⟨t,u,rfl,e,g⟩ s2⟩
  ·obtain ⟨us,rfl,h1,h2,h3⟩:=vz ys λ y hym=>by obtain ⟨i,hi⟩:=Me hym;exact hy i y hi
   exact q p us _ h2 (by omega) (h1.same ((ag.refl _).upd hp)) (s'.free hp) ae (s'.upd hp)
theorem kP {f:Addr}{fd:FuncData}(F:bX K "_law_turns" "_law_turns" cF f fd) (T:Txt mg aS aA aE aW aO aF) (C:L1 P w K mg base):bj P w K mg base eI 2 f fd ["_law_script","_law_k","_law_kinds_here"] (CT K):=by
 refine F.ok cO (λ vs H Q E h=>?_) (λ cdv A outer s H vs Q E hr h=>?_)
 ·obtain ⟨a,ns,k,d,ks,rfl,_⟩:=h;rfl
 ·obtain ⟨a,ns,k,d,ks,rfl,hS,k0,k1,hk,q⟩:=h;have hu:=cq hr;refine ⟨_,(aa (av (i:=3) cO.nd rfl (Or.inr rfl) (aD C._law_at hr (au (cv 0) (au (cv 1) pa_nil))))
   (aa (av (i:=4) cO.nd rfl (Or.inl rfl) (kB (lR rfl) xk T.min (au (aq (aq (cv 3) af) af) (au (aq (kB (gG K) bW T.len (au (cv 2) pa_nil)) af) pa_nil))))
   (aa (bf (bz K hu (aq (aq (cv 3) af) af) af) (aj (av (i:=4) cO.nd rfl (Or.inl rfl) (aq (kB (gG K) bW T.len (au (cv 2) pa_nil)) af))) aC)
   (aa (av (i:=5) cO.nd rfl (Or.inr rfl) (E2 K (cv 2) (gt (cv 4)) gi))
   (aj (az (cz (bp (N:=["_law_j","_law_kinds_here","_law_others","_law_cell"]) (src:=[none,some 2,some 5,some 3]) (ak cF) ["_law_script","_law_k","_law_kinds_here","_law_cell","_law_many","_law_others"]) (Ef T.range (au (cv 4) pa_nil)) (λ _ _ _=>(aL (i:=0) ["_law_j","_law_kinds_here","_law_others","_law_cell"])) (λ _ _ _=>aP) (λ _ _ _=>(gk (au (cx K (cv 1) (cv 0)) (au (cx K (cv 2) (aq (aq (aq (cv 3) af) (cv 0)) (kB (gG K) bW T.len (au (cv 2) pa_nil)))) pa_nil))))))))))),?_⟩
  show bg _ _ _ [oR a,oJ k,oR d,none,none,none] H;refine bS (aM (sp:=kG K) (ac (ab rfl) (ac (ab rfl) ar)) (λ Q q=>⟨a,ns,k,rfl,hS,k0,by omega,q⟩)) ?_;generalize lawAt ns k=c;have hl0:=hk.l1;have hl6:=hk.l6;have hsq:aI K H d (ks.map cj):=aI.of hk.at_;have hlen:((ks.map cj).length:Int)=ks.length:=by rw [Lv]
  refine bS (wR (cD (bA (ab rfl) ao (by decide)) ao ⟨by decide,by decide⟩) (jk (dG (ab rfl) (.inl hsq)) ao)) ?_;rw [hlen];have hm:∃m:Nat,(if (ks.length:Int) - 1<c % 6 / 2 then (ks.length:Int) - 1 else c % 6 / 2)=(m:Int)/\m<ks.length:=by
   split
   ·exact ⟨ks.length - 1,by omega,by omega⟩
   ·exact ⟨(c % 6 / 2).toNat,by omega,by omega⟩
  obtain ⟨m,em,hm⟩:=hm;rw [em];show bg _ _ _ [oR a,oJ k,oR d,oJ c,oJ (m:Int),none] H;refine iF (λ σ' H'=>H'=H/\∃m:Nat,σ'=[oR a,oJ k,oR d,oJ c,oJ (m:Int),none]/\m<ks.length) ?_ (λ go=>?_)
  rotate_left
  ·refine bq (bF (jB (bA (cD (ab rfl) ao ⟨by decide,by decide⟩) ao (by decide)) ao)) (λ h=>iE (v:=.int ((ks.length - 1:Nat):Int)) ?_ (go _ _ ⟨rfl,ks.length - 1,rfl,by omega⟩)) (λ h=>go _ _ ⟨rfl,m,rfl,hm⟩);have h:=jk (dG (to:=bE 2) (σ:=[oR a,oJ k,oR d,oJ c,oJ (m:Int),none]) (ab rfl) (.inl hsq)) (ao (x:=.int 1));rw [hlen,show (ks.length:Int) - 1=((ks.length - 1:Nat):Int) by omega] at h;exact h
  rintro _ H ⟨rfl,m,rfl,hm⟩;refine aZ (λ v H'=> ∃l,v=.ref l/\H' l=some (.lst (gr (ks.map cj) (some (m:Int)) none))/\ag H H') (λ Q q=>oi (ab rfl) (λ Q q=>?_) (λ Q q=>q) hsq (λ p hp=>q _ _ ⟨p,rfl,ae,(ag.refl H).upd hp⟩)) ?_
  ·exact q
  rintro _ H1 ⟨l,rfl,hl,s1⟩;have ec:gr (ks.map cj) (some (m:Int)) none=(ks.drop m).map cj:=by unfold gr;rw [HT.sIx_none,HT.sIx_nat,Lv,Nj (Nh hm),<-List.map_drop,Mc];rw [Lv,LU];exact M6 _
  rw [ec] at hl;have hol:((ks.drop m).map cj).length=ks.length - m:=by rw [Lv,LU]
  show dw _ _ [oR a,oJ k,oR d,oJ c,oJ (m:Int),oR l] H1;have at_:∀(xs:List Nat) (i:Int),0<=i->i<xs.length->kA (xs.map cj) i=some (cj (xs.getD i.toNat 0))/\xs.getD i.toNat 0∈xs:=λ xs i h0 h1=>by
   have hi:i.toNat<xs.length:=by omega
   have e:xs[i.toNat]? =some (xs.getD i.toNat 0):=by rw [LQ,Ly hi];rfl
   have z:=bo (xs:=xs.map cj) (j:=i.toNat) (v:=cj (xs.getD i.toNat 0)) (by rw [LD,e];rfl);rw [Int.toNat_of_nonneg h0] at z;exact ⟨z,LM e⟩
  have hdl:(ks.drop m).length=ks.length - m:=LU ..;refine lQ (n:=(m:Int)) (rest:=[oR d,oR l,oJ c]) (λ Q' z'=>(ac (ab rfl) ar) _ (z' _ (ag.refl _))) (by omega) (by omega) rfl
   (λ i H' v=> ∃a,v=.ref a/\H' a=some (.tup [.str (one (ks.getD i 0)),.str (one ((ks.drop m).getD ((c / 48+(i:Int)) % ((ks.drop m).length:Int)).toNat 0))])) (λ i H1 H2 v ⟨a,e1,e2⟩ s=>⟨a,e1,s _ _ e2⟩) (λ i H' hi s' Q2 z2=>?_) (λ p H' ys s' hp hyl hy=>?_)
  ·have hi:i<m:=by omega
   have hos1:(0:Int)<((ks.drop m).length:Int):=by omega
   have ld:aI K H' d (ks.map cj):=aI.of (s' _ _ (s1 _ _ hk.at_));have ll:aI K H' l ((ks.drop m).map cj):=aI.of (s' _ _ hl);have e1:=(at_ ks (0+(i:Int)) (by omega) (by omega)).1;rw [Nr,Np] at e1;have e2:=(at_ (ks.drop m) ((c / 48+(i:Int)) % ((ks.drop m).length:Int)) (Nn _ (by omega)) (No _ hos1)).1;rw [Nr];refine ve (x:=cj (ks.getD i 0)) (y:=cj ((ks.drop m).getD ((c / 48+(i:Int)) % ((ks.drop m).length:Int)).toNat 0)) (ba (ab rfl) (ab rfl) (.inl ld) e1) (ba (ab rfl) (bA (cE (cD (ab rfl) ao ⟨by decide,by decide⟩) (ab rfl)) (dG (ab rfl) (.inl ll)) (by rw [Lv];exact hos1)) (.inl ll) (by rw [Lv];exact e2)) λ a ha=>z2 _ _ ⟨a,rfl,ae⟩ ((ag.refl _).upd ha)
  ·obtain ⟨zs,rfl,h1,h2,h3⟩:=rX (λ i=>(one (ks.getD i 0),one ((ks.drop m).getD ((c / 48+(i:Int)) % ((ks.drop m).length:Int)).toNat 0))) ys 0 λ i y hi=>by rw [Nat.zero_add];exact hy i y hi
   have zl:zs.length=m:=by rw [h2,hyl];omega
   have val:∀(i:Nat) z,zs[i]? =some z->i<m/\z.1=(one (ks.getD i 0),one ((ks.drop m).getD ((c / 48+(i:Int)) % ((ks.drop m).length:Int)).toNat 0)):=λ i z h=>by have hi:=(LI.mp h).1;have:=h3 i z h;rw [Nat.zero_add] at this;exact ⟨by omega,this⟩
   have inj:∀i j:Nat,i<ks.length->j<ks.length->ks.getD i 0=ks.getD j 0->i=j:=λ i j hi hj e=>by rw [LQ,LQ,Ly hi,Ly hj] at e;exact (Ms hk.nd).mp (by simpa using e)
   have dr:∀j:Nat,(ks.drop m).getD j 0=ks.getD (m+j) 0:=λ j=>by rw [LQ,LQ,List.getElem?_drop]
   have hos1:(0:Int)<((ks.drop m).length:Int):=by omega
   have rg:∀i:Nat,((c / 48+(i:Int)) % ((ks.drop m).length:Int)).toNat<ks.length - m:=λ i=>by have a0:=Nn (c / 48+(i:Int)) (by omega:((ks.drop m).length:Int)≠0);have a1:=No (c / 48+(i:Int)) hos1;omega
   have mem:∀i:Nat,i<ks.length->ks.getD i 0∈ks:=λ i hi=>by
    have:=(at_ ks (i:Int) (by omega) (by omega)).2
    rwa [Np] at this
   refine q p zs _ ⟨by omega,λ z h=>?_,?_,λ z h y h' e=>?_⟩ (h1.same ((ag.refl _).upd hp)) ((s1.trans s').free hp) ae ((s1.trans s').upd hp)
   ·obtain ⟨i,hi⟩:=Me h;obtain ⟨a1,e⟩:=val i z hi;rw [e];exact ⟨⟨_,mem i (by omega),rfl⟩,_,by rw [dr];exact mem _ (by have:=rg i;omega),rfl⟩
   ·rw [MN,Mx,MO];intro i j hi hj hij e;obtain ⟨a1,a3⟩:=val i _ (Ly hi);obtain ⟨b1,b3⟩:=val j _ (Ly hj);rw [a3,b3] at e;have:=inj i j (by omega) (by omega) (se e);omega
   ·obtain ⟨i,hi⟩:=Me h;obtain ⟨j,hj⟩:=Me h';obtain ⟨a1,a3⟩:=val i z hi;obtain ⟨b1,b3⟩:=val j y hj;rw [a3,b3] at e;have e:=se e;rw [dr] at e;have:=rg i;have:=inj _ _ (by omega) (by omega) e;omega
end
end K07
namespace K07
open PySem L2
structure xv (ks:List Nat) (zs:List ((Str×Str)×Addr)):Prop where
 len:zs.length<=6
 kd:∀z∈zs,z.1.1∈d0/\∃b∈ks,z.1.2=one b
def C1 (K:Frag):Sp:=λ vs H Q _=> ∃(a:Addr) (ns:List Int) (k:Int) (d:Addr) (ks:List Nat),vs=[.ref a,.int k,.ref d]/\aI K H a (ns.map V.int)/\0<=k/\k<=900/\fE H d ks/\∀(q:Addr) (zs:List ((Str×Str)×Addr)) (H':Hp),xv ks zs->dJ H' zs->H q=none->H' q=some (.lst (bv zs))->ag H H'->Q (.ref q) H'
structure jq (H:Hp) (pl:Addr) (kd rd td ed:Addr) (ks:List Nat) (us:List (aK×Addr)) (ts es:List ((Str×Str)×Addr)):Prop where
 at_:H pl=some (.lst [.ref kd,.ref rd,.ref td,.ref ed])
 kds:fE H kd ks
 rls:H rd=some (.lst (dZ us))
 ra:fC H us
 rg:∀z∈us,fG ks z.1
 rl:us.length<=24
 tns:H td=some (.lst (bv ts))
 ta:dJ H ts
 tg:pT ks ts
 ens:H ed=some (.lst (bv es))
 ea:dJ H es
 eg:xv ks es
theorem jq.same {H H':Hp}{pl kd rd td ed:Addr}{ks:List Nat}{us:List (aK×Addr)}{ts es:List ((Str×Str)×Addr)}(h:jq H pl kd rd td ed ks us ts es) (s:ag H H'):jq H' pl kd rd td ed ks us ts es:=
 ⟨s _ _ h.at_,h.kds.same s,s _ _ h.rls,h.ra.same s,h.rg,h.rl,s _ _ h.tns,h.ta.same s,h.tg,s _ _ h.ens,h.ea.same s,h.eg⟩
def CV (K:Frag):Sp:=λ vs H Q _=> ∃(a:Addr) (ns:List Int) (k:Int),vs=[.ref a,.int k]/\aI K H a (ns.map V.int)/\0<=k/\k<=800/\∀(pl kd rd td ed:Addr) (ks:List Nat) (us:List (aK×Addr)) (ts es:List ((Str×Str)×Addr)) (H':Hp),jq H' pl kd rd td ed ks us ts es->H pl=none->H kd=none->H rd=none->H td=none->H ed=none->ag H H'->Q (.ref pl) H'
structure L3k (P:Program) (w:World) (K:Frag) (mg:Str->Option Value) (base:Heap):Prop where
 _law_kinds:eA P w K mg base "_law_kinds" ["_law_script","_law_k"] 2 (CZ K)
 _law_rules:eA P w K mg base "_law_rules" ["_law_script","_law_k","_law_kinds_here"] 2 (CU K)
 _law_turns:eA P w K mg base "_law_turns" ["_law_script","_law_k","_law_kinds_here"] 2 (CT K)
 _law_ends:eA P w K mg base "_law_ends" ["_law_script","_law_k","_law_kinds_here"] 2 (C1 K)
section
variable {P:Program}{w:World}{K:Frag}{mg:Str->Option Value}{base:Heap}{aS aA aE aW aO aF:Addr}
theorem mW {f:Addr}{fd:FuncData}(F:bX K "_law_ends" "_law_ends" dY f fd) (T:Txt mg aS aA aE aW aO aF) (C:L1 P w K mg base):bj P w K mg base eI 2 f fd ["_law_script","_law_k","_law_kinds_here"] (C1 K):=by
 refine F.ok db (λ vs H Q E h=>?_) (λ cdv A outer s H vs Q E hr h=>?_)
 ·obtain ⟨a,ns,k,d,ks,rfl,_⟩:=h;rfl
 ·obtain ⟨a,ns,k,d,ks,rfl,hS,k0,k1,hk,q⟩:=h;have hu:=cq hr;refine ⟨_,(aa (av (i:=3) db.nd rfl (Or.inl rfl) (aD C._law_at hr (au (cv 0) (au (cv 1) pa_nil))))
   (aa (av (i:=4) db.nd rfl (Or.inl rfl) (bu pa_nil))
   (aa (gL PassesOwn.never rfl (Ef T.range (au (cx K (bu (dD rfl)) (aq (cv 3) af)) pa_nil)) (dO (i:=5) db.nd rfl (Or.inl rfl)) (aa (av (i:=6) db.nd rfl (Or.inl rfl) (aD C._law_at hr (au (cv 0) (au (aq (aq (cv 1) af) (cv 5)) pa_nil))))
   (aj (cy (gX (cv 4) (gk (au (cx K (bu (au aH (au aH pa_nil))) (aq (cv 6) af)) (au (cx K (cv 2) (aq (aq (cv 6) af) (kB (gG K) bW T.len (au (cv 2) pa_nil)))) pa_nil))))))))
   (aj (az (cv 4)))))),?_⟩
  show bg _ _ _ [oR a,oJ k,oR d,none,none,none,none] H;refine bS (aM (sp:=kG K) (ac (ab rfl) (ac (ab rfl) ar)) (λ Q q=>⟨a,ns,k,rfl,hS,k0,by omega,q⟩)) ?_;generalize lawAt ns k=c;refine qg λ fq hq1=>?_;have sm:ag H (upd H fq (.lst [])):=(ag.refl H).upd hq1;obtain ⟨n,e,hn⟩:=oN (ns:=[0,1,2,1,3,6]) (i:=c % 6) (by omega) (by show _<(6:Int);omega);have hn2:0<=n/\n<=6:=by simp only [Lw,LO,or_false] at hn;omega
  show bg _ _ _ [oR a,oJ k,oR d,oJ c,oR fq,none,none] (upd H fq (.lst []));refine c9 (λ σ' H'=>(∃o5 o6,σ'=[oR a,oJ k,oR d,oJ c,oR fq,o5,o6])/\(∃zs,H' fq=some (.lst (bv zs))/\dJ H' zs/\xv ks zs)/\ag H H') (λ K' hK=>?_) ?_
  ·refine ux n (λ Q q=>Iv jE (by decide) (λ H'=>(bA (ab rfl) ao (by decide))) e q) (by omega) (by omega)
    (λ i σ' H'=>(∃o5 o6,σ'=[oR a,oJ k,oR d,oJ c,oR fq,o5,o6])/\(∃zs,H' fq=some (.lst (bv zs))/\zs.length<=i/\dJ H' zs/\∀z∈zs,z.1.1∈d0/\∃b∈ks,z.1.2=one b)/\ag H H')
    (λ H' s=>⟨⟨_,_,rfl⟩,⟨[],s _ _ ae,M6 _,λ x hx=>(nomatch hx),λ x hx=>(nomatch hx)⟩,sm.trans s⟩) ?_ (λ σ' H' h=>?_)
   ·rintro i _ H3 hi' ⟨⟨o5,o6,rfl⟩,⟨zs,h3,hl,hp3,hx⟩,s3⟩;show bg _ _ _ [oR a,oJ k,oR d,oJ c,oR fq,oJ (0+(i:Int)),o6] H3;refine bS (aM (sp:=kG K) (ac (ab rfl) (ac (cE (cE (ab rfl) ao) (ab rfl)) ar)) (λ Q q=>⟨a,ns,_,rfl,s3.seq hS,by omega,by omega,q⟩)) ?_;generalize lawAt ns _=o;refine xm (ab rfl) ⟨_,h3⟩ ?_;obtain ⟨n1,e1,hn1⟩:=rZ (ss:=d0) (i:=o % 2) (by omega) (by show _<(2:Int);omega);refine xF (bR (jx jE (by decide) (λ H'=>(bA (ab rfl) ao (by decide))) e1 (λ H4 s4=>?_)));have hk4:=(hk.same s3).same s4;obtain ⟨k1,hkm,ek⟩:=hk4.pick (o / 2);have hpos:(0:Int)<((ks.map cj).length:Int):=by rw [Lv];have:=hk.l1;omega
    refine ay (ba (ab rfl) (bA (cD (ab rfl) ao ⟨by decide,by decide⟩) (dG (ab rfl) (.inl (aI.of hk4.at_))) hpos) (.inl (aI.of hk4.at_)) ek) (bZ ⟨by show 2<=sizeLine;decide,λ p hp=>?_⟩);have h4:=s4 _ _ h3;have npf:fq≠p:=am h4 hp;have zl:(bv zs).length<sizeLine:=by rw [Lv,sizeLine_eq];omega
    refine ⟨bv zs,by rw [ah npf];exact h4,zl,⟨_,_,rfl⟩,⟨zs++[((n1,one k1),p)],by rw [ae];show _=some (HO.lst (List.map _ (zs++_)));rw [LR];rfl,by rw [Lz];show zs.length+1<=_;omega,λ x hm=>?_,λ x hm=>?_⟩,((s3.trans s4).upd hp).put hq1⟩
    ·rcases LK.mp hm with z | z
     ·have hc4:=s4 _ _ (hp3 x z);rw [ah (dE hc4 h4 (by simp)),ah (am hc4 hp)];exact hc4
     ·rw [LF.mp z,ah npf.symm,ae];rfl
    ·rcases LK.mp hm with z | z
     ·exact hx x z
     ·rw [LF.mp z];exact ⟨hn1,k1,hkm,rfl⟩
   ·obtain ⟨ho,⟨zs,h3,hl,hp3,hx⟩,s3⟩:=h;exact hK _ _ ⟨ho,⟨zs,h3,hp3,⟨by omega,hx⟩⟩,s3⟩
  rintro _ H3 ⟨⟨o5,o6,rfl⟩,⟨zs,h3,hp3,g⟩,s3⟩;exact aU (ab rfl) (q _ zs _ g hp3 hq1 h3 s3)
theorem kS {f:Addr}{fd:FuncData}(F:bX K "_law_parts" "_law_parts" dh f fd) (T:Txt mg aS aA aE aW aO aF) (C:L3k P w K mg base):bj P w K mg base eI 3 f fd ["_law_script","_law_k"] (CV K):=by
 refine F.ok dN (λ vs H Q E h=>?_) (λ cdv A outer s H vs Q E hr h=>?_)
 ·obtain ⟨a,ns,k,rfl,_⟩:=h;rfl
 ·obtain ⟨a,ns,k,rfl,hS,k0,k1,q⟩:=h;have hu:=cq hr;refine ⟨_,(aa (av (i:=2) dN.nd rfl (Or.inl rfl) (aD C._law_kinds hr (au (cv 0) (au (cv 1) pa_nil))))
   (aa (av (i:=3) dN.nd rfl (Or.inl rfl) (aD C._law_rules hr (au (cv 0) (au (aq (cv 1) af) (au (cv 2) pa_nil)))))
   (aa (av (i:=4) dN.nd rfl (Or.inl rfl) (aD C._law_turns hr (au (cv 0) (au (aq (cv 1) af) (au (cv 2) pa_nil)))))
   (aj (az (bu (au (cv 2) (au (cv 3) (au (cv 4) (au (aD C._law_ends hr (au (cv 0) (au (aq (cv 1) af) (au (cv 2) pa_nil)))) pa_nil)))))))))),?_⟩
  show bg _ _ _ [oR a,oJ k,none,none,none] H;refine aZ (λ v H'=> ∃kd ks,v=.ref kd/\fE H' kd ks/\H kd=none/\ag H H') (λ Q z=>cb (ac (ab rfl) (ac (ab rfl) ar)) ⟨a,ns,k,rfl,hS,k0,by omega,λ q ks H' g n s=>z _ _ ⟨q,ks,rfl,g,n,s⟩⟩) ?_;rintro _ H1 ⟨kd,ks,rfl,K1,nk,s1⟩;refine aZ (λ v H'=> ∃rd us,v=.ref rd/\(∀z∈us,fG ks z.1)/\us.length<=24/\fC H' us/\H1 rd=none/\H' rd=some (.lst (dZ us))/\ag H1 H') (λ Q z=>cb (ac (ab rfl) (ac (cE (ab rfl) ao) (ac (ab rfl) ar))) ⟨a,ns,k+1,kd,ks,rfl,s1.seq hS,by omega,by omega,K1,λ q us H' g l r n e s=>z _ _ ⟨q,us,rfl,g,l,r,n,e,s⟩⟩) ?_;rintro _ H2 ⟨rd,us,rfl,rg,rl,ra,nr,er,s2⟩;have s02:=s1.trans s2;refine aZ (λ v H'=> ∃td ts,v=.ref td/\pT ks ts/\dJ H' ts/\H2 td=none/\H' td=some (.lst (bv ts))/\ag H2 H') (λ Q z=>cb (ac (ab rfl) (ac (cE (ab rfl) ao) (ac (ab rfl) ar))) ⟨a,ns,k+2,kd,ks,rfl,s02.seq hS,by omega,by omega,K1.same s2,λ q us H' g r n e s=>z _ _ ⟨q,us,rfl,g,r,n,e,s⟩⟩) ?_;rintro _ H3 ⟨td,ts,rfl,tg,ta,nt,et,s3⟩;have s03:=s02.trans s3;refine fV (ay (ab rfl) (ay (ab rfl) (ay (ab rfl) (bR (cb (ac (ab rfl) (ac (cE (ab rfl) ao) (ac (ab rfl) ar))) ⟨a,ns,k+3,kd,ks,rfl,s03.seq hS,by omega,by omega,K1.same (s2.trans s3),λ ed es H4 eg ea ne ee s4=>bZ ⟨by show 4<=sizeLine;decide,λ p hp=>?_⟩⟩)))));have s5:=(ag.refl H4).upd (o:=.lst [.ref kd,.ref rd,.ref td,.ref ed]) hp;have s45:=s4.trans s5;exact q p kd rd td ed ks us ts es _ ⟨ae,K1.same ((s2.trans s3).trans s45),(s3.trans s45) _ _ er,ra.same (s3.trans s45),rg,rl,s45 _ _ et,ta.same s45,tg,s5 _ _ ee,ea.same s5,eg⟩ ((s03.trans s4).free hp) nk (s1.free nr) (s02.free nt) (s03.free ne) (s03.trans s45)
end
end K07
namespace K07
open PySem L2
abbrev nT (n:Int):Str:=Str.ofString (toString n)
theorem qJ:∀n∈(List.range 67).map (λ (i:Nat)=>(i:Int) - 3),ym (nT n)=some n:=by decide+kernel
theorem qI {n:Int}(h0: -3<=n) (h1:n<=63):mZ (nT n)=.int n:=by have h:=qJ n (Lx.mpr ⟨(n+3).toNat,L5.mpr (by omega),by omega⟩);unfold mZ;rw [h]
theorem ui:∀n∈(List.range 67).map (λ (i:Nat)=>(i:Int) - 3),(nT n).length<=2:=by decide+kernel
theorem Eb {n:Int}(h0: -3<=n) (h1:n<=63):(nT n).length<=2:=ui n (Lx.mpr ⟨(n+3).toNat,L5.mpr (by omega),by omega⟩)
def Nb (x:Str):Prop:=32∉x.cps.toList
theorem oZ (n:Int):Nb (nT n):=λ h=>(PyProof.Rows.intText_free_32 n).mp h
theorem w6 {c:Nat}:∀{a b r s:List Nat},c∉a->c∉b->a++c::r=b++c::s->a=b/\r=s
 | [],[],r,s,_,_,h=>⟨rfl,by injection h⟩
 | [],y::b,r,s,_,hb,h=>by injection h with h1 _;exact absurd (h1▸LH ..) hb
 | x::a,[],r,s,ha,_,h=>by injection h with h1 _;exact absurd (h1▸LH ..) ha
 | x::a,y::b,r,s,ha,hb,h=>by injection h with h1 h2;obtain ⟨e1,e2⟩:=w6 (λ z=>ha (LJ _ z)) (λ z=>hb (LJ _ z)) h2;exact ⟨by rw [h1,e1],e2⟩
theorem iP (c:Nat) (x y:Str) (r:List Str):(Str.join ⟨#[c]⟩ (x::y::r)).cps.toList=x.cps.toList++c::(Str.join ⟨#[c]⟩ (y::r)).cps.toList:=by show (x++⟨#[c]⟩++Str.join ⟨#[c]⟩ (y::r)).cps.toList=_;rw [cS,cS,Mf];rfl
theorem pj {c:Nat}:∀{xs ys:List Str},xs≠[]->ys≠[]->(∀x∈xs,c∉x.cps.toList)->(∀x∈ys,c∉x.cps.toList)->(Str.join ⟨#[c]⟩ xs).cps.toList=(Str.join ⟨#[c]⟩ ys).cps.toList->xs=ys
 | [],_,h,_,_,_,_=>absurd rfl h
 | _,[],_,h,_,_,_=>absurd rfl h
 | [x],[y],_,_,_,_,h=>by have h:x.cps.toList=y.cps.toList:=h;rw [str_ext h]
 | [x],y::z::r,_,_,hx,_,h=>by rw [iP] at h;have h:x.cps.toList=_:=h;exact absurd (h▸LS _ (LH ..)) (hx x (LH ..))
 | y::z::r,[x],_,_,_,hx,h=>by rw [iP] at h;have h:_=x.cps.toList:=h;exact absurd (h▸LS _ (LH ..)) (hx x (LH ..))
 | x::x2::r,y::y2::s,_,_,hx,hy,h=>by rw [iP,iP] at h;obtain ⟨e1,e2⟩:=w6 (hx x (LH ..)) (hy y (LH ..)) h;rw [str_ext e1,pj (by simp) (by simp) (λ z hz=>hx z (LJ _ hz)) (λ z hz=>hy z (LJ _ hz)) e2]
theorem JI:(" ":Str)=⟨#[32]⟩:=by decide+kernel
theorem nU (x y:Str):Txt.split x y≠[]:=by
 unfold Txt.split;split
 ·exact λ h=>nomatch h
 split
 ·exact λ h=>nomatch h
 ·intro h;have:=congrArg List.length h;rw [length_partsBetween] at this;cases this
theorem nS {ws:List Str}(h:ws≠[]) (hw:∀x∈ws,Nb x):Txt.split (Str.join " " ws) " "=ws:=by rw [JI];exact pj (nU _ _) h (StrLaws.split_free _ _) hw (by rw [StrLaws.join_split])
theorem nO (ws:List Str):Txt.join " " ws=Str.join " " ws:=StrLaws.glued_eq_join _ _
end K07
namespace K07
open PySem L2
def gT:List (Str×List Str):=[("board",["board","number","number"]),("hole",["hole","number"]),("kind",["kind","letter"]),("leap",["rule","letter","aim","number","number"]),("slide",["rule","letter","aim","number","number"]),("jump",["rule","letter","aim","number","number"]),("turn",["turn","letter","letter"]),("without",["end","letter"]),("home",["end","letter"]),("stuck",["stuck","word"])]
def iz (x:Str):Option (List Str):=(gT.find? λ z=>decide (z.1=x)).map (·.2)
def partV (fm wd:Str):V:=if fm="number" then mZ wd else if fm="letter" then (if letB (.str wd)=true then .str wd else .non) else if wd∈(if fm="aim" then aimsL else bN) then .str wd else .non
def kF:V->Str
 | .str z=>z
 | _=>""
def dk (fm ws:List Str):List V:=(ws.take 1).map V.str++List.zipWith (λ a b=>partV (kF a) (kF b)) ((fm.map V.str).drop 1) ((ws.map V.str).drop 1)
def lK:V->Bool
 | .non=>true
 | _=>false
def j4 (ws:List Str):Option (List V):=match iz (ws.headD "") with
 | none=>none
 | some fm=>if ws.length=fm.length then (if (dk fm ws).any lK=true then none else some (dk fm ws)) else none
abbrev xz:=List ((Str×List Str)×Addr)
abbrev fkv (fs:xz):List (Key×V):=fs.map λ z=>(.inr z.1.1,.ref z.2)
theorem qR:∀(fs:xz) (x:Str),valV (fkv fs) (.inr x)=(fs.find? λ z=>decide (z.1.1=x)).map λ z=>V.ref z.2
 | [],x=>rfl
 | z::fs,x=>by
   have ih:=qR fs x
   by_cases h:z.1.1=x
   ·rw [show fkv (z::fs)=(.inr z.1.1,V.ref z.2)::fkv fs from rfl,gJ (by rw [h]),Ma,decide_eq_true h];rfl
   ·rw [show fkv (z::fs)=(.inr z.1.1,V.ref z.2)::fkv fs from rfl,fJ (λ e=>h (by injection e)),ih,Ma,decide_eq_false h]
theorem sI {fs:xz}(h:fs.map (·.1)=gT) (x:Str):iz x=(fs.find? λ z=>decide (z.1.1=x)).map (·.1.2):=by unfold iz;rw [<-h,List.find?_map,Option.map_map];rfl
theorem wS {K:Frag}{σ:St}{H:Hp}{ta tb:TE}{a:Addr}(ha:Ev ta σ H (.ref a)) (hb:Ev tb σ H .non):Ev (dI K .Is ta tb) σ H (.bl false):=λ Q q=>ha _ (hb _ q)
def nZ:Sp:=λ vs H Q _=> ∃(fm wd:Str),vs=[.str fm,.str wd]/\wd.length<=100/\∀H',ag H H'->Q (partV fm wd) H'
def lw:Sp:=λ vs H Q _=> ∃line:Str,vs=[.str line]/\line.length<=100/\(j4 (Txt.split line " ")=none->∀H',ag H H'->Q .non H')/\∀ps,j4 (Txt.split line " ")=some ps->∀q H',H q=none->H' q=some (.lst ps)->ag H H'->Q (.ref q) H'
structure CPt (P:Program) (w:World) (K:Frag) (mg:Str->Option Value) (base:Heap):Prop where
 number_of:eA P w K mg base "number_of" ["text"] 1 CW
 is_letter:eA P w K mg base "is_letter" ["thing"] 1 i6
 is_word:eA P w K mg base "is_word" ["thing","words"] 1 (fw K)
structure CPs (P:Program) (w:World) (K:Frag) (mg:Str->Option Value) (base:Heap):Prop where
 part_of:eA P w K mg base "part_of" ["form","word"] 2 nZ
theorem Nb.part {x y:Str}(h:x∈Txt.split y " "):x.length<=y.length:=by
 have e:=StrLaws.join_split y " ";have:∀(ws:List Str),x∈ws->x.length<=(Str.join " " ws).length:=λ ws=>by
  induction ws with
  | nil=>exact λ h=>nomatch h
  | cons a r ih=>
    intro hx;cases r with
    | nil=>
      rw [LF.mp hx];exact M6 _
    | cons b r=>
      have e2:(Str.join " " (a::b::r)).length=a.length+(" ":Str).length+(Str.join " " (b::r)).length:=by show (a++" "++Str.join " " (b::r)).length=_;rw [bG,cS,cS,Lz,Lz];rfl
      rcases Lw.mp hx with rfl | hx
      ·omega
      ·have:=ih hx;omega
 have h2:=this _ h;rw [e] at h2;exact h2
section
variable {P:Program}{w:World}{K:Frag}{mg:Str->Option Value}{base:Heap}{aS aA aE aW aO aF:Addr}
theorem qA {f:Addr}{fd:FuncData}(F:bX K "part_of" "part_of" fL f fd) (T:Txt mg aS aA aE aW aO aF) (hA:∀H,fI K H aA aimsL) (hW:∀H,fI K H aW bN) (C:CPt P w K mg base):bj P w K mg base eI 2 f fd ["form","word"] nZ:=by
 refine F.ok iq (λ vs H Q E h=>?_) (λ cdv A outer s H vs Q E hr h=>?_)
 ·obtain ⟨fm,wd,rfl,_⟩:=h;rfl
 ·obtain ⟨fm,wd,rfl,hl,q⟩:=h;have hu:=cq hr;refine ⟨_,(aa (bf (bz K hu (cv 0) aH) (aj (az (aD C.number_of hr (au (cv 1) pa_nil)))) aC)
   (aa (bf (bz K hu (cv 0) aH) (aj (av (i:=2) iq.nd rfl (Or.inl rfl) (aD C.is_letter hr (au (cv 1) pa_nil)))) (aj (av (i:=2) iq.nd rfl (Or.inl rfl) (aD C.is_word hr (au (cv 1) (au (gN (bz K hu (cv 0) aH) (kg T.AIMS) (kg T.STUCK_WORDS)) pa_nil))))))
   (aj (az (gN (bh (cv 2)) (cv 1) dC))))),?_⟩
  show bg _ _ _ [oT fm,oT wd,none] H;unfold partV at q;refine bq (bF (fc (ab rfl) ao)) (λ h=>?_) (λ h=>?_)
  ·rw [if_pos (of_decide_eq_true h)] at q;exact iw (cb (ac (ab rfl) ar) ⟨wd,rfl,hl,q⟩)
  rw [if_neg (of_decide_eq_false h)] at q;have hl':wd.length<=1000:=M7 hl (by decide);refine c9 (λ σ' H'=>H'=H/\∃b:Bool,σ'=[oT fm,oT wd,some (.bl b)]/\(if b=true then V.str wd else .non)=(if fm="letter" then (if letB (.str wd)=true then .str wd else .non) else if wd∈(if fm="aim" then aimsL else bN) then .str wd else .non)) (λ K' hK=>?_) ?_
  ·refine (bF (b:=decide (fm="letter")) (fc (ab rfl) ao)) _ ?_
   by_cases h2:fm="letter"
   ·rw [decide_eq_true h2];refine ji (iA (cb (ac (ab rfl) ar) ⟨.str wd,rfl,hl',hK _ _ ⟨rfl,_,rfl,?_⟩⟩));rw [if_pos h2]
   ·rw [decide_eq_false h2];have fin:∀(aX:Addr) (L:List Str),(∀H,fI K H aX L)->L=(if fm="aim" then aimsL else bN)->fw K [.str wd,.ref aX] H (λ v H'=>K' (([some (.str fm),some (.str wd),none]:St).set 2 (some v)) H') E0:=λ aX L hL e=>⟨.str wd,aX,L,rfl,hl',hL H,hK _ _ ⟨rfl,wordB (.str wd) L,rfl,?_⟩⟩
    ·refine jj (iA (EH (ay (ab rfl) (bR (vf (b:=decide (fm="aim")) (bF (fc (ab rfl) ao)) (λ h3=>?_) (λ h3=>?_))))))
     ·exact ao _ (bZ (fin aA aimsL hA (by rw [if_pos (of_decide_eq_true h3)])))
     ·exact ao _ (bZ (fin aW bN hW (by rw [if_neg (of_decide_eq_false h3)])))
    ·rw [if_neg h2,<-e];show (if decide (wd∈L)=true then V.str wd else .non)=_;simp only [decide_eq_true_eq]
  rintro _ H1 ⟨rfl,b,rfl,e⟩;rw [<-e] at q;exact iw (vf (b:=b) (bF (ab rfl)) (λ h=>ab rfl _ (by have:=q H1 (ag.refl _);rw [if_pos h] at this;exact this)) (λ h=>ao _ (by have:=q H1 (ag.refl _);rw [if_neg (by rw [h];decide)] at this;exact this)))
theorem oU {f:Addr}{fd:FuncData}{fs:xz}(F:bX K "parts_of" "parts_of" dz f fd) (T:Txt mg aS aA aE aW aO aF) (hF:Dl P w K aF (fkv fs)) (hF2:∀z∈fs,∀H,cg K H z.2 (z.1.2.map V.str)) (hF3:fs.map (·.1)=gT) (C:CPs P w K mg base):bj P w K mg base eI 3 f fd ["line"] lw:=by
 refine F.ok fz (λ vs H Q E h=>?_) (λ cdv A outer s H vs Q E hr h=>?_)
 ·obtain ⟨line,rfl,_⟩:=h;rfl
 ·obtain ⟨line,rfl,hl,q0,q1⟩:=h;have hu:=cq hr;refine ⟨_,(aa (av (i:=1) fz.nd rfl (Or.inl rfl) (Da PySem.F.slot_str_split PySem.F.type_str_split yn (cv 0) (au aH pa_nil)))
   (aa (av (i:=2) fz.nd rfl (Or.inl rfl) (Jd hF (kg T.FORMS) (cx K (cv 1) af)))
   (aa (bf (PW.pt (fS (bz K hu (cv 2) dC) (eE (bz K hu (kB (gG K) bW T.len (au (cv 1) pa_nil)) (kB (gG K) bW T.len (au (cv 2) pa_nil)))))) (aj (az dC)) aC)
   (aa (av (i:=3) fz.nd rfl (Or.inl rfl) (aq (E2 K (cv 1) gi (gt af)) (cz (bp (N:=["asked","word"]) (src:=[none,none]) (ak dz) ["line","words","form","parts"]) (Ja K T.zip (au (K0 K (cv 2) (gt af) gi) (au (E2 K (cv 1) (gt af) gi) pa_nil))) (λ _ _ _=>(kgt K (n:=2) (iM (aL (i:=0) ["asked","word"]) (iM (aL (i:=1) ["asked","word"]) r6)))) (λ _ _ _=>aP) (λ _ _ _=>(aD C.part_of hr (au (cv 0) (au (cv 1) pa_nil)))))))
   (aj (az (gN (bz K hu dC (cv 3)) dC (cv 3)))))))),?_⟩
  show bg _ _ _ [oT line,none,none,none] H;have wn:=nU line " ";have wl:∀x∈Txt.split line " ",x.length<=100:=λ x hx=>M7 (Nb.part hx) hl;refine aZ (λ v H'=> ∃p,v=.ref p/\H' p=some (.lst ((Txt.split line " ").map V.str))/\ag H H') (λ Q z=>lx (ab rfl) (ao _ ⟨by decide,M7 hl (by decide),λ p hp=>z _ _ ⟨p,rfl,ae,(ag.refl H).upd hp⟩⟩)) ?_;rintro _ H1 ⟨wq,rfl,ew,s1⟩;generalize Txt.split line " "=ws at wn wl ew q0 q1;obtain ⟨w0,wr,rfl⟩:∃w0 wr,ws=w0::wr:=by
   cases ws with
   | nil=>exact absurd rfl wn
   | cons a b=>exact ⟨a,b,rfl⟩
  have ev0:∀{σ:St} {H':Hp},Ev (bE 1) σ H' (.ref wq)->H' wq=some (.lst ((w0::wr).map V.str))->Ev (kE K (bE 1) (tC (.int 0))) σ H' (.str w0):=λ e h=>ba e ao (.inl (aI.of h)) (bo (j:=0) rfl);have ff:=sI hF3 w0;refine aZ (λ v H'=>v=((fs.find? λ z=>decide (z.1.1=w0)).map λ z=>V.ref z.2).getD .non/\H'=H1) (λ Q z=>ev0 (ab rfl) ew _ ⟨.inr w0,rfl,by rw [qR];exact z _ _ ⟨rfl,rfl⟩⟩) ?_;rintro _ _ ⟨rfl,e1⟩;obtain rfl:=e1.symm;unfold j4 at q0 q1;rw [List.headD_cons,ff] at q0 q1;cases hz:fs.find? λ z=>decide (z.1.1=w0) with
  | none=>
    rw [hz] at q0;exact bq (b:=true) (fu (a:=true) (b:=false) (bF (sL (ab rfl) ao)) (λ h=>nomatch h)) (λ _=>aU ao (q0 rfl _ s1)) (λ h=>nomatch h)
  | some z=>
    rw [hz] at q0 q1;have q0:(if (w0::wr).length=z.1.2.length then (if (dk z.1.2 (w0::wr)).any lK=true then none else some (dk z.1.2 (w0::wr))) else none)=none->∀H',ag H H'->Q .non H':=q0;have q1:∀ps,(if (w0::wr).length=z.1.2.length then (if (dk z.1.2 (w0::wr)).any lK=true then none else some (dk z.1.2 (w0::wr))) else none)=some ps->∀q H',H q=none->H' q=some (.lst ps)->ag H H'->Q (.ref q) H':=q1;have hm:=M3 hz;have hT:=hF2 z hm;show bg _ _ _ [oT line,oR wq,oR z.2,none] H1;refine bq (fu (a:=false) (bF (wS (ab rfl) ao)) (λ _=>bF (wQ (dG (ab rfl) (.inl (aI.of ew))) (dG (ab rfl) (.inr (hT H1)))))) (λ h=>?_) (λ h=>?_)
    ·refine aU ao (q0 (if_neg λ e=>?_) _ s1);rw [NC,Lv,Lv,e,decide_eq_true rfl] at h;cases h
    have hlen:(w0::wr).length=z.1.2.length:=by
     rw [NC,Lv,Lv] at h;have:=of_decide_eq_true (by cases e:decide (((w0::wr).length:Int)=(z.1.2.length:Int)) with | true=>rfl | false=>rw [e] at h;cases h)
     omega
    rw [if_pos hlen] at q0 q1;have fl5:z.1.2.length<=5:=by have:z.1∈gT:=hF3▸Lx.mpr ⟨z,hm,rfl⟩;exact (by decide:∀y∈gT,y.2.length<=5) _ this
    have fl2:2<=z.1.2.length:=by have:z.1∈gT:=hF3▸Lx.mpr ⟨z,hm,rfl⟩;exact (by decide:∀y∈gT,2<=y.2.length) _ this
    generalize z.1.2=fm at*;have cutD:∀(xs:List V),1<=xs.length->gr xs (some 1) none=xs.drop 1:=λ xs hx=>by unfold gr;rw [HT.sIx_none,show (1:Int)=((1:Nat):Int) from rfl,HT.sIx_nat,Nj hx,Mc];rw [LU];exact M6 _
    refine aZ (λ v H'=> ∃p,v=.ref p/\H' p=some (.lst (dk fm (w0::wr)))/\H1 p=none/\ag H1 H') (λ Q z2=>?_) ?_
    ·refine jD (oi (lo:=none) (hi:=some 1) (ab rfl) oK (oM ao) (aI.of ew) λ p1 h1=>?_);rw [Df];have r1:=(ag.refl H1).upd (o:=.lst (((w0::wr).map V.str).take 1)) h1;have f1:(upd H1 p1 (.lst (((w0::wr).map V.str).take 1))) p1=some (.lst (((w0::wr).map V.str).take 1)):=ae;generalize upd H1 p1 (.lst (((w0::wr).map V.str).take 1))=H2 at r1 f1 ⊢;refine Ik (bR (Iu (lo:=some 1) (hi:=none) (ab rfl) (oM ao) oK (hT H2) (λ hh=>?_) λ p2 h2=>?_))
     ·have h3:=hh.1;rw [show (1:Int)=((1:Nat):Int) from rfl,HT.sIx_nat,Lv,Nj (by omega)] at h3;cases h3
     rw [cutD _ (by rw [Lv];omega)];have r2:=(ag.refl H2).upd (o:=.tup ((fm.map V.str).drop 1)) h2;have f2:(upd H2 p2 (.tup ((fm.map V.str).drop 1))) p2=some (.tup ((fm.map V.str).drop 1)):=ae;generalize upd H2 p2 (.tup ((fm.map V.str).drop 1))=H3 at r2 f2 ⊢;refine bR (oi (lo:=some 1) (hi:=none) (ab rfl) (oM ao) oK (aI.of ((r1.trans r2) _ _ ew)) λ p3 h3=>bZ ?_);rw [cutD _ (by rw [Lv];show 1<=wr.length+1;omega)];have r3:=(ag.refl H3).upd (o:=.lst (((w0::wr).map V.str).drop 1)) h3;have f3:(upd H3 p3 (.lst (((w0::wr).map V.str).drop 1))) p3=some (.lst (((w0::wr).map V.str).drop 1)):=ae;generalize upd H3 p3 (.lst (((w0::wr).map V.str).drop 1))=H4 at r3 f3 ⊢;have ll:((fm.map V.str).drop 1).length=(((w0::wr).map V.str).drop 1).length:=by rw [LU,LU,Lv,Lv,hlen]
     refine uD (rest:=[]) (cg.of (r3 _ _ f2)) (aI.of f3) ll (by rw [LU,Lv];omega) (λ H' s=>cg.of ((r3.trans s) _ _ f2)) rfl (λ a b=>partV (kF a) (kF b)) (λ i x y H' hx hy s Q q=>?_) λ H' d s hd=>?_
     ·obtain ⟨a,_,rfl⟩:=Lx.mp (M4 (LM hx));obtain ⟨b,hb,rfl⟩:=Lx.mp (M4 (LM hy));exact cb (ac (ab rfl) (ac (ab rfl) ar)) ⟨a,b,rfl,wl b hb,q⟩
     ·have sd:=(s.upd (o:=.lst (List.zipWith (λ a b=>partV (kF a) (kF b)) ((fm.map V.str).drop 1) (((w0::wr).map V.str).drop 1))) hd);have r24:=r2.trans (r3.trans sd);refine hG (r24 _ _ f1) ae (by rw [LW,MM,LU,Lv,Lv,LU];omega) λ p hp=>z2 _ _ ⟨p,rfl,?_,(r1.trans r24).free hp,(r1.trans r24).upd hp⟩;rw [ae];unfold dk;rw [List.map_take]
    rintro _ H2 ⟨p,rfl,ep,np,s2⟩;have fl:(dk fm (w0::wr)).all flatV=true:=by
     rw [LP];intro x hx
     rcases LK.mp hx with hx | hx
     ·obtain ⟨a,_,rfl⟩:=Lx.mp hx;rfl
     ·obtain ⟨a,b,hab,rfl⟩:∃a b,True/\partV a b=x:=by
       obtain ⟨i,hi⟩:=Me hx;rw [List.getElem?_zipWith] at hi;split at hi
       ·rename_i a b _ _;exact ⟨kF a,kF b,trivial,Option.some.inj hi⟩
       ·cases hi
      unfold partV mZ
      repeat' split
      all_goals rfl
    have ein:Dc .non (dk fm (w0::wr))=(dk fm (w0::wr)).any lK:=by unfold Dc;refine congrArg _ (funext λ x=>?_);cases x<;>rfl
    show dw _ _ [oT line,oR wq,oR z.2,oR p] H2;have tst:Tv (fZ (dI K .In (tC .non) (bE 3))) [some (.str line),some (.ref wq),some (.ref z.2),some (.ref p)] H2 ((dk fm (w0::wr)).any lK):=λ Q q=>qX (ao _ (ab rfl _ (by
     rw [iL];exact ⟨p,_,rfl,.inl (aI.of ep),rfl,fl,by rw [ein];exact q⟩)))
    refine iw (vf tst (λ h=>ao _ (q0 (by rw [if_pos h]) _ (s1.trans s2))) (λ h=>ab rfl _ (q1 _ (if_neg (by rw [h];decide)) _ _ (s1.free np) ep (s1.trans s2))))
end
end K07
namespace K07
open PySem L2
def ordL:List Str:=["board","hole","kind","rule","turn","end","stuck"]
def wj (lv:V):Prop:=lv=.non\/∃la,lv=.str la/\la∈ordL
def IZ (so:Str) (lv:V):Bool:=match lv with
 | .str la=> !decide (so="board")&&(!decide (la="stuck")&&decide (ordL.idxOf la<=ordL.idxOf so))
 | _=>decide (so="board")
def CY:Sp:=λ vs H Q _=> ∃(so:Str) (lv:V),vs=[.str so,lv]/\so∈ordL/\wj lv/\Q (.bl (IZ so lv)) H
abbrev wo (ks:List Str) (ls:List Addr):List (Key×V):=List.zipWith (λ s a=>((.inr s:Key),V.ref a)) ks ls
theorem na:∀{ks:List Str}{ls:List Addr}{j:Nat}{s:Str}{l:Addr},ks.Nodup->ks[j]? =some s->ls[j]? =some l->valV (wo ks ls) (.inr s)=some (.ref l)
 | [],_,j,s,l,_,h,_=>by cases j<;>cases h
 | _::_,[],j,s,l,_,_,h=>by cases j<;>cases h
 | k::ks,a::ls,0,s,l,_,h1,h2=>by obtain rfl:k=s:=Option.some.inj h1;obtain rfl:a=l:=Option.some.inj h2;exact gJ rfl
 | k::ks,a::ls,j+1,s,l,nd,h1,h2=>by have h1:ks[j]? =some s:=h1;rw [Mo] at nd;have e:¬((.inr k:Key)=.inr s):=λ e=>nd.1 (by injection e with e;rw [e];exact LM h1);exact (fJ e).trans (na nd.2 h1 h2)
theorem pc:∀{ks:List Str}{ls:List Addr}{s:Str},(∀i,i<ls.length->ks[i]?≠some s)->valV (wo ks ls) (.inr s)=none
 | [],_,_,_=>rfl
 | _::_,[],_,_=>rfl
 | k::ks,a::ls,s,h=>by have e:¬((.inr k:Key)=.inr s):=λ e=>h 0 (by simp) (by injection e with e;rw [e];rfl);exact (fJ e).trans (pc λ i hi z=>h (i+1) (by simpa using hi) z)
theorem pb:∀{ks:List Str}{ls:List Addr}{s:Str}{a:Addr},ks[ls.length]? =some s->wo ks (ls++[a])=wo ks ls++[(.inr s,.ref a)]
 | [],ls,s,a,h=>by simp at h
 | k::ks,[],s,a,h=>by obtain rfl:k=s:=Option.some.inj h;cases ks<;>rfl
 | k::ks,b::ls,s,a,h=>by have ih:=pb (ks:=ks) (ls:=ls) (s:=s) (a:=a) h;show (_,_)::wo ks (ls++[a])=(_,_)::(wo ks ls++_);rw [ih]
theorem qx:ordL.Nodup:=by decide+kernel
structure uT (H:Hp) (q:Addr) (ls:List Addr) (gs:List (Nat×List V)):Prop where
 dict:H q=some (.dK (wo ordL ls))
 len:ls.length=7
 nd:ls.Nodup
 qn:q∉ls
 grp:∀j l,ls[j]? =some l->∃zs:List (Addr×List V),H l=some (.lst (zs.map λ z=>V.ref z.1))/\zs.map (·.2)=(gs.filter λ g=>decide (g.1=j)).map (·.2)/\∀z∈zs,H z.1=some (.lst z.2)/\z.1∉ls/\z.1≠q
theorem uT.same {H H':Hp}{q:Addr}{ls:List Addr}{gs:List (Nat×List V)}(F:uT H q ls gs) (s:ag H H'):uT H' q ls gs:=
 ⟨s _ _ F.dict,F.len,F.nd,F.qn,λ j l h=>by
  obtain ⟨zs,a,b,c⟩:=F.grp j l h;exact ⟨zs,s _ _ a,b,λ z hz=>⟨s _ _ (c z hz).1,(c z hz).2⟩⟩⟩
theorem IY {ls:List Addr}{i j:Nat}{l:Addr}(nd:ls.Nodup) (h1:ls[i]? =some l) (h2:ls[j]? =some l):i=j:=by obtain ⟨a,e1⟩:=LI.mp h1;obtain ⟨b,e2⟩:=LI.mp h2;exact (Ms nd).mp (e1.trans e2.symm)
theorem ED {td ty tv:TE}{D:cM}{σ:St}{H:Hp}(h:tv σ H λ v H1=>td σ H1 λ x H2=>ty σ H2 λ y H3=> ∃a H4,x=.ref a/\uU H3 a y v H4/\D.nx σ H4):rT td ty tv D σ H:=h
theorem nm {x l:Addr}{ls:List Addr}(h:x∉ls) (hl:l∈ls):x≠l:=λ e=>h (by rw [e];exact hl)
theorem uT.add {H:Hp}{q p l:Addr}{ls:List Addr}{gs:List (Nat×List V)}{j:Nat}{ps xs:List V}(F:uT H q ls gs) (hl:ls[j]? =some l) (hx:H l=some (.lst xs)) (hp:H p=some (.lst ps)) (pn:p∉ls) (pq:p≠q):uT (upd H l (.lst (xs++[.ref p]))) q ls (gs++[(j,ps)]):=by
 have lm:=LM hl;refine ⟨?_,F.len,F.nd,F.qn,λ i m hm=>?_⟩
 ·rw [ah (nm F.qn lm)];exact F.dict
 obtain ⟨zs,a,b,c⟩:=F.grp i m hm;have old:∀z∈zs,(upd H l (.lst (xs++[.ref p]))) z.1=some (.lst z.2)/\z.1∉ls/\z.1≠q:=λ z hz=>by obtain ⟨c1,c2,c3⟩:=c z hz;exact ⟨by rw [ah (nm c2 lm)];exact c1,c2,c3⟩
 by_cases e:i=j
 ·subst e;obtain rfl:l=m:=Option.some.inj (hl.symm.trans hm);rw [hx] at a;obtain rfl:xs=zs.map λ z=>V.ref z.1:=by injection a with a;injection a
  refine ⟨zs++[(p,ps)],?_,?_,λ z hz=>?_⟩
  ·rw [ae,LR];rfl
  ·rw [LR,b,L3,LR,L4,decide_eq_true rfl];rfl
  ·rcases LK.mp hz with hz | hz
   ·exact old z hz
   ·rw [LF.mp hz];exact ⟨by rw [ah (nm pn lm)];exact hp,pn,pq⟩
 ·have ne:m≠l:=λ e2=>e (IY F.nd hm (e2▸hl));refine ⟨zs,by rw [ah ne];exact a,?_,old⟩;rw [b,L3,L4,decide_eq_false (show¬(j=i) from λ z=>e z.symm)];rw [if_neg Nt,List.filter_nil,L6]
structure k5 (line:Str) (g:Nat×List V):Prop where
 len:line.length<=100
 ps:j4 (Txt.split line " ")=some g.2
 so:∃so w0 rest fr,ordL[g.1]? =some so/\g.2=.str w0::rest/\iz w0=some (so::fr)
def gE (gs:List (Nat×List V)):V:=match gs.getLast? with
 | some g=>(match ordL[g.1]? with | some so=>.str so | none=>.non)
 | none=>.non
def Dm (gs:List (Nat×List V)):Prop:= ∀(i:Nat) (g:Nat×List V) (so:Str),gs[i]? =some g->ordL[g.1]? =some so->IZ so (gE (gs.take i))=true
def nX:Sp:=λ vs H Q _=> ∃(d:Addr) (ls:List Str) (gs:List (Nat×List V)),vs=[.ref d]/\H d=some (.lst (ls.map V.str))/\ls.length=gs.length/\gs.length<=1000/\(∀(i:Nat) (x:Str) (g:Nat×List V),ls[i]? =some x->gs[i]? =some g->k5 x g)/\Dm gs/\gE gs=.str "stuck"/\
 ∀q as H',uT H' q as gs->H q=none->ag H H'->Q (.ref q) H'
theorem iy {gs:List (Nat×List V)}{g:Nat×List V}{so:Str}(h:ordL[g.1]? =some so):gE (gs++[g])=.str so:=by
 unfold gE;rw [show (gs++[g]).getLast? =some g by simp];show (match ordL[g.1]? with | some so=>V.str so | none=>.non)=_
 rw [h]
theorem wg (gs:List (Nat×List V)):wj (gE gs):=by
 unfold gE;split
 ·rename_i g _;cases e:ordL[g.1]? with
  | none=>exact .inl rfl
  | some so=>exact .inr ⟨so,rfl,LM e⟩
 ·exact .inl rfl
structure CSo (P:Program) (w:World) (K:Frag) (mg:Str->Option Value) (base:Heap):Prop where
 parts_of:eA P w K mg base "parts_of" ["line"] 3 lw
 may_follow:eA P w K mg base "may_follow" ["sort","last"] 1 CY
section
variable {P:Program}{w:World}{K:Frag}{mg:Str->Option Value}{base:Heap}{aS aA aE aW aO aF:Addr}
theorem kM {f:Addr}{fd:FuncData}(F:bX K "may_follow" "may_follow" de f fd) (T:Txt mg aS aA aE aW aO aF) (hO:eG K aO ordL):bj P w K mg base eI 1 f fd ["sort","last"] CY:=by
 refine F.ok kI (λ vs H Q E h=>?_) (λ cdv A outer s H vs Q E hr h=>?_)
 ·obtain ⟨so,lv,rfl,_⟩:=h;rfl
 ·obtain ⟨so,lv,rfl,hso,hl,q⟩:=h;have hu:=cq hr;refine ⟨_,(aa (bf (PW.pt (fS (bz K hu (cv 0) aH) (eE (bz K hu (cv 1) dC)))) (aj (az (dq (gS K hu (cv 0) aH) (dB (gS K hu (cv 1) dC))))) aC)
   (aj (az (dq (gS K hu (cv 1) aH) (dB (gS K hu (sV K (kg T.ORDER) (cv 1)) (sV K (kg T.ORDER) (cv 0)))))))),?_⟩
  show bg _ _ _ [oT so,some lv] H
  rcases hl with rfl | ⟨la,rfl,hla⟩
  ·have e1:Ev (dI K .Is (bE 1) (tC .non)) [some (.str so),some .non] H (.bl true):=sL (ab rfl) ao;refine bq (fu (b:=true) (bF (fc (z:=so) (z':="board") (ab rfl) ao)) (λ _=>bF e1)) (λ _=>?_) (λ h=>?_)
   ·refine aU (ca (a:=decide (so="board")) (b:=true) (fc (ab rfl) ao) (λ _=>e1)) ?_;rw [NE];exact q
   ·rw [Bool.or_true] at h;cases h
  ·have e1:Ev (dI K .Is (bE 1) (tC .non)) [some (.str so),some (.str la)] H (.bl false):=λ Q q=>(show Ev (bE 1) _ _ (.str la) from ab rfl) _ (ao _ q);have ix:∀{te:TE} {z:Str},Ev te [oT so,oT la] H (.str z)->z∈ordL->Ev (Dh K (tC (.ref aO)) te) [some (.str so),some (.str la)] H (.int (ordL.idxOf z:Nat)):=λ he hz Q q=>⟨ordL,hO,he _ ⟨_,rfl,hz,q⟩⟩;refine bq (fu (b:=false) (bF (fc (z:=so) (z':="board") (ab rfl) ao)) (λ _=>bF e1)) (λ h=>?_) (λ h=>?_)
   ·rw [Ny] at h;refine aU (ca (a:=decide (so="board")) (b:=false) (fc (ab rfl) ao) (λ _=>e1)) ?_;have q:Q (.bl (!decide (so="board")&&(!decide (la="stuck")&&decide (ordL.idxOf la<=ordL.idxOf so)))) H:=q;rw [h] at q ⊢;exact q
   ·rw [Ny] at h;refine aU (ca (nn (ab rfl) ao) (λ _=>Jt (ix (ab rfl) hla) (ix (ab rfl) hso))) ?_;have q:Q (.bl (!decide (so="board")&&(!decide (la="stuck")&&decide (ordL.idxOf la<=ordL.idxOf so)))) H:=q;rw [h] at q;rw [show decide ((ordL.idxOf la:Int)<=(ordL.idxOf so:Int))=decide (ordL.idxOf la<=ordL.idxOf so) by rw [decide_eq_decide];omega];exact q
theorem kL {f:Addr}{fd:FuncData}{fs:xz}(F:bX K "sorted_out" "sorted_out" dc f fd) (T:Txt mg aS aA aE aW aO aF) (hF:Dl P w K aF (fkv fs)) (hF2:∀z∈fs,∀H,cg K H z.2 (z.1.2.map V.str)) (hF3:fs.map (·.1)=gT) (hO:eG K aO ordL) (C:CSo P w K mg base):bj P w K mg base eI 4 f fd ["lines"] nX:=by
 refine F.ok bw (λ vs H Q E h=>?_) (λ cdv A outer s H vs Q E hr h=>?_)
 ·obtain ⟨d,ls,gs,rfl,_⟩:=h;rfl
 ·obtain ⟨d,ls,gs,rfl,hd,hlen,hgl,hln,hch,hlast,k⟩:=h;have hu:=cq hr;refine ⟨_,(aa (av (i:=1) bw.nd rfl (Or.inl rfl) vX)
   (aa (gL PassesOwn.never rfl (kpt K (kg T.ORDER)) (dO (i:=2) bw.nd rfl (Or.inl rfl)) (aj (Jc hu (cv 1) (cv 2) (bu pa_nil))))
   (aa (av (i:=3) bw.nd rfl (Or.inl rfl) dC)
   (aa (gL PassesOwn.never rfl (Jb K T.enumerate (cv 0)) (kgt K (n:=2) (iM (dO (i:=4) bw.nd rfl (Or.inl rfl)) (iM (dO (i:=5) bw.nd rfl (Or.inl rfl)) r6))) (aa (av (i:=6) bw.nd rfl (Or.inl rfl) (aD C.parts_of hr (au (cv 5) pa_nil)))
   (aa (bf (bz K hu (cv 6) dC) (aj cR) aC)
   (aa (av (i:=2) bw.nd rfl (Or.inl rfl) (cx K (El hF (kg T.FORMS) (cx K (cv 6) af)) af))
   (aa (bf (bm (bh (aD C.may_follow hr (au (cv 2) (au (cv 3) pa_nil))))) (aj cR) aC)
   (aa (cy (gX (jz hu (cv 1) (cv 2)) (cv 6)))
   (aj (av (i:=3) bw.nd rfl (Or.inl rfl) (cv 2)))))))))
   (aa (bf (bz K hu (cv 3) aH) (aj cR) aC)
   (aj (az (cv 1)))))))),?_⟩
  show bg _ _ _ [oR d,none,none,none,none,none,none] H;refine aZ (λ v H'=> ∃q,v=.ref q/\H q=none/\H'=upd H q (.dK [])) (λ Q z p hp=>z _ _ ⟨p,rfl,hp,rfl⟩) ?_;rintro _ _ ⟨q,rfl,hq,rfl⟩;have hT:∀H',cg K H' aO (ordL.map V.str):=λ H'=>by obtain ⟨its,n,sl,h1,h2⟩:=hO;refine .inr ⟨_,its.toArray,n,h1,rfl,rfl,?_,h2⟩;have:=h2.length;rw [Lv] at this;rw [LB,<-this];decide
  refine c9 (λ σ' H'=>(∃o2,σ'=[oR d,oR q,o2,none,none,none,none])/\∃as,uT H' q as []/\(∀l∈as,H l=none)/\ag H H') (λ K' hK=>?_) ?_
  ·refine wK (K:=K) (λ v H'=>v=.ref aO/\H'=upd H q (.dK [])) (λ Q z=>ao _ (z _ _ ⟨rfl,rfl⟩)) ?_;rintro _ _ ⟨rfl,rfl⟩;refine ⟨aO,ordL.map V.str,rfl,hT _,λ i σ' H'=>(∃o2,σ'=[oR d,oR q,o2,none,none,none,none])/\∃as:List Addr,as.length=i/\as.Nodup/\q∉as/\H' q=some (.dK (wo ordL as))/\(∀l∈as,H' l=some (.lst [])/\H l=none)/\ag H H',?_,λ i σ' H' _ _=>hT H',?_,?_⟩
   ·exact ⟨⟨_,rfl⟩,[],rfl,MB,(λ h=>by cases h),ae,(λ l h=>by cases h),(ag.refl H).upd hq⟩
   ·rintro i x _ H1 hx ⟨⟨o2,rfl⟩,as,la,nd,qn,eq,al,s1⟩;rw [LD] at hx;obtain ⟨so,hso,rfl⟩:∃so,ordL[i]? =some so/\V.str so=x:=by
     cases e:ordL[i]? with
     | none=>rw [e] at hx;cases hx
     | some so=>rw [e] at hx;exact ⟨so,rfl,Option.some.inj hx⟩
    show rT _ _ _ _ [some (.ref d),some (.ref q),some (.str so),none,none,none,none] H1;refine ED (fV (bZ ⟨M9 _,λ a ha=>?_⟩));have qa:q≠a:=am eq ha;have vn:valV (wo ordL as) (.inr so)=none:=pc λ j hj e=>by rw [la] at hj;obtain ⟨a1,e1⟩:=LI.mp e;obtain ⟨a2,e2⟩:=LI.mp hso;have:=(Ms qx).mp (e1.trans e2.symm);omega
    have i7:i<7:=(LI.mp hso).1;have lk:(wo ordL as).length<=7:=by rw [MM];exact Nat.min_le_left _ _
    have ea:(upd H1 a (.lst [])) q=some (.dK (wo ordL as)):=by rw [ah qa];exact eq
    refine ab rfl _ (ab rfl _ ⟨q,_,rfl,uU.k (k:=.inr so) ea (by rw [sizeLine_eq];omega),⟨_,rfl⟩,as++[a],?_,?_,?_,?_,?_,?_⟩)
    ·rw [Lz,la];rfl
    ·rw [Mw];refine ⟨nd,by simp,λ u hu' v hv e=>?_⟩;rw [LF.mp hv] at e;have:=(al u hu').1;rw [e,ha] at this;cases this
    ·intro h
     rcases LK.mp h with h | h
     ·exact qn h
     ·exact qa (LF.mp h)
    ·rw [ae,vQ _ vn,pb (by rw [la];exact hso)]
    ·intro l hl
     rcases LK.mp hl with h | h
     ·have h2:=(al l h).1;rw [ah (nm qn h).symm,ah (am h2 ha)];exact ⟨h2,(al l h).2⟩
     ·rw [LF.mp h,ah qa.symm,ae];exact ⟨rfl,s1.free ha⟩
    ·exact (s1.upd ha).put hq
   ·rintro σ' H' ⟨ho,as,la,nd,qn,eq,al,s1⟩;refine hK _ _ ⟨ho,as,⟨eq,by rw [la];rfl,nd,qn,λ j l h=>⟨[],(al l (LM h)).1,rfl,(λ z hz=>by cases hz)⟩⟩,λ l h=>(al l h).2,s1⟩
  rintro _ H1 ⟨⟨o2,rfl⟩,as,F1,frl,s1⟩;refine bS ao ?_;refine c9 (λ σ' H'=>(∃o2 o4 o5 o6,σ'=[oR d,oR q,o2,some (gE gs),o4,o5,o6])/\uT H' q as gs/\ag H H') (λ K' hK=>?_) ?_
  ·refine yO (K:=K) (d:=d) (xs:=ls.map V.str) (λ H'=>H'=H1) (λ Q z=>ab rfl _ (z _ rfl)) (λ H' e=>by rw [e];exact aI.of (s1 _ _ hd)) (λ i σ' H'=>(∃o2 o4 o5 o6,σ'=[oR d,oR q,o2,some (gE (gs.take i)),o4,o5,o6])/\uT H' q as (gs.take i)/\ag H H') (λ H' e=>?_) (λ i σ' H' p=>aI.of (p.2.2 _ _ hd)) ?_ ?_
   ·rw [e];exact ⟨⟨_,_,_,_,rfl⟩,F1,s1⟩
   ·rintro i x _ H2 t hx ⟨⟨o2,o4,o5,o6,rfl⟩,F2,s2⟩ ht;rw [LD] at hx;obtain ⟨line,hline,rfl⟩:∃line,ls[i]? =some line/\V.str line=x:=by
     cases e:ls[i]? with
     | none=>rw [e] at hx;cases hx
     | some so=>rw [e] at hx;exact ⟨so,rfl,Option.some.inj hx⟩
    have il:i<gs.length:=by rw [<-hlen];exact (LI.mp hline).1
    obtain ⟨g,hg⟩:∃g,gs[i]? =some g:=⟨_,Ly il⟩;have L:=hln i line g hline hg;obtain ⟨so,w0,rest,fr,hso,eps,hfm⟩:=L.so;refine Jk ae ?_;have st:=(ag.refl H2).upd (o:=.tup [.int (i:Int),.str line]) ht;generalize upd H2 t (.tup [.int (i:Int),.str line])=H3 at st ⊢;have F3:=F2.same st;have s3:=s2.trans st;show bg _ _ _ [oR d,oR q,o2,some (gE (gs.take i)),oJ (i:Int),oT line,o6] H3;refine aZ (λ v H'=> ∃p,v=.ref p/\H3 p=none/\H' p=some (.lst g.2)/\ag H3 H') (λ Q z=>cb (ac (ab rfl) ar) ⟨line,rfl,L.len,(λ e=>by rw [L.ps] at e;cases e),λ ps e p H' n a s=>?_⟩) ?_
    ·rw [L.ps] at e;obtain rfl:=Option.some.inj e;exact z _ _ ⟨p,rfl,n,a,s⟩
    rintro _ H4 ⟨p,rfl,np,ep,s4⟩;have F4:=F3.same s4;have s04:=s3.trans s4;show bg _ _ _ [oR d,oR q,o2,some (gE (gs.take i)),oJ (i:Int),oT line,oR p] H4;refine bq (b:=false) (bF (wS (ab rfl) ao)) (λ h=>nomatch h) (λ _=>?_);obtain ⟨z,hz,hzf⟩:∃z∈fs,valV (fkv fs) (.inr w0)=some (.ref z.2)/\z.1.2=so::fr:=by
     rw [sI hF3] at hfm;cases e:fs.find? λ z=>decide (z.1.1=w0) with
     | none=>rw [e] at hfm;cases hfm
     | some z=>
       rw [e] at hfm;exact ⟨z,M3 e,by rw [qR,e];rfl,Option.some.inj hfm⟩
    rw [eps] at ep;refine bS (i:=2) (v:=.str so) (ba (p:=z.2) (xs:=(so::fr).map V.str) (λ Q k=>(show Ev (kE K (bE 6) (tC (.int 0))) _ H4 (.str w0) from ba (ab rfl) ao (.inl (aI.of ep)) (bo (j:=0) rfl)) _ ⟨.inr w0,_,rfl,hzf.1,k⟩) ao (.inr (by rw [<-hzf.2];exact hF2 z hz H4)) (bo (j:=0) rfl)) ?_;show bg _ _ _ [oR d,oR q,oT so,some (gE (gs.take i)),oJ (i:Int),oT line,oR p] H4;refine eC (λ b H'=>b=false/\H'=H4) (λ Q z=>gu (ac (ab rfl) (ac (ab rfl) ar)) ⟨so,_,rfl,LM hso,wg _,?_⟩) (λ H' h=>by cases h.1) (λ H' h=>?_)
    ·rw [hch i g so hg hso];exact z _ _ ⟨rfl,rfl⟩
    obtain ⟨_,rfl⟩:=h;have j7:g.1<as.length:=by rw [F4.len];exact (LI.mp hso).1
    obtain ⟨l,hl⟩:∃l,as[g.1]? =some l:=⟨_,Ly j7⟩;obtain ⟨zs,el,ez,_⟩:=F4.grp g.1 l hl;have zl:zs.length<=gs.length:=by have e:=congrArg List.length ez;rw [Lv,Lv] at e;rw [e];exact M7 (MH _ _) (M5 _ _)
    refine qi (l:=l) (λ Q k=>ab rfl _ (ab rfl _ ⟨q,.ref l,rfl,by rw [<-na qx hso hl];exact rz.k (k:=.inr so) F4.dict,k⟩)) (ab rfl) el (by rw [Lv];rw [sizeLine_eq];omega) ?_;have pn:p∉as:=λ h=>by obtain ⟨j,hj⟩:=Me h;obtain ⟨zs',e',_⟩:=F3.grp j p hj;rw [np] at e';cases e'
    have pq:p≠q:=λ h=>by have:=F3.dict;rw [<-h,np] at this;cases this
    have lH:H l=none:=by
     cases e:H l with
     | none=>rfl
     | some o=>rw [frl l (LM hl)] at e;cases e
    have e1:gs.take (i+1)=gs.take i++[(g.1,g.2)]:=by rw [Mn,hg];rfl
    refine iA (ab rfl _ ⟨⟨some (.str so),some (.int (i:Int)),some (.str line),some (.ref p),?_⟩,?_,s04.put lH⟩)
    ·rw [e1,iy hso];rfl
    ·rw [e1];exact F4.add hl el (by rw [ep,eps]) pn pq
   ·rintro σ' H' ⟨⟨o2,o4,o5,o6,rfl⟩,F2,s2⟩;rw [Lv,hlen,Mv] at F2 ⊢;exact hK _ _ ⟨⟨_,_,_,_,rfl⟩,F2,s2⟩
  rintro _ H2 ⟨⟨o2,o4,o5,o6,rfl⟩,F2,s2⟩;rw [hlast];refine bq (b:=false) (bF (b:=false) ?_) (λ h=>nomatch h) (λ _=>aU (ab rfl) (k q as H2 F2 hq s2));have z:=nn (K:=K) (z:="stuck") (z':="stuck") (ta:=bE 3) (tb:=tC (.str "stuck")) (σ:=[oR d,oR q,o2,oT ("stuck"),o4,o5,o6]) (H:=H2) (ab rfl) ao;exact z
end
end K07
namespace K07
open PySem L2
abbrev WL:=Nat×List Str×List V
def boardL (wi hi:Int):WL:=(0,["board",nT wi,nT hi],[.str "board",.int wi,.int hi])
def bO (h:Int):WL:=(1,["hole",nT h],[.str "hole",.int h])
def dn (k:Nat):WL:=(2,["kind",one k],[.str "kind",cj k])
def c7 (u:aK):WL:=(3,[u.so,u.kd,u.ai,nT u.ax,nT u.up],[.str u.so,.str u.kd,.str u.ai,.int u.ax,.int u.up])
def dQ (z:Str×Str):WL:=(4,["turn",z.1,z.2],[.str "turn",.str z.1,.str z.2])
def gW (z:Str×Str):WL:=(5,[z.1,z.2],[.str z.1,.str z.2])
def stuckLn (st:Str):WL:=(6,["stuck",st],[.str "stuck",.str st])
def gWords (wi hi:Int) (hs:List Int) (ks:List Nat) (us:List aK) (ts es:List (Str×Str)) (st:Str):List WL:=
 boardL wi hi::(hs.map bO++(ks.map dn++(us.map c7++(ts.map dQ++(es.map gW++[stuckLn st])))))
def lnT (z:WL):Str:=Str.join " " z.2.1
abbrev nj (wi hi:Int) (hs:List Int) (ks:List Nat) (us:List aK) (ts es:List (Str×Str)) (st:Str):List Str:=(gWords wi hi hs ks us ts es st).map lnT
abbrev uv (wi hi:Int) (hs:List Int) (ks:List Nat) (us:List aK) (ts es:List (Str×Str)) (st:Str):List (Nat×List V):=(gWords wi hi hs ks us ts es st).map λ z=>(z.1,z.2.2)
structure uW (wi hi:Int) (hs:List Int) (ks:List Nat) (us:List aK) (ts es:List (Str×Str)) (st:Str):Prop where
 w1:1<=wi
 w8:wi<=8
 h1:1<=hi
 h8:hi<=8
 hh:∀h∈hs,0<=h/\h<wi*hi
 hl:hs.length<=64
 kl:ks.length<=6
 ltr:∀k∈ks,uS k
 rl:us.length<=24
 rg:∀u∈us,fG ks u
 tl:ts.length<=6
 tg:∀z∈ts,(∃a∈ks,z.1=one a)/\∃b∈ks,z.2=one b
 el:es.length<=6
 eg:∀z∈es,z.1∈d0/\∃b∈ks,z.2=one b
 sg:st∈bN
theorem ka {c:Nat}(h:uS c):Nb (one c):=λ z=>by have z:32∈[c]:=z;have:=LF.mp z;unfold uS at h;omega
theorem yq {c:Nat}(h:uS c):letB (.str (one c))=true:=decide_eq_true h
theorem gO {n:Int}(h0: -3<=n) (h1:n<=63):partV "number" (nT n)=.int n:=(if_pos rfl).trans (qI h0 h1)
theorem gP {c:Nat}(h:uS c):partV "letter" (one c)=cj c:=by unfold partV;rw [if_neg (by decide),if_pos rfl,if_pos (yq h)];rfl
theorem vZ {x:Str}(h:x∈aimsL):partV "aim" x=.str x:=by unfold partV;rw [if_neg (by decide),if_neg (by decide),if_pos rfl,if_pos h]
theorem tW {x:Str}(h:x∈bN):partV "word" x=.str x:=by unfold partV;have e:(if ("word":Str)="aim" then aimsL else bN)=bN:=if_neg (by decide);rw [if_neg (by decide),if_neg (by decide),e,if_pos h]
theorem pi:∀(ws:List Str),(∀x∈ws,x.length<=9)->(Str.join " " ws).length<=10*ws.length
 | [],_=>M9 _
 | [x],h=>by have:=h x (LH ..);show x.length<=10;omega
 | x::y::r,h=>by
   have a:=h x (LH ..);have b:=pi (y::r) λ z hz=>h z (LJ _ hz);have e:(Str.join " " (x::y::r)).length=x.length+(" ":Str).length+(Str.join " " (y::r)).length:=by show (x++" "++Str.join " " (y::r)).length=_;rw [bG,cS,cS,Lz,Lz];rfl
   have c:(" ":Str).length=1:=by decide
   rw [e,c,LG];omega
theorem Dr {w0 so:Str}{wr fr:List Str}{ps:List V}{j:Nat}(hf:iz w0=some (so::fr)) (hso:ordL[j]? =some so) (hl:wr.length=fr.length) (hp:List.zipWith partV fr wr=ps) (hn:ps.any lK=false) (nb:∀x∈w0::wr,Nb x) (h9:∀x∈w0::wr,x.length<=9) (h5:wr.length<=4):k5 (Str.join " " (w0::wr)) (j,.str w0::ps):=by
 have e:dk (so::fr) (w0::wr)=.str w0::ps:=by unfold dk;show V.str w0::List.zipWith (λ a b=>partV (kF a) (kF b)) (fr.map V.str) (wr.map V.str)=_;rw [List.zipWith_map_left,List.zipWith_map_right];exact congrArg _ hp
 refine ⟨?_,?_,so,w0,ps,fr,hso,rfl,hf⟩
 ·have:=pi _ h9;rw [LG] at this;omega
 ·rw [nS (by simp) nb];unfold j4;rw [List.headD_cons,hf];show (if (w0::wr).length=(so::fr).length then _ else _)=_;rw [if_pos (by rw [LG,LG,hl]),e,L9,hn];rfl
theorem jI (c:Nat):(one c).length<=9:=by show 1<=9;decide
theorem pV {n:Int}(h0: -3<=n) (h1:n<=63):(nT n).length<=9:=M7 (Eb h0 h1) (by simp)
theorem nH {P:Str->Prop}{a b:Str}(ha:P a) (hb:P b):∀x∈[a,b],P x:=λ x hx=>by
 simp only [Lw,LO,or_false] at hx
 rcases hx with rfl | rfl
 ·exact ha
 ·exact hb
theorem xr {P:Str->Prop}{a b c:Str}(ha:P a) (hb:P b) (hc:P c):∀x∈[a,b,c],P x:=λ x hx=>by
 rcases Lw.mp hx with rfl | hx
 ·exact ha
 ·exact nH hb hc x hx
theorem v4 {wi hi:Int}(w1:1<=wi) (w8:wi<=8) (h1:1<=hi) (h8:hi<=8):k5 (lnT (boardL wi hi)) (0,(boardL wi hi).2.2):=
 Dr (so:="board") (fr:=["number","number"]) (by decide+kernel) rfl rfl (by show [partV "number" (nT wi),partV "number" (nT hi)]=_;rw [gO (by omega) (by omega),gO (by omega) (by omega)]) rfl (xr (by unfold Nb;decide+kernel) (oZ _) (oZ _)) (xr (by decide) (pV (by omega) (by omega)) (pV (by omega) (by omega))) (by simp)
theorem yi {h:Int}(h0:0<=h) (h1:h<=63):k5 (lnT (bO h)) (1,(bO h).2.2):=
 Dr (so:="hole") (fr:=["number"]) (by decide+kernel) rfl rfl (by show [partV "number" (nT h)]=_;rw [gO (by omega) (by omega)]) rfl (nH (by unfold Nb;decide+kernel) (oZ _)) (nH (by decide) (pV (by omega) (by omega))) (by simp)
theorem yh {k:Nat}(h:uS k):k5 (lnT (dn k)) (2,(dn k).2.2):=
 Dr (so:="kind") (fr:=["letter"]) (by decide+kernel) rfl rfl (by show [partV "letter" (one k)]=_;rw [gP h]) rfl (nH (by unfold Nb;decide+kernel) (ka h)) (nH (by decide) (jI k)) (by simp)
theorem yf {a b:Nat}(ha:uS a) (hb:uS b):k5 (lnT (dQ (one a,one b))) (4,(dQ (one a,one b)).2.2):=
 Dr (so:="turn") (fr:=["letter","letter"]) (by decide+kernel) rfl rfl (by show [partV "letter" (one a),partV "letter" (one b)]=_;rw [gP ha,gP hb];rfl) rfl (xr (by unfold Nb;decide+kernel) (ka ha) (ka hb)) (xr (by decide) (jI a) (jI b)) (by simp)
theorem Ea {x:Str}{b:Nat}(hx:x∈d0) (hb:uS b):k5 (lnT (gW (x,one b))) (5,(gW (x,one b)).2.2):=by
 have hf:∀y∈d0,iz y=some (["end","letter"]:List Str)/\32∉y.cps.toList/\y.length<=9:=by decide+kernel
 obtain ⟨f1,f2,f3⟩:=hf x hx;exact Dr (so:="end") (fr:=["letter"]) f1 rfl rfl (by show [partV "letter" (one b)]=_;rw [gP hb];rfl) rfl (nH f2 (ka hb)) (nH f3 (jI b)) (by simp)
theorem v3 {x:Str}(hx:x∈bN):k5 (lnT (stuckLn x)) (6,(stuckLn x).2.2):=by
 have hf:∀y∈bN,32∉y.cps.toList/\y.length<=9:=by decide+kernel
 obtain ⟨f2,f3⟩:=hf x hx;exact Dr (so:="stuck") (fr:=["word"]) (by decide+kernel) rfl rfl (by show [partV "word" x]=_;rw [tW hx]) rfl (nH (by unfold Nb;decide+kernel) f2) (nH (by decide) f3) (by simp)
theorem mn {ks:List Nat}{u:aK}(g:fG ks u):(-3<=u.ax/\u.ax<=3)/\-3<=u.up/\u.up<=3:=by have a:=g.ax;have b:=g.up;split at a<;>split at b<;>omega
theorem yg {ks:List Nat}{u:aK}(g:fG ks u) (hk:∀k∈ks,uS k):k5 (lnT (c7 u)) (3,(c7 u).2.2):=by
 have hf:∀y∈sortsL,iz y=some (["rule","letter","aim","number","number"]:List Str)/\32∉y.cps.toList/\y.length<=9:=by decide+kernel
 have ha:∀y∈aimsL,32∉y.cps.toList/\y.length<=9:=by decide+kernel
 obtain ⟨f1,f2,f3⟩:=hf u.so g.so;obtain ⟨a2,a3⟩:=ha u.ai g.ai;obtain ⟨c,hc,ec⟩:=g.kd;have lc:=hk c hc;have r:=mn g;have all5:∀{P:Str->Prop},P u.so->P (one c)->P u.ai->P (nT u.ax)->P (nT u.up)->∀x∈[u.so,one c,u.ai,nT u.ax,nT u.up],P x:=λ h1 h2 h3 h4 h5 x hx=>by
  rcases Lw.mp hx with rfl | hx
  ·exact h1
  rcases Lw.mp hx with rfl | hx
  ·exact h2
  ·exact xr h3 h4 h5 x hx
 unfold lnT c7;rw [ec];refine Dr (so:="rule") (fr:=["letter","aim","number","number"]) f1 rfl rfl ?_ rfl (all5 f2 (ka lc) a2 (oZ _) (oZ _)) (all5 f3 (jI c) a3 (pV (by omega) (by omega)) (pV (by omega) (by omega))) (by simp);show [partV "letter" (one c),partV "aim" u.ai,partV "number" (nT u.ax),partV "number" (nT u.up)]=_;rw [gP lc,vZ g.ai,gO (by omega) (by omega),gO (by omega) (by omega)];rfl
section
variable {wi hi:Int}{hs:List Int}{ks:List Nat}{us:List aK}{ts es:List (Str×Str)}{st:Str}
theorem uW.many (G:uW wi hi hs ks us ts es st):wi*hi<=64:=Nq G.w8 G.h8 (by have:=G.h1;omega) (by omega)
theorem Jm (G:uW wi hi hs ks us ts es st):∀z∈gWords wi hi hs ks us ts es st,k5 (lnT z) (z.1,z.2.2):=λ z hz=>by
 have m:=G.many;unfold gWords at hz
 rcases Lw.mp hz with rfl | hz
 ·exact v4 G.w1 G.w8 G.h1 G.h8
 rcases LK.mp hz with hz | hz
 ·obtain ⟨h,hh,rfl⟩:=Lx.mp hz;have:=G.hh h hh;exact yi (by omega) (by omega)
 rcases LK.mp hz with hz | hz
 ·obtain ⟨k,hk,rfl⟩:=Lx.mp hz;exact yh (G.ltr k hk)
 rcases LK.mp hz with hz | hz
 ·obtain ⟨u,hu,rfl⟩:=Lx.mp hz;exact yg (G.rg u hu) G.ltr
 rcases LK.mp hz with hz | hz
 ·obtain ⟨⟨x,y⟩,hx,rfl⟩:=Lx.mp hz;obtain ⟨⟨a,ha,e1⟩,b,hb,e2⟩:=G.tg _ hx;have e1:x=one a:=e1;have e2:y=one b:=e2;rw [e1,e2];exact yf (G.ltr a ha) (G.ltr b hb)
 rcases LK.mp hz with hz | hz
 ·obtain ⟨⟨x,y⟩,hx,rfl⟩:=Lx.mp hz;obtain ⟨h1,b,hb,e2⟩:=G.eg _ hx;have e2:y=one b:=e2;rw [e2];exact Ea h1 (G.ltr b hb)
 ·rw [LF.mp hz];exact v3 G.sg
end
theorem fT {α:Type}(l:List α):l.filter (λ _=>true)=l:=LZ.mpr λ _ _=>rfl
theorem fF {α:Type}(l:List α):l.filter (λ _=>false)=[]:=List.filter_eq_nil_iff.mpr λ _ _=>by decide
theorem Lm {wi hi:Int}{hs:List Int}{ks:List Nat}{us:List aK}{ts es:List (Str×Str)}{st:Str}:((uv wi hi hs ks us ts es st).filter λ g=>decide (g.1=0)).map (·.2)=[(boardL wi hi).2.2]:=by simp [gWords,boardL,bO,dn,c7,dQ,gW,stuckLn,L3,Mg,Function.comp_def,L4,fT,fF]
theorem Ll {wi hi:Int}{hs:List Int}{ks:List Nat}{us:List aK}{ts es:List (Str×Str)}{st:Str}:((uv wi hi hs ks us ts es st).filter λ g=>decide (g.1=1)).map (·.2)=hs.map λ h=>(bO h).2.2:=by simp [gWords,boardL,bO,dn,c7,dQ,gW,stuckLn,L3,Mg,Function.comp_def,L4,fT,fF]
theorem Lk {wi hi:Int}{hs:List Int}{ks:List Nat}{us:List aK}{ts es:List (Str×Str)}{st:Str}:((uv wi hi hs ks us ts es st).filter λ g=>decide (g.1=2)).map (·.2)=ks.map λ h=>(dn h).2.2:=by simp [gWords,boardL,bO,dn,c7,dQ,gW,stuckLn,L3,Mg,Function.comp_def,L4,fT,fF]
theorem Lj {wi hi:Int}{hs:List Int}{ks:List Nat}{us:List aK}{ts es:List (Str×Str)}{st:Str}:((uv wi hi hs ks us ts es st).filter λ g=>decide (g.1=3)).map (·.2)=us.map λ h=>(c7 h).2.2:=by simp [gWords,boardL,bO,dn,c7,dQ,gW,stuckLn,L3,Mg,Function.comp_def,L4,fT,fF]
theorem Li {wi hi:Int}{hs:List Int}{ks:List Nat}{us:List aK}{ts es:List (Str×Str)}{st:Str}:((uv wi hi hs ks us ts es st).filter λ g=>decide (g.1=4)).map (·.2)=ts.map λ h=>(dQ h).2.2:=by simp [gWords,boardL,bO,dn,c7,dQ,gW,stuckLn,L3,Mg,Function.comp_def,L4,fT,fF]
theorem Lh {wi hi:Int}{hs:List Int}{ks:List Nat}{us:List aK}{ts es:List (Str×Str)}{st:Str}:((uv wi hi hs ks us ts es st).filter λ g=>decide (g.1=5)).map (·.2)=es.map λ h=>(gW h).2.2:=by simp [gWords,boardL,bO,dn,c7,dQ,gW,stuckLn,L3,Mg,Function.comp_def,L4,fT,fF]
theorem Lg {wi hi:Int}{hs:List Int}{ks:List Nat}{us:List aK}{ts es:List (Str×Str)}{st:Str}:((uv wi hi hs ks us ts es st).filter λ g=>decide (g.1=6)).map (·.2)=[(stuckLn st).2.2]:=by simp [gWords,boardL,bO,dn,c7,dQ,gW,stuckLn,L3,Mg,Function.comp_def,L4,fT,fF]
abbrev y8 (a b:WL):Prop:=a.1<=b.1/\a.1≠6/\b.1≠0
theorem oI {c:Nat}(h6:c≠6) (h0:c≠0):∀(l:List WL),(∀z∈l,z.1=c)->l.Pairwise y8
 | [],_=>.nil
 | z::l,h=>.cons (λ y hy=>by
   have a:=h z (LH ..);have b:=h y (LJ _ hy);exact ⟨by omega,by omega,by omega⟩) (oI h6 h0 l λ y hy=>h y (LJ _ hy))
theorem j3 {c:Nat}{l m:List WL}(h6:c≠6) (h0:c≠0) (hl:∀z∈l,z.1=c) (hm:m.Pairwise y8) (hc:∀z∈m,c<=z.1):(l++m).Pairwise y8:=
 List.pairwise_append.mpr ⟨oI h6 h0 l hl,hm,λ a ha b hb=>by
  have x:=hl a ha;have y:=hc b hb;exact ⟨by omega,by omega,by omega⟩⟩
theorem ig {α:Type}{f:α->WL}{c:Nat}(h:∀x,(f x).1=c) (l:List α):∀z∈l.map f,z.1=c:=λ z hz=>by obtain ⟨x,_,rfl⟩:=Lx.mp hz;exact h x
theorem pO {l m:List WL}{c:Nat}(hl:∀z∈l,z.1=c) {d:Nat}(h:d<=c) (hm:∀z∈m,d<=z.1):∀z∈l++m,d<=z.1:=λ z hz=>by
 rcases LK.mp hz with h1 | h1
 ·rw [hl z h1];exact h
 ·exact hm z h1
section
variable {wi hi:Int}{hs:List Int}{ks:List Nat}{us:List aK}{ts es:List (Str×Str)}{st:Str}
theorem Jl:(gWords wi hi hs ks us ts es st).Pairwise y8:=by
 have c6:∀z∈[stuckLn st],6<=z.1:=λ z hz=>by rw [LF.mp hz];exact M6 6
 have c5:=pO (ig (f:=gW) (λ _=>rfl) es) (M6 5) λ z hz=>M7 (by decide) (c6 z hz);have c4:=pO (ig (f:=dQ) (λ _=>rfl) ts) (M6 4) λ z hz=>M7 (by decide) (c5 z hz);have c3:=pO (ig (f:=c7) (λ _=>rfl) us) (M6 3) λ z hz=>M7 (by decide) (c4 z hz);have c2:=pO (ig (f:=dn) (λ _=>rfl) ks) (M6 2) λ z hz=>M7 (by decide) (c3 z hz);have c1:=pO (ig (f:=bO) (λ _=>rfl) hs) (M6 1) λ z hz=>M7 (by decide) (c2 z hz);refine .cons (λ b hb=>?_) (j3 (c:=1) (by decide) (by decide) (ig (f:=bO) (λ _=>rfl) hs) (j3 (c:=2) (by decide) (by decide) (ig (f:=dn) (λ _=>rfl) ks) (j3 (c:=3) (by decide) (by decide) (ig (f:=c7) (λ _=>rfl) us) (j3 (c:=4) (by decide) (by decide) (ig (f:=dQ) (λ _=>rfl) ts) (j3 (c:=5) (by decide) (by decide) (ig (f:=gW) (λ _=>rfl) es) (List.pairwise_singleton _ _) ?_) ?_) ?_) ?_) ?_)
 ·have h1:=c1 b hb;have h2:(boardL wi hi).1=0:=rfl;exact ⟨by omega,by omega,by omega⟩
 ·exact λ z hz=>M7 (by decide) (c6 z hz)
 ·exact λ z hz=>M7 (by decide) (c5 z hz)
 ·exact λ z hz=>M7 (by decide) (c4 z hz)
 ·exact λ z hz=>M7 (by decide) (c3 z hz)
 ·exact λ z hz=>M7 (by decide) (c2 z hz)
theorem su:∀i,i<7->∀so,ordL[i]? =some so->ordL.idxOf so=i:=by decide+kernel
theorem Ez:Dm (uv wi hi hs ks us ts es st):=by
 intro i g so hg hso;rw [LD] at hg;obtain ⟨z,hz,rfl⟩:∃z,(gWords wi hi hs ks us ts es st)[i]? =some z/\(z.1,z.2.2)=g:=by
  cases e:(gWords wi hi hs ks us ts es st)[i]? with
  | none=>rw [e] at hg;cases hg
  | some z=>rw [e] at hg;exact ⟨z,rfl,Option.some.inj hg⟩
 have hso:ordL[z.1]? =some so:=hso;have z7:z.1<7:=(LI.mp hso).1;have ix:=su z.1 z7 so hso;cases i with
 | zero=>
   obtain rfl:boardL wi hi=z:=Option.some.inj hz;obtain rfl:"board"=so:=Option.some.inj hso;rfl
 | succ i=>
   obtain ⟨hi1,ez⟩:=LI.mp hz;obtain ⟨y,hy⟩:∃y,(gWords wi hi hs ks us ts es st)[i]? =some y:=⟨_,Ly (by omega)⟩;obtain ⟨hi0,ey⟩:=LI.mp hy;have pw:=MO.mp (Jl (wi:=wi) (hi:=hi) (hs:=hs) (ks:=ks) (us:=us) (ts:=ts) (es:=es) (st:=st)) i (i+1) hi0 hi1 (by omega);rw [ez,ey] at pw;obtain ⟨p1,p2,p3⟩:=pw;have y7:y.1<7:=by omega
   obtain ⟨la,hla⟩:∃la,ordL[y.1]? =some la:=⟨_,Ly y7⟩;have ix2:=su y.1 y7 la hla;have e1:(uv wi hi hs ks us ts es st).take (i+1)=(uv wi hi hs ks us ts es st).take i++[(y.1,y.2.2)]:=by rw [Mn,LD,hy];rfl
   rw [e1,iy hla];show (!decide (so="board")&&(!decide (la="stuck")&&decide (ordL.idxOf la<=ordL.idxOf so)))=true;rw [ix,ix2,decide_eq_true p1,decide_eq_false (λ e=>by rw [e] at ix;exact p3 (ix.symm.trans (by decide+kernel))),decide_eq_false (λ e=>by rw [e] at ix2;exact p2 (ix2.symm.trans (by decide+kernel)))];rfl
theorem yL:gE (uv wi hi hs ks us ts es st)=.str "stuck":=by
 have e:uv wi hi hs ks us ts es st=((boardL wi hi::(hs.map bO++(ks.map dn++(us.map c7++(ts.map dQ++es.map gW))))).map λ z=>(z.1,z.2.2))++[(6,(stuckLn st).2.2)]:=by show (gWords wi hi hs ks us ts es st).map _=_;simp [gWords,stuckLn]
 rw [e];exact iy rfl
theorem wJ (G:uW wi hi hs ks us ts es st):(gWords wi hi hs ks us ts es st).length<=120:=by have:=G.hl;have:=G.kl;have:=G.rl;have:=G.tl;have:=G.el;unfold gWords;simp only [LG,Lz,Lv,LV];omega
end
end K07
namespace K07
open PySem L2
theorem sS {K:Frag}{tl:TE}{σ:St}{H:Hp}{Q:VK}{l:Addr}{zs:List (Addr×List V)}{i:Nat}(hl:Ev tl σ H (.ref l)) (e:H l=some (.lst (zs.map λ z=>V.ref z.1))) (hz:∀z∈zs,H z.1=some (.lst z.2)) (hi:∀z∈zs,i<z.2.length) (hn:zs.length<=1000)
  (q:∀d,H d=none->Q (.ref d) (upd H d (.lst (zs.map λ z=>z.2.getD i .non)))):tComp (fW K tl) (gName 0) da (kE K (bE 0) (tC (.int (i:Int)))) [none] σ H Q:=by
 refine fB (d:=l) (xs:=zs.map λ z=>V.ref z.1) (rest:=[]) hl (aI.of e) (by rw [Lv,sizeLine_eq];omega) rfl (λ _=>true) (λ v=>(match lstOf H v with | some xs=>xs.getD i .non | none=>.non)) (λ x hx=>eN) (λ x hx _=>?_) (λ d hd=>?_)
 ·obtain ⟨z,hm,rfl⟩:=Lx.mp hx;refine ba (ab rfl) ao (.inl (aI.of (hz z hm))) (bo ?_);show _=some (match lstOf H (.ref z.1) with | some xs=>xs.getD i .non | none=>.non)
  rw [kc (hz z hm)];show _=some (z.2.getD i .non);rw [LQ,Ly (hi z hm)];rfl
 ·have e2:(((zs.map λ z=>V.ref z.1).filter λ _=>true).map λ v=>(match lstOf H v with | some xs=>xs.getD i .non | none=>V.non))=zs.map λ z=>z.2.getD i .non:=by
   rw [LZ.mpr λ _ _=>rfl,LC];refine Md λ z hm=>?_;show (match lstOf H (.ref z.1) with | some xs=>xs.getD i .non | none=>V.non)=_
   rw [kc (hz z hm)]
  rw [e2];exact q d hd
theorem pD {K:Frag}{tl te:TE}{σ:St}{H:Hp}{Q:VK}{l:Addr}{zs:List (Addr×List V)}{F:List V->List V}(hl:Ev tl σ H (.ref l)) (e:H l=some (.lst (zs.map λ z=>V.ref z.1))) (hn:zs.length<=1000)
  (he:∀z∈zs,∀H',ag H H'->∀Q:VK,(∀p,H' p=none->Q (.ref p) (upd H' p (.tup (F z.2))))->te [oR z.1] H' Q)
  (q:∀d H' (ps:List Addr),ps.length=zs.length->(∀(i:Nat) (z:Addr×List V) (p:Addr),zs[i]? =some z->ps[i]? =some p->H' p=some (.tup (F z.2)))->ag H H'->H' d=none->Q (.ref d) (upd H' d (.lst (ps.map V.ref)))):tComp (fW K tl) (gName 0) da te [none] σ H Q:=by
 refine sT (hl _ ⟨l,rfl,⟨_,aI.of e⟩,?_⟩);refine iT zs.length (λ i ys σ' H'=>ag H H'/\(∃v,σ'=[v])/\∃ps:List Addr,ys=ps.map V.ref/\ps.length=i/\∀(j:Nat) (z:Addr×List V) (p:Addr),zs[j]? =some z->ps[j]? =some p->H' p=some (.tup (F z.2))) (by rw [sizeLine_eq];omega) ?_ ?_ ?_ ?_ ?_ ?_
 ·rintro i ys σ' H' ⟨_,_,ps,rfl,hl,_⟩;rw [Lv];omega
 ·rintro i ys σ' H' ⟨s,_⟩ hi;exact ⟨_,_,aI.of (s _ _ e),Ly (by rw [Lv];exact hi)⟩
 ·rintro ys σ' H' ⟨s,_⟩;exact ⟨_,aI.of (s _ _ e),by rw [Lv];exact M6 _⟩
 ·exact ⟨ag.refl H,⟨_,rfl⟩,[],rfl,rfl,λ j z p _ h=>by simp at h⟩
 ·rintro i ys _ H' x H2 hi ⟨s,⟨v0,rfl⟩,ps,rfl,hl,hq⟩ ⟨rfl,hy⟩ Kt Kf ht hf;have ey:=hy _ (aI.of (s _ _ e));rw [LD,Ly hi] at ey;obtain rfl:V.ref zs[i].1=x:=Option.some.inj ey;simp only [gName,da,Mm,if_true];refine he zs[i] (Mi hi) H2 s _ λ p hp=>?_;have sl:=(ag.refl H2).upd (o:=.tup (F zs[i].2)) hp;refine ht _ _ _ ⟨s.trans sl,⟨_,rfl⟩,ps++[p],by rw [LR];rfl,by rw [Lz];show _+1=_;omega,λ j z p' hz hj=>?_⟩
  by_cases c:j<ps.length
  ·rw [ME c] at hj;exact sl _ _ (hq j z p' hz hj)
  ·rw [MD (by omega)] at hj;have e0:j - ps.length=0:=by have:=(LI.mp hj).1;simp only [LG,LV] at this;omega
   rw [e0] at hj;obtain rfl:p=p':=Option.some.inj hj;have ej:j=i:=by omega
   subst ej;rw [Ly hi] at hz;obtain rfl:=Option.some.inj hz;exact ae
 ·rintro ys σ' H' d ⟨s,_,ps,rfl,hl,hq⟩ hd;exact q d H' ps hl hq s hd
theorem uT.get {K:Frag}{H:Hp}{q:Addr}{ls:List Addr}{gs:List (Nat×List V)}(F:uT H q ls gs) {j:Nat}{so:Str}(hj:ordL[j]? =some so):∃(l:Addr) (zs:List (Addr×List V)),(∀{td:TE}{σ:St}{H':Hp},ag H H'->Ev td σ H' (.ref q)->Ev (vi td (tC (.str so))) σ H' (.ref l))/\H l=some (.lst (zs.map λ z=>V.ref z.1))/\zs.map (·.2)=(gs.filter λ g=>decide (g.1=j)).map (·.2)/\∀z∈zs,H z.1=some (.lst z.2):=by
 have j7:j<ls.length:=by rw [F.len];exact (LI.mp hj).1
 obtain ⟨l,hl⟩:∃l,ls[j]? =some l:=⟨_,Ly j7⟩;obtain ⟨zs,a,b,c⟩:=F.grp j l hl;exact ⟨l,zs,λ s he Q k=>he _ (ao _ ⟨q,.ref l,rfl,by rw [<-na qx hj hl];exact rz.k (k:=.inr so) (s _ _ F.dict),k⟩),a,b,λ z hz=>(c z hz).1⟩
theorem wa {α:Type}{zs:List (Addr×List V)}{xs:List α}{f:α->List V}(h:zs.map (·.2)=xs.map f) (g:List V->V):(zs.map λ z=>g z.2)=xs.map λ x=>g (f x):=by have:=congrArg (List.map g) h;rw [LC,LC] at this;exact this
theorem rC {α:Type}{H:Hp}{zs:List (Addr×List V)}{xs:List α}{f:α->List V}{F:List V->List V}{ps:List Addr}(h:zs.map (·.2)=xs.map f) (hl:ps.length=zs.length) (hp:∀(i:Nat) (z:Addr×List V) (p:Addr),zs[i]? =some z->ps[i]? =some p->H p=some (.tup (F z.2))):(xs.zip ps).map (·.1)=xs/\(xs.zip ps).map (λ z=>V.ref z.2)=ps.map V.ref/\∀z∈xs.zip ps,H z.2=some (.tup (F (f z.1))):=by
 have l2:xs.length=ps.length:=by have:=congrArg List.length h;rw [Lv,Lv] at this;omega
 refine ⟨List.map_fst_zip (by omega),?_,λ z hz=>?_⟩
 ·have:(xs.zip ps).map (λ z=>V.ref z.2)=((xs.zip ps).map (·.2)).map V.ref:=by rw [LC];rfl
  rw [this,List.map_snd_zip (by omega)]
 ·obtain ⟨i,hi⟩:=Me hz;rw [MV] at hi;have hx:(zs.map (·.2))[i]? =some (f z.1):=by rw [h,LD,hi.1];rfl
  rw [LD] at hx;cases e:zs[i]? with
  | none=>rw [e] at hx;cases hx
  | some y=>
    rw [e] at hx;have:=hp i y z.2 e hi.2;rw [show y.2=f z.1 from Option.some.inj hx] at this;exact this
theorem eT {H H1 H':Hp}{x dx:Addr}{o1 o2:HO}(s:ag H H1) (nx:H1 x=none) (nd:H1 dx=none) (sb:SameBut x (upd (upd H1 dx o1) x o2) H'):ag H H':=λ b o e=>by have e1:=s b o e;have nbx:=am e1 nx;have nbd:=am e1 nd;exact sb b o (by rw [ah nbx,ah nbd];exact e1) nbx
theorem E1 {C:Addr}{sp:Sp}{t:TA}{σ:St}{H:Hp}{Q:VK}(h:t σ H λ vs H1=> ∀x dx,H1 x=none->H1 dx=none->dx≠x->sp (.ref x::vs) (upd (upd H1 dx (.own x)) x (.ins C dx [])) (λ v H2=>v=.non/\Q (.ref x) H2) E0):Di C sp t σ H Q:=h
def oh (K:Frag) (cB cG:Addr):Sp:=λ vs H Q _=> ∃(d:Addr) (wi hi:Int) (hs:List Int) (ks:List Nat) (us:List aK) (ts es:List (Str×Str)) (st:Str),vs=[.ref d]/\H d=some (.lst ((nj wi hi hs ks us ts es st).map V.str))/\uW wi hi hs ks us ts es st/\hs.Nodup/\(hs.length:Int)<wi*hi/\1<=ks.length/\ks.Nodup/\(ts.map (·.1)).Nodup/\(∀z∈ts,∀y∈ts,¬z.2=y.1)/\
 ∀(g b:Addr) (hs':List Int) (us':List (aK×Addr)) (ts' es':List ((Str×Str)×Addr)) (H':Hp),eM K cB H' b wi hi hs'->hs'.Perm hs->fo cG H' g b (ks.map cj) (dZ us') (bv ts') (bv es') st->us'.map (·.1)=us->fC H' us'->ts'.map (·.1)=ts->dJ H' ts'->es'.map (·.1)=es->dJ H' es'->ag H H'->Q (.ref g) H'
structure CGo (P:Program) (w:World) (K:Frag) (mg:Str->Option Value) (base:Heap) (cB cG:Addr):Prop where
 sorted_out:eA P w K mg base "sorted_out" ["lines"] 4 nX
 Board:kD P w K mg base "Board" cB ["self","wide","high","holes"] 4 (l9 K cB)
 Game:kD P w K mg base "Game" cG ["self","board","kinds","rules","turns","ends","stuck"] 6 (jP K cG)
section
variable {P:Program}{w:World}{K:Frag}{mg:Str->Option Value}{base:Heap}{aS aA aE aW aO aF:Addr}
theorem qG {f cB cG:Addr}{fd:FuncData}(F:bX K "game_of" "game_of" cu f fd) (T:Txt mg aS aA aE aW aO aF) (C:CGo P w K mg base cB cG):bj P w K mg base eI 8 f fd ["lines"] (oh K cB cG):=by
 refine F.ok cC (λ vs H Q E h=>?_) (λ cdv A outer s H vs Q E hr h=>?_)
 ·obtain ⟨d,wi,hi,hs,ks,us,ts,es,st,rfl,_⟩:=h;rfl
 ·obtain ⟨d,wi,hi,hs,ks,us,ts,es,st,rfl,hd,G,hnd,hlt,k1,knd,tnd,tap,k⟩:=h;have hu:=cq hr;refine ⟨_,(aa (av (i:=1) cC.nd rfl (Or.inl rfl) (aD C.sorted_out hr (au (cv 0) pa_nil)))
   (aa (av (i:=2) cC.nd rfl (Or.inl rfl) (cx K (jz hu (cv 1) aH) af))
   (aa (av (i:=3) cC.nd rfl (Or.inl rfl) (lF C.Board hr (au (cx K (cv 2) af) (au (cx K (cv 2) af) (au (cz (bp (N:=["parts"]) (src:=[none]) (ak cu) ["lines","found","size","board","kinds","rules","turns","ends"]) (jL K (jz hu (cv 1) aH)) (λ _ _ _=>(aL (i:=0) ["parts"])) (λ _ _ _=>aP) (λ _ _ _=>(cx K (cv 0) af))) pa_nil)))))
   (aa (jR (i:=4) rfl (bp (N:=["parts"]) (src:=[none]) (ak cu) ["lines","found","size","board","kinds","rules","turns","ends"]) (jL K (jz hu (cv 1) aH)) (λ _ _ _=>(aL (i:=0) ["parts"])) (λ _ _ _=>aP) (λ _ _ _=>(cx K (cv 0) af)) cC.nd rfl (Or.inl rfl) rfl (Or.inl rfl))
   (aa (jR (i:=5) rfl (bp (N:=["parts"]) (src:=[none]) (ak cu) ["lines","found","size","board","kinds","rules","turns","ends"]) (jL K (jz hu (cv 1) aH)) (λ _ _ _=>(aL (i:=0) ["parts"])) (λ _ _ _=>aP) (λ _ _ _=>(gk (au (cx K (cv 0) af) (au (cx K (cv 0) af) (au (cx K (cv 0) af) (au (cx K (cv 0) af) (au (cx K (cv 0) af) pa_nil))))))) cC.nd rfl (Or.inl rfl) rfl (Or.inl rfl))
   (aa (jR (i:=6) rfl (bp (N:=["parts"]) (src:=[none]) (ak cu) ["lines","found","size","board","kinds","rules","turns","ends"]) (jL K (jz hu (cv 1) aH)) (λ _ _ _=>(aL (i:=0) ["parts"])) (λ _ _ _=>aP) (λ _ _ _=>(gk (au (cx K (cv 0) af) (au (cx K (cv 0) af) pa_nil)))) cC.nd rfl (Or.inl rfl) rfl (Or.inl rfl))
   (aa (jR (i:=7) rfl (bp (N:=["parts"]) (src:=[none]) (ak cu) ["lines","found","size","board","kinds","rules","turns","ends"]) (jL K (jz hu (cv 1) aH)) (λ _ _ _=>(aL (i:=0) ["parts"])) (λ _ _ _=>aP) (λ _ _ _=>(gk (au (cx K (cv 0) af) (au (cx K (cv 0) af) pa_nil)))) cC.nd rfl (Or.inl rfl) rfl (Or.inl rfl))
   (aj (az (lF C.Game hr (au (cv 3) (au (cv 4) (au (cv 5) (au (cv 6) (au (cv 7) (au (cx K (cx K (jz hu (cv 1) aH) af) af) pa_nil)))))))))))))))),?_⟩
  show bg _ _ _ [oR d,none,none,none,none,none,none,none] H;have mm:=G.many;have gl:=wJ G;have hl:=G.hl;have kl:=G.kl;have rl:=G.rl;have tl:=G.tl;have el:=G.el;refine aZ (λ v H'=> ∃(q:Addr) (as:List Addr),v=.ref q/\uT H' q as (uv wi hi hs ks us ts es st)/\ag H H') (λ Q z=>cb (ac (ab rfl) ar) ⟨d,_,_,rfl,hd,by rw [Lv,Lv],by rw [Lv];omega,λ i x g hx hg=>?_,Ez,yL,λ q as H' F n s=>z _ _ ⟨q,as,rfl,F,s⟩⟩) ?_
  ·rw [LD] at hx hg;cases e:(gWords wi hi hs ks us ts es st)[i]? with
   | none=>rw [e] at hx;cases hx
   | some y=>
     rw [e] at hx hg;obtain rfl:=Option.some.inj hx;obtain rfl:=Option.some.inj hg;exact Jm G y (LM e)
  rintro _ H1 ⟨q,as,rfl,F1,s1⟩;obtain ⟨l0,z0,g0,e0,m0,a0⟩:=F1.get (K:=K) (j:=0) (so:="board") rfl;obtain ⟨l1,z1,g1,e1,m1,a1⟩:=F1.get (K:=K) (j:=1) (so:="hole") rfl;obtain ⟨l2,z2,g2,e2,m2,a2⟩:=F1.get (K:=K) (j:=2) (so:="kind") rfl;obtain ⟨l3,z3,g3,e3,m3,a3⟩:=F1.get (K:=K) (j:=3) (so:="rule") rfl;obtain ⟨l4,z4,g4,e4,m4,a4⟩:=F1.get (K:=K) (j:=4) (so:="turn") rfl;obtain ⟨l5,z5,g5,e5,m5,a5⟩:=F1.get (K:=K) (j:=5) (so:="end") rfl;obtain ⟨l6,z6,g6,e6,m6,a6⟩:=F1.get (K:=K) (j:=6) (so:="stuck") rfl;rw [Lm] at m0;rw [Ll] at m1;rw [Lk] at m2;rw [Lj] at m3;rw [Li] at m4;rw [Lh] at m5;rw [Lg] at m6;have lenOf:∀{α:Type} {zs:List (Addr×List V)} {xs:List α} {f:α->List V},zs.map (·.2)=xs.map f->zs.length=xs.length:=λ h=>by have:=congrArg List.length h;rw [Lv,Lv] at this;exact this
  obtain ⟨b0,rfl⟩:∃b0,z0=[(b0,(boardL wi hi).2.2)]:=by
   match z0,m0 with
   | [(b,p)],m0=>
     have m0:[p]=_:=m0;exact ⟨b,by injection m0 with m0;rw [m0]⟩
  obtain ⟨b6,rfl⟩:∃b6,z6=[(b6,(stuckLn st).2.2)]:=by
   match z6,m6 with
   | [(b,p)],m6=>
     have m6:[p]=_:=m6;exact ⟨b,by injection m6 with m6;rw [m6]⟩
  have eb0:=a0 _ (LF.mpr rfl);have eb6:=a6 _ (LF.mpr rfl);have lf:∀{α:Type} {zs:List (Addr×List V)} {xs:List α} {f:α->List V} {n:Nat},zs.map (·.2)=xs.map f->(∀x,(f x).length=n)->∀z∈zs,z.2.length=n:=λ {α zs xs f n} h hn z hz=>by have hm:z.2∈zs.map (·.2):=Lx.mpr ⟨z,hz,rfl⟩;rw [h] at hm;obtain ⟨x,_,e⟩:=Lx.mp hm;rw [<-e];exact hn x
  refine bS (i:=2) (v:=.ref b0) (ba (g0 (ag.refl H1) (ab rfl)) ao (.inl (aI.of e0)) rfl) ?_;show bg _ _ _ [oR d,oR q,oR b0,none,none,none,none,none] H1;refine aZ (λ v H'=> ∃(x:Addr) (hs':List Int),v=.ref x/\hs'.Perm hs/\eM K cB H' x wi hi hs'/\ag H1 H') (λ Q z=>?_) ?_
  ·refine E1 (ay (ba (x:=.int wi) (ab rfl) ao (.inl (aI.of eb0)) rfl) (ay (ba (x:=.int hi) (ab rfl) ao (.inl (aI.of eb0)) rfl) (bR (sS (i:=1) (g1 (ag.refl H1) (ab rfl)) e1 a1 (λ y hy=>by rw [lf (n:=2) m1 (λ _=>rfl) y hy];decide) (by rw [lenOf m1];omega) λ dl hdl=>bZ λ x dx nx ndx ne=>?_))));have ed:(upd H1 dl (.lst (z1.map λ z=>z.2.getD 1 .non))) dl=some (.lst (hs.map V.int)):=by rw [ae,wa m1 λ p=>p.getD 1 .non];rfl
   have sd:=(ag.refl H1).upd (o:=.lst (z1.map λ z=>z.2.getD 1 .non)) hdl;exact ⟨x,dl,dx,wi,hi,hs,rfl,ae,by rw [ah (am ed nx),ah (am ed ndx)];exact ed,G.w1,G.w8,G.h1,G.h8,G.hh,hnd,hlt,λ hs' H4 pm O sb=>⟨rfl,z _ _ ⟨x,hs',rfl,pm,O,eT sd nx ndx sb⟩⟩⟩
  rintro _ H2 ⟨b,hs',rfl,pm,O2,s2⟩;refine aZ (λ v H'=> ∃x,v=.ref x/\H' x=some (.lst (ks.map cj))/\ag H2 H') (λ Q z=>?_) ?_
  ·refine sS (i:=1) (g2 s2 (ab rfl)) (s2 _ _ e2) (λ y hy=>s2 _ _ (a2 y hy)) (λ y hy=>by rw [lf (n:=2) m2 (λ _=>rfl) y hy];decide) (by rw [lenOf m2];omega) λ dl hdl=>z _ _ ⟨dl,rfl,?_,(ag.refl H2).upd hdl⟩;rw [ae,wa m2 λ p=>p.getD 1 .non];rfl
  rintro _ H3 ⟨kd,rfl,ek,s3⟩;have s13:=s2.trans s3;refine aZ (λ v H'=> ∃(x:Addr) (us':List (aK×Addr)),v=.ref x/\H' x=some (.lst (dZ us'))/\us'.map (·.1)=us/\fC H' us'/\ag H3 H') (λ Q z=>?_) ?_
  ·refine pD (F:=λ p=>[p.getD 1 .non,p.getD 0 .non,p.getD 2 .non,p.getD 3 .non,p.getD 4 .non]) (g3 s13 (ab rfl)) (s13 _ _ e3) (by rw [lenOf m3];omega) (λ y hy H' s Q q=>?_) λ dl H' ps lp hp s hdl=>?_
   ·have l5:=lf (n:=5) m3 (λ _=>rfl) y hy;have ey:=(s13.trans s) _ _ (a3 y hy);have ix:∀i:Nat,i<5->Ev (kE K (bE 0) (tC (.int (i:Int)))) [some (.ref y.1)] H' (y.2.getD i .non):=λ i hi=>ba (ab rfl) ao (.inl (aI.of ey)) (bo (by rw [LQ,Ly (by omega)];rfl));exact xF (ay (ix 1 (by decide)) (ay (ix 0 (by decide)) (ay (ix 2 (by decide)) (ay (ix 3 (by decide)) (ay (ix 4 (by decide)) (bZ ⟨by show 5<=sizeLine;decide,q⟩))))))
   ·obtain ⟨c1,c2,c3⟩:=rC (F:=λ p=>[p.getD 1 .non,p.getD 0 .non,p.getD 2 .non,p.getD 3 .non,p.getD 4 .non]) m3 lp hp;have sd:=(ag.refl H').upd (o:=.lst (ps.map V.ref)) hdl;exact z _ _ ⟨dl,us.zip ps,rfl,by rw [ae];exact congrArg (λ l=>some (HO.lst l)) c2.symm,c1,λ y hy=>sd _ _ (c3 y hy),s.trans sd⟩
  rintro _ H4 ⟨rd,us',rfl,er,eu,ru,s4⟩;have s14:=s13.trans s4;have mk2:∀{i j:Nat} {l:Addr} {zs:List (Addr×List V)} {xs:List (Str×Str)} {f:Str×Str->List V} {n:Nat} {td:TE} {σ:St} {H0:Hp} {Q:VK},zs.map (·.2)=xs.map f->(∀x,(f x).length=n)->i<n->j<n->(∀x:Str×Str,[(f x).getD i .non,(f x).getD j .non]=[V.str x.1,V.str x.2])->Ev td σ H0 (.ref l)->H0 l=some (.lst (zs.map λ z=>V.ref z.1))->(∀z∈zs,H0 z.1=some (.lst z.2))->zs.length<=1000->(∀(x:Addr) (xs':List ((Str×Str)×Addr)) (H':Hp),H' x=some (.lst (bv xs'))->xs'.map (·.1)=xs->dJ H' xs'->ag H0 H'->Q (.ref x) H')->tComp (fW K td) (gName 0) da (tF (bi (kE K (bE 0) (tC (.int (i:Int)))) (bi (kE K (bE 0) (tC (.int (j:Int)))) cn))) [none] σ H0 Q:=λ {i j l zs xs f n td σ H0 Q} m hn hi hj hf hg e a ln z=>by
   refine pD (F:=λ p=>[p.getD i .non,p.getD j .non]) hg e ln (λ y hy H' s Q q=>?_) λ dl H' ps lp hp s hdl=>?_
   ·have l5:=lf (n:=n) m hn y hy;have ey:=s _ _ (a y hy);have ix:∀i:Nat,i<n->Ev (kE K (bE 0) (tC (.int (i:Int)))) [some (.ref y.1)] H' (y.2.getD i .non):=λ i hi=>ba (ab rfl) ao (.inl (aI.of ey)) (bo (by rw [LQ,Ly (by omega)];rfl));exact ve (ix i hi) (ix j hj) q
   ·obtain ⟨c1,c2,c3⟩:=rC (F:=λ p=>[p.getD i .non,p.getD j .non]) m lp hp;have sd:=(ag.refl H').upd (o:=.lst (ps.map V.ref)) hdl;refine z dl (xs.zip ps) _ (by rw [ae];exact congrArg (λ l=>some (HO.lst l)) c2.symm) c1 (λ y hy=>?_) (s.trans sd);have:=sd _ _ (c3 y hy);rw [hf y.1] at this;exact this
  refine aZ (λ v H'=> ∃(x:Addr) (ts':List ((Str×Str)×Addr)),v=.ref x/\H' x=some (.lst (bv ts'))/\ts'.map (·.1)=ts/\dJ H' ts'/\ag H4 H') (λ Q z=>mk2 (n:=3) m4 (λ _=>rfl) (by decide) (by decide) (λ _=>rfl) (g4 s14 (ab rfl)) (s14 _ _ e4) (λ y hy=>s14 _ _ (a4 y hy)) (by rw [lenOf m4];omega) λ x xs' H' c1 c2 c3 c4=>z _ _ ⟨x,xs',rfl,c1,c2,c3,c4⟩) ?_;rintro _ H5 ⟨td,ts',rfl,et,etm,rt,s5⟩;have s15:=s14.trans s5;refine aZ (λ v H'=> ∃(x:Addr) (es':List ((Str×Str)×Addr)),v=.ref x/\H' x=some (.lst (bv es'))/\es'.map (·.1)=es/\dJ H' es'/\ag H5 H') (λ Q z=>mk2 (n:=2) m5 (λ _=>rfl) (by decide) (by decide) (λ _=>rfl) (g5 s15 (ab rfl)) (s15 _ _ e5) (λ y hy=>s15 _ _ (a5 y hy)) (by rw [lenOf m5];omega) λ x xs' H' c1 c2 c3 c4=>z _ _ ⟨x,xs',rfl,c1,c2,c3,c4⟩) ?_;rintro _ H6 ⟨edd,es',rfl,ee,eem,re,s6⟩;have s16:=s15.trans s6;show dw _ _ [oR d,oR q,oR b0,oR b,oR kd,oR rd,oR td,oR edd] H6;refine iw (E1 (ay (ab rfl) (ay (ab rfl) (ay (ab rfl) (ay (ab rfl) (ay (ab rfl) (ay (ba (x:=.str st) (ba (x:=.ref b6) (g6 s16 (ab rfl)) ao (.inl (aI.of (s16 _ _ e6))) rfl) ao (.inl (aI.of (s16 _ _ eb6))) rfl) (bZ λ x dx nx ndx ne=>?_))))))));have s36:=(s4.trans s5).trans s6;have s7:ag H6 (upd (upd H6 dx (.own x)) x (.ins cG dx [])):=((ag.refl H6).upd ndx).upd (by rw [ah (Ne.symm ne)];exact nx);have ek7:=(s36.trans s7) _ _ ek;have er7:=((s5.trans s6).trans s7) _ _ er;have ru7:fC _ us':=ru.same ((s5.trans s6).trans s7);have et7:=(s6.trans s7) _ _ et;have rt7:dJ _ ts':=rt.same (s6.trans s7);have ee7:=s7 _ _ ee;have re7:dJ _ es':=re.same s7;have mem1:∀{z:aK×Addr},z∈us'->z.1∈us:=λ {z} hz=>by rw [<-eu];exact Lx.mpr ⟨z,hz,rfl⟩
  have mem2:∀{z:(Str×Str)×Addr},z∈ts'->z.1∈ts:=λ {z} hz=>by rw [<-etm];exact Lx.mpr ⟨z,hz,rfl⟩
  have mem3:∀{z:(Str×Str)×Addr},z∈es'->z.1∈es:=λ {z} hz=>by rw [<-eem];exact Lx.mpr ⟨z,hz,rfl⟩
  have lu:us'.length=us.length:=by rw [<-eu,Lv]
  have lt:ts'.length=ts.length:=by rw [<-etm,Lv]
  have le:es'.length=es.length:=by rw [<-eem,Lv]
  have KD:fE (upd (upd H6 dx (.own x)) x (.ins cG dx [])) kd ks:=⟨ek7,G.ltr,k1,kl,knd⟩;have o1:∀c:Nat,(one c).length<=1000:=λ c=>by show 1<=1000;decide
  have GT:pT ks ts':=⟨by omega,λ z hz=>G.tg _ (mem2 hz),by
   have:(ts'.map λ z=>z.1.1)=ts.map (·.1):=by rw [<-etm,LC];rfl
   rw [this];exact tnd,λ z hz y hy=>tap _ (mem2 hz) _ (mem2 hy)⟩
  refine ⟨x,b,kd,rd,td,edd,dx,ks.map one,_,_,_,st,rfl,ae,by rw [ek7,LC];rfl,er7,et7,ee7,wv KD,vy er7 ru7 (λ z hz=>G.rg _ (mem1 hz)),mJ et7 rt7 (λ z hz=>?_),mJ ee7 re7 (λ z hz=>?_),lG ek7 G.ltr knd k1 kl,ly er7 ru7 (λ z hz=>G.rg _ (mem1 hz)) (by omega),li et7 rt7 GT,jc ee7 re7 (λ z hz=>?_) (by omega),G.sg,(by decide:∀s∈bN,s.length<=1000) _ G.sg,λ H' gm sb=>⟨rfl,?_⟩⟩
  ·obtain ⟨⟨a,_,ea⟩,c,_,ec⟩:=G.tg _ (mem2 hz);rw [ea,ec];exact ⟨o1 a,o1 c⟩
  ·obtain ⟨ha,c,_,ec⟩:=G.eg _ (mem3 hz);rw [ec];exact ⟨(by decide:∀s∈d0,s.length<=1000) _ ha,o1 c⟩
  ·obtain ⟨ha,c,hc,ec⟩:=G.eg _ (mem3 hz);exact ⟨ha,by rw [ec];exact Lx.mpr ⟨c,hc,rfl⟩⟩
  ·have s8:=eT (ag.refl H6) nx ndx sb;refine k x b hs' us' ts' es' H' (O2.same ((s3.trans s36).trans s8)) pm ?_ eu (ru.same ((s5.trans s6).trans s8)) etm (rt.same (s6.trans s8)) eem (re.same s8) ((s1.trans s16).trans s8);have e:(ks.map one).map V.str=ks.map cj:=by rw [LC];rfl
   rw [e] at gm;exact gm
end
end K07
namespace K07
open PySem L2
theorem iS {α:Type}{K:Frag}{tl te:TE}{src:List (Option Nat)}{σ rest:St}{H:Hp}{Q:VK}{d:Addr}{as:List α}{V0:α->V}(hl:Ev tl σ H (.ref d)) (hx:aI K H d (as.map V0)) (hz:as.length<=1000) (hs:eJ src σ=none::rest) (gg:α->Str)
  (he:∀a∈as,∀H',ag H H'->∀Q:VK,(∀H2,ag H' H2->Q (.str (gg a)) H2)->te (some (V0 a)::rest) H' Q)
  (q:∀H' d',ag H H'->H' d'=none->Q (.ref d') (upd H' d' (.lst (as.map λ a=>V.str (gg a))))):tComp (fW K tl) (gName 0) da te src σ H Q:=by
 refine sT (hl _ ⟨d,rfl,⟨_,hx⟩,?_⟩);refine iT as.length (λ i ys σ' H'=>ag H H'/\(∃v,σ'=v::rest)/\ys=(as.take i).map λ a=>V.str (gg a)) (by rw [sizeLine_eq];omega) ?_ ?_ ?_ ?_ ?_ ?_
 ·rintro i ys σ' H' ⟨_,_,rfl⟩;rw [Lv,LW];omega
 ·rintro i ys σ' H' ⟨s,_⟩ hi;exact ⟨_,_,s.seq hx,Ly (by rw [Lv];exact hi)⟩
 ·rintro ys σ' H' ⟨s,_⟩;exact ⟨_,s.seq hx,by rw [Lv];exact M6 _⟩
 ·exact ⟨ag.refl H,⟨_,hs⟩,by simp⟩
 ·rintro i ys _ H' x H2 hi ⟨s,⟨v0,rfl⟩,rfl⟩ ⟨rfl,hy⟩ Kt Kf ht hf;have ey:=hy _ (s.seq hx);rw [LD,Ly hi] at ey;obtain rfl:V0 as[i]=x:=Option.some.inj ey;simp only [gName,da,Mm,if_true];refine he as[i] (Mi hi) H2 s _ λ H3 s3=>ht _ _ _ ⟨s.trans s3,⟨_,rfl⟩,?_⟩;rw [Mn,Ly hi,LR];rfl
 ·rintro ys σ' H' d' ⟨s,_,rfl⟩ hd;rw [Mc (M6 _)];exact q H' d' s hd
theorem qP (x:Str):("hole ":Str)++x=Str.join " " ["hole",x]:=by show _="hole"++" "++x;rw [show ("hole ":Str)="hole"++" " by decide+kernel]
theorem wu (x:Str):("kind ":Str)++x=Str.join " " ["kind",x]:=by show _="kind"++" "++x;rw [show ("kind ":Str)="kind"++" " by decide+kernel]
theorem rE (x:Str):("stuck ":Str)++x=Str.join " " ["stuck",x]:=by show _="stuck"++" "++x;rw [show ("stuck ":Str)="stuck"++" " by decide+kernel]
def rL (K:Frag):Sp:=λ vs H Q _=> ∃(p:Addr) (u:aK) (ks:List Nat),vs=[.ref p]/\H p=some (.tup u.vs)/\fG ks u/\∀H',ag H H'->Q (.str (lnT (c7 u))) H'
def lr (K:Frag) (cB cG:Addr):Sp:=λ vs H Q _=> ∃(g b:Addr) (wi hi:Int) (hs:List Int) (ks:List Nat) (us:List (aK×Addr)) (ts es:List ((Str×Str)×Addr)) (st:Str),vs=[.ref g]/\fo cG H g b (ks.map cj) (dZ us) (bv ts) (bv es) st/\eM K cB H b wi hi hs/\fC H us/\dJ H ts/\dJ H es/\uW wi hi hs ks (us.map (·.1)) (ts.map (·.1)) (es.map (·.1)) st/\
 ∀(q:Addr) (H':Hp),H q=none->H' q=some (.lst ((nj wi hi hs ks (us.map (·.1)) (ts.map (·.1)) (es.map (·.1)) st).map V.str))->ag H H'->Q (.ref q) H'
structure CNt (P:Program) (w:World) (K:Frag) (mg:Str->Option Value) (base:Heap):Prop where
 number_text:eA P w K mg base "number_text" ["number"] 2 vo
structure CWr (P:Program) (w:World) (K:Frag) (mg:Str->Option Value) (base:Heap):Prop extends CNt P w K mg base where
 rule_line:eA P w K mg base "rule_line" ["rule"] 3 (rL K)
section
variable {P:Program}{w:World}{K:Frag}{mg:Str->Option Value}{base:Heap}{aS aA aE aW aO aF:Addr}
theorem mM {f:Addr}{fd:FuncData}(F:bX K "rule_line" "rule_line" dR f fd) (T:Txt mg aS aA aE aW aO aF) (C:CNt P w K mg base):bj P w K mg base eI 3 f fd ["rule"] (rL K):=by
 refine F.ok md (λ vs H Q E h=>?_) (λ cdv A outer s H vs Q E hr h=>?_)
 ·obtain ⟨p,u,ks,rfl,_⟩:=h;rfl
 ·obtain ⟨p,u,ks,rfl,hp,g,q⟩:=h;have hu:=cq hr;refine ⟨_,(aj (az (Da PySem.F.slot_str_join PySem.F.type_str_join (si K) aH (au (bu (au (cx K (cv 0) af) (au (cx K (cv 0) af) (au (cx K (cv 0) af) (au (aD C.number_text hr (au (cx K (cv 0) af) pa_nil)) (au (aD C.number_text hr (au (cx K (cv 0) af) pa_nil)) pa_nil)))))) pa_nil)))),?_⟩;show dw _ _ [oR p] H;have r:=mn g;have ix:∀{H'} (s:ag H H') (i:Nat) (v:V),u.vs[i]? =some v->Ev (kE K (bE 0) (tC (.int (i:Int)))) [some (.ref p)] H' v:=λ s i v h=>ba (ab rfl) ao (.inr (cg.of (s _ _ hp))) (bo h);have z0:=ag.refl H;refine iw (lx ao (fV (ay (ix z0 1 (.str u.so) rfl) (ay (ix z0 0 (.str u.kd) rfl) (ay (ix z0 2 (.str u.ai) rfl) (bR (cb (ac (ix z0 3 (.int u.ax) rfl) ar) ⟨u.ax,rfl,?_,λ H1 s1=>bR (cb (ac (ix s1 4 (.int u.up) rfl) ar) ⟨u.up,rfl,?_,λ H2 s2=>bZ ⟨by show 5<=sizeLine;decide,λ d hd=>?_⟩⟩)⟩)))))))
  ·have:(10:Nat) ^ 60 > 100:=by decide
   omega
  ·have:(10:Nat) ^ 60 > 100:=by decide
   omega
  ·refine ⟨[u.so,u.kd,u.ai,nT u.ax,nT u.up],aI.of ae,?_,?_⟩
   ·obtain ⟨c,_,ec⟩:=g.kd;have a1:u.so.length<=9:=(by decide:∀y∈sortsL,y.length<=9) _ g.so;have a2:u.ai.length<=9:=(by decide:∀y∈aimsL,y.length<=9) _ g.ai;have a3:=pV (n:=u.ax) (by omega) (by omega);have a4:=pV (n:=u.up) (by omega) (by omega);have a5:u.kd.length<=9:=by rw [ec];exact jI c
    have a6:(" ":Str).length=1:=by decide
    simp only [LL,LX,Mp,Mq,LG,LV,a6];omega
   ·rw [nO];exact q _ ((s1.trans s2).upd hd)
theorem qz {f cB cG:Addr}{fd:FuncData}(F:bX K "written" "written" cr f fd) (T:Txt mg aS aA aE aW aO aF) (B:rB K cB) (D:xx K cG) (C:CWr P w K mg base):bj P w K mg base eI 4 f fd ["game"] (lr K cB cG):=by
 refine F.ok ip (λ vs H Q E h=>?_) (λ cdv A outer s H vs Q E hr h=>?_)
 ·obtain ⟨g,b,wi,hi,hs,ks,us,ts,es,st,rfl,_⟩:=h;rfl
 ·obtain ⟨g,b,wi,hi,hs,ks,us,ts,es,st,rfl,GM,O,RL,PT,PE',G,k⟩:=h;have hu:=cq hr;refine ⟨_,(aa (av (i:=1) ip.nd rfl (Or.inl rfl) (fj K (cv 0)))
   (aa (av (i:=2) ip.nd rfl (Or.inl rfl) (bu (au (Da PySem.F.slot_str_join PySem.F.type_str_join (si K) aH (au (bu (au aH (au (aD C.number_text hr (au (fj K (cv 1)) pa_nil)) (au (aD C.number_text hr (au (fj K (cv 1)) pa_nil)) pa_nil)))) pa_nil)) pa_nil)))
   (aa (cy (kr (cv 2) (cz (bp (N:=["hole"]) (src:=[none]) (ak cr) ["game","board","lines"]) (jL K (fj K (cv 1))) (λ _ _ _=>(aL (i:=0) ["hole"])) (λ _ _ _=>aP) (λ _ _ _=>(aq aH (aD C.number_text hr (au (cv 0) pa_nil)))))))
   (aa (cy (kr (cv 2) (cz (bp (N:=["kind"]) (src:=[none]) (ak cr) ["game","board","lines"]) (jL K (fj K (cv 0))) (λ _ _ _=>(aL (i:=0) ["kind"])) (λ _ _ _=>aP) (λ _ _ _=>(aq aH (cv 0))))))
   (aa (cy (kr (cv 2) (cz (bp (N:=["rule"]) (src:=[none]) (ak cr) ["game","board","lines"]) (jL K (fj K (cv 0))) (λ _ _ _=>(aL (i:=0) ["rule"])) (λ _ _ _=>aP) (λ _ _ _=>(aD C.rule_line hr (au (cv 0) pa_nil))))))
   (aa (cy (kr (cv 2) (cz (bp (N:=["turn"]) (src:=[none]) (ak cr) ["game","board","lines"]) (jL K (fj K (cv 0))) (λ _ _ _=>(aL (i:=0) ["turn"])) (λ _ _ _=>aP) (λ _ _ _=>(Da PySem.F.slot_str_join PySem.F.type_str_join (si K) aH (au (bu (au aH (au (cx K (cv 0) af) (au (cx K (cv 0) af) pa_nil)))) pa_nil))))))
   (aa (cy (kr (cv 2) (cz (bp (N:=["end"]) (src:=[none]) (ak cr) ["game","board","lines"]) (jL K (fj K (cv 0))) (λ _ _ _=>(aL (i:=0) ["end"])) (λ _ _ _=>aP) (λ _ _ _=>(Da PySem.F.slot_str_join PySem.F.type_str_join (Eg K) aH (au (cv 0) pa_nil))))))
   (aa (cy (gX (cv 2) (aq aH (fj K (cv 0)))))
   (aj (az (cv 2))))))))))),?_⟩
  show bg _ _ _ [oR g,none,none] H;have mm:=G.many;have hl:=G.hl;have kl:=G.kl;have rl:=G.rl;have tl:=G.tl;have el:=G.el;rw [Lv] at rl tl el;have big:(10:Nat) ^ 60 > 100:=by decide
  refine bS (i:=1) (v:=.ref b) (bP (ab rfl) (GM.board D)) ?_;refine aZ (λ v H'=> ∃q,v=.ref q/\H q=none/\H' q=some (.lst [.str (lnT (boardL wi hi))])/\ag H H') (λ Q z=>?_) ?_
  ·refine fV (bR (lx ao (fV (ay ao (bR (cb (ac (bP (ab rfl) (O.wide B)) ar) ⟨wi,rfl,by have:=G.w1;have:=G.w8;omega,λ H1 s1=>bR (cb (ac (bP (ab rfl) ((O.same s1).high B)) ar) ⟨hi,rfl,by have:=G.h1;have:=G.h8;omega,λ H2 s2=>bZ ⟨by show 3<=sizeLine;decide,λ d hd=>?_⟩⟩)⟩))))));have a3:=pV (n:=wi) (by have:=G.w1;omega) (by have:=G.w8;omega);have a4:=pV (n:=hi) (by have:=G.h1;omega) (by have:=G.h8;omega);refine ⟨["board",nT wi,nT hi],aI.of ae,?_,bZ ⟨by show 1<=sizeLine;decide,λ p hp=>?_⟩⟩
   ·have a5:("board":Str).length=5:=by decide
    have a6:(" ":Str).length=1:=by decide
    simp only [LL,LX,Mp,Mq,LG,LV,a5,a6];omega
   ·have sd:=(s1.trans s2).upd (o:=.lst ((["board",nT wi,nT hi]:List Str).map V.str)) hd;refine z _ _ ⟨p,rfl,sd.free hp,?_,sd.upd hp⟩;rw [ae,nO];rfl
  rintro _ H1 ⟨q,rfl,nq,eq,s1⟩;show bg _ _ _ [oR g,oR b,oR q] H1;have blk:∀{α:Type} {D:cM} {u:TS} {tl te:TE} {src:List (Option Nat)} {H1:Hp} {ys:List V} {dl:Addr} {as:List α} {V0:α->V} {gg:α->Str},eJ src [some (.ref g),some (.ref b),some (.ref q)]=none::[]->ag H H1->H1 q=some (.lst ys)->ys.length+as.length<=1000->as.length<=1000->Ev tl [some (.ref g),some (.ref b),some (.ref q)] H1 (.ref dl)->H1 dl=some (.lst (as.map V0))->(∀a∈as,∀H',ag H H'->∀Q:VK,(∀H2,ag H' H2->Q (.str (gg a)) H2)->te [some (V0 a)] H' Q)->(∀H',ag H H'->H' q=some (.lst (ys++as.map λ a=>V.str (gg a)))->u D [some (.ref g),some (.ref b),some (.ref q)] H')->bg (hZ (EI (bE 2) (tComp (fW K tl) (gName 0) da te src))) u D [some (.ref g),some (.ref b),some (.ref q)] H1:=by intro α D u tl te src H1 ys dl as V0 gg hsub s1 eq hn hn2 hev hdl he z;refine Jr (ab rfl) eq (iS (V0:=V0) hev (aI.of hdl) hn2 hsub gg (λ a ha H' s Q q=>he a ha H' (s1.trans s) Q q) λ H' d' s hd'=>?_);have sd:=(ag.refl H').upd (o:=.lst (as.map λ a=>V.str (gg a))) hd';refine ⟨d',ys,_,rfl,(s.trans sd) _ _ eq,ae,by rw [Lv,sizeLine_eq];omega,z _ ((s1.trans (s.trans sd)).put nq) ae⟩
  obtain ⟨hq,fh,eh⟩:=O.holes B;have fhq:∀{H'},ag H H'->H' hq=some (.lst (hs.map V.int)):=λ s=>s _ _ eh;refine blk (as:=hs) (V0:=V.int) (gg:=λ h=>lnT (bO h)) rfl s1 eq (by show 1+_<=1000;omega) (by omega) (bP (ab rfl) (fh.keepS s1)) (fhq s1) (λ h hh H' s Q z=>?_) λ H2 s2 eq2=>?_
  ·have hr':=G.hh h hh;refine jD (ao _ (cb (ac (ab rfl) ar) ⟨h,rfl,by omega,λ H2 s2=>?_⟩));have a3:=pV (n:=h) (by omega) (by omega);have a5:("hole ":Str).length=5:=by decide
   refine ⟨by rw [a5,sizeLine_eq];show 5+(nT h).length<=_;omega,?_⟩;rw [qP];exact z H2 s2
  obtain ⟨kq,fk,ek⟩:=(GM.same s2).kinds D;refine blk (as:=ks) (V0:=cj) (gg:=λ h=>lnT (dn h)) rfl s2 eq2 (by rw [Lz,Lv];show 1+_+_<=1000;omega) (by omega) (bP (ab rfl) fk) ek (λ h hh H' s Q z=>?_) λ H3 s3 eq3=>?_
  ·refine jD (ao _ ((show Ev (bE 0) _ H' (.str (one h)) from ab rfl) _ ?_));have a3:=jI h;have a5:("kind ":Str).length=5:=by decide
   refine ⟨by rw [a5,sizeLine_eq];omega,?_⟩;rw [wu];exact z H' (ag.refl _)
  obtain ⟨rq,fr,er⟩:=(GM.same s3).rules D;refine blk (as:=us) (V0:=λ u=>.ref u.2) (gg:=λ u=>lnT (c7 u.1)) rfl s3 eq3 (by rw [Lz,Lz,Lv,Lv];show 1+_+_+_<=1000;omega) (by omega) (bP (ab rfl) fr) er (λ u hu' H' s Q z=>?_) λ H4 s4 eq4=>?_
  ·exact cb (ac (ab rfl) ar) ⟨u.2,u.1,ks,rfl,s _ _ (RL u hu'),G.rg _ (Lx.mpr ⟨u,hu',rfl⟩),z⟩
  obtain ⟨tq,ft,et⟩:=(GM.same s4).turns D;refine blk (as:=ts) (V0:=λ u=>.ref u.2) (gg:=λ u=>lnT (dQ u.1)) rfl s4 eq4 (by rw [Lz,Lz,Lz,Lv,Lv,Lv];show 1+_+_+_+_<=1000;omega) (by omega) (bP (ab rfl) ft) et (λ u hu' H' s Q z=>?_) λ H5 s5 eq5=>?_
  ·have ep:=s _ _ (PT u hu');refine lx ao (fV (ay ao (ay (ba (x:=.str u.1.1) (ab rfl) ao (.inr (cg.of ep)) rfl) (ay (ba (x:=.str u.1.2) (ab rfl) ao (.inr (cg.of ep)) rfl) (bZ ⟨by show 3<=sizeLine;decide,λ d hd=>⟨["turn",u.1.1,u.1.2],aI.of ae,?_,?_⟩⟩)))))
   ·obtain ⟨⟨a,_,ea⟩,c,_,ec⟩:=G.tg _ (Lx.mpr ⟨u,hu',rfl⟩);have a3:=jI a;have a4:=jI c;have a5:("turn":Str).length=4:=by decide
    have a6:(" ":Str).length=1:=by decide
    rw [ea,ec];simp only [LL,LX,Mp,Mq,LG,LV,a5,a6];omega
   ·rw [nO];exact z _ ((ag.refl H').upd hd)
  obtain ⟨eqq,fe,ee⟩:=(GM.same s5).ends D;refine blk (as:=es) (V0:=λ u=>.ref u.2) (gg:=λ u=>lnT (gW u.1)) rfl s5 eq5 (by rw [Lz,Lz,Lz,Lz,Lv,Lv,Lv,Lv];show 1+_+_+_+_+_<=1000;omega) (by omega) (bP (ab rfl) fe) ee (λ u hu' H' s Q z=>?_) λ H6 s6 eq6=>?_
  ·have ep:=s _ _ (PE' u hu');refine lx ao ((show Ev (bE 0) _ H' (.ref u.2) from ab rfl) _ ⟨[u.1.1,u.1.2],cg.of ep,?_,?_⟩)
   ·obtain ⟨ha,c,_,ec⟩:=G.eg _ (Lx.mpr ⟨u,hu',rfl⟩);have a3:u.1.1.length<=9:=(by decide:∀y∈d0,y.length<=9) _ ha;have a4:=jI c;have a6:(" ":Str).length=1:=by decide
    rw [ec];simp only [LL,LX,Mp,Mq,LG,LV,a6];omega
   ·rw [nO];exact z H' (ag.refl _)
  have ls:=(by decide:∀y∈bN,y.length<=9) _ G.sg;have a5:("stuck ":Str).length=6:=by decide
  refine qi (ab rfl) (cK ao (bP (ab rfl) ((GM.same s6).stuck D)) (by rw [a5,sizeLine_eq];omega)) eq6 (by simp only [Lz,Lv,LG,LV];rw [sizeLine_eq];omega) ?_;refine aU (ab rfl) (k q _ nq ?_ (s6.put nq));rw [ae,rE];show some (HO.lst _)=some (HO.lst (((boardL wi hi::_).map lnT).map V.str));simp only [LL,LR,LC,Function.comp_def,LX,Mf,MP,MQ];rfl
end
end K07
namespace K07
open PySem L2
theorem yW (x y:Str):("board ":Str)++x++" "++y=Str.join " " ["board",x,y]:=by show _="board"++" "++(x++" "++y);rw [show ("board ":Str)="board"++" " by decide+kernel];apply str_ext;simp only [cS,Mf]
theorem Du (x y:Str):("turn ":Str)++x++" "++y=Str.join " " ["turn",x,y]:=by show _="turn"++" "++(x++" "++y);rw [show ("turn ":Str)="turn"++" " by decide+kernel];apply str_ext;simp only [cS,Mf]
theorem uW.perm {wi hi:Int}{hs hs':List Int}{ks:List Nat}{us:List aK}{ts es:List (Str×Str)}{st:Str}(G:uW wi hi hs ks us ts es st) (p:hs'.Perm hs):uW wi hi hs' ks us ts es st:=
 ⟨G.w1,G.w8,G.h1,G.h8,λ h hh=>G.hh h (p.mem_iff.mp hh),by rw [p.length_eq];exact G.hl,G.kl,G.ltr,G.rl,G.rg,G.tl,G.tg,G.el,G.eg,G.sg⟩
def n6:Sp:=λ vs H Q _=> ∃(d pl kd rd td ed:Addr) (wi hi:Int) (hs:List Int) (ks:List Nat) (us:List (aK×Addr)) (ts es:List ((Str×Str)×Addr)) (st:Str),vs=[.int wi,.int hi,.ref d,.ref pl,.str st]/\H d=some (.lst (hs.map V.int))/\jq H pl kd rd td ed ks us ts es/\uW wi hi hs ks (us.map (·.1)) (ts.map (·.1)) (es.map (·.1)) st/\(hs.length:Int)<wi*hi/\
 ∀(q:Addr) (hs':List Int) (H':Hp),hs'.Perm hs->hs'.Pairwise (·<=·)->H q=none->H' q=some (.lst ((nj wi hi hs' ks (us.map (·.1)) (ts.map (·.1)) (es.map (·.1)) st).map V.str))->ag H H'->Q (.ref q) H'
section
variable {P:Program}{w:World}{K:Frag}{mg:Str->Option Value}{base:Heap}{aS aA aE aW aO aF:Addr}
theorem kT {f:Addr}{fd:FuncData}(F:bX K "_law_lines" "_law_lines" bI f fd) (T:Txt mg aS aA aE aW aO aF):bj P w K mg base eI 1 f fd ["_law_wide","_law_high","_law_holes_here","_law_parts_here","_law_stuck"] n6:=by
 refine F.ok bT (λ vs H Q E h=>?_) (λ cdv A outer s H vs Q E hr h=>?_)
 ·obtain ⟨d,pl,kd,rd,td,ed,wi,hi,hs,ks,us,ts,es,st,rfl,_⟩:=h;rfl
 ·obtain ⟨d,pl,kd,rd,td,ed,wi,hi,hs,ks,us,ts,es,st,rfl,hd,PT,G,hlt,k⟩:=h;have hu:=cq hr;refine ⟨_,(aa (av (i:=5) bT.nd rfl (Or.inl rfl) (bu (au (aq (aq (aq aH (pe dH gv T.str (au (cv 0) pa_nil))) aH) (pe dH gv T.str (au (cv 1) pa_nil))) pa_nil)))
   (aa (av (i:=5) bT.nd rfl (Or.inl rfl) (aq (cv 5) (cz (bp (N:=["_law_square"]) (src:=[none]) (ak bI) ["_law_wide","_law_high","_law_holes_here","_law_parts_here","_law_stuck","_law_texts","_law_one"]) (jL K (kB (wp K) jn T.sorted (au (cv 2) pa_nil))) (λ _ _ _=>(aL (i:=0) ["_law_square"])) (λ _ _ _=>aP) (λ _ _ _=>(aq aH (pe dH gv T.str (au (cv 0) pa_nil)))))))
   (aa (av (i:=5) bT.nd rfl (Or.inl rfl) (aq (cv 5) (cz (bp (N:=["_law_kind"]) (src:=[none]) (ak bI) ["_law_wide","_law_high","_law_holes_here","_law_parts_here","_law_stuck","_law_texts","_law_one"]) (jL K (cx K (cv 3) af)) (λ _ _ _=>(aL (i:=0) ["_law_kind"])) (λ _ _ _=>aP) (λ _ _ _=>(aq aH (cv 0))))))
   (aa (gL PassesOwn.never rfl (jL K (cx K (cv 3) af)) (dO (i:=6) bT.nd rfl (Or.inl rfl)) (aj (cy (gX (cv 5) (Da PySem.F.slot_str_join PySem.F.type_str_join (si K) aH (au (bu (au (cx K (cv 6) af) (au (cx K (cv 6) af) (au (cx K (cv 6) af) (au (pe dH gv T.str (au (cx K (cv 6) af) pa_nil)) (au (pe dH gv T.str (au (cx K (cv 6) af) pa_nil)) pa_nil)))))) pa_nil))))))
   (aa (av (i:=5) bT.nd rfl (Or.inl rfl) (aq (cv 5) (cz (bp (N:=["_law_pair"]) (src:=[none]) (ak bI) ["_law_wide","_law_high","_law_holes_here","_law_parts_here","_law_stuck","_law_texts","_law_one"]) (jL K (cx K (cv 3) af)) (λ _ _ _=>(aL (i:=0) ["_law_pair"])) (λ _ _ _=>aP) (λ _ _ _=>(aq (aq (aq aH (cx K (cv 0) af)) aH) (cx K (cv 0) af))))))
   (aa (av (i:=5) bT.nd rfl (Or.inl rfl) (aq (cv 5) (cz (bp (N:=["_law_pair"]) (src:=[none]) (ak bI) ["_law_wide","_law_high","_law_holes_here","_law_parts_here","_law_stuck","_law_texts","_law_one"]) (jL K (cx K (cv 3) af)) (λ _ _ _=>(aL (i:=0) ["_law_pair"])) (λ _ _ _=>aP) (λ _ _ _=>(aq (aq (cx K (cv 0) af) aH) (cx K (cv 0) af))))))
   (aj (az (aq (cv 5) (bu (au (aq aH (cv 4)) pa_nil))))))))))),?_⟩
  show bg _ _ _ [oJ wi,oJ hi,oR d,oR pl,oT st,none,none] H;have mm:=G.many;have hl:=G.hl;have kl:=G.kl;have rl:=G.rl;have tl:=G.tl;have el:=G.el;rw [Lv] at rl tl el;have big:(10:Nat) ^ 60 > 100:=by decide
  have lg:∀{n:Int}, -3<=n->n<=63->n.natAbs.log2<1920:=λ h0 h1=>lD (by omega);have str_n:∀{te:TE} {σ:St} {H':Hp} {n:Int},Ev te σ H' (.int n)->-3<=n->n<=63->Ev (cB tH (bi te cn)) σ H' (.str (nT n)):=λ he h0 h1=>sK he (lg h0 h1);have L:∀{x y:Str} {a b:Nat},x.length<=a->y.length<=b->a+b<=1000->x.length+y.length<=sizeLine:=λ h1 h2 h3=>by rw [sizeLine_eq];omega
  have LA:∀(x y:Str),(x++y).length=x.length+y.length:=λ x y=>by rw [bG,cS,Lz];rfl
  refine aZ (λ v H'=> ∃q,v=.ref q/\H q=none/\H' q=some (.lst [.str (lnT (boardL wi hi))])/\ag H H') (λ Q z=>?_) ?_
  ·have w1:=G.w1;have w8:=G.w8;have h1:=G.h1;have h8:=G.h8;have a3:=pV (n:=wi) (by omega) (by omega);have a4:=pV (n:=hi) (by omega) (by omega);have a5:("board ":Str).length=6:=by decide
   have a6:(" ":Str).length=1:=by decide
   refine fV (ay (cK (cK (cK ao (str_n (ab rfl) (by omega) (by omega)) ?_) ao ?_) (str_n (ab rfl) (by omega) (by omega)) ?_) (bZ ⟨by show 1<=sizeLine;decide,λ p hp=>z _ _ ⟨p,rfl,hp,?_,(ag.refl H).upd hp⟩⟩))
   ·rw [sizeLine_eq];omega
   ·rw [LA,sizeLine_eq];omega
   ·rw [LA,LA,sizeLine_eq];omega
   ·rw [ae,yW];rfl
  rintro _ H1 ⟨q1,rfl,n1,e1,s1⟩;have blk:∀{α:Type} {D:cM} {u:TS} {tl te:TE} {H1:Hp} {ys:List V} {q:Addr} {o6:Option V} {as:List α} {V0:α->V} {gg:α->Str},ag H H1->H1 q=some (.lst ys)->ys.length+as.length<=1000->(∀Q:VK,(∀dl H',ag H1 H'->H' dl=some (.lst (as.map V0))->Q (.ref dl) H')->tl [some (.int wi),some (.int hi),some (.ref d),some (.ref pl),some (.str st),some (.ref q),o6] H1 Q)->(∀a∈as,∀H',ag H H'->Ev te [some (V0 a)] H' (.str (gg a)))->(∀p H',H p=none->ag H H'->H' p=some (.lst (ys++as.map λ a=>V.str (gg a)))->u D [some (.int wi),some (.int hi),some (.ref d),some (.ref pl),some (.str st),some (.ref p),o6] H')->bg (tAsg (kx .Add (bE 5) (tComp (fW K tl) (gName 0) da te [none])) (gName 5)) u D [some (.int wi),some (.int hi),some (.ref d),some (.ref pl),some (.str st),some (.ref q),o6] H1:=by intro α D u tl te H1 ys q o6 as V0 gg s1 eq hn htl he z;refine iA (jD ((show Ev (bE 5) _ H1 (.ref q) from ab rfl) _ (htl _ λ dl H' s e=>?_)));refine (show tComp (fW K (λ _ H R=>R (.ref dl) H)) (gName 0) da te [none] _ H' _ from iS (rest:=[]) (V0:=V0) (λ Q q=>q) (aI.of e) (by omega) rfl gg (λ a ha H2 s2 Q k=>he a ha H2 ((s1.trans s).trans s2) _ (k _ (ag.refl _))) λ H2 d' s2 hd'=>?_);have sd:=(ag.refl H2).upd (o:=.lst (as.map λ a=>V.str (gg a))) hd';have sa:=(s.trans s2).trans sd;refine hG (sa _ _ eq) ae (by rw [Lv];exact hn) λ p hp=>z p _ ((s1.trans sa).free hp) ((s1.trans sa).upd hp) ae
  have a6:(" ":Str).length=1:=by decide
  refine iA (jD ((show Ev (bE 5) _ H1 (.ref q1) from ab rfl) _ (EM (ab rfl) ⟨hs,aI.of (s1 _ _ hd),by omega,λ hs' dl pm sr hdl=>?_⟩)));have G':=G.perm pm;have lh:hs'.length=hs.length:=pm.length_eq;have sl:=(ag.refl H1).upd (o:=.lst (hs'.map V.int)) hdl;have el':(upd H1 dl (.lst (hs'.map V.int))) dl=some (.lst (hs'.map V.int)):=ae;generalize upd H1 dl (.lst (hs'.map V.int))=H2 at sl el' ⊢;refine (show tComp (fW K (λ _ H R=>R (.ref dl) H)) (gName 0) da _ [none] _ H2 _ from iS (rest:=[]) (V0:=V.int) (λ Q q=>q) (aI.of el') (by omega) rfl (λ h=>lnT (bO h)) (λ h hh H' s Q z=>?_) λ H3 d' s3 hd'=>?_)
  ·have hr':=G'.hh h hh;have a3:=pV (n:=h) (by omega) (by omega);have a5:("hole ":Str).length=5:=by decide
   refine (cK (z:="hole ") ao (str_n (ab rfl) (by omega) (by omega)) (by rw [a5,sizeLine_eq];omega)) _ ?_;rw [qP];exact z H' (ag.refl _)
  have sd:=(ag.refl H3).upd (o:=.lst (hs'.map λ h=>V.str (lnT (bO h)))) hd';have sa:=(sl.trans s3).trans sd;refine hG (sa _ _ e1) ae (by rw [Lv];show 1+_<=1000;omega) λ q2 hq2=>?_;have n2:=(s1.trans sa).free hq2;have s2:=(s1.trans sa).upd (o:=.lst ([V.str (lnT (boardL wi hi))]++hs'.map λ h=>V.str (lnT (bO h)))) hq2;have e2:(upd (upd H3 d' (.lst (hs'.map λ h=>V.str (lnT (bO h))))) q2 (.lst ([V.str (lnT (boardL wi hi))]++hs'.map λ h=>V.str (lnT (bO h))))) q2=some (.lst ([V.str (lnT (boardL wi hi))]++hs'.map λ h=>V.str (lnT (bO h)))):=ae;generalize upd (upd H3 d' (.lst (hs'.map λ h=>V.str (lnT (bO h))))) q2 (.lst ([V.str (lnT (boardL wi hi))]++hs'.map λ h=>V.str (lnT (bO h))))=H4 at s2 e2 ⊢;dsimp only;show bg _ _ _ [oJ wi,oJ hi,oR d,oR pl,oT st,oR q2,none] H4;have PT4:=PT.same s2;refine blk (as:=ks) (V0:=cj) (gg:=λ h=>lnT (dn h)) s2 e2 (by rw [Lz,Lv];show 1+_+_<=1000;omega) (λ Q z=>(show Ev (kE K (bE 3) (tC (.int 0))) _ H4 (.ref kd) from ba (ab rfl) ao (.inl (aI.of PT4.at_)) rfl) _ (z kd H4 (ag.refl _) PT4.kds.at_)) (λ h hh H' s Q z=>?_) λ q5 H5 n5 s5 e5=>?_
  ·have a3:=jI h;have a5:("kind ":Str).length=5:=by decide
   refine (cK (z:="kind ") (z':=one h) ao (ab rfl) (by rw [a5,sizeLine_eq];omega)) _ ?_;rw [wu];exact z
  refine c9 (λ σ' H'=>(∃o6,σ'=[oJ wi,oJ hi,oR d,oR pl,oT st,oR q5,o6])/\ag H H'/\H' q5=some (.lst (([V.str (lnT (boardL wi hi))]++hs'.map λ h=>V.str (lnT (bO h)))++(ks.map λ h=>V.str (lnT (dn h)))++us.map λ u=>V.str (lnT (c7 u.1))))) (λ K' hK=>?_) ?_
  ·refine km (K:=K) (λ v H'=>v=.ref rd/\H'=H5) (λ Q z=>(show Ev (kE K (bE 3) (tC (.int 1))) _ H5 (.ref rd) from ba (ab rfl) ao (.inl (aI.of (PT.same s5).at_)) rfl) _ (z _ _ ⟨rfl,rfl⟩)) ?_;rintro _ _ ⟨rfl,e0⟩;obtain rfl:=e0.symm;refine ⟨rd,dZ us,rfl,aI.of (PT.same s5).rls,λ i σ' H'=>(∃o6,σ'=[oJ wi,oJ hi,oR d,oR pl,oT st,oR q5,o6])/\ag H H'/\H' q5=some (.lst (([V.str (lnT (boardL wi hi))]++hs'.map λ h=>V.str (lnT (bO h)))++(ks.map λ h=>V.str (lnT (dn h)))++(us.take i).map λ u=>V.str (lnT (c7 u.1)))),⟨⟨_,rfl⟩,s5,?_⟩,?_,?_,?_⟩
   ·rw [e5,List.take_zero,LX,L6]
   ·rintro i σ' H' _ ⟨_,s,_⟩;exact aI.of (PT.same s).rls
   ·rintro i x _ H6 hx ⟨⟨o6,rfl⟩,s6,e6⟩;rw [LD] at hx;obtain ⟨u,hui,rfl⟩:∃u,us[i]? =some u/\V.ref u.2=x:=by
     cases e:us[i]? with
     | none=>rw [e] at hx;cases hx
     | some u=>rw [e] at hx;exact ⟨u,rfl,Option.some.inj hx⟩
    have hm:=LM hui;have g:=PT.rg u hm;have r:=mn g;have hp:=s6 _ _ (PT.ra u hm);show hZ _ _ [oJ wi,oJ hi,oR d,oR pl,oT st,oR q5,oR u.2] H6;have ix:∀(i:Nat) (v:V),u.1.vs[i]? =some v->Ev (kE K (bE 6) (tC (.int (i:Int)))) [some (.int wi),some (.int hi),some (.ref d),some (.ref pl),some (.str st),some (.ref q5),some (.ref u.2)] H6 v:=λ i v h=>ba (ab rfl) ao (.inr (cg.of hp)) (bo h);refine xm (ab rfl) ⟨_,e6⟩ (lx ao (fV (ay (ix 1 (.str u.1.so) rfl) (ay (ix 0 (.str u.1.kd) rfl) (ay (ix 2 (.str u.1.ai) rfl) (ay (str_n (ix 3 (.int u.1.ax) rfl) (by omega) (by omega)) (ay (str_n (ix 4 (.int u.1.up) rfl) (by omega) (by omega)) (bZ ⟨by show 5<=sizeLine;decide,λ dd hdd=>?_⟩))))))));refine ⟨[u.1.so,u.1.kd,u.1.ai,nT u.1.ax,nT u.1.up],aI.of ae,?_,?_⟩
    ·obtain ⟨c,_,ec⟩:=g.kd;have a1:u.1.so.length<=9:=(by decide:∀y∈sortsL,y.length<=9) _ g.so;have a2:u.1.ai.length<=9:=(by decide:∀y∈aimsL,y.length<=9) _ g.ai;have a3:=pV (n:=u.1.ax) (by omega) (by omega);have a4:=pV (n:=u.1.up) (by omega) (by omega);have a5:u.1.kd.length<=9:=by rw [ec];exact jI c
     simp only [LL,LX,Mp,Mq,LG,LV,a6];omega
    ·rw [nO];have sdd:=(ag.refl H6).upd (o:=.lst (([u.1.so,u.1.kd,u.1.ai,nT u.1.ax,nT u.1.up]:List Str).map V.str)) hdd;refine ⟨_,sdd _ _ e6,?_,⟨_,rfl⟩,(s6.trans sdd).put n5,?_⟩
     ·have:=M5 i us;simp only [Lz,Lv,LG,LV];rw [sizeLine_eq];omega
     ·rw [ae,Mn,hui,LR,Mf];rfl
   ·rintro σ' H' ⟨ho,s,e⟩;rw [Lv,Mv] at e;exact hK _ _ ⟨ho,s,e⟩
  rintro _ H6 ⟨⟨o6,rfl⟩,s6,e6⟩;have PT6:=PT.same s6;refine blk (as:=ts) (V0:=λ u=>.ref u.2) (gg:=λ u=>lnT (dQ u.1)) s6 e6 (by simp only [Lz,Lv,LG,LV];omega) (λ Q z=>(show Ev (kE K (bE 3) (tC (.int 2))) _ H6 (.ref td) from ba (ab rfl) ao (.inl (aI.of PT6.at_)) rfl) _ (z td H6 (ag.refl _) PT6.tns)) (λ u hu' H' s Q z=>?_) λ q7 H7 n7 s7 e7=>?_
  ·have ep:=s _ _ (PT.ta u hu');obtain ⟨⟨a,_,ea⟩,c,_,ec⟩:=PT.tg.kd u hu';have a3:u.1.1.length=1:=by rw [ea];rfl
   have a4:u.1.2.length=1:=by rw [ec];rfl
   have a5:("turn ":Str).length=5:=by decide
   refine (cK (cK (cK (z:="turn ") (z':=u.1.1) ao (ba (ab rfl) ao (.inr (cg.of ep)) rfl) ?_) ao ?_) (ba (x:=.str u.1.2) (ab rfl) ao (.inr (cg.of ep)) rfl) ?_) _ ?_
   ·rw [sizeLine_eq];omega
   ·rw [LA,sizeLine_eq];omega
   ·rw [LA,LA,sizeLine_eq];omega
   ·rw [Du];exact z
  have PT7:=PT.same s7;refine blk (as:=es) (V0:=λ u=>.ref u.2) (gg:=λ u=>lnT (gW u.1)) s7 e7 (by simp only [Lz,Lv,LG,LV];omega) (λ Q z=>(show Ev (kE K (bE 3) (tC (.int 3))) _ H7 (.ref ed) from ba (ab rfl) ao (.inl (aI.of PT7.at_)) rfl) _ (z ed H7 (ag.refl _) PT7.ens)) (λ u hu' H' s Q z=>?_) λ q8 H8 n8 s8 e8=>?_
  ·have ep:=s _ _ (PT.ea u hu');obtain ⟨ha,c,_,ec⟩:=PT.eg.kd u hu';have a3:u.1.1.length<=9:=(by decide:∀y∈d0,y.length<=9) _ ha;have a4:u.1.2.length=1:=by rw [ec];rfl
   refine (cK (cK (z:=u.1.1) (z':=" ") (ba (ab rfl) ao (.inr (cg.of ep)) rfl) ao ?_) (ba (x:=.str u.1.2) (ab rfl) ao (.inr (cg.of ep)) rfl) ?_) _ ?_
   ·rw [sizeLine_eq];omega
   ·rw [LA,sizeLine_eq];omega
   ·exact z
  have ls:=(by decide:∀y∈bN,y.length<=9) _ G.sg;have a5:("stuck ":Str).length=6:=by decide
  refine iw (jD ((show Ev (bE 5) _ H8 (.ref q8) from ab rfl) _ (fV (ay (cK (z:="stuck ") (z':=st) ao (ab rfl) (by rw [a5,sizeLine_eq];omega)) (bZ ⟨by show 1<=sizeLine;decide,λ p hp=>?_⟩)))));have sp:=(ag.refl H8).upd (o:=.lst [.str (("stuck ":Str)++st)]) hp;refine hG (sp _ _ e8) ae (by simp only [Lz,Lv,LG,LV];omega) λ q9 hq9=>?_;refine k q9 hs' _ pm sr ((s8.trans sp).free hq9) ?_ ((s8.trans sp).upd hq9);rw [ae,rE];show some (HO.lst _)=some (HO.lst (((boardL wi hi::_).map lnT).map V.str));simp only [LL,LR,LC,Function.comp_def,LX,Mf,MP,MQ];rfl
end
end K07
namespace K07
open PySem L2
theorem qj {l m:List Int}(h1:l.Pairwise (·<=·)) (h2:m.Pairwise (·<=·)) (p:l.Perm m):l=m:=p.eq_of_pairwise (λ a b _ _ x y=>Int.le_antisymm x y) h1 h2
theorem pP (n:Nat):((List.range n).all λ _=>true)=true:=LP.mpr λ _ _=>rfl
theorem sN {K:Frag}{H:Hp}{n:Nat}{a b:Addr}{xs ys:List V}(ha:aI K H a xs) (hb:aI K H b ys) (hl:xs.length=ys.length) (he:∀(i:Nat) (x y:V),xs[i]? =some x->ys[i]? =some y->lb K H n x y true):lb K H (n+1) (.ref a) (.ref b) true:=by
 by_cases e:a=b
 ·subst e;exact .same
 ·have h:=lb.lst (es:=λ _=>true) ha hb e hl he;rw [pP] at h;exact h
theorem De {K:Frag}{H:Hp}{n:Nat}{a b:Addr}{xs:List V}(ha:cg K H a xs) (hb:cg K H b xs) (hf:∀x∈xs,flatV x=true):lb K H (n+1) (.ref a) (.ref b) true:=by
 by_cases e:a=b
 ·subst e;exact .same
 ·have h:=lb.tup (es:=λ _=>true) (n:=n) ha hb e (λ i x y hx hy=>by
   rw [hx] at hy;obtain rfl:=Option.some.inj hy;exact fY (by rw [hf x (LM hx)];rfl))
  rw [pP,beq_self_eq_true] at h;exact h
theorem on {α β:Type}{xs ys:List (α×β)}(h:xs.map (·.1)=ys.map (·.1)):xs.length=ys.length:=by have:=congrArg List.length h;rw [Lv,Lv] at this;exact this
theorem rR {α β:Type}{xs ys:List (α×β)}(h:xs.map (·.1)=ys.map (·.1)) {i:Nat}{x y:α×β}(hx:xs[i]? =some x) (hy:ys[i]? =some y):x.1=y.1:=by have:=congrArg (λ l=>l[i]?) h;simp only [LD,hx,hy,Option.map_some] at this;exact Option.some.inj this
theorem iJ {α:Type}{zs:List (α×Addr)}{i:Nat}{x:V}(h:(zs.map λ z=>V.ref z.2)[i]? =some x):∃z,zs[i]? =some z/\z∈zs/\x=.ref z.2:=by
 rw [LD] at h;cases e:zs[i]? with
 | none=>rw [e] at h;cases h
 | some z=>rw [e] at h;exact ⟨z,rfl,LM e,(Option.some.inj h).symm⟩
def xM:Sp:=λ vs H Q _=> ∃v:Int,vs=[.int v]/\Q (.bl true) H
structure xy (K:Frag) (cB cG:Addr) (H:Hp) (g b:Addr) (wi hi:Int) (hs':List Int) (ks:List Nat) (us us':List (aK×Addr)) (ts ts' es es':List ((Str×Str)×Addr)) (st:Str):Prop where
 gm:fo cG H g b (ks.map cj) (dZ us') (bv ts') (bv es') st
 bd:eM K cB H b wi hi hs'
 um:us'.map (·.1)=us.map (·.1)
 ur:fC H us'
 tm:ts'.map (·.1)=ts.map (·.1)
 tr:dJ H ts'
 em:es'.map (·.1)=es.map (·.1)
 er:dJ H es'
theorem xy.same {K:Frag}{cB cG:Addr}{H H':Hp}{g b:Addr}{wi hi:Int}{hs':List Int}{ks:List Nat}{us us':List (aK×Addr)}{ts ts' es es':List ((Str×Str)×Addr)}{st:Str}(h:xy K cB cG H g b wi hi hs' ks us us' ts ts' es es' st) (s:ag H H'):xy K cB cG H' g b wi hi hs' ks us us' ts ts' es es' st:=
 ⟨h.gm.same s,h.bd.same s,h.um,h.ur.same s,h.tm,h.tr.same s,h.em,h.er.same s⟩
def vq (K:Frag) (cB cG:Addr):Sp:=λ vs H Q _=> ∃(g b d pl kd rd td ed:Addr) (wi hi:Int) (hs hs':List Int) (ks:List Nat) (us us':List (aK×Addr)) (ts ts' es es':List ((Str×Str)×Addr)) (st:Str),vs=[.ref g,.int wi,.int hi,.ref d,.ref pl,.str st]/\xy K cB cG H g b wi hi hs' ks us us' ts ts' es es' st/\hs'.Perm hs/\H d=some (.lst (hs.map V.int))/\hs.length<64/\jq H pl kd rd td ed ks us ts es/\∀H',ag H H'->Q (.bl true) H'
structure CSm (P:Program) (w:World) (K:Frag) (mg:Str->Option Value) (base:Heap):Prop where
 _law_whole:eA P w K mg base "_law_whole" ["_law_thing"] 1 xM
section
variable {P:Program}{w:World}{K:Frag}{mg:Str->Option Value}{base:Heap}{aS aA aE aW aO aF:Addr}
theorem kO {f:Addr}{fd:FuncData}(F:bX K "_law_whole" "_law_whole" dg f fd) (T:Txt mg aS aA aE aW aO aF):bj P w K mg base eI 1 f fd ["_law_thing"] xM:=by
 refine F.ok kK (λ vs H Q E h=>?_) (λ cdv A outer s H vs Q E hr h=>?_)
 ·obtain ⟨v,rfl,_⟩:=h;rfl
 ·obtain ⟨v,rfl,q⟩:=h;refine ⟨_,(aj (az (dq (wt .int T.isinstance T.int rm (cv 0)) (dB (xf (wt .bool T.isinstance T.bool tj (cv 0))))))),?_⟩;show dw _ _ [oJ v] H;exact aU (ca (wU (ab rfl)) (λ _=>wN (wU (ab rfl)))) q
theorem mU {f cB cG:Addr}{fd:FuncData}(F:bX K "_law_same" "_law_same" dW f fd) (T:Txt mg aS aA aE aW aO aF) (B:rB K cB) (D:xx K cG) (C:CSm P w K mg base):bj P w K mg base eI 2 f fd ["_law_game","_law_wide","_law_high","_law_holes_here","_law_parts_here","_law_stuck"] (vq K cB cG):=by
 refine F.ok gh (λ vs H Q E h=>?_) (λ cdv A outer s H vs Q E hr h=>?_)
 ·obtain ⟨g,b,d,pl,kd,rd,td,ed,wi,hi,hs,hs',ks,us,us',ts,ts',es,es',st,rfl,_⟩:=h;rfl
 ·obtain ⟨g,b,d,pl,kd,rd,td,ed,wi,hi,hs,hs',ks,us,us',ts,ts',es,es',st,rfl,GA,pm,hd,h64,PT,k⟩:=h;have hu:=cq hr;refine ⟨_,(aa (av (i:=6) gh.nd rfl (Or.inl rfl) (fj K (cv 0)))
   (aa (bf (bz K hu (gk (au (fj K (cv 6)) (au (fj K (cv 6)) (au (fj K (cv 6)) pa_nil)))) (gk (au (cv 1) (au (cv 2) (au (kB (wp K) jn T.sorted (au (cv 3) pa_nil)) pa_nil))))) (aj (az c8)) aC)
   (aa (gL PassesOwn.never rfl (jL K (fj K (cv 0))) (dO (i:=7) gh.nd rfl (Or.inl rfl)) (aa (bf (bm (bh (wt .tuple T.isinstance T.tuple pM (cv 7)))) (aj (az c8)) aC)
   (aj (bf (PW.pt (fS (bm (bh (aD C._law_whole hr (au (cx K (cv 7) af) pa_nil)))) (eE (bm (bh (aD C._law_whole hr (au (cx K (cv 7) af) pa_nil))))))) (aj (az c8)) aC))))
   (aa (bf (PW.pt (fS (bm (bh (aD C._law_whole hr (au (fj K (cv 6)) pa_nil)))) (fS (bm (bh (aD C._law_whole hr (au (fj K (cv 6)) pa_nil)))) (eE (bz K hu (fj K (cv 0)) (cv 5)))))) (aj (az c8)) aC)
   (aj (az (gS K hu (bu (au (fj K (cv 0)) (au (fj K (cv 0)) (au (fj K (cv 0)) (au (fj K (cv 0)) pa_nil))))) (cv 4)))))))),?_⟩
  show bg _ _ _ [oR g,oJ wi,oJ hi,oR d,oR pl,oT st,none,none] H;refine bS (i:=6) (v:=.ref b) (bP (ab rfl) (GA.gm.board D)) ?_;obtain ⟨hq,fh,eh⟩:=GA.bd.holes B;refine eC (λ b H'=>b=false/\ag H H') (λ Q z=>?_) (λ H' h=>by cases h.1) (λ H1 h=>?_)
  ·refine qX (Dx (ac (bP (ab rfl) (GA.bd.wide B)) (ac (bP (ab rfl) (GA.bd.high B)) (ac (bP (ab rfl) fh) ar))) (by show 3<=1000;decide) λ p hp=>?_);have s1:=(ag.refl H).upd (o:=.tup [.int wi,.int hi,.ref hq]) hp;have e1:(upd H p (.tup [.int wi,.int hi,.ref hq])) p=some (.tup [.int wi,.int hi,.ref hq]):=ae;generalize upd H p (.tup [.int wi,.int hi,.ref hq])=H1 at s1 e1 ⊢;refine xF (ay (ab rfl) (ay (ab rfl) (bR (EM (ab rfl) ⟨hs,aI.of (s1 _ _ hd),h64,λ hs2 q pm2 sr2 hq2=>bZ ⟨by show 3<=sizeLine;decide,λ p2 hp2=>?_⟩⟩))));have e:hs2=hs':=qj sr2 GA.bd.srt (pm2.trans pm.symm);subst e;have s2:=(ag.refl H1).upd (o:=.lst (hs2.map V.int)) hq2;have e2:(upd H1 q (.lst (hs2.map V.int))) q=some (.lst (hs2.map V.int)):=ae;generalize upd H1 q (.lst (hs2.map V.int))=H2 at s2 e2 hp2 ⊢;have s3:=(ag.refl H2).upd (o:=.tup [.int wi,.int hi,.ref q]) hp2;refine ⟨true,?_,z _ _ ⟨rfl,(s1.trans s2).trans s3⟩⟩;have h:=pU.tup (es:=λ _=>true) (n:=19) (cg.of ((s2.trans s3) _ _ e1)) (cg.of (K:=K) (ae (H:=H2) (a:=p2))) (λ i x y hx hy=>?_)
   ·exact h
   ·rcases i with _ | _ | _ | i
    ·obtain rfl:=Option.some.inj hx;obtain rfl:=Option.some.inj hy;exact fY rfl
    ·obtain rfl:=Option.some.inj hx;obtain rfl:=Option.some.inj hy;exact fY rfl
    ·obtain rfl:=Option.some.inj hx;obtain rfl:=Option.some.inj hy;refine sN (n:=18) (aI.of (((s1.trans s2).trans s3) _ _ eh)) (aI.of (s3 _ _ e2)) rfl λ j x y hx hy=>?_;rw [hx] at hy;obtain rfl:=Option.some.inj hy;obtain ⟨m,_,rfl⟩:=Lx.mp (LM hx);exact fY rfl
    ·cases hx
  obtain ⟨_,s1⟩:=h;have GA1:=GA.same s1;obtain ⟨rq,fr,er⟩:=GA1.gm.rules D;refine c9 (λ σ' H'=>(∃o7,σ'=[oR g,oJ wi,oJ hi,oR d,oR pl,oT st,oR b,o7])/\H'=H1) (λ K' hK=>?_) ?_
  ·refine km (K:=K) (λ v H'=>v=.ref rq/\H'=H1) (λ Q z=>(bP (ab rfl) fr) _ (z _ _ ⟨rfl,rfl⟩)) ?_;rintro _ _ ⟨rfl,e0⟩;obtain rfl:=e0.symm;refine ⟨rq,dZ us',rfl,aI.of er,λ i σ' H'=>(∃o7,σ'=[oR g,oJ wi,oJ hi,oR d,oR pl,oT st,oR b,o7])/\H'=H1,⟨⟨_,rfl⟩,rfl⟩,?_,?_,?_⟩
   ·rintro i σ' H' _ ⟨_,rfl⟩;exact aI.of er
   ·rintro i x _ H' hx ⟨⟨o7,rfl⟩,e⟩;obtain rfl:=e.symm;obtain ⟨u,_,hm,rfl⟩:=iJ hx;have hp:=GA1.ur u hm;show bg _ _ _ [oR g,oJ wi,oJ hi,oR d,oR pl,oT st,oR b,oR u.2] H1;refine bq (b:=false) (cw (b:=true) (bF (EC (ab rfl) hp))) (λ h=>nomatch h) (λ _=>?_);have wh:∀{te:TE} {n:Int},Ev te [oR g,oJ wi,oJ hi,oR d,oR pl,oT st,oR b,oR u.2] H1 (.int n)->Tv (nP (fZ (gb xM (bi te cn)))) [some (.ref g),some (.int wi),some (.int hi),some (.ref d),some (.ref pl),some (.str st),some (.ref b),some (.ref u.2)] H1 false:=λ {te n} he=>cw (b:=true) (bF (aM (ac he ar) (λ Q q=>⟨n,rfl,q⟩)));refine (fu (a:=false) (b:=false) (wh (ba (x:=.int u.1.ax) (ab rfl) ao (.inr (cg.of hp)) rfl)) (λ _=>wh (ba (x:=.int u.1.up) (ab rfl) ao (.inr (cg.of hp)) rfl))) _ ?_;exact jj ⟨⟨_,rfl⟩,rfl⟩
   ·rintro σ' H' ⟨ho,e⟩;exact hK _ _ ⟨ho,e⟩
  rintro _ H2 ⟨⟨o7,rfl⟩,e⟩;obtain rfl:=e.symm;have wh:∀{te:TE} {n:Int},Ev te [oR g,oJ wi,oJ hi,oR d,oR pl,oT st,oR b,o7] H1 (.int n)->Tv (nP (fZ (gb xM (bi te cn)))) [some (.ref g),some (.int wi),some (.int hi),some (.ref d),some (.ref pl),some (.str st),some (.ref b),o7] H1 false:=λ {te n} he=>cw (b:=true) (bF (aM (ac he ar) (λ Q q=>⟨n,rfl,q⟩)));refine bq (b:=false) (fu (a:=false) (b:=false) (wh (bP (ab rfl) (GA1.bd.wide B))) (λ _=>fu (a:=false) (b:=false) (wh (bP (ab rfl) (GA1.bd.high B))) (λ _=>?_))) (λ h=>nomatch h) (λ _=>?_)
  ·have z:=bF (nn (K:=K) (z:=st) (z':=st) (bP (to:=bE 0) (σ:=[oR g,oJ wi,oJ hi,oR d,oR pl,oT st,oR b,o7]) (H:=H1) (ab rfl) (GA1.gm.stuck D)) (ab (n:=5) rfl));rw [show (!decide (st=st))=false by simp] at z;exact z
  obtain ⟨kq,fk,ek⟩:=GA1.gm.kinds D;obtain ⟨tq,ft,et⟩:=GA1.gm.turns D;obtain ⟨eq,fe,ee⟩:=GA1.gm.ends D;have PT1:=PT.same s1;refine iw (EF (fV (ay (bP (ab rfl) fk) (ay (bP (ab rfl) fr) (ay (bP (ab rfl) ft) (ay (bP (ab rfl) fe) (bZ ⟨by show 4<=sizeLine;decide,λ p hp=>?_⟩)))))));have s2:=(ag.refl H1).upd (o:=.lst [.ref kq,.ref rq,.ref tq,.ref eq]) hp;have e2:(upd H1 p (.lst [.ref kq,.ref rq,.ref tq,.ref eq])) p=some (.lst [.ref kq,.ref rq,.ref tq,.ref eq]):=ae;generalize upd H1 p (.lst [.ref kq,.ref rq,.ref tq,.ref eq])=H2 at s2 e2 ⊢;have GA2:=GA1.same s2;have PT2:=PT1.same s2;refine (show Ev (bE 4) _ H2 (.ref pl) from ab rfl) _ ⟨true,?_,k _ (s1.trans s2)⟩;have prs:∀{xs ys:List ((Str×Str)×Addr)} {a c:Addr},xs.map (·.1)=ys.map (·.1)->dJ H2 xs->dJ H2 ys->H2 a=some (.lst (bv xs))->H2 c=some (.lst (bv ys))->lb K H2 19 (.ref a) (.ref c) true:=λ hm hx hy ha hc=>sN (n:=18) (aI.of ha) (aI.of hc) (by rw [Lv,Lv,on hm]) λ i x y h1 h2=>by
   obtain ⟨z1,i1,m1,rfl⟩:=iJ h1;obtain ⟨z2,i2,m2,rfl⟩:=iJ h2;have e:=rR hm i1 i2;have a1:=hx z1 m1;rw [e] at a1;refine De (n:=17) (cg.of a1) (cg.of (hy z2 m2)) λ v hv=>?_;simp only [Lw,LO,or_false] at hv
   rcases hv with rfl | rfl<;>rfl
  have h:=pU.lst (es:=λ _=>true) (n:=19) (aI.of (K:=K) e2) (aI.of PT2.at_) rfl (λ i x y hx hy=>?_)
  ·exact h
  ·rcases i with _ | _ | _ | _ | i
   ·obtain rfl:=Option.some.inj hx;obtain rfl:=Option.some.inj hy;refine sN (n:=18) (aI.of (s2 _ _ ek)) (aI.of PT2.kds.at_) rfl λ j x y hx hy=>?_;rw [hx] at hy;obtain rfl:=Option.some.inj hy;obtain ⟨m,_,rfl⟩:=Lx.mp (LM hx);exact fY rfl
   ·obtain rfl:=Option.some.inj hx;obtain rfl:=Option.some.inj hy;refine sN (n:=18) (aI.of (s2 _ _ er)) (aI.of PT2.rls) (by rw [Lv,Lv,on GA.um]) λ j x y h1 h2=>?_;obtain ⟨z1,i1,m1,rfl⟩:=iJ h1;obtain ⟨z2,i2,m2,rfl⟩:=iJ h2;have e:=rR GA.um i1 i2;have a1:=GA2.ur z1 m1;rw [e] at a1;refine De (n:=17) (cg.of a1) (cg.of (PT2.ra z2 m2)) λ v hv=>?_;simp only [Lw,LO,or_false] at hv
    rcases hv with rfl | rfl | rfl | rfl | rfl<;>rfl
   ·obtain rfl:=Option.some.inj hx;obtain rfl:=Option.some.inj hy;exact prs GA.tm GA2.tr PT2.ta (s2 _ _ et) PT2.tns
   ·obtain rfl:=Option.some.inj hx;obtain rfl:=Option.some.inj hy;exact prs GA.em GA2.er PT2.ea (s2 _ _ ee) PT2.ens
   ·cases hx
end
end K07
namespace K07
open PySem L2
structure gF (H:Hp) (kl:Addr) (es:List V):Prop where
 at_:H kl=some (.lst es)
 all:∀e∈es,∃(t f c:Addr) (zs:List V),e=V.ref t/\t≠kl/\f≠kl/\c≠kl/\H t=some (.tup [.ref f,.ref c])/\H f=some (.lst zs)/\H c=some (.lst zs)/\∀x∈zs,(flatV x||pk x)=true
theorem gF.same {H H':Hp}{kl:Addr}{es:List V}(k:gF H kl es) (s:ag H H'):gF H' kl es:=⟨s _ _ k.at_,λ e he=>by
 obtain ⟨t,f,c,zs,h1,h2,h3,h4,h5,h6,h7,h8⟩:=k.all e he;exact ⟨t,f,c,zs,h1,h2,h3,h4,s _ _ h5,s _ _ h6,s _ _ h7,h8⟩⟩
theorem gF.add {H H':Hp}{kl t f c:Addr}{es:List V}{zs:List V}(k:gF H kl es) (s:ag H H') (nt:t≠kl) (nf:f≠kl) (nc:c≠kl) (ht:H' t=some (.tup [.ref f,.ref c])) (hf:H' f=some (.lst zs)) (hc:H' c=some (.lst zs)) (hz:∀x∈zs,(flatV x||pk x)=true):
  gF (upd H' kl (.lst (es++[.ref t]))) kl (es++[.ref t]):=⟨ae,λ e he=>by
 rcases LK.mp he with h | h
 ·obtain ⟨t',f',c',zs',h1,h2,h3,h4,h5,h6,h7,h8⟩:=k.all e h;exact ⟨t',f',c',zs',h1,h2,h3,h4,by rw [ah h2];exact s _ _ h5,by rw [ah h3];exact s _ _ h6,by rw [ah h4];exact s _ _ h7,h8⟩
 ·have e1:e=.ref t:=by simpa using h
  exact ⟨t,f,c,zs,e1,nt,nf,nc,by rw [ah nt];exact ht,by rw [ah nf];exact hf,by rw [ah nc];exact hc,hz⟩⟩
abbrev LN (wi hi:Int) (hs:List Int) (ks:List Nat) (us:List (aK×Addr)) (ts es:List ((Str×Str)×Addr)) (st:Str):List V:=(nj wi hi hs ks (us.map (·.1)) (ts.map (·.1)) (es.map (·.1)) st).map V.str
def JS (ks:List Nat) (us:List (aK×Addr)) (ts es:List ((Str×Str)×Addr)) (st:Str):List V:=(((ks.map dn++((us.map (·.1)).map c7++((ts.map (·.1)).map dQ++((es.map (·.1)).map gW++[stuckLn st])))).map lnT).map V.str)
theorem lW (wi hi:Int) (hs:List Int) (ks:List Nat) (us:List (aK×Addr)) (ts es:List ((Str×Str)×Addr)) (st:Str):LN wi hi hs ks us ts es st=([V.str (lnT (boardL wi hi))]++hs.map λ h=>V.str (lnT (bO h)))++JS ks us ts es st:=by show ((gWords wi hi hs ks _ _ _ st).map lnT).map V.str=_;unfold gWords JS;simp only [LL,LR,LC,Function.comp_def,LX,Mf,MP,MQ]
theorem uN (wi hi:Int):2<=(lnT (boardL wi hi)).length:=by
 have e:(lnT (boardL wi hi)).length=("board":Str).length+(" ":Str).length+(Str.join " " [nT wi,nT hi]).length:=by show ("board"++" "++Str.join " " [nT wi,nT hi]).length=_;rw [bG,cS,cS,Lz,Lz];rfl
 have a5:("board":Str).length=5:=by decide
 rw [e,a5];omega
theorem sJ {wi hi:Int}{hs:List Int}{ks:List Nat}{us:List (aK×Addr)}{ts es:List ((Str×Str)×Addr)}{st:Str}:∀x∈LN wi hi hs ks us ts es st,(flatV x||pk x)=true:=λ x hx=>by obtain ⟨z,_,rfl⟩:=Lx.mp hx;rfl
theorem xy.put {K:Frag}{cB cG:Addr}{H:Hp}{g b q:Addr}{wi hi:Int}{hs':List Int}{ks:List Nat}{us us':List (aK×Addr)}{ts ts' es es':List ((Str×Str)×Addr)}{st x:Str}{r:List V}{o:HO}(h:xy K cB cG H g b wi hi hs' ks us us' ts ts' es es' st) (hq:H q=some (.lst (.str x::r))) (hx:2<=x.length):xy K cB cG (upd H q o) g b wi hi hs' ks us us' ts ts' es es' st:=by
 have ne:∀{a:Addr} {p:HO},H a=some p->p≠.lst (.str x::r)->a≠q:=λ ha hp=>dE ha hq hp;have nk:HO.lst (ks.map cj)≠.lst (.str x::r):=λ e=>by
  injection e with e;cases ks with
  | nil=>cases e
  | cons k ks=>
    injection e with e _;injection e with e;rw [<-e] at hx;have:2<=1:=hx;omega
 have nr:∀{α:Type} {zs:List (α×Addr)},HO.lst (zs.map λ z=>V.ref z.2)≠.lst (.str x::r):=λ {α zs} e=>by
  injection e with e;cases zs with
  | nil=>cases e
  | cons k ks=>
    injection e with e _;cases e
 obtain ⟨dx,kq,rq,tq,eq,a1,a2,a3,a4,a5⟩:=h.gm.ex;obtain ⟨dx2,ph,pf,b1,b2,b3⟩:=h.bd.ex;refine ⟨⟨dx,kq,rq,tq,eq,?_,?_,?_,?_,?_⟩,⟨⟨dx2,ph,pf,?_,?_,?_⟩,h.bd.w1,h.bd.w8,h.bd.h1,h.bd.h8,h.bd.good,h.bd.srt,h.bd.nd⟩,h.um,λ z hz=>?_,h.tm,λ z hz=>?_,h.em,λ z hz=>?_⟩
 ·rw [ah (ne a1 λ e=>by cases e)];exact a1
 ·rw [ah (ne a2 nk)];exact a2
 ·rw [ah (ne a3 nr)];exact a3
 ·rw [ah (ne a4 nr)];exact a4
 ·rw [ah (ne a5 nr)];exact a5
 ·rw [ah (ne b1 λ e=>by cases e)];exact b1
 ·rw [ah (ne b2 λ e=>by
   injection e with e;cases hs' with
   | nil=>cases e
   | cons k ks=>injection e with e _;cases e)]
  exact b2
 ·rw [ah (ne b3 λ e=>by
   injection e with e;cases hl:firmL wi hi hs' with
   | nil=>rw [hl] at e;cases e
   | cons k ks=>rw [hl] at e;injection e with e _;cases e)]
  exact b3
 ·rw [ah (ne (h.ur z hz) λ e=>by cases e)];exact h.ur z hz
 ·rw [ah (ne (h.tr z hz) λ e=>by cases e)];exact h.tr z hz
 ·rw [ah (ne (h.er z hz) λ e=>by cases e)];exact h.er z hz
structure ET (K:Frag) (cB cG:Addr) (G:Hp) (g b d pl kd rd td ed:Addr) (wi hi:Int) (hs hs':List Int) (ks:List Nat) (us:List (aK×Addr)) (ts es:List ((Str×Str)×Addr)) (st:Str):Prop where
 ga:xy K cB cG G g b wi hi hs' ks us us ts ts es es st
 pm:hs'.Perm hs
 ho:G d=some (.lst (hs.map V.int))
 pt:jq G pl kd rd td ed ks us ts es
 gd:uW wi hi hs ks (us.map (·.1)) (ts.map (·.1)) (es.map (·.1)) st
 nd:hs.Nodup
 lt:(hs.length:Int)<wi*hi
def rK (K:Frag) (cB cG:Addr):Sp:=λ vs H Q _=> ∃(G:Hp) (g b d pl kl kd rd td ed:Addr) (wi hi:Int) (hs hs':List Int) (ks:List Nat) (us:List (aK×Addr)) (ts es:List ((Str×Str)×Addr)) (st:Str) (els:List V),vs=[.ref g,.int wi,.int hi,.ref d,.ref pl,.str st,.ref kl]/\ag G H/\G kl=none/\ET K cB cG G g b d pl kd rd td ed wi hi hs hs' ks us ts es st/\gF H kl els/\els.length<=500/\∀els' H',ag G H'->gF H' kl els'->els'.length<=els.length+1->Q (.bl true) H'
theorem orK {a b:TT}{σ:St}{H:Hp}{R:Bool->Hp->Prop}(h:a σ H λ c H1=>if c=true then R true H1 else b σ H1 R):EX a b σ H R:=h
theorem KY {u:TT}{σ:St}{H:Hp}{R:Bool->Hp->Prop}(h:u σ H R):eK (λ c H1=>if (!c)=true then R true H1 else u σ H1 R) (.bl true) H:=by show if (!true)=true then R true H else u σ H R;rw [if_neg (by decide)];exact h
theorem wm {c:TT}{t:TS}{D:cM}{σ:St}{H:Hp}(P:Bool->Hp->Prop) (hc:∀Q:Bool->Hp->Prop,(∀b H',P b H'->Q b H')->c σ H Q) (h1:∀H',P true H'->t D σ H') (h2:∀H',P false H'->D.nx σ H'):lZ c t jV D σ H:=by
 refine hc _ λ b H' p=>?_;cases b with
 | true=>exact ji (h1 H' p)
 | false=>exact jj (h2 H' p)
theorem Jz {to:TE}{u:TS}{D:cM}{σ:St}{H:Hp}{l:Addr}{xs:List V}(ho:Ev to σ H (.ref l)) (hl:H l=some (.lst xs)) (q:u D σ (upd H l (.lst []))):bg (hZ (JH to)) u D σ H:=ho _ ⟨⟨xs,hl⟩,l,xs,rfl,rfl,hl,q⟩
theorem Lb (xs:List V) {j:Nat}(h:j<=xs.length):gr xs (some (j:Int)) none=xs.drop j:=by unfold gr;rw [HT.sIx_none,HT.sIx_nat,Nj h,Mc];rw [LU];exact M6 _
structure CRt (P:Program) (w:World) (K:Frag) (mg:Str->Option Value) (base:Heap) (cB cG:Addr):Prop where
 _law_lines:eA P w K mg base "_law_lines" ["_law_wide","_law_high","_law_holes_here","_law_parts_here","_law_stuck"] 1 n6
 written:eA P w K mg base "written" ["game"] 4 (lr K cB cG)
 game_of:eA P w K mg base "game_of" ["lines"] 8 (oh K cB cG)
 _law_same:eA P w K mg base "_law_same" ["_law_game","_law_wide","_law_high","_law_holes_here","_law_parts_here","_law_stuck"] 2 (vq K cB cG)
section
variable {P:Program}{w:World}{K:Frag}{mg:Str->Option Value}{base:Heap}{aS aA aE aW aO aF:Addr}
theorem kR {f cB cG:Addr}{fd:FuncData}(F:bX K "_law_right" "_law_right" cI f fd) (T:Txt mg aS aA aE aW aO aF) (C:CRt P w K mg base cB cG):bj P w K mg base eI 9 f fd ["_law_game","_law_wide","_law_high","_law_holes_here","_law_parts_here","_law_stuck","_law_kept"] (rK K cB cG):=by
 refine F.ok bK (λ vs H Q E h=>?_) (λ cdv A outer s H vs Q E hr h=>?_)
 ·obtain ⟨G,g,b,d,pl,kl,kd,rd,td,ed,wi,hi,hs,hs',ks,us,ts,es,st,els,rfl,_⟩:=h;rfl
 ·obtain ⟨G,g,b,d,pl,kl,kd,rd,td,ed,wi,hi,hs,hs',ks,us,ts,es,st,els,rfl,sg,nk,R,KO,l5,k⟩:=h;have hu:=cq hr;refine ⟨_,(aa (av (i:=7) bK.nd rfl (Or.inl rfl) (aD C._law_lines hr (au (cv 1) (au (cv 2) (au (cv 3) (au (cv 4) (au (cv 5) pa_nil)))))))
   (aa (av (i:=8) bK.nd rfl (Or.inl rfl) (aD C.written hr (au (cv 0) pa_nil)))
   (aa (bf (PW.pt (fS (bm (bh (wt .list T.isinstance T.list dP (cv 8)))) (eE (bz K hu (cv 8) (cv 7))))) (aj (az c8)) aC)
   (aa (cy (gX (cv 8) aH))
   (aa (cy (gX (cv 6) (gk (au (cv 8) (au (pe (kh K) dP T.list (au (cv 8) pa_nil)) pa_nil)))))
   (aa (av (i:=9) bK.nd rfl (Or.inl rfl) (aq (E2 K (cv 7) gi (gt af)) (cz (bp (N:=["_law_square"]) (src:=[none]) (ak cI) ["_law_game","_law_wide","_law_high","_law_holes_here","_law_parts_here","_law_stuck","_law_kept","_law_due","_law_found","_law_turned","_law_texts","_law_handed","_law_again"]) (jL K (cv 3)) (λ _ _ _=>(aL (i:=0) ["_law_square"])) (λ _ _ _=>aP) (λ _ _ _=>(aq aH (pe dH gv T.str (au (cv 0) pa_nil)))))))
   (aa (av (i:=9) bK.nd rfl (Or.inl rfl) (aq (cv 9) (E2 K (cv 7) (gt (aq af (kB (gG K) bW T.len (au (cv 3) pa_nil)))) gi)))
   (aa (gL PassesOwn.never rfl (jL K (bu (au (cv 7) (au (cv 9) pa_nil)))) (dO (i:=10) bK.nd rfl (Or.inl rfl)) (aa (av (i:=11) bK.nd rfl (Or.inl rfl) (pe (kh K) dP T.list (au (cv 10) pa_nil)))
   (aa (av (i:=12) bK.nd rfl (Or.inl rfl) (aD C.game_of hr (au (cv 11) pa_nil)))
   (aa (bf (bz K hu (cv 11) (cv 10)) (aj (az c8)) aC)
   (aa (cy (xg (cv 11)))
   (aj (bf (PW.pt (fS (bm (bh (aD C._law_same hr (au (cv 12) (au (cv 1) (au (cv 2) (au (cv 3) (au (cv 4) (au (cv 5) pa_nil))))))))) (eE (bz K hu (aD C.written hr (au (cv 12) pa_nil)) (cv 7))))) (aj (az c8)) aC)))))))
   (aj (az c8)))))))))),?_⟩
  show bg _ _ _ [oR g,oJ wi,oJ hi,oR d,oR pl,oT st,oR kl,none,none,none,none,none,none] H;have mm:=R.gd.many;have hlt:=R.lt;have lnl:∀hsX:List Int,hsX.Perm hs->(LN wi hi hsX ks us ts es st).length<=120:=λ hsX p=>by rw [Lv,Lv];exact wJ (R.gd.perm p)
  refine aZ (λ v H'=> ∃q,v=.ref q/\H q=none/\H' q=some (.lst (LN wi hi hs' ks us ts es st))/\ag H H') (λ Q z=>cb (ac (ab rfl) (ac (ab rfl) (ac (ab rfl) (ac (ab rfl) (ac (ab rfl) ar))))) ⟨d,pl,kd,rd,td,ed,wi,hi,hs,ks,us,ts,es,st,rfl,sg _ _ R.ho,R.pt.same sg,R.gd,hlt,λ q hs1 H' p1 r1 n e s=>?_⟩) ?_
  ·obtain rfl:=qj r1 R.ga.bd.srt (p1.trans R.pm.symm);exact z _ _ ⟨q,rfl,n,e,s⟩
  rintro _ H1 ⟨q1,rfl,n1,e1,s1⟩;have g1:=sg.trans s1;have ga1:=R.ga.same g1;refine aZ (λ v H'=> ∃q,v=.ref q/\H1 q=none/\H' q=some (.lst (LN wi hi hs' ks us ts es st))/\ag H1 H') (λ Q z=>cb (ac (ab rfl) ar) ⟨g,b,wi,hi,hs',ks,us,ts,es,st,rfl,ga1.gm,ga1.bd,ga1.ur,ga1.tr,ga1.er,R.gd.perm R.pm,λ q H' n e s=>z _ _ ⟨q,rfl,n,e,s⟩⟩) ?_;rintro _ H2 ⟨q2,rfl,n2,e2,s2⟩;refine bq (b:=false) (fu (a:=false) (b:=false) (cw (b:=true) (bF (wT (ab rfl) e2))) (λ _=>bF (wP (k:=true) (ab rfl) (ab rfl) (iR (n:=19) (aI.of e2) (aI.of (s2 _ _ e1)) sJ)))) (λ h=>nomatch h) (λ _=>?_);have l120:=lnl hs' R.pm;refine qi (ab rfl) ao e2 (by rw [sizeLine_eq];omega) ?_;have r3:ag H1 (upd H2 q2 (.lst (LN wi hi hs' ks us ts es st++[.str ""]))):=s2.put n2;have e3:(upd H2 q2 (.lst (LN wi hi hs' ks us ts es st++[.str ""]))) q2=some (.lst (LN wi hi hs' ks us ts es st++[.str ""])):=ae;generalize upd H2 q2 (.lst (LN wi hi hs' ks us ts es st++[.str ""]))=H3 at r3 e3 ⊢;have K1:=KO.same s1;have K3:=K1.same r3;refine xm (ab rfl) ⟨_,K3.at_⟩ (Dv (ab rfl) (ab rfl) (.inl (aI.of e3)) λ cc hcc tt htt=>?_);have rc:=(ag.refl H3).upd (o:=.lst (LN wi hi hs' ks us ts es st++[.str ""])) hcc;have ec:(upd H3 cc (.lst (LN wi hi hs' ks us ts es st++[.str ""]))) cc=some (.lst (LN wi hi hs' ks us ts es st++[.str ""])):=ae;generalize upd H3 cc (.lst (LN wi hi hs' ks us ts es st++[.str ""]))=H4 at rc ec htt ⊢;have rt:=(ag.refl H4).upd (o:=.tup [.ref q2,.ref cc]) htt;have et:(upd H4 tt (.tup [.ref q2,.ref cc])) tt=some (.tup [.ref q2,.ref cc]):=ae;generalize upd H4 tt (.tup [.ref q2,.ref cc])=H5 at rt et ⊢;have r15:=r3.trans (rc.trans rt);refine ⟨els,(K1.same r15).at_,by rw [sizeLine_eq];omega,?_⟩;have KF:=K1.add (t:=tt) (f:=q2) (c:=cc) r15 (am (rc _ _ K3.at_) htt).symm (am K1.at_ n2).symm (am K3.at_ hcc).symm et ((rc.trans rt) _ _ e3) (rt _ _ ec) (λ x hx=>by
   rcases LK.mp hx with z | z
   ·exact sJ x z
   ·rw [LF.mp z];rfl)
  have g6:ag G (upd H5 kl (.lst (els++[.ref tt]))):=(g1.trans r15).put nk;have e6:(upd H5 kl (.lst (els++[.ref tt]))) q1=some (.lst (LN wi hi hs' ks us ts es st)):=by rw [ah (am KO.at_ n1).symm];exact r15 _ _ e1
  generalize upd H5 kl (.lst (els++[.ref tt]))=H6 at KF g6 e6 ⊢;dsimp only;show bg _ _ _ [oR g,oJ wi,oJ hi,oR d,oR pl,oT st,oR kl,oR q1,oR q2,none,none,none,none] H6;have hoA:∀{H'},ag H6 H'->H' d=some (.lst (hs.map V.int)):=λ s=>(g6.trans s) _ _ R.ho;have big:(10:Nat) ^ 60 > 100:=by decide
  refine aZ (λ v H'=> ∃q,v=.ref q/\H' q=some (.lst ([V.str (lnT (boardL wi hi))]++hs.map λ h=>V.str (lnT (bO h))))/\ag H6 H') (λ Q z=>?_) ?_
  ·refine jD (oi (lo:=none) (hi:=some 1) (ab rfl) oK (oM ao) (aI.of e6) λ p1 h1=>?_);rw [Df,lW];have r1:=(ag.refl H6).upd (o:=.lst [V.str (lnT (boardL wi hi))]) h1;have f1:(upd H6 p1 (.lst [V.str (lnT (boardL wi hi))])) p1=some (.lst [V.str (lnT (boardL wi hi))]):=ae;show tComp _ _ _ _ _ _ (upd H6 p1 (.lst [V.str (lnT (boardL wi hi))])) _;generalize upd H6 p1 (.lst [V.str (lnT (boardL wi hi))])=H7 at r1 f1 ⊢;refine iS (rest:=[]) (V0:=V.int) (ab rfl) (aI.of (hoA r1)) (by omega) rfl (λ h=>lnT (bO h)) (λ h hh H' s Q z=>?_) λ H8 d' s8 hd'=>?_
   ·have hr':=R.gd.hh h hh;have a3:=pV (n:=h) (by omega) (by omega);have a5:("hole ":Str).length=5:=by decide
    refine (cK (z:="hole ") ao (sK (ab rfl) (lD (by omega))) (by rw [a5,sizeLine_eq];show 5+(nT h).length<=_;omega)) _ ?_;have e:("hole ":Str)++(Str.ofString (toString h))=lnT (bO h):=qP _;rw [e];exact z H' (ag.refl _)
   ·have sd:=s8.upd (o:=.lst (hs.map λ h=>V.str (lnT (bO h)))) hd';exact hG (sd _ _ f1) ae (by rw [Lv];show 1+_<=1000;omega) λ p hp=>z _ _ ⟨p,rfl,ae,(r1.trans sd).upd hp⟩
  rintro _ H7 ⟨q7,rfl,e7,s7⟩;refine aZ (λ v H'=> ∃q,v=.ref q/\H' q=some (.lst (LN wi hi hs ks us ts es st))/\ag H7 H') (λ Q z=>?_) ?_
  ·refine jD ((show Ev (bE 9) _ H7 (.ref q7) from ab rfl) _ (oi (lo:=some ((1+hs.length:Nat):Int)) (hi:=none) (ab rfl) (oM ?_) oK (aI.of (s7 _ _ e6)) λ p1 h1=>?_))
   ·have z:=cE (σ:=[oR g,oJ wi,oJ hi,oR d,oR pl,oT st,oR kl,oR q1,oR q2,oR q7,none,none,none]) (H:=H7) (ta:=tC (.int 1)) (tb:=L2.cB (m8 K) (bi (bE 3) cn)) (i:=1) ao (dG (ab rfl) (.inl (aI.of (hoA s7))));rw [Lv] at z;have e:((1+hs.length:Nat):Int)=1+(hs.length:Int):=by omega
    rw [e];exact z
   ·have lh:hs'.length=hs.length:=R.pm.length_eq;have hd:(LN wi hi hs' ks us ts es st).drop (1+hs.length)=JS ks us ts es st:=by rw [lW];refine List.drop_left' ?_;rw [Lz,Lv,lh];rfl
    have hle:1+hs.length<=(LN wi hi hs' ks us ts es st).length:=by rw [lW,Lz,Lz,Lv,lh];show 1+hs.length<=1+hs.length+_;omega
    rw [Lb _ hle,hd];have r1:=(ag.refl H7).upd (o:=.lst (JS ks us ts es st)) h1;have l2:=lnl hs (List.Perm.refl _);rw [lW,Lz] at l2;refine hG (r1 _ _ e7) ae (by omega) λ p hp=>z _ _ ⟨p,rfl,?_,r1.upd hp⟩;rw [ae,lW]
  rintro _ H8 ⟨q8,rfl,e8,s8⟩;show bg _ _ _ [oR g,oJ wi,oJ hi,oR d,oR pl,oT st,oR kl,oR q1,oR q2,oR q8,none,none,none] H8;have g8:=g6.trans (s7.trans s8);have e18:=(s7.trans s8) _ _ e6;refine c9 (λ σ' H'=>ag H8 H') (λ K' hK=>?_) ?_
  ·refine km (K:=K) (λ v H'=> ∃q,v=.ref q/\H' q=some (.lst [.ref q1,.ref q8])/\ag H8 H') (λ Q z=>fV (ay (ab rfl) (ay (ab rfl) (bZ ⟨by show 2<=sizeLine;decide,λ p hp=>z _ _ ⟨p,rfl,ae,(ag.refl H8).upd hp⟩⟩)))) ?_;rintro _ H9 ⟨q9,rfl,e9,s9⟩;refine ⟨q9,[.ref q1,.ref q8],rfl,aI.of e9,λ i σ' H'=>(∃o10 o11 o12,σ'=[oR g,oJ wi,oJ hi,oR d,oR pl,oT st,oR kl,oR q1,oR q2,oR q8,o10,o11,o12])/\ag H9 H',⟨⟨_,_,_,rfl⟩,ag.refl _⟩,?_,?_,?_⟩
   ·rintro i σ' H' _ ⟨_,s⟩;exact aI.of (s _ _ e9)
   ·rintro i x _ HA hx ⟨⟨o10,o11,o12,rfl⟩,sA⟩;obtain ⟨tx,hsX,pX,rfl,eX⟩:∃(tx:Addr) (hsX:List Int),hsX.Perm hs/\x=.ref tx/\H8 tx=some (.lst (LN wi hi hsX ks us ts es st)):=by
     rcases i with _ | _ | i
     ·exact ⟨q1,hs',R.pm,(Option.some.inj hx).symm,e18⟩
     ·exact ⟨q8,hs,List.Perm.refl _,(Option.some.inj hx).symm,e8⟩
     ·cases hx
    have s8A:=s9.trans sA;have gA:=g8.trans s8A;show bg _ _ _ [oR g,oJ wi,oJ hi,oR d,oR pl,oT st,oR kl,oR q1,oR q2,oR q8,oR tx,o11,o12] HA;refine aZ (λ v H'=> ∃q,v=.ref q/\HA q=none/\H' q=some (.lst (LN wi hi hsX ks us ts es st))/\ag HA H') (λ Q z=>C8 (ab rfl) (.inl (aI.of (s8A _ _ eX))) λ l hl=>z _ _ ⟨l,rfl,hl,ae,(ag.refl HA).upd hl⟩) ?_;rintro _ HB ⟨hq,rfl,nh,eh,sB⟩;have PT:=R.pt;refine aZ (λ v H'=> ∃(g2 b2:Addr) (hs2:List Int) (us2:List (aK×Addr)) (ts2 es2:List ((Str×Str)×Addr)),v=.ref g2/\xy K cB cG H' g2 b2 wi hi hs2 ks us us2 ts ts2 es es2 st/\hs2.Perm hs/\ag HB H') (λ Q z=>cb (ac (ab rfl) ar) ⟨hq,wi,hi,hsX,ks,_,_,_,st,rfl,eh,R.gd.perm pX,pX.nodup_iff.mpr R.nd,by rw [pX.length_eq];exact hlt,PT.kds.l1,PT.kds.nd,?_,?_,λ g2 b2 hs2 us2 ts2 es2 H' O pm2 GM um ur tm tr em er s=>z _ _ ⟨g2,b2,hs2,us2,ts2,es2,rfl,⟨GM,O,um,ur,tm,tr,em,er⟩,pm2.trans pX,s⟩⟩) ?_
    ·rw [LC];exact PT.tg.nd
    ·intro z hz y hy;obtain ⟨z',hz',rfl⟩:=Lx.mp hz;obtain ⟨y',hy',rfl⟩:=Lx.mp hy;exact PT.tg.ap z' hz' y' hy'
    rintro _ HC ⟨g2,b2,hs2,us2,ts2,es2,rfl,GA,pm2,sC⟩;show bg _ _ _ [oR g,oJ wi,oJ hi,oR d,oR pl,oT st,oR kl,oR q1,oR q2,oR q8,oR tx,oR hq,oR g2] HC;have ehC:=sC _ _ eh;refine bq (b:=false) (bF (wP (k:=true) (ab rfl) (ab rfl) (iR (n:=19) (aI.of ehC) (aI.of ((sB.trans sC) _ _ (s8A _ _ eX))) sJ))) (λ h=>nomatch h) (λ _=>?_);refine Jz (ab rfl) ehC ?_;have GD:xy K cB cG (upd HC hq (.lst [])) g2 b2 wi hi hs2 ks us us2 ts ts2 es es2 st:=by rw [lW] at ehC;exact GA.put ehC (uN wi hi)
    have sD:ag HA (upd HC hq (.lst [])):=(sB.trans sC).put nh;generalize upd HC hq (.lst [])=HD at GD sD ⊢;have gD:=gA.trans sD;obtain rfl:hs2=hs':=qj GD.bd.srt R.ga.bd.srt (pm2.trans R.pm.symm);refine wm (λ b H'=>b=false/\ag HD H') (λ Q z=>?_) (λ H' h=>by cases h.1) (λ H' h=>?_)
    ·refine orK (gu (ac (ab rfl) (ac (ab rfl) (ac (ab rfl) (ac (ab rfl) (ac (ab rfl) (ac (ab rfl) ar)))))) ⟨g2,b2,d,pl,kd,rd,td,ed,wi,hi,hs,hs2,ks,us,us2,ts,ts2,es,es2,st,rfl,GD,pm2,gD _ _ R.ho,by omega,PT.same gD,λ HE sE=>KY ?_⟩);have GE:=GD.same sE;refine qX (cb (ac (ab rfl) ar) ⟨g2,b2,wi,hi,hs2,ks,us2,ts2,es2,st,rfl,GE.gm,GE.bd,GE.ur,GE.tr,GE.er,by rw [GE.um,GE.tm,GE.em];exact R.gd.perm pm2,λ q H' n e s=>?_⟩);rw [GE.um,GE.tm,GE.em] at e;refine (show Ev (bE 7) _ H' (.ref q1) from ab rfl) _ ⟨true,iR (n:=19) (aI.of e) (aI.of (((s8A.trans sD).trans (sE.trans s)) _ _ e18)) sJ,z _ _ ⟨rfl,sE.trans s⟩⟩
    ·exact ⟨⟨_,_,_,rfl⟩,sA.trans (sD.trans h.2)⟩
   ·rintro σ' H' ⟨_,s⟩;exact hK _ _ (s9.trans s)
  intro σ' HZ sZ;exact aU ao (k _ HZ (g8.trans sZ) (KF.same ((s7.trans s8).trans sZ)) (by rw [Lz];exact M6 _))
end
end K07
namespace K07
open PySem L2
theorem dL {K:Frag}{p:Addr}{ws:List Str}(h:eG K p ws) (hl:ws.length<=1000):∀H,cg K H p (ws.map V.str):=λ H=>by obtain ⟨its,n,sl,h1,h2⟩:=h;refine .inr ⟨_,its.toArray,n,h1,rfl,rfl,?_,by simpa using h2⟩;have:=h2.length;rw [Lv] at this;rw [LB,sizeLine_eq];omega
theorem dck_mk {P:Program}{w:World}{K:Frag}{a:Addr}{es:List DictEntry}{ep:Nat}{fs:xz}(hk:K.lookup a=some ⟨.type "dict",none,.dict es.toArray ep,#[]⟩) (hs:(a == sysModules)=false) (he:Paired (λ (e:DictEntry) (z:(Str×List Str)×Addr)=>e.hash=hashStr w z.1.1/\(∃t,e.key=.str z.1.1 t)/\e.val=.ref z.2) es fs) (nd:(fs.map (·.1.1)).Nodup):Dl P w K a (fkv fs):=by
 refine ⟨hs,_,es.toArray,ep,fs.map λ z=>(.inr z.1.1,Value.ref z.2),hk,⟨rfl,rfl,rfl⟩,rfl,λ e hm=>?_,?_,?_,?_⟩
 ·have hm:e∈es:=by simpa using hm
  have:∀{es:List DictEntry} {fs:xz},Paired (λ (e:DictEntry) (z:(Str×List Str)×Addr)=>e.hash=hashStr w z.1.1/\(∃t,e.key=.str z.1.1 t)/\e.val=.ref z.2) es fs->∀e∈es,∃k,(bD P w).is k e.key=true/\e.hash=(bD P w).hash k:=λ h=>by
   induction h with
   | nil=>exact λ e h=>nomatch h
   | cons h t ih=>
     intro e hm
     rcases Lw.mp hm with rfl | hm
     ·obtain ⟨h1,⟨t,h2⟩,h3⟩:=h;exact ⟨.inr _,by rw [h2];exact gQ P w _ t,h1⟩
     ·exact ih e hm
  exact this he e hm
 ·have:∀{es:List DictEntry} {fs:xz},Paired (λ (e:DictEntry) (z:(Str×List Str)×Addr)=>e.hash=hashStr w z.1.1/\(∃t,e.key=.str z.1.1 t)/\e.val=.ref z.2) es fs->Pairs (bD P w) es (fs.map λ z=>((.inr z.1.1:Key),Value.ref z.2)):=λ h=>by
   induction h with
   | nil=>exact .nil
   | cons h t ih=>
     obtain ⟨h1,⟨t,h2⟩,h3⟩:=h;exact .cons (by rw [h2];exact gQ P w _ t) h3 ih
  simpa using this he
 ·rw [LC];have e:((λ x=>x.1)∘λ z:(Str×List Str)×Addr=>((.inr z.1.1:Key),Value.ref z.2))=(Sum.inr∘λ z:(Str×List Str)×Addr=>z.1.1):=rfl;rw [e,<-LC];rw [MN] at nd ⊢;exact Mx.mpr (nd.imp λ h e=>h (by injection e))
 ·have:∀(fs:xz),KV (fkv fs) (fs.map λ z=>((.inr z.1.1:Key),Value.ref z.2)):=λ fs=>by
   induction fs with
   | nil=>exact .nil
   | cons z fs ih=>exact .cons ⟨rfl,rfl⟩ ih
  exact this fs
abbrev Jn (b0 b1 b2 b3 b4 b5 b6 b7 b8 b9:Addr):xz:=[(("board",["board","number","number"]),b0),(("hole",["hole","number"]),b1),(("kind",["kind","letter"]),b2),(("leap",["rule","letter","aim","number","number"]),b3),(("slide",["rule","letter","aim","number","number"]),b4),(("jump",["rule","letter","aim","number","number"]),b5),(("turn",["turn","letter","letter"]),b6),(("without",["end","letter"]),b7),(("home",["end","letter"]),b8),(("stuck",["stuck","word"]),b9)]
theorem yM {K:Frag}{b0 b1 b2 b3 b4 b5 b6 b7 b8 b9:Addr}(t0:eG K b0 ["board","number","number"]) (t1:eG K b1 ["hole","number"]) (t2:eG K b2 ["kind","letter"]) (t3:eG K b3 ["rule","letter","aim","number","number"]) (t4:eG K b4 ["rule","letter","aim","number","number"]) (t5:eG K b5 ["rule","letter","aim","number","number"]) (t6:eG K b6 ["turn","letter","letter"]) (t7:eG K b7 ["end","letter"]) (t8:eG K b8 ["end","letter"]) (t9:eG K b9 ["stuck","word"]):∀z∈Jn b0 b1 b2 b3 b4 b5 b6 b7 b8 b9,∀H,cg K H z.2 (z.1.2.map V.str):=λ z hz=>by
 simp only [Lw,LO,or_false] at hz
 rcases hz with rfl | rfl | rfl | rfl | rfl | rfl | rfl | rfl | rfl | rfl
 ·exact dL t0 (by simp)
 ·exact dL t1 (by simp)
 ·exact dL t2 (by simp)
 ·exact dL t3 (by simp)
 ·exact dL t4 (by simp)
 ·exact dL t5 (by simp)
 ·exact dL t6 (by simp)
 ·exact dL t7 (by simp)
 ·exact dL t8 (by simp)
 ·exact dL t9 (by simp)
theorem IL {H:Hp}{pl kd rd td ed:Addr}{ks:List Nat}{us:List (aK×Addr)}{ts es:List ((Str×Str)×Addr)}(G:jq H pl kd rd td ed ks us ts es):dt H 1 (.ref kd)/\dt H 2 (.ref rd)/\dt H 2 (.ref td)/\dt H 2 (.ref ed):=by
 have o1:∀k:Nat,(one k).length<=1000:=λ k=>by show 1<=1000;decide
 refine ⟨wv G.kds,vy G.rls G.ra G.rg,mJ G.tns G.ta λ z hz=>?_,mJ G.ens G.ea λ z hz=>?_⟩
 ·obtain ⟨⟨a,_,ea⟩,b,_,eb⟩:=G.tg.kd z hz;rw [ea,eb];exact ⟨o1 a,o1 b⟩
 ·obtain ⟨ha,b,_,eb⟩:=G.eg.kd z hz;rw [eb];exact ⟨(by decide:∀s∈d0,s.length<=1000) _ ha,o1 b⟩
theorem IM {H:Hp}{pl kd rd td ed:Addr}{ks:List Nat}{us:List (aK×Addr)}{ts es:List ((Str×Str)×Addr)}(G:jq H pl kd rd td ed ks us ts es):jf H (.ref kd)=true/\dA H (.ref rd) (ks.map one)=true/\eB H (.ref td) (ks.map one)=true/\pairsB H (.ref ed) d0 (ks.map one)=true:=
 ⟨lG G.kds.at_ G.kds.ltr G.kds.nd G.kds.l1 G.kds.l6,ly G.rls G.ra G.rg G.rl,li G.tns G.ta G.tg,jc G.ens G.ea (λ z hz=>by
  obtain ⟨ha,b,hb,eb⟩:=G.eg.kd z hz;exact ⟨ha,by rw [eb];exact Lx.mpr ⟨b,hb,rfl⟩⟩) G.eg.len⟩
theorem v8 {K:Frag}{cG:Addr}{H:Hp}{pl kd rd td ed x dx b:Addr}{ks:List Nat}{us:List (aK×Addr)}{ts es:List ((Str×Str)×Addr)}{st:Str}{Q:VK}(G:jq H pl kd rd td ed ks us ts es) (hst:st∈bN) (nx:H x=none) (nd:H dx=none) (ne:dx≠x) (q:∀H',fo cG H' x b (ks.map cj) (dZ us) (bv ts) (bv es) st->ag H H'->Q (.ref x) H'):
  jP K cG [.ref x,.ref b,.ref kd,.ref rd,.ref td,.ref ed,.str st] (upd (upd H dx (.own x)) x (.ins cG dx [])) (λ v H2=>v=.non/\Q (.ref x) H2) E0:=by
 have s1:ag H (upd (upd H dx (.own x)) x (.ins cG dx [])):=((ag.refl H).upd nd).upd (by rw [ah (Ne.symm ne)];exact nx);have G1:=G.same s1;obtain ⟨t1,t2,t3,t4⟩:=IL G1;obtain ⟨b1,b2,b3,b4⟩:=IM G1;have e:(ks.map one).map V.str=ks.map cj:=by rw [LC];rfl
 refine ⟨x,b,kd,rd,td,ed,dx,ks.map one,_,_,_,st,rfl,ae,by rw [e];exact G1.kds.at_,G1.rls,G1.tns,G1.ens,t1,t2,t3,t4,b1,b2,b3,b4,hst,(by decide:∀s∈bN,s.length<=1000) _ hst,λ H' gm sb=>⟨rfl,q H' ?_ (eT (ag.refl H) nx nd sb)⟩⟩;rw [e] at gm;exact gm
theorem wI {H:Hp}{pl kd rd td ed:Addr}{wi hi:Int}{hs:List Int}{ks:List Nat}{us:List (aK×Addr)}{ts es:List ((Str×Str)×Addr)}{st:Str}(G:jq H pl kd rd td ed ks us ts es) (w1:1<=wi) (w8:wi<=8) (h1:1<=hi) (h8:hi<=8) (hh:∀h∈hs,0<=h/\h<wi*hi) (hl:hs.length<=64) (hst:st∈bN):uW wi hi hs ks (us.map (·.1)) (ts.map (·.1)) (es.map (·.1)) st:=
 ⟨w1,w8,h1,h8,hh,hl,G.kds.l6,G.kds.ltr,by rw [Lv];exact G.rl,λ u hu=>by
  obtain ⟨z,hz,rfl⟩:=Lx.mp hu;exact G.rg z hz,by rw [Lv];exact G.tg.len,λ u hu=>by
  obtain ⟨z,hz,rfl⟩:=Lx.mp hu;exact G.tg.kd z hz,by rw [Lv];exact G.eg.len,λ u hu=>by
  obtain ⟨z,hz,rfl⟩:=Lx.mp hu;exact G.eg.kd z hz,hst⟩
theorem Ee {K:Frag}{t:TA}{ti:TE}{σ:St}{H:Hp}{Q:VK}{vs:List V}{v:V}{i:Int}(h:Av t σ H vs) (hz:vs.length<=1000) (hi:∀H',ag H H'->Ev ti σ H' (.int i)) (e:kA vs i=some v) (q:∀H',ag H H'->Q v H'):kE K (qf t) ti σ H Q:=h _ ⟨M7 hz (by decide),λ p hp=>hi _ ((ag.refl H).upd hp) _ ⟨vs,v,.inl (aI.of ae),e,q _ ((ag.refl H).upd hp)⟩⟩
structure CL (P:Program) (w:World) (K:Frag) (mg:Str->Option Value) (base:Heap) (cB cG:Addr):Prop where
 _law_at:eA P w K mg base "_law_at" ["_law_script","_law_k"] 1 (kG K)
 _law_side:eA P w K mg base "_law_side" ["_law_cell"] 1 vp
 _law_holes:eA P w K mg base "_law_holes" ["_law_script","_law_k","_law_many"] 2 (n9 K)
 _law_parts:eA P w K mg base "_law_parts" ["_law_script","_law_k"] 3 (CV K)
 _law_right:eA P w K mg base "_law_right" ["_law_game","_law_wide","_law_high","_law_holes_here","_law_parts_here","_law_stuck","_law_kept"] 9 (rK K cB cG)
 Board:kD P w K mg base "Board" cB ["self","wide","high","holes"] 4 (l9 K cB)
 Game:kD P w K mg base "Game" cG ["self","board","kinds","rules","turns","ends","stuck"] 6 (jP K cG)
def rN (K:Frag):Sp:=λ vs H Q _=> ∃(a:Addr) (ns:List Int),vs=[.ref a]/\aI K H a (ns.map V.int)/\ns.length<=63/\∀H',Q (.bl true) H'
section
variable {P:Program}{w:World}{K:Frag}{mg:Str->Option Value}{base:Heap}{aS aA aE aW aO aF:Addr}
theorem D9 {f cB cG:Addr}{fd:FuncData}(F:bX K "law" "law" ia f fd) (T:Txt mg aS aA aE aW aO aF) (C:CL P w K mg base cB cG):bj P w K mg base eI 10 f fd ["_law_script"] (rN K):=by
 refine F.ok eV (λ vs H Q E h=>?_) (λ cdv A outer s H vs Q E hr h=>?_)
 ·obtain ⟨a,ns,rfl,_⟩:=h;rfl
 ·obtain ⟨a,ns,rfl,hS,hlen,k⟩:=h;have hu:=cq hr;refine ⟨_,(aa (av (i:=1) eV.nd rfl (Or.inl rfl) (aD C._law_side hr (au (aD C._law_at hr (au (cv 0) (au af pa_nil))) pa_nil)))
   (aa (av (i:=2) eV.nd rfl (Or.inl rfl) (aD C._law_side hr (au (aD C._law_at hr (au (cv 0) (au af pa_nil))) pa_nil)))
   (aa (av (i:=3) eV.nd rfl (Or.inl rfl) (aD C._law_holes hr (au (cv 0) (au af (au (aq (cv 1) (cv 2)) pa_nil)))))
   (aa (av (i:=4) eV.nd rfl (Or.inl rfl) (aD C._law_parts hr (au (cv 0) (au af pa_nil))))
   (aa (av (i:=5) eV.nd rfl (Or.inl rfl) (aD C._law_parts hr (au (cv 0) (au af pa_nil))))
   (aa (av (i:=6) eV.nd rfl (Or.inl rfl) (cx K (bu (dD rfl)) (aq (aD C._law_at hr (au (cv 0) (au af pa_nil))) af)))
   (aa (av (i:=7) eV.nd rfl (Or.inl rfl) (lF C.Game hr (au (lF C.Board hr (au (cv 1) (au (cv 2) (au (pe (kh K) dP T.list (au (cv 3) pa_nil)) pa_nil)))) (au (cx K (cv 4) af) (au (cx K (cv 4) af) (au (cx K (cv 4) af) (au (cx K (cv 4) af) (au (cv 6) pa_nil))))))))
   (aa (av (i:=8) eV.nd rfl (Or.inl rfl) (lF C.Game hr (au (lF C.Board hr (au (cv 2) (au (cv 1) (au (bu pa_nil) pa_nil)))) (au (cx K (cv 5) af) (au (cx K (cv 5) af) (au (cx K (cv 5) af) (au (cx K (cv 5) af) (au aH pa_nil))))))))
   (aa (av (i:=9) eV.nd rfl (Or.inl rfl) (bu pa_nil))
   (aa (gL PassesOwn.never rfl (Ef T.range (au af pa_nil)) (dO (i:=10) eV.nd rfl (Or.inl rfl)) (aa (bf (bm (bh (aD C._law_right hr (au (cv 7) (au (cv 1) (au (cv 2) (au (cv 3) (au (cv 4) (au (cv 6) (au (cv 9) pa_nil)))))))))) (aj (az c8)) aC)
   (aj (bf (bm (bh (aD C._law_right hr (au (cv 8) (au (cv 2) (au (cv 1) (au (bu pa_nil) (au (cv 5) (au aH (au (cv 9) pa_nil)))))))))) (aj (az c8)) aC))))
   (aj (az (gS K hu (cz (bp (N:=["_law_pair"]) (src:=[none]) (ak ia) ["_law_script","_law_wide","_law_high","_law_holes_here","_law_parts_here","_law_others","_law_stuck","_law_game","_law_other","_law_kept","_law_turn"]) (jL K (cv 9)) (λ _ _ _=>(aL (i:=0) ["_law_pair"])) (λ _ _ _=>(vT (bz K hu (cx K (cv 0) af) (cx K (cv 0) af)))) (λ _ _ _=>(cv 0))) (bu pa_nil)))))))))))))),?_⟩
  show bg _ _ _ [oR a,none,none,none,none,none,none,none,none,none,none] H;refine aZ (λ v H'=> ∃z:Int,v=.int z/\1<=z/\z<=8/\H'=H) (λ Q q=>cb (ac (aM (ac (ab rfl) (ac ao ar)) (λ Q q=>⟨a,ns,0,rfl,hS,by decide,by decide,q⟩)) ar) ⟨_,rfl,(iO ns 0).1,λ z a b=>q _ _ ⟨z,rfl,a,b,rfl⟩⟩) ?_;rintro _ H1 ⟨wi,rfl,w1,w8,rfl⟩;refine aZ (λ v H'=> ∃z:Int,v=.int z/\1<=z/\z<=8/\H'=H1) (λ Q q=>cb (ac (aM (ac (ab rfl) (ac ao ar)) (λ Q q=>⟨a,ns,1,rfl,hS,by decide,by decide,q⟩)) ar) ⟨_,rfl,(iO ns 1).1,λ z a b=>q _ _ ⟨z,rfl,a,b,rfl⟩⟩) ?_;rintro _ H2 ⟨hi,rfl,h1,h8,rfl⟩;have m1:wi*hi<=8*8:=Nq w8 h8 (by omega) (by omega);have m0:1*1<=wi*hi:=Nq w1 h1 (by omega) (by omega);have cm:hi*wi=wi*hi:=Int.mul_comm _ _;refine aZ (λ v H'=> ∃(d:Addr) (hs:List Int),v=.ref d/\H' d=some (.lst (hs.map V.int))/\(∀h∈hs,0<=h/\h<wi*hi)/\hs.Nodup/\(hs.length:Int)<wi*hi/\ag H2 H') (λ Q q=>cb (ac (ab rfl) (ac ao (ac (gq (ab rfl) (ab rfl) (.inl ⟨by omega,by omega⟩)) ar))) ⟨a,ns,2,wi*hi,rfl,hS,by decide,by decide,by omega,by omega,λ d hs H' z1 z2 z3 z4 z5 z6=>q _ _ ⟨d,hs,rfl,z2,z3,z4,z5,z6⟩⟩) ?_;rintro _ H3 ⟨d,hs,rfl,ed3,gd,nd,ln,s3⟩;refine aZ (λ v H'=> ∃(pl kd rd td ed:Addr) (ks:List Nat) (us:List (aK×Addr)) (ts es:List ((Str×Str)×Addr)),v=.ref pl/\jq H' pl kd rd td ed ks us ts es/\ag H3 H') (λ Q z=>cb (ac (ab rfl) (ac ao ar)) ⟨a,ns,4,rfl,s3.seq hS,by decide,by decide,λ pl kd rd td ed ks us ts es H' G _ _ _ _ _ s=>z _ _ ⟨pl,kd,rd,td,ed,ks,us,ts,es,rfl,G,s⟩⟩) ?_;rintro _ H4 ⟨pl,kd,rd,td,ed,ks,us,ts,es,rfl,G,s4⟩;have s24:=s3.trans s4;refine aZ (λ v H'=> ∃(pl kd rd td ed:Addr) (ks:List Nat) (us:List (aK×Addr)) (ts es:List ((Str×Str)×Addr)),v=.ref pl/\jq H' pl kd rd td ed ks us ts es/\ag H4 H') (λ Q z=>cb (ac (ab rfl) (ac ao ar)) ⟨a,ns,40,rfl,s24.seq hS,by decide,by decide,λ pl kd rd td ed ks us ts es H' G _ _ _ _ _ s=>z _ _ ⟨pl,kd,rd,td,ed,ks,us,ts,es,rfl,G,s⟩⟩) ?_;rintro _ H5 ⟨pl',kd',rd',td',ed',ks',us',ts',es',rfl,G',s5⟩;have s25:=s24.trans s5;refine aZ (λ v H'=> ∃st,v=.str st/\st∈bN/\ag H5 H') (λ Q z=>?_) ?_
  ·have c0:=(iO ns 35).1;obtain ⟨st,e,hst⟩:=rZ (ss:=bN) (i:=lawAt ns 35 % 3) (by omega) (by show _<(3:Int);omega);exact Ee jE (by decide) (λ H' s=>bA (aM (sp:=kG K) (ac (ab rfl) (ac ao ar)) (λ Q q=>⟨a,ns,35,rfl,(s25.trans s).seq hS,by decide,by decide,q⟩)) ao (by decide)) e (λ H' s=>z _ _ ⟨st,rfl,hst,s⟩)
  rintro _ H6 ⟨st,rfl,hst,s6⟩;have s36:=(s4.trans s5).trans s6;have G6:=G.same (s5.trans s6);have G6':=G'.same s6;show bg _ _ _ [oR a,oJ wi,oJ hi,oR d,oR pl,oR pl',oT st,none,none,none,none] H6;refine aZ (λ v H'=> ∃(x b:Addr) (hs':List Int),v=.ref x/\hs'.Perm hs/\eM K cB H' b wi hi hs'/\fo cG H' x b (ks.map cj) (dZ us) (bv ts) (bv es) st/\ag H6 H') (λ Q z=>?_) ?_
  ·refine E1 (bR (E1 (ay (ab rfl) (ay (ab rfl) (bR (C8 (ab rfl) (.inl (aI.of (s36 _ _ ed3))) λ dl hdl=>bZ λ x dx nx ndx ne=>?_))))));have ed:(upd H6 dl (.lst (hs.map V.int))) dl=some (.lst (hs.map V.int)):=ae;have sd:=(ag.refl H6).upd (o:=.lst (hs.map V.int)) hdl;refine ⟨x,dl,dx,wi,hi,hs,rfl,ae,by rw [ah (am ed nx),ah (am ed ndx)];exact ed,w1,w8,h1,h8,gd,nd,ln,λ hs' H7 pm O sb=>⟨rfl,?_⟩⟩;have s7:=eT sd nx ndx sb;have L7:aI K H7 pl [.ref kd,.ref rd,.ref td,.ref _]:=aI.of (G6.same s7).at_;exact ay (ba (x:=.ref kd) (ab rfl) ao (.inl L7) rfl) (ay (ba (x:=.ref rd) (ab rfl) ao (.inl L7) rfl) (ay (ba (x:=.ref td) (ab rfl) ao (.inl L7) rfl) (ay (ba (ab rfl) ao (.inl L7) rfl) (ay (ab rfl) (bZ λ y dy ny ndy ney=>v8 (G6.same s7) hst ny ndy ney λ H' gm s=>z _ _ ⟨y,x,hs',rfl,pm,O.same s,gm,s7.trans s⟩)))))
  rintro _ H7 ⟨gx,bx,hs',rfl,pm,O7,GM7,s7⟩;refine aZ (λ v H'=> ∃(x b:Addr) (hs':List Int),v=.ref x/\hs'.Perm []/\eM K cB H' b hi wi hs'/\fo cG H' x b (ks'.map cj) (dZ us') (bv ts') (bv es') "won"/\ag H7 H') (λ Q z=>?_) ?_
  ·refine E1 (bR (E1 (ay (ab rfl) (ay (ab rfl) (bR (fV (bZ ⟨M9 _,λ dl hdl=>bZ λ x dx nx ndx ne=>?_⟩)))))));have ed:(upd H7 dl (.lst [])) dl=some (.lst (([]:List Int).map V.int)):=ae;have sd:=(ag.refl H7).upd (o:=.lst []) hdl;refine ⟨x,dl,dx,hi,wi,[],rfl,ae,by rw [ah (am ed nx),ah (am ed ndx)];exact ed,h1,h8,w1,w8,(λ h hh=>by cases hh),MB,by rw [cm];show (0:Int)<_;omega,λ hs' H8 pm O sb=>⟨rfl,?_⟩⟩;have s8:=eT sd nx ndx sb;have G8:=G6'.same (s7.trans s8);have L8:aI K H8 pl' [.ref kd',.ref rd',.ref td',.ref ed']:=aI.of G8.at_;exact ay (ba (x:=.ref kd') (ab rfl) ao (.inl L8) rfl) (ay (ba (x:=.ref rd') (ab rfl) ao (.inl L8) rfl) (ay (ba (x:=.ref td') (ab rfl) ao (.inl L8) rfl) (ay (ba (x:=.ref ed') (ab rfl) ao (.inl L8) rfl) (ay ao (bZ λ y dy ny ndy ney=>v8 G8 (by decide) ny ndy ney λ H' gm s=>z _ _ ⟨y,x,hs',rfl,pm,O.same s,gm,s8.trans s⟩)))))
  rintro _ H8 ⟨gy,bY,hs8,rfl,pm8,O8,GM8,s8⟩;have G8:=G6.same (s7.trans s8);have G8':=G6'.same (s7.trans s8);have R1:ET K cB cG H8 gx bx d pl kd rd td ed wi hi hs hs' ks us ts es st:=⟨⟨GM7.same s8,O7.same s8,rfl,G8.ra,rfl,G8.ta,rfl,G8.ea⟩,pm,((s36.trans s7).trans s8) _ _ ed3,G8,wI G8 w1 w8 h1 h8 gd (by omega) hst,nd,ln⟩;refine qg λ kl hkl=>?_;have sk:ag H8 (upd H8 kl (.lst [])):=(ag.refl H8).upd hkl;have ek:(upd H8 kl (.lst [])) kl=some (.lst []):=ae;generalize upd H8 kl (.lst [])=H9 at sk ek ⊢;refine c9 (λ σ' H'=> ∃els o10,σ'=[oR a,oJ wi,oJ hi,oR d,oR pl,oR pl',oT st,oR gx,oR gy,oR kl,o10]/\gF H' kl els/\els.length<=4) (λ K' hK=>?_) ?_
  ·refine pr 2 (λ Q q=>(ac ao ar) _ q) (by decide) (by decide)
    (λ i σ' H'=> ∃els o10,σ'=[oR a,oJ wi,oJ hi,oR d,oR pl,oR pl',oT st,oR gx,oR gy,oR kl,o10]/\ag H8 H'/\gF H' kl els/\els.length<=2*i)
    ⟨[],_,rfl,sk,⟨ek,λ e he=>by cases he⟩,M6 _⟩ ?_ (λ σ' H' h=>?_)
   ·rintro i _ L0 hi' ⟨els,o10,rfl,t0,KO,z0⟩;have i2:i<2:=hi';show bg _ _ _ [oR a,oJ wi,oJ hi,oR d,oR pl,oR pl',oT st,oR gx,oR gy,oR kl,oJ (0+(i:Int))] L0;refine eC (λ b H'=>b=false/\ag H8 H'/\∃els',gF H' kl els'/\els'.length<=els.length+1) (λ Q z=>?_) (λ H' h=>by cases h.1) (λ L1 h=>?_)
    ·exact gu (ac (ab rfl) (ac (ab rfl) (ac (ab rfl) (ac (ab rfl) (ac (ab rfl) (ac (ab rfl) (ac (ab rfl) ar))))))) ⟨H8,gx,bx,d,pl,kl,kd,rd,td,ed,wi,hi,hs,hs',ks,us,ts,es,st,els,rfl,t0,hkl,R1,KO,by omega,λ els' H' s kk ll=>z _ _ ⟨rfl,s,els',kk,ll⟩⟩
    obtain ⟨_,t1,els1,K1,z1⟩:=h;refine wm (λ b H'=>b=false/\ag H8 H'/\∃els',gF H' kl els'/\els'.length<=els1.length+1) (λ Q z=>?_) (λ H' h=>by cases h.1) (λ L2 h=>?_)
    ·refine yT (ay (ab rfl) (ay (ab rfl) (ay (ab rfl) (bR (fV (bZ ⟨M9 _,λ d2 hd2=>ay (ab rfl) (ay ao (ay (ab rfl) (bZ ?_)))⟩))))));have nd2:H8 d2=none:=t1.free hd2;have sX:ag H8 (upd H8 d2 (.lst [])):=(ag.refl H8).upd nd2;have sY:ag (upd H8 d2 (.lst [])) (upd L1 d2 (.lst [])):=λ x o h=>by
      by_cases e:x=d2
      ·subst e;rw [ae] at h ⊢;exact h
      ·rw [ah e] at h ⊢;exact t1 _ _ h
     have nkl:kl≠d2:=am K1.at_ hd2;have R2:ET K cB cG (upd H8 d2 (.lst [])) gy bY d2 pl' kd' rd' td' ed' hi wi [] hs8 ks' us' ts' es' "won":=⟨⟨GM8.same sX,O8.same sX,rfl,G8'.ra.same sX,rfl,G8'.ta.same sX,rfl,G8'.ea.same sX⟩,pm8,ae,G8'.same sX,wI G8' h1 h8 w1 w8 (λ h hh=>by cases hh) (by decide) (by decide),MB,by rw [cm];show (0:Int)<_;omega⟩;exact ⟨upd H8 d2 (.lst []),gy,bY,d2,pl',kl,kd',rd',td',ed',hi,wi,[],hs8,ks',us',ts',es',"won",els1,rfl,sY,by rw [ah nkl];exact hkl,R2,K1.same ((ag.refl L1).upd hd2),by omega,λ els' H' s kk ll=>z _ _ ⟨rfl,sX.trans s,els',kk,ll⟩⟩
    obtain ⟨_,t2,els2,K2,z2⟩:=h;exact ⟨els2,_,rfl,t2,K2,by omega⟩
   ·obtain ⟨els,o10,e,_,kk,z⟩:=h;exact hK _ _ ⟨els,o10,e,kk,by have:(2:Int).toNat=2:=rfl;omega⟩
  rintro _ H12 ⟨els,o10,rfl,KO,l12⟩;show dw _ _ _ _;refine fB (d:=kl) (xs:=els) (rest:=[]) (ab rfl) (aI.of KO.at_) (by rw [sizeLine_eq];omega) rfl (λ _=>false) (λ v=>v) (λ x hx=>?_) (λ x hx h=>by cases h) (λ d' hd'=>?_)
  ·obtain ⟨t,f,c,zs,rfl,_,_,_,h5,h6,h7,h8⟩:=KO.all x hx;show Tv _ _ _ (!true);exact bF (EA (ba (ab rfl) ao (.inr (cg.of h5)) (bo (j:=0) rfl)) (ba (ab rfl) ao (.inr (cg.of h5)) (bo (j:=1) rfl)) (iR (aI.of h6) (aI.of h7) h8))
  ·have e:(els.filter λ _=>false).map (λ v=>v)=[]:=by simp
   rw [e];refine ⟨M9 _,λ q2 hq2=>?_⟩;show bb K .Eq (V.ref d') (V.ref q2) _ _;rw [rV];have ne:d'≠q2:=am ae hq2;exact ⟨true,wW (xs:=[]) (aI.of (by rw [ah ne,ae])) (aI.of ae) rfl,k _⟩
end
end K07
namespace L2
open PySem PySem.W PyProof.Rows
theorem uZ {q:Program}{loose:List Str}{XP:(Str->Option Value)->Heap->Prop}{YP:World->Heap->Prop}{α:Type}{Yf:Shared->α}{Ya:World->α}{r:RowW}{d:DefRec}{kwd:List (Str×Expr)}{run:Value->List Value->Sem Value}
  (hY:∀(w:World) (s₀ s₁:Shared),Yf s₀=Ya w->(∀b o,s₀.heap.get? b=some o->s₁.heap.get? b=some o)->YP w s₁.heap) (h:WalkO q loose XP YP r d kwd run):PySem.W.WalkX q loose XP Yf Ya r d kwd run:=
 λ w s₀ s₁ mg mb G y a o pm cd doc dV kV ho hd hcd hD hmg hg args vals as L hpre hlay hrd hwl hlo=>h w s₀ s₁ mg mb G (hY w s₀ s₁ y L.keeps) a o pm cd doc dV kV ho hd hcd hD hmg hg args vals as hpre hlay hrd hwl hlo
theorem uh {P:List Value->Prop}(h:∀a0:Value,P [a0]):∀us:List Value,us.length=1->P us
 | [a0],_=>h a0
theorem ug {P:List Value->Prop}(h:∀a0 a1:Value,P [a0,a1]):∀us:List Value,us.length=2->P us
 | [a0,a1],_=>h a0 a1
theorem yp {P:List Value->Prop}(h:∀a0 a1 a2:Value,P [a0,a1,a2]):∀us:List Value,us.length=3->P us
 | [a0,a1,a2],_=>h a0 a1 a2
theorem ln4 {P:List Value->Prop}(h:∀a0 a1 a2 a3:Value,P [a0,a1,a2,a3]):∀us:List Value,us.length=4->P us
 | [a0,a1,a2,a3],_=>h a0 a1 a2 a3
theorem ln5 {P:List Value->Prop}(h:∀a0 a1 a2 a3 a4:Value,P [a0,a1,a2,a3,a4]):∀us:List Value,us.length=5->P us
 | [a0,a1,a2,a3,a4],_=>h a0 a1 a2 a3 a4
theorem ln6 {P:List Value->Prop}(h:∀a0 a1 a2 a3 a4 a5:Value,P [a0,a1,a2,a3,a4,a5]):∀us:List Value,us.length=6->P us
 | [a0,a1,a2,a3,a4,a5],_=>h a0 a1 a2 a3 a4 a5
theorem ln7 {P:List Value->Prop}(h:∀a0 a1 a2 a3 a4 a5 a6:Value,P [a0,a1,a2,a3,a4,a5,a6]):∀us:List Value,us.length=7->P us
 | [a0,a1,a2,a3,a4,a5,a6],_=>h a0 a1 a2 a3 a4 a5 a6
end L2
namespace L2
open PySem PySem.W PyProof.Rows
def qe:Nat->List Obj->Nat->Nat->PySem.W.BT
 | 0,_,_,_=>.nil
 | f+1,l,a,b=>(l[b]?).elim .nil λ o=>.node o (qe f l (2*a) (a+b)) (qe f l (2*a) (2*a+b))
def toT (s:Shared):SharedT:=⟨qe 12 s.heap.objs.toList 1 0,s.heap.objs.size,s.heap.life,s.gens,s.drawn,s.toks,s.os⟩
theorem I0 {p q:Program}{loose:List Str}{Xt:Shared->Bool}{α:Type}{Yf:Shared->α}{Ya:World->α}{N:Nat}{g0:Bool}{H₀:Params->Heap}{gs₀:Array GenState}{d₀:Drawn}{k₀ m₀:Nat}{ann:Option Value}{n0 nb n nf:Nat}
  {b:List Stmt} {env:Env} {qp p0 p1 p2:Pos} {sa:World->OsState->Shared} {sb sc:World->OsState->SharedT} {sf:World->OsState->Shared}
  (open_:∀w:World,(fencedOpening treeTable p w N).map (λ s=>(s.heap,s.gens,s.drawn,s.toks))=some (H₀ w.params,gs₀,d₀,k₀))
  (size:∀w:World,((H₀ w.params).isNs mainGlobals&&gs₀.size == 0,(H₀ w.params).objs.size,(H₀ w.params).nsMap mainGlobals "__annotations__")=(true,m₀,ann))
  (pre:∀w os,topGo treeTable p w m₀ ann n0 ⟨H₀ w.params,gs₀,d₀,k₀,os⟩ (topStub p)=some (sa w os,⟨denote treeTable (.body b env),.body b env,p0,[topFrame qp]⟩))
  (block:∀w os,segRun treeTable p w m₀ ann 1 nb (sa w os) (blockOf b env (.body b env) p0 [topFrame qp])=some (.next,(sb w os).abs,.body b env,p1))
  (main:∀w os,segRunT treeTable p w m₀ ann 1 n (sb w os) (piecesOf b env (.body b env) p1 [topFrame qp])=some (.next,sc w os,.body b env,p2))
  (fin:∀w os,topRun treeTable p w m₀ ann nf (sc w os).abs ⟨doneF .next,.body b env,p2,[topFrame qp]⟩=some (sf w os))
  (le:Nat.ble (n0+(nb+(n+nf))) N=true)
  (looks:∀w os,((staticsOk (importedModules p.main.body) (H₀ w.params) (sf w os).heap&&namesBound p (sf w os).heap&&gensDone (sf w os)&&laidKept (H₀ w.params) (sf w os).heap),
    openSeen q loose (importedModules p.main.body) Xt g0 (sf w os),Yf (sf w os))=(true,openGood q loose,Ya w)):LeftO p q loose Xt Yf Ya N g0:=λ w=>by
 obtain ⟨⟨h,gs,d,k,os⟩,e,e'⟩:=NN.mp (open_ w);obtain ⟨rfl,rfl,rfl,rfl⟩:h=H₀ w.params/\gs=gs₀/\d=d₀/\k=k₀:=by simpa using e'
 obtain ⟨z1,z2,z3⟩:_/\_/\_:=by simpa only [Prod.mk.injEq] using size w
 obtain ⟨l1,l2,l3⟩:_/\_/\_:=by simpa only [Prod.mk.injEq] using looks w os
 have r1:=piece_app (rest:=[]) (segRun_of (main w os)) (piece_nil (fin w os));rw [L6] at r1;have r3:=go_top (pre w os) (piece_block (block w os) r1);have r:=topRun_mono (N - (n0+(nb+(n+nf)))) _ _ _ _ r3;rw [show n0+(nb+(n+nf))+(N - (n0+(nb+(n+nf))))=N by have:=Nm le;omega] at r;have t:topFrom treeTable p w N ⟨H₀ w.params,gs,d,k,os⟩=some (sf w os):=by
  unfold topFrom;dsimp only;rw [z1,z2,z3,r];show (match staticsOk (importedModules p.main.body) (H₀ w.params) (sf w os).heap&&namesBound p (sf w os).heap&&gensDone (sf w os)&&laidKept (H₀ w.params) (sf w os).heap with | true=>_ | false=>_)=_
  rw [l1]
 unfold openEnds;rw [e];show (topFrom treeTable p w N _).map _=_;rw [t];exact congrArg some (Prod.ext l2 l3)
abbrev Jq (name qual:Str) (params:Arguments) (body:List Stmt) (scope:Scope) (globals:Addr) (closure:List (Str×Addr)) (dV kV doc pm:Value) (an:Option Addr) (cdv ct:Value) (bl:Addr):FuncData:=
 {name,qualname:=qual,params,body:=.stmts body,scope,globals,closure,defaults:=dV,kwdefaults:=kV,doc,pyModule:=pm,annotations:=an,code:=cdv,closureTuple:=ct,builtins:=bl}
noncomputable def stT (t:PySem.W.BT) (n k:Nat) (P:Params) (os:OsState):SharedT:=⟨t,n,(boot_heap P).life,Array.mk [],boot_drawn,k,os⟩
theorem uj {p q:Program}{loose:List Str}{Xt:Shared->Bool}{α:Type}{Yf:Shared->α}{Ya:World->α}{N:Nat}{g0:Bool}{H₀:Params->Heap}{gs₀:Array GenState}{d₀:Drawn}{k₀ m₀:Nat}{ann:Option Value}{n0 nb n:Nat}
  {b:List Stmt} {env:Env} {qp p0 p1:Pos} {sa:World->OsState->Shared} {sb:World->OsState->SharedT} {sf:World->OsState->Shared}
  (open_:∀w:World,(fencedOpening treeTable p w N).map (λ s=>(s.heap,s.gens,s.drawn,s.toks))=some (H₀ w.params,gs₀,d₀,k₀))
  (size:∀w:World,((H₀ w.params).isNs mainGlobals&&gs₀.size == 0,(H₀ w.params).objs.size,(H₀ w.params).nsMap mainGlobals "__annotations__")=(true,m₀,ann))
  (pre:∀w os,topGo treeTable p w m₀ ann n0 ⟨H₀ w.params,gs₀,d₀,k₀,os⟩ (topStub p)=some (sa w os,⟨denote treeTable (.body b env),.body b env,p0,[topFrame qp]⟩))
  (block:∀w os,segRun treeTable p w m₀ ann 1 nb (sa w os) (blockOf b env (.body b env) p0 [topFrame qp])=some (.next,(sb w os).abs,.body b env,p1))
  (main:∀w os,topRun treeTable p w m₀ ann n (sb w os).abs (restOf b env (.body b env) p1 [topFrame qp])=some (sf w os))
  (le:Nat.ble (n0+(nb+n)) N=true)
  (looks:∀w os,((staticsOk (importedModules p.main.body) (H₀ w.params) (sf w os).heap&&namesBound p (sf w os).heap&&gensDone (sf w os)&&laidKept (H₀ w.params) (sf w os).heap),
    openSeen q loose (importedModules p.main.body) Xt g0 (sf w os),Yf (sf w os))=(true,openGood q loose,Ya w)):LeftO p q loose Xt Yf Ya N g0:=λ w=>by
 obtain ⟨⟨h,gs,d,k,os⟩,e,e'⟩:=NN.mp (open_ w);obtain ⟨rfl,rfl,rfl,rfl⟩:h=H₀ w.params/\gs=gs₀/\d=d₀/\k=k₀:=by simpa using e'
 obtain ⟨z1,z2,z3⟩:_/\_/\_:=by simpa only [Prod.mk.injEq] using size w
 obtain ⟨l1,l2,l3⟩:_/\_/\_:=by simpa only [Prod.mk.injEq] using looks w os
 have r3:=go_top (pre w os) (piece_block (block w os) (main w os));have r:=topRun_mono (N - (n0+(nb+n))) _ _ _ _ r3;rw [show n0+(nb+n)+(N - (n0+(nb+n)))=N by have:=Nm le;omega] at r;have t:topFrom treeTable p w N ⟨H₀ w.params,gs,d,k,os⟩=some (sf w os):=by
  unfold topFrom;dsimp only;rw [z1,z2,z3,r];show (match staticsOk (importedModules p.main.body) (H₀ w.params) (sf w os).heap&&namesBound p (sf w os).heap&&gensDone (sf w os)&&laidKept (H₀ w.params) (sf w os).heap with | true=>_ | false=>_)=_
  rw [l1]
 unfold openEnds;rw [e];show (topFrom treeTable p w N _).map _=_;rw [t];exact congrArg some (Prod.ext l2 l3)
def sF (as:List Addr) (s:Shared):List (Option Obj):=as.map s.heap.get?
def sy (K:Params->Frag) (w:World):List (Option Obj):=(K w.params).map λ p=>some p.2
theorem Jg {K:Params->Frag}{as:List Addr}(e:∀P,as=(K P).map (·.1)) (w:World) (s₀ s₁:Shared) (y:sF as s₀=sy K w) (k:∀b o,s₀.heap.get? b=some o->s₁.heap.get? b=some o):(K w.params).In s₁.heap:=
 InK.keeps w s₀.heap s₁.heap (InK.of e w s₀ y) k
end L2
namespace K07
open PySem L2
abbrev bc (x:Array Value) (n:Nat):Obj:=⟨.type "tuple",none,.seq x n,#[]⟩
noncomputable abbrev eQ (a b:Str) (s:Stmt):Obj:=⟨.none,none,.func (L2.Jq a b (fA s) (eP s) (ak s) 0 [] .none .none .none .none none .none .none 0),#[]⟩
abbrev im (a b:Str) (n m l:Nat) (i j k o:Int) (r:Nat) (f:Bool) (p:Int) (q x y z:Nat) (u v:Int) (e:Nat):Obj:=⟨.type "code",none,.fields #[.str a n,.str b m,.str "/claim/cut.py" l,.int i 0,.int j 0,.int 0 0,.int k 0,.int o 0,.ref r,.bool f,.int p 0,.ref q,.none,.ref x,.ref y,.ref z,.int u 0,.int v 0,.str "/claim/cut.py" e],#[]⟩
abbrev Dn (a b:Str) (n m l:Nat) (i j k o:Int) (r:Nat) (f:Bool) (p:Int) (q:Nat) (u v:Int) (e:Nat):Obj:=⟨.type "code",none,.fields #[.str a n,.str b m,.str "/claim/cut.py" l,.int i 0,.int j 0,.int 0 0,.int k 0,.int o 0,.ref r,.bool f,.int p 0,.ref q,.none,.none,.none,.none,.int u 0,.int v 0,.str "/claim/cut.py" e],#[]⟩
noncomputable abbrev eS (a b:Str) (s:Stmt) (m:Str) (n c:Nat):Obj:=⟨.type "function",none,.func (NW a b (fA s) (eP s) (ak s) .none .none .none (.str m n) none (.ref c) .none),#[]⟩
abbrev dv (x:Array Value):Obj:=⟨.none,none,.fields x,#[]⟩
abbrev nJ (x:Array Value):Obj:=⟨.type "code",none,.fields x,#[]⟩
abbrev aY (P:Params) (x:Str) (n:Nat) (v:Value):DictEntry:=⟨PyData.keyHash P x,.str x n,v⟩
abbrev aT (x:Obj):PySem.W.BT:=.node x .nil .nil
abbrev aB (x:Obj) (a b:PySem.W.BT):PySem.W.BT:=.node x a b
abbrev ci:Value:=.int 0 0
abbrev gI (n:Nat):Value:=.str "/claim/cut.py" n
abbrev aQ (n:Int):Value:=.int n 0
abbrev hP:Program:=PySem.Challenge.pw_playboard_k07_games_written
noncomputable def hQ:Program:={hP with main:={hP.main with body:=bC 0::bC 2::bC 3::bC 4::bC 5::bC 7::bC 8::bC 9::bC 10::bC 11::bC 12::bC 13::bC 15::bC 16::bC 17::bC 19::bC 20::bC 21::bC 22::bC 23::bC 24::bC 25::bC 26::bC 27::bC 28::bC 29::bC 30::bC 31::bC 32::bC 33::bC 34::bC 35::bC 36::bC 38::bC 40::bC 41::bC 42::bC 43::bC 44::bC 45::bC 46::bC 47::bC 48::bC 50::bC 51::bC 52::bC 53::bC 54::bC 55::bC 56::bC 57::bC 58::bC 59::bC 60::bC 61::bC 62::bC 63::[]}}
noncomputable section
variable (P:Params)
def zo3:Obj:=⟨(.type "dict"),none,(.dict #[aY P "__name__" 165 (.str "law_playboard_k07_games_written" 671),aY P "__doc__" 166 .none,aY P "__package__" 167 .none,aY P "__loader__" 168 (.builtin "__main__.__loader__#opaque"),aY P "__spec__" 169 .none,aY P "__annotations__" 170 (.ref 6),aY P "__builtins__" 171 (.ref 4),aY P "__file__" 173 (gI 172),aY P "__cached__" 174 .none,aY P "_wall" 193 (.ref 21),aY P "PlayError" 213 (.ref 31),aY P "BadBoard" 229 (.ref 44),aY P "BadGame" 245 (.ref 56),aY P "BadLine" 270 (.ref 75),aY P "FIGURES" 274 (.str "0123456789" 273),aY P "MOST_FIGURES" 276 (.int 9 275),aY P "is_whole" 283 (.ref 84),aY P "is_letter" 290 (.ref 91),aY P "is_among" 299 (.ref 98),aY P "number_text" 309 (.ref 105),aY P "number_of" 315 (.ref 110),aY P "LONGEST" 319 (.int 8 318),aY P "are_holes" 325 (.ref 115),aY P "Board" 387 (.ref 156),aY P "SORTS" 393 (.ref 161),aY P "AIMS" 397 (.ref 162),aY P "END_WORDS" 400 (.ref 163),aY P "STUCK_WORDS" 404 (.ref 164),aY P "MOST_KINDS" 406 (.int 6 405),aY P "MOST_RULES" 408 (.int 24 407),aY P "MOST_PAIRS" 410 (.int 6 409),aY P "is_word" 418 (.ref 171),aY P "is_tuple_of" 426 (.ref 178),aY P "is_list_of" 435 (.ref 185),aY P "is_step" 445 (.ref 192),aY P "is_rule" 455 (.ref 199),aY P "is_pair" 464 (.ref 206),aY P "are_pairs" 470 (.ref 211),aY P "is_turns" 476 (.ref 216),aY P "is_ends" 484 (.ref 223),aY P "are_kinds" 490 (.ref 228),aY P "are_rules" 496 (.ref 233),aY P "Game" 553 (.ref 264),aY P "ORDER" 563 (.ref 269),aY P "FORMS" 615 (.ref 270),aY P "rule_line" 622 (.ref 287),aY P "written" 628 (.ref 292),aY P "part_of" 637 (.ref 299),aY P "parts_of" 643 (.ref 304),aY P "may_follow" 651 (.ref 311),aY P "sorted_out" 664 (.ref 318),aY P "game_of" 670 (.ref 323),aY P "_law_at" 681 (.ref 330),aY P "_law_whole" 688 (.ref 337),aY P "_law_side" 695 (.ref 344),aY P "_law_holes" 708 (.ref 351),aY P "_law_kinds" 714 (.ref 356),aY P "_law_rule" 727 (.ref 363),aY P "_law_rules" 733 (.ref 368),aY P "_law_turns" 739 (.ref 373),aY P "_law_ends" 752 (.ref 380),aY P "_law_parts" 763 (.ref 387),aY P "_law_lines" 769 (.ref 392),aY P "_law_same" 783 (.ref 399),aY P "_law_right" 789 (.ref 404),aY P "law" 795 (.ref 409)] 66),#[]⟩
def KI:Obj:=bc #[] 0
def KH:Obj:=dv #[(aQ 1),ci,(.ref 20),(aQ 5),ci,(.ref 27),(aQ 7),ci,(.ref 40),(aQ 9),ci,(.ref 52),(aQ 11),ci,(.ref 64),(aQ 19),ci,(.ref 83),(aQ 21),ci,(.ref 90),(aQ 23),ci,(.ref 97),(aQ 25),ci,(.ref 104),(aQ 36),ci,(.ref 109),(aQ 47),ci,(.ref 114),(aQ 53),ci,(.ref 121),(aQ 84),ci,(.ref 170),(aQ 86),ci,(.ref 177),(aQ 88),ci,(.ref 184),(aQ 90),ci,(.ref 191),(aQ 95),ci,(.ref 198),(aQ 105),ci,(.ref 205),(aQ 107),ci,(.ref 210),(aQ 109),ci,(.ref 215),(aQ 116),ci,(.ref 222),(aQ 118),ci,(.ref 227),(aQ 122),ci,(.ref 232),(aQ 125),ci,(.ref 239),(aQ 153),ci,(.ref 286),(aQ 155),ci,(.ref 291),(aQ 165),ci,(.ref 298),(aQ 173),ci,(.ref 303),(aQ 180),ci,(.ref 310),(aQ 184),ci,(.ref 317),(aQ 201),ci,(.ref 322),(aQ 211),ci,(.ref 329),(aQ 216),ci,(.ref 336),(aQ 218),ci,(.ref 343),(aQ 222),ci,(.ref 350),(aQ 234),ci,(.ref 355),(aQ 240),ci,(.ref 362),(aQ 253),ci,(.ref 367),(aQ 259),ci,(.ref 372),(aQ 266),ci,(.ref 379),(aQ 273),ci,(.ref 386),(aQ 278),ci,(.ref 391),(aQ 287),ci,(.ref 398),(aQ 299),ci,(.ref 403),(aQ 317),ci,(.ref 408)]
def KG:Obj:=Dn "<module>" "<module>" 182 183 184 1 0 0 0 11 false 181 12 185 1 186
def KC:Obj:=⟨(.type "frame"),none,.plain,#[(some (.ref 13)),(some (.ref 3)),(some (.ref 3)),none,(some (.str "__main__" 164)),none,(some (.ref 0))]⟩
def HI:Obj:=bc #[] 0
def KB:Obj:=dv #[]
def Hx:Obj:=bc #[(.str "k" 190)] 0
def Hu:Obj:=bc #[] 0
def KA:Obj:=eQ "_wall" "_wall" rS
def Hm:Obj:=im "_wall" "_wall" 187 188 189 1 1 0 3 15 true 181 16 17 18 19 191 1 192
def Hh:Obj:=eS "_wall" "_wall" rS "__main__" 164 20
def Hd:Obj:=bc #[(.type "ValueError")] 0
def Kz:Obj:=⟨(.type "builtin_function_or_method"),none,(.fields #[(.builtin "type.__prepare__"),(.type "type")]),#[]⟩
def Ky:Obj:=⟨(.type "dict"),none,(.dict #[aY P "__module__" 203 (.str "playboard.errors" 194),aY P "__qualname__" 205 (.str "PlayError" 204),aY P "__firstlineno__" 207 (.int 5 206),aY P "__static_attributes__" 208 (.ref 29)] 4),#[]⟩
def Kx:Obj:=bc #[] 0
def Kw:Obj:=dv #[]
def Kv:Obj:=Dn "PlayError" "PlayError" 198 199 200 5 0 0 0 25 false 181 26 201 5 202
def Ku:Obj:=⟨(.type "frame"),none,.plain,#[(some (.ref 27)),(some (.ref 3)),(some (.ref 24)),none,(some (.str "playboard.errors" 194)),none,(some (.ref 0))]⟩
def GG:Obj:=bc #[] 0
def Gy:Obj:=⟨(.type "dict"),none,(.dict #[aY P "__module__" 203 (.str "playboard.errors" 194),aY P "__firstlineno__" 207 (.int 5 206),aY P "__static_attributes__" 208 (.ref 29),aY P "__weakref__" 210 (.ref 32),aY P "__doc__" 211 .none] 3),#[]⟩
def Gs:Obj:=⟨(.type "type"),none,(.cls ⟨"PlayError",[(.type "ValueError")],[(.ref 31),(.type "ValueError"),(.type "Exception"),(.type "BaseException"),(.type "object")],30,"PlayError",true,[],[(.ref 44),(.ref 56),(.ref 75)],false,none,false⟩),#[(some (.ref 22)),none,(some (.str "PlayError" 196)),(some (.str "PlayError" 204)),(some (.builtin "ValueError.__new__")),(some (.bool true))]⟩
def Gp:Obj:=⟨(.type "getset_descriptor"),none,(.fields #[(.str "__weakref__" 209),(.ref 31),(.builtin "ExceptionGroup.__weakref__"),.none]),#[]⟩
def Ks:Obj:=⟨(.type "super"),none,(.fields #[(.ref 31),(.ref 31),(.ref 31)]),#[]⟩
def Kr:Obj:=⟨(.type "builtin_function_or_method"),none,(.fields #[(.builtin "object.__init_subclass__"),(.ref 31)]),#[]⟩
def Gd:Obj:=bc #[(.ref 31)] 0
def Kq:Obj:=⟨(.type "builtin_function_or_method"),none,(.fields #[(.builtin "type.__prepare__"),(.type "type")]),#[]⟩
def Kp:Obj:=⟨(.type "dict"),none,(.dict #[aY P "__module__" 221 (.str "playboard.errors" 194),aY P "__qualname__" 223 (.str "BadBoard" 222),aY P "__firstlineno__" 225 (.int 7 224),aY P "__static_attributes__" 226 (.ref 42)] 4),#[]⟩
def Ko:Obj:=bc #[] 0
def Kn:Obj:=dv #[]
def Km:Obj:=Dn "BadBoard" "BadBoard" 216 217 218 7 0 0 0 38 false 181 39 219 7 220
def Kl:Obj:=⟨(.type "frame"),none,.plain,#[(some (.ref 40)),(some (.ref 3)),(some (.ref 37)),none,(some (.str "playboard.errors" 194)),none,(some (.ref 0))]⟩
def FJ:Obj:=bc #[] 0
def FI:Obj:=⟨(.type "dict"),none,(.dict #[aY P "__module__" 221 (.str "playboard.errors" 194),aY P "__firstlineno__" 225 (.int 7 224),aY P "__static_attributes__" 226 (.ref 42),aY P "__doc__" 227 .none] 2),#[]⟩
def FH:Obj:=⟨(.type "type"),none,(.cls ⟨"BadBoard",[(.ref 31)],[(.ref 44),(.ref 31),(.type "ValueError"),(.type "Exception"),(.type "BaseException"),(.type "object")],43,"BadBoard",true,[],[],false,none,false⟩),#[(some (.ref 35)),none,(some (.str "BadBoard" 214)),(some (.str "BadBoard" 222)),(some (.builtin "ValueError.__new__")),(some (.bool true))]⟩
def Kk:Obj:=⟨(.type "super"),none,(.fields #[(.ref 44),(.ref 44),(.ref 44)]),#[]⟩
def Kj:Obj:=⟨(.type "builtin_function_or_method"),none,(.fields #[(.builtin "object.__init_subclass__"),(.ref 44)]),#[]⟩
def FG:Obj:=bc #[(.ref 31)] 0
def Ki:Obj:=⟨(.type "builtin_function_or_method"),none,(.fields #[(.builtin "type.__prepare__"),(.type "type")]),#[]⟩
def Kh:Obj:=⟨(.type "dict"),none,(.dict #[aY P "__module__" 237 (.str "playboard.errors" 194),aY P "__qualname__" 239 (.str "BadGame" 238),aY P "__firstlineno__" 241 (.int 9 240),aY P "__static_attributes__" 242 (.ref 54)] 4),#[]⟩
def Kg:Obj:=bc #[] 0
def Ke:Obj:=dv #[]
def Kd:Obj:=Dn "BadGame" "BadGame" 232 233 234 9 0 0 0 50 false 181 51 235 9 236
def Kc:Obj:=⟨(.type "frame"),none,.plain,#[(some (.ref 52)),(some (.ref 3)),(some (.ref 49)),none,(some (.str "playboard.errors" 194)),none,(some (.ref 0))]⟩
def FF:Obj:=bc #[] 0
def FE:Obj:=⟨(.type "dict"),none,(.dict #[aY P "__module__" 237 (.str "playboard.errors" 194),aY P "__firstlineno__" 241 (.int 9 240),aY P "__static_attributes__" 242 (.ref 54),aY P "__doc__" 243 .none] 2),#[]⟩
def FD:Obj:=⟨(.type "type"),none,(.cls ⟨"BadGame",[(.ref 31)],[(.ref 56),(.ref 31),(.type "ValueError"),(.type "Exception"),(.type "BaseException"),(.type "object")],55,"BadGame",true,[],[],false,none,false⟩),#[(some (.ref 47)),none,(some (.str "BadGame" 230)),(some (.str "BadGame" 238)),(some (.builtin "ValueError.__new__")),(some (.bool true))]⟩
def Kb:Obj:=⟨(.type "super"),none,(.fields #[(.ref 56),(.ref 56),(.ref 56)]),#[]⟩
def Ka:Obj:=⟨(.type "builtin_function_or_method"),none,(.fields #[(.builtin "object.__init_subclass__"),(.ref 56)]),#[]⟩
def FC:Obj:=bc #[(.ref 31)] 0
def J9:Obj:=⟨(.type "builtin_function_or_method"),none,(.fields #[(.builtin "type.__prepare__"),(.type "type")]),#[]⟩
def J8:Obj:=⟨(.type "dict"),none,(.dict #[aY P "__module__" 253 (.str "playboard.errors" 194),aY P "__qualname__" 255 (.str "BadLine" 254),aY P "__firstlineno__" 257 (.int 11 256),aY P "__init__" 265 (.ref 72),aY P "__static_attributes__" 267 (.ref 73)] 5),#[]⟩
def J7:Obj:=bc #[] 0
def J6:Obj:=dv #[(aQ 13),(aQ 4),(.ref 71)]
def J5:Obj:=Dn "BadLine" "BadLine" 248 249 250 11 0 0 0 62 false 181 63 251 11 252
def J4:Obj:=⟨(.type "frame"),none,.plain,#[(some (.ref 64)),(some (.ref 3)),(some (.ref 61)),none,(some (.str "playboard.errors" 194)),none,(some (.ref 0))]⟩
def FB:Obj:=bc #[] 0
def J3:Obj:=dv #[]
def FA:Obj:=bc #[(.str "self" 261),(.str "at" 262)] 0
def Fz:Obj:=bc #[] 0
def J2:Obj:=eQ "__init__" "BadLine.__init__" eZ
def Fy:Obj:=im "__init__" "BadLine.__init__" 258 259 260 13 2 0 3 66 true 181 67 68 69 70 263 13 264
def Fx:Obj:=eS "__init__" "BadLine.__init__" eZ "playboard.errors" 194 71
def Fw:Obj:=bc #[(.str "at" 266)] 0
def Fv:Obj:=⟨(.type "dict"),none,(.dict #[aY P "__module__" 253 (.str "playboard.errors" 194),aY P "__firstlineno__" 257 (.int 11 256),aY P "__init__" 265 (.ref 72),aY P "__static_attributes__" 267 (.ref 73),aY P "__doc__" 268 .none] 2),#[]⟩
def Fu:Obj:=⟨(.type "type"),none,(.cls ⟨"BadLine",[(.ref 31)],[(.ref 75),(.ref 31),(.type "ValueError"),(.type "Exception"),(.type "BaseException"),(.type "object")],74,"BadLine",true,[],[],false,none,false⟩),#[(some (.ref 59)),none,(some (.str "BadLine" 246)),(some (.str "BadLine" 254)),(some (.builtin "ValueError.__new__")),(some (.bool true))]⟩
def J1:Obj:=⟨(.type "super"),none,(.fields #[(.ref 75),(.ref 75),(.ref 75)]),#[]⟩
def J0:Obj:=⟨(.type "builtin_function_or_method"),none,(.fields #[(.builtin "object.__init_subclass__"),(.ref 75)]),#[]⟩
def Ft:Obj:=bc #[] 0
def JZ:Obj:=dv #[]
def Fs:Obj:=bc #[(.str "thing" 280)] 0
def Fq:Obj:=bc #[] 0
def JY:Obj:=eQ "is_whole" "is_whole" eW
def Fp:Obj:=im "is_whole" "is_whole" 277 278 279 19 1 0 3 78 true 181 79 80 81 82 281 19 282
def Fo:Obj:=eS "is_whole" "is_whole" eW "playboard.words" 271 83
def Fn:Obj:=bc #[] 0
def JX:Obj:=dv #[]
def Fm:Obj:=bc #[(.str "thing" 287)] 0
def Fk:Obj:=bc #[] 0
def JW:Obj:=eQ "is_letter" "is_letter" dS
def Fj:Obj:=im "is_letter" "is_letter" 284 285 286 21 1 0 3 85 true 181 86 87 88 89 288 21 289
def Fi:Obj:=eS "is_letter" "is_letter" dS "playboard.words" 271 90
def Fh:Obj:=bc #[] 0
def JV:Obj:=dv #[]
def Fg:Obj:=bc #[(.str "thing" 294),(.str "least" 295),(.str "most" 296)] 0
def Ff:Obj:=bc #[] 0
def JU:Obj:=eQ "is_among" "is_among" eY
def Fe:Obj:=im "is_among" "is_among" 291 292 293 23 3 0 3 92 true 181 93 94 95 96 297 23 298
def Fd:Obj:=eS "is_among" "is_among" eY "playboard.words" 271 97
def Fc:Obj:=bc #[] 0
def Ij:Obj:=dv #[]
def CP:Obj:=bc #[(.str "number" 303),(.str "group" 304),(.str "groups" 305),(.str "left" 306)] 0
def CO:Obj:=bc #[] 0
def Ii:Obj:=eQ "number_text" "number_text" bV
def CN:Obj:=im "number_text" "number_text" 300 301 302 25 1 0 3 99 true 181 100 101 102 103 307 25 308
def CM:Obj:=eS "number_text" "number_text" bV "playboard.words" 271 104
def CK:Obj:=bc #[] 0
def Ih:Obj:=dv #[]
def Ig:Obj:=eQ "number_of" "number_of" cV
def CJ:Obj:=nJ #[(.str "number_of" 310),(.str "number_of" 311),(gI 312),(aQ 36),(aQ 1),ci,ci,(aQ 3),(.ref 106),(.bool true),(aQ 181),(.ref 107),.none,.none,.none,(.ref 108),(aQ 313),(aQ 36),(gI 314)]
def CI:Obj:=eS "number_of" "number_of" cV "playboard.words" 271 109
def CH:Obj:=bc #[] 0
def Ie:Obj:=dv #[]
def Ic:Obj:=eQ "are_holes" "are_holes" cZ
def CG:Obj:=nJ #[(.str "are_holes" 320),(.str "are_holes" 321),(gI 322),(aQ 47),(aQ 2),ci,ci,(aQ 3),(.ref 111),(.bool true),(aQ 181),(.ref 112),.none,.none,.none,(.ref 113),(aQ 323),(aQ 47),(gI 324)]
def CF:Obj:=eS "are_holes" "are_holes" cZ "playboard.boards" 316 114
def Ib:Obj:=bc #[] 0
def Ia:Obj:=⟨(.type "builtin_function_or_method"),none,(.fields #[(.builtin "type.__prepare__"),(.type "type")]),#[]⟩
def HY:Obj:=⟨(.type "dict"),none,(.dict #[aY P "__module__" 333 (.str "playboard.boards" 316),aY P "__qualname__" 335 (.str "Board" 334),aY P "__firstlineno__" 337 (.int 53 336),aY P "__init__" 343 (.ref 127),aY P "has" 351 (.ref 134),aY P "squares" 357 (.ref 139),aY P "moved" 367 (.ref 146),aY P "far_row" 375 (.ref 153),aY P "__static_attributes__" 380 (.ref 154)] 9),#[]⟩
def HX:Obj:=bc #[] 0
def HW:Obj:=dv #[(aQ 55),(aQ 4),(.ref 126),(aQ 65),(aQ 4),(.ref 133),(aQ 68),(aQ 4),(.ref 138),(aQ 71),(aQ 4),(.ref 145),(aQ 74),(aQ 4),(.ref 152)]
def HV:Obj:=Dn "Board" "Board" 328 329 330 53 0 0 0 119 false 181 120 331 53 332
def HU:Obj:=⟨(.type "frame"),none,.plain,#[(some (.ref 121)),(some (.ref 3)),(some (.ref 118)),none,(some (.str "playboard.boards" 316)),none,(some (.ref 0))]⟩
def CD:Obj:=bc #[] 0
def HS:Obj:=dv #[]
def HR:Obj:=eQ "__init__" "Board.__init__" bM
def CC:Obj:=nJ #[(.str "__init__" 338),(.str "Board.__init__" 339),(gI 340),(aQ 55),(aQ 4),ci,ci,(aQ 3),(.ref 123),(.bool true),(aQ 181),(.ref 124),.none,.none,.none,(.ref 125),(aQ 341),(aQ 55),(gI 342)]
def CB:Obj:=eS "__init__" "Board.__init__" bM "playboard.boards" 316 126
def Cz:Obj:=bc #[] 0
def HQ:Obj:=dv #[]
def Cy:Obj:=bc #[(.str "self" 347),(.str "square" 348)] 0
def Cw:Obj:=bc #[] 0
def HP:Obj:=eQ "has" "Board.has" jv
def Cv:Obj:=im "has" "Board.has" 344 345 346 65 2 0 3 128 true 181 129 130 131 132 349 65 350
def Cu:Obj:=eS "has" "Board.has" jv "playboard.boards" 316 133
def Ct:Obj:=bc #[] 0
def HN:Obj:=dv #[]
def HM:Obj:=eQ "squares" "Board.squares" gz
def Cs:Obj:=nJ #[(.str "squares" 352),(.str "Board.squares" 353),(gI 354),(aQ 68),(aQ 1),ci,ci,(aQ 3),(.ref 135),(.bool true),(aQ 181),(.ref 136),.none,.none,.none,(.ref 137),(aQ 355),(aQ 68),(gI 356)]
def Cr:Obj:=eS "squares" "Board.squares" gz "playboard.boards" 316 138
def Cq:Obj:=bc #[] 0
def HL:Obj:=dv #[]
def Cp:Obj:=bc #[(.str "self" 361),(.str "square" 362),(.str "across" 363),(.str "up" 364)] 0
def Co:Obj:=bc #[] 0
def HK:Obj:=eQ "moved" "Board.moved" ic
def Cn:Obj:=im "moved" "Board.moved" 358 359 360 71 4 0 3 140 true 181 141 142 143 144 365 71 366
def Cm:Obj:=eS "moved" "Board.moved" ic "playboard.boards" 316 145
def Ck:Obj:=bc #[] 0
def HJ:Obj:=dv #[]
def Cj:Obj:=bc #[(.str "self" 371),(.str "side" 372)] 0
def Ci:Obj:=bc #[] 0
def HH:Obj:=eQ "far_row" "Board.far_row" gB
def Ch:Obj:=im "far_row" "Board.far_row" 368 369 370 74 2 0 3 147 true 181 148 149 150 151 373 74 374
def Cg:Obj:=eS "far_row" "Board.far_row" gB "playboard.boards" 316 152
def Cf:Obj:=bc #[(.str "firm" 376),(.str "high" 377),(.str "holes" 378),(.str "wide" 379)] 0
def Ce:Obj:=⟨(.type "dict"),none,(.dict #[aY P "__module__" 333 (.str "playboard.boards" 316),aY P "__firstlineno__" 337 (.int 53 336),aY P "__init__" 343 (.ref 127),aY P "has" 351 (.ref 134),aY P "squares" 357 (.ref 139),aY P "moved" 367 (.ref 146),aY P "far_row" 375 (.ref 153),aY P "__static_attributes__" 380 (.ref 154),aY P "__dict__" 382 (.ref 157),aY P "__weakref__" 384 (.ref 158),aY P "__doc__" 385 .none] 4),#[]⟩
def Cd:Obj:=⟨(.type "type"),none,(.cls ⟨"Board",[(.type "object")],[(.ref 156),(.type "object")],155,"Board",true,[],[],false,none,false⟩),#[none,none,(some (.str "Board" 326)),(some (.str "Board" 334)),(some (.builtin "object.__new__")),(some (.bool true))]⟩
def Cc:Obj:=⟨(.type "getset_descriptor"),none,(.fields #[(.str "__dict__" 381),(.ref 156),(.builtin "function.__dict__"),(.builtin "function.__dict__#set")]),#[]⟩
def Cb:Obj:=⟨(.type "getset_descriptor"),none,(.fields #[(.str "__weakref__" 383),(.ref 156),(.builtin "ExceptionGroup.__weakref__"),.none]),#[]⟩
def HG:Obj:=⟨(.type "super"),none,(.fields #[(.ref 156),(.ref 156),(.ref 156)]),#[]⟩
def HF:Obj:=⟨(.type "builtin_function_or_method"),none,(.fields #[(.builtin "object.__init_subclass__"),(.ref 156)]),#[]⟩
def Ca:Obj:=bc #[(.str "leap" 390),(.str "slide" 391),(.str "jump" 392)] 0
def B9:Obj:=bc #[(.str "go" 394),(.str "hit" 395),(.str "any" 396)] 0
def B8:Obj:=bc #[(.str "without" 398),(.str "home" 399)] 0
def B7:Obj:=bc #[(.str "lost" 401),(.str "even" 402),(.str "won" 403)] 0
def B6:Obj:=bc #[] 0
def Hz:Obj:=dv #[]
def B5:Obj:=bc #[(.str "thing" 414),(.str "words" 415)] 0
def B4:Obj:=bc #[] 0
def Hy:Obj:=eQ "is_word" "is_word" fM
def B3:Obj:=im "is_word" "is_word" 411 412 413 84 2 0 3 165 true 181 166 167 168 169 416 84 417
def B2:Obj:=eS "is_word" "is_word" fM "playboard.rules" 388 170
def B1:Obj:=bc #[] 0
def Hw:Obj:=dv #[]
def B0:Obj:=bc #[(.str "thing" 422),(.str "many" 423)] 0
def BZ:Obj:=bc #[] 0
def Hv:Obj:=eQ "is_tuple_of" "is_tuple_of" cQ
def BY:Obj:=im "is_tuple_of" "is_tuple_of" 419 420 421 86 2 0 3 172 true 181 173 174 175 176 424 86 425
def BX:Obj:=eS "is_tuple_of" "is_tuple_of" cQ "playboard.rules" 388 177
def BW:Obj:=bc #[] 0
def Ht:Obj:=dv #[]
def BV:Obj:=bc #[(.str "thing" 430),(.str "least" 431),(.str "most" 432)] 0
def BU:Obj:=bc #[] 0
def Hs:Obj:=eQ "is_list_of" "is_list_of" df
def BS:Obj:=im "is_list_of" "is_list_of" 427 428 429 88 3 0 3 179 true 181 180 181 182 183 433 88 434
def BR:Obj:=eS "is_list_of" "is_list_of" df "playboard.rules" 388 184
def BQ:Obj:=bc #[] 0
def Hr:Obj:=dv #[]
def BP:Obj:=bc #[(.str "sort" 439),(.str "across" 440),(.str "up" 441),(.str "longest" 442)] 0
def BO:Obj:=bc #[] 0
def Hq:Obj:=eQ "is_step" "is_step" fN
def BN:Obj:=im "is_step" "is_step" 436 437 438 90 3 0 3 186 true 181 187 188 189 190 443 90 444
def BM:Obj:=eS "is_step" "is_step" fN "playboard.rules" 388 191
def BL:Obj:=bc #[] 0
def Ho:Obj:=dv #[]
def BK:Obj:=bc #[(.str "thing" 449),(.str "kinds" 450),(.str "sort" 451),(.str "aim" 452)] 0
def BJ:Obj:=bc #[] 0
def Hn:Obj:=eQ "is_rule" "is_rule" fO
def BI:Obj:=im "is_rule" "is_rule" 446 447 448 95 2 0 3 193 true 181 194 195 196 197 453 95 454
def BH:Obj:=eS "is_rule" "is_rule" fO "playboard.rules" 388 198
def BG:Obj:=bc #[] 0
def Hl:Obj:=dv #[]
def BF:Obj:=bc #[(.str "thing" 459),(.str "firsts" 460),(.str "seconds" 461)] 0
def BE:Obj:=bc #[] 0
def Hk:Obj:=eQ "is_pair" "is_pair" fP
def BD:Obj:=im "is_pair" "is_pair" 456 457 458 105 3 0 3 200 true 181 201 202 203 204 462 105 463
def BB:Obj:=eS "is_pair" "is_pair" fP "playboard.rules" 388 205
def BA:Obj:=bc #[] 0
def Hj:Obj:=dv #[]
def Hi:Obj:=eQ "are_pairs" "are_pairs" cX
def Bz:Obj:=nJ #[(.str "are_pairs" 465),(.str "are_pairs" 466),(gI 467),(aQ 107),(aQ 3),ci,ci,(aQ 3),(.ref 207),(.bool true),(aQ 181),(.ref 208),.none,.none,.none,(.ref 209),(aQ 468),(aQ 107),(gI 469)]
def By:Obj:=eS "are_pairs" "are_pairs" cX "playboard.rules" 388 210
def Bx:Obj:=bc #[] 0
def Hg:Obj:=dv #[]
def Hf:Obj:=eQ "is_turns" "is_turns" cT
def Bw:Obj:=nJ #[(.str "is_turns" 471),(.str "is_turns" 472),(gI 473),(aQ 109),(aQ 2),ci,ci,(aQ 3),(.ref 212),(.bool true),(aQ 181),(.ref 213),.none,.none,.none,(.ref 214),(aQ 474),(aQ 109),(gI 475)]
def Bv:Obj:=eS "is_turns" "is_turns" cT "playboard.rules" 388 215
def Bu:Obj:=bc #[] 0
def He:Obj:=dv #[]
def Bt:Obj:=bc #[(.str "thing" 480),(.str "kinds" 481)] 0
def Bs:Obj:=bc #[] 0
def Hc:Obj:=eQ "is_ends" "is_ends" fQ
def Br:Obj:=im "is_ends" "is_ends" 477 478 479 116 2 0 3 217 true 181 218 219 220 221 482 116 483
def Bq:Obj:=eS "is_ends" "is_ends" fQ "playboard.rules" 388 222
def Bp:Obj:=bc #[] 0
def Hb:Obj:=dv #[]
def Ha:Obj:=eQ "are_kinds" "are_kinds" cY
def Bo:Obj:=nJ #[(.str "are_kinds" 485),(.str "are_kinds" 486),(gI 487),(aQ 118),(aQ 1),ci,ci,(aQ 3),(.ref 224),(.bool true),(aQ 181),(.ref 225),.none,.none,.none,(.ref 226),(aQ 488),(aQ 118),(gI 489)]
def Bn:Obj:=eS "are_kinds" "are_kinds" cY "playboard.rules" 388 227
def Bm:Obj:=bc #[] 0
def G4:Obj:=dv #[]
def G3:Obj:=eQ "are_rules" "are_rules" cW
def Bl:Obj:=nJ #[(.str "are_rules" 491),(.str "are_rules" 492),(gI 493),(aQ 122),(aQ 2),ci,ci,(aQ 3),(.ref 229),(.bool true),(aQ 181),(.ref 230),.none,.none,.none,(.ref 231),(aQ 494),(aQ 122),(gI 495)]
def Bk:Obj:=eS "are_rules" "are_rules" cW "playboard.rules" 388 232
def G0:Obj:=bc #[] 0
def GZ:Obj:=⟨(.type "builtin_function_or_method"),none,(.fields #[(.builtin "type.__prepare__"),(.type "type")]),#[]⟩
def GY:Obj:=⟨(.type "dict"),none,(.dict #[aY P "__module__" 506 (.str "playboard.games" 497),aY P "__qualname__" 508 (.str "Game" 507),aY P "__firstlineno__" 510 (.int 125 509),aY P "__init__" 523 (.ref 247),aY P "rules_of" 531 (.ref 254),aY P "turned" 539 (.ref 261),aY P "__static_attributes__" 546 (.ref 262)] 7),#[]⟩
def GX:Obj:=bc #[] 0
def GW:Obj:=dv #[(aQ 127),(aQ 4),(.ref 246),(aQ 145),(aQ 4),(.ref 253),(aQ 148),(aQ 4),(.ref 260)]
def GV:Obj:=Dn "Game" "Game" 501 502 503 125 0 0 0 237 false 181 238 504 125 505
def GU:Obj:=⟨(.type "frame"),none,.plain,#[(some (.ref 239)),(some (.ref 3)),(some (.ref 236)),none,(some (.str "playboard.games" 497)),none,(some (.ref 0))]⟩
def Bj:Obj:=bc #[] 0
def GS:Obj:=dv #[]
def Bi:Obj:=bc #[(.str "self" 514),(.str "board" 515),(.str "kinds" 516),(.str "rules" 517),(.str "turns" 518),(.str "ends" 519),(.str "stuck" 520)] 0
def Bh:Obj:=bc #[] 0
def GR:Obj:=eQ "__init__" "Game.__init__" cp
def Bg:Obj:=im "__init__" "Game.__init__" 511 512 513 127 7 0 3 241 true 181 242 243 244 245 521 127 522
def Bf:Obj:=eS "__init__" "Game.__init__" cp "playboard.games" 497 246
def Be:Obj:=bc #[] 0
def GQ:Obj:=dv #[]
def Bd:Obj:=bc #[(.str "self" 527),(.str "kind" 528)] 0
def Bc:Obj:=bc #[] 0
def GP:Obj:=eQ "rules_of" "Game.rules_of" gw
def Bb:Obj:=im "rules_of" "Game.rules_of" 524 525 526 145 2 0 3 248 true 181 249 250 251 252 529 145 530
def Ba:Obj:=eS "rules_of" "Game.rules_of" gw "playboard.games" 497 253
def A9:Obj:=bc #[] 0
def GO:Obj:=dv #[]
def A8:Obj:=bc #[(.str "self" 535),(.str "kind" 536)] 0
def A7:Obj:=bc #[] 0
def GN:Obj:=eQ "turned" "Game.turned" ib
def A6:Obj:=im "turned" "Game.turned" 532 533 534 148 2 0 3 255 true 181 256 257 258 259 537 148 538
def A5:Obj:=eS "turned" "Game.turned" ib "playboard.games" 497 260
def A4:Obj:=bc #[(.str "board" 540),(.str "ends" 541),(.str "kinds" 542),(.str "rules" 543),(.str "stuck" 544),(.str "turns" 545)] 0
def A3:Obj:=⟨(.type "dict"),none,(.dict #[aY P "__module__" 506 (.str "playboard.games" 497),aY P "__firstlineno__" 510 (.int 125 509),aY P "__init__" 523 (.ref 247),aY P "rules_of" 531 (.ref 254),aY P "turned" 539 (.ref 261),aY P "__static_attributes__" 546 (.ref 262),aY P "__dict__" 548 (.ref 265),aY P "__weakref__" 550 (.ref 266),aY P "__doc__" 551 .none] 4),#[]⟩
def A2:Obj:=⟨(.type "type"),none,(.cls ⟨"Game",[(.type "object")],[(.ref 264),(.type "object")],263,"Game",true,[],[],false,none,false⟩),#[none,none,(some (.str "Game" 499)),(some (.str "Game" 507)),(some (.builtin "object.__new__")),(some (.bool true))]⟩
def A0:Obj:=⟨(.type "getset_descriptor"),none,(.fields #[(.str "__dict__" 547),(.ref 264),(.builtin "function.__dict__"),(.builtin "function.__dict__#set")]),#[]⟩
def AZ:Obj:=⟨(.type "getset_descriptor"),none,(.fields #[(.str "__weakref__" 549),(.ref 264),(.builtin "ExceptionGroup.__weakref__"),.none]),#[]⟩
def GL:Obj:=⟨(.type "super"),none,(.fields #[(.ref 264),(.ref 264),(.ref 264)]),#[]⟩
def GK:Obj:=⟨(.type "builtin_function_or_method"),none,(.fields #[(.builtin "object.__init_subclass__"),(.ref 264)]),#[]⟩
def AY:Obj:=bc #[(.str "board" 556),(.str "hole" 557),(.str "kind" 558),(.str "rule" 559),(.str "turn" 560),(.str "end" 561),(.str "stuck" 562)] 0
def AX:Obj:=⟨(.type "dict"),none,(.dict #[aY P "board" 564 (.ref 271),aY P "hole" 568 (.ref 272),aY P "kind" 571 (.ref 273),aY P "leap" 574 (.ref 274),aY P "slide" 580 (.ref 275),aY P "jump" 586 (.ref 276),aY P "turn" 592 (.ref 277),aY P "without" 596 (.ref 278),aY P "home" 599 (.ref 279),aY P "stuck" 602 (.ref 280)] 10),#[]⟩
def AW:Obj:=bc #[(.str "board" 565),(.str "number" 566),(.str "number" 567)] 0
def AV:Obj:=bc #[(.str "hole" 569),(.str "number" 570)] 0
def AU:Obj:=bc #[(.str "kind" 572),(.str "letter" 573)] 0
def AT:Obj:=bc #[(.str "rule" 575),(.str "letter" 576),(.str "aim" 577),(.str "number" 578),(.str "number" 579)] 0
def AS:Obj:=bc #[(.str "rule" 581),(.str "letter" 582),(.str "aim" 583),(.str "number" 584),(.str "number" 585)] 0
def AR:Obj:=bc #[(.str "rule" 587),(.str "letter" 588),(.str "aim" 589),(.str "number" 590),(.str "number" 591)] 0
def AQ:Obj:=bc #[(.str "turn" 593),(.str "letter" 594),(.str "letter" 595)] 0
def AO:Obj:=bc #[(.str "end" 597),(.str "letter" 598)] 0
def AN:Obj:=bc #[(.str "end" 600),(.str "letter" 601)] 0
def AM:Obj:=bc #[(.str "stuck" 603),(.str "word" 604)] 0
def AL:Obj:=bc #[] 0
def GJ:Obj:=dv #[]
def AK:Obj:=bc #[(.str "rule" 619)] 0
def AJ:Obj:=bc #[] 0
def GI:Obj:=eQ "rule_line" "rule_line" dR
def AI:Obj:=im "rule_line" "rule_line" 616 617 618 153 1 0 3 281 true 181 282 283 284 285 620 153 621
def AH:Obj:=eS "rule_line" "rule_line" dR "playboard.notes" 554 286
def AG:Obj:=bc #[] 0
def GH:Obj:=dv #[]
def GF:Obj:=eQ "written" "written" cr
def AF:Obj:=nJ #[(.str "written" 623),(.str "written" 624),(gI 625),(aQ 155),(aQ 1),ci,ci,(aQ 3),(.ref 288),(.bool true),(aQ 181),(.ref 289),.none,.none,.none,(.ref 290),(aQ 626),(aQ 155),(gI 627)]
def AE:Obj:=eS "written" "written" cr "playboard.notes" 554 291
def AD:Obj:=bc #[] 0
def GB:Obj:=dv #[]
def AC:Obj:=bc #[(.str "form" 632),(.str "word" 633),(.str "fits" 634)] 0
def AB:Obj:=bc #[] 0
def Gz:Obj:=eQ "part_of" "part_of" fL
def AA:Obj:=im "part_of" "part_of" 629 630 631 165 2 0 3 293 true 181 294 295 296 297 635 165 636
def Az:Obj:=eS "part_of" "part_of" fL "playboard.notes" 554 298
def Ay:Obj:=bc #[] 0
def Gx:Obj:=dv #[]
def Gw:Obj:=eQ "parts_of" "parts_of" dz
def Ax:Obj:=nJ #[(.str "parts_of" 638),(.str "parts_of" 639),(gI 640),(aQ 173),(aQ 1),ci,ci,(aQ 3),(.ref 300),(.bool true),(aQ 181),(.ref 301),.none,.none,.none,(.ref 302),(aQ 641),(aQ 173),(gI 642)]
def Aw:Obj:=eS "parts_of" "parts_of" dz "playboard.notes" 554 303
def Au:Obj:=bc #[] 0
def Gv:Obj:=dv #[]
def At:Obj:=bc #[(.str "sort" 647),(.str "last" 648)] 0
def As:Obj:=bc #[] 0
def Gu:Obj:=eQ "may_follow" "may_follow" de
def Ar:Obj:=im "may_follow" "may_follow" 644 645 646 180 2 0 3 305 true 181 306 307 308 309 649 180 650
def Aq:Obj:=eS "may_follow" "may_follow" de "playboard.notes" 554 310
def Ap:Obj:=bc #[] 0
def Gr:Obj:=dv #[]
def Ao:Obj:=bc #[(.str "lines" 655),(.str "found" 656),(.str "sort" 657),(.str "last" 658),(.str "at" 659),(.str "line" 660),(.str "parts" 661)] 0
def An:Obj:=bc #[] 0
def Gq:Obj:=eQ "sorted_out" "sorted_out" dc
def Am:Obj:=im "sorted_out" "sorted_out" 652 653 654 184 1 0 3 312 true 181 313 314 315 316 662 184 663
def Al:Obj:=eS "sorted_out" "sorted_out" dc "playboard.notes" 554 317
def Ak:Obj:=bc #[] 0
def Go:Obj:=dv #[]
def Gn:Obj:=eQ "game_of" "game_of" cu
def Aj:Obj:=nJ #[(.str "game_of" 665),(.str "game_of" 666),(gI 667),(aQ 201),(aQ 1),ci,ci,(aQ 3),(.ref 319),(.bool true),(aQ 181),(.ref 320),.none,.none,.none,(.ref 321),(aQ 668),(aQ 201),(gI 669)]
def Ai:Obj:=eS "game_of" "game_of" cu "playboard.notes" 554 322
def Ah:Obj:=bc #[] 0
def Gm:Obj:=dv #[]
def Ag:Obj:=bc #[(.str "_law_script" 676),(.str "_law_k" 677),(.str "_law_cell" 678)] 0
def Af:Obj:=bc #[] 0
def Gk:Obj:=eQ "_law_at" "_law_at" fR
def Ae:Obj:=im "_law_at" "_law_at" 673 674 675 211 2 0 3 324 true 181 325 326 327 328 679 211 680
def Ad:Obj:=eS "_law_at" "_law_at" fR "law_playboard_k07_games_written" 671 329
def Ac:Obj:=bc #[] 0
def Gj:Obj:=dv #[]
def Ab:Obj:=bc #[(.str "_law_thing" 685)] 0
def Aa:Obj:=bc #[] 0
def Gi:Obj:=eQ "_law_whole" "_law_whole" dg
def zZ:Obj:=im "_law_whole" "_law_whole" 682 683 684 216 1 0 3 331 true 181 332 333 334 335 686 216 687
def zY:Obj:=eS "_law_whole" "_law_whole" dg "law_playboard_k07_games_written" 671 336
def zX:Obj:=bc #[] 0
def Gh:Obj:=dv #[]
def zW:Obj:=bc #[(.str "_law_cell" 692)] 0
def zV:Obj:=bc #[] 0
def Gg:Obj:=eQ "_law_side" "_law_side" dU
def zU:Obj:=im "_law_side" "_law_side" 689 690 691 218 1 0 3 338 true 181 339 340 341 342 693 218 694
def zT:Obj:=eS "_law_side" "_law_side" dU "law_playboard_k07_games_written" 671 343
def zS:Obj:=bc #[] 0
def Gf:Obj:=dv #[]
def zR:Obj:=bc #[(.str "_law_script" 699),(.str "_law_k" 700),(.str "_law_many" 701),(.str "_law_count" 702),(.str "_law_found" 703),(.str "_law_j" 704),(.str "_law_square" 705)] 0
def zQ:Obj:=bc #[] 0
def Ge:Obj:=eQ "_law_holes" "_law_holes" di
def zP:Obj:=im "_law_holes" "_law_holes" 696 697 698 222 3 0 3 345 true 181 346 347 348 349 706 222 707
def zO:Obj:=eS "_law_holes" "_law_holes" di "law_playboard_k07_games_written" 671 350
def zN:Obj:=bc #[] 0
def Gc:Obj:=dv #[]
def Gb:Obj:=eQ "_law_kinds" "_law_kinds" cJ
def zM:Obj:=nJ #[(.str "_law_kinds" 709),(.str "_law_kinds" 710),(gI 711),(aQ 234),(aQ 2),ci,ci,(aQ 3),(.ref 352),(.bool true),(aQ 181),(.ref 353),.none,.none,.none,(.ref 354),(aQ 712),(aQ 234),(gI 713)]
def zL:Obj:=eS "_law_kinds" "_law_kinds" cJ "law_playboard_k07_games_written" 671 355
def zK:Obj:=bc #[] 0
def Ga:Obj:=dv #[]
def zJ:Obj:=bc #[(.str "_law_cell" 718),(.str "_law_kinds_here" 719),(.str "_law_sort" 720),(.str "_law_far" 721),(.str "_law_aim" 722),(.str "_law_across" 723),(.str "_law_up" 724)] 0
def zI:Obj:=bc #[] 0
def F0:Obj:=eQ "_law_rule" "_law_rule" dX
def zH:Obj:=im "_law_rule" "_law_rule" 715 716 717 240 2 0 3 357 true 181 358 359 360 361 725 240 726
def zG:Obj:=eS "_law_rule" "_law_rule" dX "law_playboard_k07_games_written" 671 362
def zF:Obj:=bc #[] 0
def FZ:Obj:=dv #[]
def FY:Obj:=eQ "_law_rules" "_law_rules" cH
def zE:Obj:=nJ #[(.str "_law_rules" 728),(.str "_law_rules" 729),(gI 730),(aQ 253),(aQ 3),ci,ci,(aQ 3),(.ref 364),(.bool true),(aQ 181),(.ref 365),.none,.none,.none,(.ref 366),(aQ 731),(aQ 253),(gI 732)]
def zD:Obj:=eS "_law_rules" "_law_rules" cH "law_playboard_k07_games_written" 671 367
def zC:Obj:=bc #[] 0
def FX:Obj:=dv #[]
def FW:Obj:=eQ "_law_turns" "_law_turns" cF
def zB:Obj:=nJ #[(.str "_law_turns" 734),(.str "_law_turns" 735),(gI 736),(aQ 259),(aQ 3),ci,ci,(aQ 3),(.ref 369),(.bool true),(aQ 181),(.ref 370),.none,.none,.none,(.ref 371),(aQ 737),(aQ 259),(gI 738)]
def zA:Obj:=eS "_law_turns" "_law_turns" cF "law_playboard_k07_games_written" 671 372
def zz:Obj:=bc #[] 0
def FV:Obj:=dv #[]
def zy:Obj:=bc #[(.str "_law_script" 743),(.str "_law_k" 744),(.str "_law_kinds_here" 745),(.str "_law_cell" 746),(.str "_law_found" 747),(.str "_law_j" 748),(.str "_law_one" 749)] 0
def zx:Obj:=bc #[] 0
def FU:Obj:=eQ "_law_ends" "_law_ends" dY
def zw:Obj:=im "_law_ends" "_law_ends" 740 741 742 266 3 0 3 374 true 181 375 376 377 378 750 266 751
def zv:Obj:=eS "_law_ends" "_law_ends" dY "law_playboard_k07_games_written" 671 379
def zu:Obj:=bc #[] 0
def FT:Obj:=dv #[]
def zt:Obj:=bc #[(.str "_law_script" 756),(.str "_law_k" 757),(.str "_law_kinds_here" 758),(.str "_law_rules_here" 759),(.str "_law_turns_here" 760)] 0
def zr:Obj:=bc #[] 0
def FS:Obj:=eQ "_law_parts" "_law_parts" dh
def zq:Obj:=im "_law_parts" "_law_parts" 753 754 755 273 2 0 3 381 true 181 382 383 384 385 761 273 762
def zp:Obj:=eS "_law_parts" "_law_parts" dh "law_playboard_k07_games_written" 671 386
def zo:Obj:=bc #[] 0
def FR:Obj:=dv #[]
def FQ:Obj:=eQ "_law_lines" "_law_lines" bI
def zn:Obj:=nJ #[(.str "_law_lines" 764),(.str "_law_lines" 765),(gI 766),(aQ 278),(aQ 5),ci,ci,(aQ 3),(.ref 388),(.bool true),(aQ 181),(.ref 389),.none,.none,.none,(.ref 390),(aQ 767),(aQ 278),(gI 768)]
def zm:Obj:=eS "_law_lines" "_law_lines" bI "law_playboard_k07_games_written" 671 391
def zk:Obj:=bc #[] 0
def FP:Obj:=dv #[]
def zj:Obj:=bc #[(.str "_law_game" 773),(.str "_law_wide" 774),(.str "_law_high" 775),(.str "_law_holes_here" 776),(.str "_law_parts_here" 777),(.str "_law_stuck" 778),(.str "_law_board" 779),(.str "_law_rule_here" 780)] 0
def zi:Obj:=bc #[] 0
def FO:Obj:=eQ "_law_same" "_law_same" dW
def zh:Obj:=im "_law_same" "_law_same" 770 771 772 287 6 0 3 393 true 181 394 395 396 397 781 287 782
def zg:Obj:=eS "_law_same" "_law_same" dW "law_playboard_k07_games_written" 671 398
def zf:Obj:=bc #[] 0
def FN:Obj:=dv #[]
def FM:Obj:=eQ "_law_right" "_law_right" cI
def ze:Obj:=nJ #[(.str "_law_right" 784),(.str "_law_right" 785),(gI 786),(aQ 299),(aQ 7),ci,ci,(aQ 3),(.ref 400),(.bool true),(aQ 181),(.ref 401),.none,.none,.none,(.ref 402),(aQ 787),(aQ 299),(gI 788)]
def zd:Obj:=eS "_law_right" "_law_right" cI "law_playboard_k07_games_written" 671 403
def zc:Obj:=bc #[] 0
def FL:Obj:=dv #[]
def FK:Obj:=eQ "law" "law" ia
def zb:Obj:=nJ #[(.str "law" 790),(.str "law" 791),(gI 792),(aQ 317),(aQ 1),ci,ci,(aQ 3),(.ref 405),(.bool true),(aQ 181),(.ref 406),.none,.none,.none,(.ref 407),(aQ 793),(aQ 317),(gI 794)]
def za:Obj:=eS "law" "law" ia "law_playboard_k07_games_written" 671 408
end
noncomputable def hK (P:Params):Frag:=(nat_lit 2,Oi P)::(nat_lit 3,zo3 P)::(nat_lit 15,HI)::(nat_lit 17,Hx)::(nat_lit 18,Hu)::(nat_lit 20,Hm)::(nat_lit 21,Hh)::(nat_lit 22,Hd)::(nat_lit 29,GG)::(nat_lit 30,Gy P)::(nat_lit 31,Gs)::(nat_lit 32,Gp)::(nat_lit 35,Gd)::(nat_lit 42,FJ)::(nat_lit 43,FI P)::(nat_lit 44,FH)::(nat_lit 47,FG)::(nat_lit 54,FF)::(nat_lit 55,FE P)::(nat_lit 56,FD)::(nat_lit 59,FC)::(nat_lit 66,FB)::(nat_lit 68,FA)::(nat_lit 69,Fz)::(nat_lit 71,Fy)::(nat_lit 72,Fx)::(nat_lit 73,Fw)::(nat_lit 74,Fv P)::(nat_lit 75,Fu)::(nat_lit 78,Ft)::(nat_lit 80,Fs)::(nat_lit 81,Fq)::(nat_lit 83,Fp)::(nat_lit 84,Fo)::(nat_lit 85,Fn)::(nat_lit 87,Fm)::(nat_lit 88,Fk)::(nat_lit 90,Fj)::(nat_lit 91,Fi)::(nat_lit 92,Fh)::(nat_lit 94,Fg)::(nat_lit 95,Ff)::(nat_lit 97,Fe)::(nat_lit 98,Fd)::(nat_lit 99,Fc)::(nat_lit 101,CP)::(nat_lit 102,CO)::(nat_lit 104,CN)::(nat_lit 105,CM)::(nat_lit 106,CK)::(nat_lit 109,CJ)::(nat_lit 110,CI)::(nat_lit 111,CH)::(nat_lit 114,CG)::(nat_lit 115,CF)::(nat_lit 123,CD)::(nat_lit 126,CC)::(nat_lit 127,CB)::(nat_lit 128,Cz)::(nat_lit 130,Cy)::(nat_lit 131,Cw)::(nat_lit 133,Cv)::(nat_lit 134,Cu)::(nat_lit 135,Ct)::(nat_lit 138,Cs)::(nat_lit 139,Cr)::(nat_lit 140,Cq)::(nat_lit 142,Cp)::(nat_lit 143,Co)::(nat_lit 145,Cn)::(nat_lit 146,Cm)::(nat_lit 147,Ck)::(nat_lit 149,Cj)::(nat_lit 150,Ci)::(nat_lit 152,Ch)::(nat_lit 153,Cg)::(nat_lit 154,Cf)::(nat_lit 155,Ce P)::(nat_lit 156,Cd)::(nat_lit 157,Cc)::(nat_lit 158,Cb)::(nat_lit 161,Ca)::(nat_lit 162,B9)::(nat_lit 163,B8)::(nat_lit 164,B7)::(nat_lit 165,B6)::(nat_lit 167,B5)::(nat_lit 168,B4)::(nat_lit 170,B3)::(nat_lit 171,B2)::(nat_lit 172,B1)::(nat_lit 174,B0)::(nat_lit 175,BZ)::(nat_lit 177,BY)::(nat_lit 178,BX)::(nat_lit 179,BW)::(nat_lit 181,BV)::(nat_lit 182,BU)::(nat_lit 184,BS)::(nat_lit 185,BR)::(nat_lit 186,BQ)::(nat_lit 188,BP)::(nat_lit 189,BO)::(nat_lit 191,BN)::(nat_lit 192,BM)::(nat_lit 193,BL)::(nat_lit 195,BK)::(nat_lit 196,BJ)::(nat_lit 198,BI)::(nat_lit 199,BH)::(nat_lit 200,BG)::(nat_lit 202,BF)::(nat_lit 203,BE)::(nat_lit 205,BD)::(nat_lit 206,BB)::(nat_lit 207,BA)::(nat_lit 210,Bz)::(nat_lit 211,By)::(nat_lit 212,Bx)::(nat_lit 215,Bw)::(nat_lit 216,Bv)::(nat_lit 217,Bu)::(nat_lit 219,Bt)::(nat_lit 220,Bs)::(nat_lit 222,Br)::(nat_lit 223,Bq)::(nat_lit 224,Bp)::(nat_lit 227,Bo)::(nat_lit 228,Bn)::(nat_lit 229,Bm)::(nat_lit 232,Bl)::(nat_lit 233,Bk)::(nat_lit 241,Bj)::(nat_lit 243,Bi)::(nat_lit 244,Bh)::(nat_lit 246,Bg)::(nat_lit 247,Bf)::(nat_lit 248,Be)::(nat_lit 250,Bd)::(nat_lit 251,Bc)::(nat_lit 253,Bb)::(nat_lit 254,Ba)::(nat_lit 255,A9)::(nat_lit 257,A8)::(nat_lit 258,A7)::(nat_lit 260,A6)::(nat_lit 261,A5)::(nat_lit 262,A4)::(nat_lit 263,A3 P)::(nat_lit 264,A2)::(nat_lit 265,A0)::(nat_lit 266,AZ)::(nat_lit 269,AY)::(nat_lit 270,AX P)::(nat_lit 271,AW)::(nat_lit 272,AV)::(nat_lit 273,AU)::(nat_lit 274,AT)::(nat_lit 275,AS)::(nat_lit 276,AR)::(nat_lit 277,AQ)::(nat_lit 278,AO)::(nat_lit 279,AN)::(nat_lit 280,AM)::(nat_lit 281,AL)::(nat_lit 283,AK)::(nat_lit 284,AJ)::(nat_lit 286,AI)::(nat_lit 287,AH)::(nat_lit 288,AG)::(nat_lit 291,AF)::(nat_lit 292,AE)::(nat_lit 293,AD)::(nat_lit 295,AC)::(nat_lit 296,AB)::(nat_lit 298,AA)::(nat_lit 299,Az)::(nat_lit 300,Ay)::(nat_lit 303,Ax)::(nat_lit 304,Aw)::(nat_lit 305,Au)::(nat_lit 307,At)::(nat_lit 308,As)::(nat_lit 310,Ar)::(nat_lit 311,Aq)::(nat_lit 312,Ap)::(nat_lit 314,Ao)::(nat_lit 315,An)::(nat_lit 317,Am)::(nat_lit 318,Al)::(nat_lit 319,Ak)::(nat_lit 322,Aj)::(nat_lit 323,Ai)::(nat_lit 324,Ah)::(nat_lit 326,Ag)::(nat_lit 327,Af)::(nat_lit 329,Ae)::(nat_lit 330,Ad)::(nat_lit 331,Ac)::(nat_lit 333,Ab)::(nat_lit 334,Aa)::(nat_lit 336,zZ)::(nat_lit 337,zY)::(nat_lit 338,zX)::(nat_lit 340,zW)::(nat_lit 341,zV)::(nat_lit 343,zU)::(nat_lit 344,zT)::(nat_lit 345,zS)::(nat_lit 347,zR)::(nat_lit 348,zQ)::(nat_lit 350,zP)::(nat_lit 351,zO)::(nat_lit 352,zN)::(nat_lit 355,zM)::(nat_lit 356,zL)::(nat_lit 357,zK)::(nat_lit 359,zJ)::(nat_lit 360,zI)::(nat_lit 362,zH)::(nat_lit 363,zG)::(nat_lit 364,zF)::(nat_lit 367,zE)::(nat_lit 368,zD)::(nat_lit 369,zC)::(nat_lit 372,zB)::(nat_lit 373,zA)::(nat_lit 374,zz)::(nat_lit 376,zy)::(nat_lit 377,zx)::(nat_lit 379,zw)::(nat_lit 380,zv)::(nat_lit 381,zu)::(nat_lit 383,zt)::(nat_lit 384,zr)::(nat_lit 386,zq)::(nat_lit 387,zp)::(nat_lit 388,zo)::(nat_lit 391,zn)::(nat_lit 392,zm)::(nat_lit 393,zk)::(nat_lit 395,zj)::(nat_lit 396,zi)::(nat_lit 398,zh)::(nat_lit 399,zg)::(nat_lit 400,zf)::(nat_lit 403,ze)::(nat_lit 404,zd)::(nat_lit 405,zc)::(nat_lit 408,zb)::(nat_lit 409,za)::[]
noncomputable def hA:List Addr:=nat_lit 2::nat_lit 3::nat_lit 15::nat_lit 17::nat_lit 18::nat_lit 20::nat_lit 21::nat_lit 22::nat_lit 29::nat_lit 30::nat_lit 31::nat_lit 32::nat_lit 35::nat_lit 42::nat_lit 43::nat_lit 44::nat_lit 47::nat_lit 54::nat_lit 55::nat_lit 56::nat_lit 59::nat_lit 66::nat_lit 68::nat_lit 69::nat_lit 71::nat_lit 72::nat_lit 73::nat_lit 74::nat_lit 75::nat_lit 78::nat_lit 80::nat_lit 81::nat_lit 83::nat_lit 84::nat_lit 85::nat_lit 87::nat_lit 88::nat_lit 90::nat_lit 91::nat_lit 92::nat_lit 94::nat_lit 95::nat_lit 97::nat_lit 98::nat_lit 99::nat_lit 101::nat_lit 102::nat_lit 104::nat_lit 105::nat_lit 106::nat_lit 109::nat_lit 110::nat_lit 111::nat_lit 114::nat_lit 115::nat_lit 123::nat_lit 126::nat_lit 127::nat_lit 128::nat_lit 130::nat_lit 131::nat_lit 133::nat_lit 134::nat_lit 135::nat_lit 138::nat_lit 139::nat_lit 140::nat_lit 142::nat_lit 143::nat_lit 145::nat_lit 146::nat_lit 147::nat_lit 149::nat_lit 150::nat_lit 152::nat_lit 153::nat_lit 154::nat_lit 155::nat_lit 156::nat_lit 157::nat_lit 158::nat_lit 161::nat_lit 162::nat_lit 163::nat_lit 164::nat_lit 165::nat_lit 167::nat_lit 168::nat_lit 170::nat_lit 171::nat_lit 172::nat_lit 174::nat_lit 175::nat_lit 177::nat_lit 178::nat_lit 179::nat_lit 181::nat_lit 182::nat_lit 184::nat_lit 185::nat_lit 186::nat_lit 188::nat_lit 189::nat_lit 191::nat_lit 192::nat_lit 193::nat_lit 195::nat_lit 196::nat_lit 198::nat_lit 199::nat_lit 200::nat_lit 202::nat_lit 203::nat_lit 205::nat_lit 206::nat_lit 207::nat_lit 210::nat_lit 211::nat_lit 212::nat_lit 215::nat_lit 216::nat_lit 217::nat_lit 219::nat_lit 220::nat_lit 222::nat_lit 223::nat_lit 224::nat_lit 227::nat_lit 228::nat_lit 229::nat_lit 232::nat_lit 233::nat_lit 241::nat_lit 243::nat_lit 244::nat_lit 246::nat_lit 247::nat_lit 248::nat_lit 250::nat_lit 251::nat_lit 253::nat_lit 254::nat_lit 255::nat_lit 257::nat_lit 258::nat_lit 260::nat_lit 261::nat_lit 262::nat_lit 263::nat_lit 264::nat_lit 265::nat_lit 266::nat_lit 269::nat_lit 270::nat_lit 271::nat_lit 272::nat_lit 273::nat_lit 274::nat_lit 275::nat_lit 276::nat_lit 277::nat_lit 278::nat_lit 279::nat_lit 280::nat_lit 281::nat_lit 283::nat_lit 284::nat_lit 286::nat_lit 287::nat_lit 288::nat_lit 291::nat_lit 292::nat_lit 293::nat_lit 295::nat_lit 296::nat_lit 298::nat_lit 299::nat_lit 300::nat_lit 303::nat_lit 304::nat_lit 305::nat_lit 307::nat_lit 308::nat_lit 310::nat_lit 311::nat_lit 312::nat_lit 314::nat_lit 315::nat_lit 317::nat_lit 318::nat_lit 319::nat_lit 322::nat_lit 323::nat_lit 324::nat_lit 326::nat_lit 327::nat_lit 329::nat_lit 330::nat_lit 331::nat_lit 333::nat_lit 334::nat_lit 336::nat_lit 337::nat_lit 338::nat_lit 340::nat_lit 341::nat_lit 343::nat_lit 344::nat_lit 345::nat_lit 347::nat_lit 348::nat_lit 350::nat_lit 351::nat_lit 352::nat_lit 355::nat_lit 356::nat_lit 357::nat_lit 359::nat_lit 360::nat_lit 362::nat_lit 363::nat_lit 364::nat_lit 367::nat_lit 368::nat_lit 369::nat_lit 372::nat_lit 373::nat_lit 374::nat_lit 376::nat_lit 377::nat_lit 379::nat_lit 380::nat_lit 381::nat_lit 383::nat_lit 384::nat_lit 386::nat_lit 387::nat_lit 388::nat_lit 391::nat_lit 392::nat_lit 393::nat_lit 395::nat_lit 396::nat_lit 398::nat_lit 399::nat_lit 400::nat_lit 403::nat_lit 404::nat_lit 405::nat_lit 408::nat_lit 409::[]
noncomputable def hE:Env:={scope:=hP.main.scope,locals:=mainNs,globals:=mainNs,cells:=[],code:=(.ref 13),frame:=some 14}
noncomputable def hB:List Stmt:=PySem.W.behindTheImports hP
noncomputable abbrev hC:Code:=.body hB hE
noncomputable abbrev hN:Option Value:=(some (.ref 6))
noncomputable abbrev hF:List Frame:=[PySem.W.topFrame ⟨0,0,0,0⟩]
noncomputable def hS (w:World) (os:OsState):Shared:=⟨N6 w.params,Array.mk [],PySem.W.boot_drawn,PySem.W.boot_toks,os⟩
noncomputable def Jj (w:World) (os:OsState):Shared:=(PySem.W.topGo treeTable hP w 11 hN 12 (hS w os) (Oj hP)).elim (hS w os) λ x=>x.1
noncomputable def Dd (w:World) (os:OsState):PySem.W.SharedT:=toT ((Ol treeTable hP w 11 hN 1 1 (Jj w os) (Om hB hE hC ⟨0,0,0,0⟩ hF)).elim (Jj w os) λ x=>x.2.1)
theorem hpre (w:World) (os:OsState):PySem.W.topGo treeTable hP w 11 hN 12 (hS w os) (Oj hP)=some (Jj w os,⟨denote treeTable hC,hC,⟨0,0,0,0⟩,hF⟩):=by kernel_rfl
theorem K9 (w:World) (os:OsState):Ol treeTable hP w 11 hN 1 1 (Jj w os) (Om hB hE hC ⟨0,0,0,0⟩ hF)=some (.next,(Dd w os).abs,hC,⟨0,0,0,0⟩):=by kernel_rfl
noncomputable def hL1 (P:Params):PySem.W.BT:=aB (PySem.W.boot_o_0 P) (aB (PySem.W.boot_o_1 P) (aB (zo3 P) (aB (PySem.W.boot_o_7 P) (aB HI (aB Gs (aB J6 (aB CB (aT A9) (aT zt)) (aB BN (aT Ak) .nil)) (aB Ff (aB HG (aT AH) .nil) (aB Bq (aT zO) .nil))) (aB FG (aB JZ (aB Co (aT AW) (aT zg)) (aB BA (aT Gi) .nil)) (aB CH (aB BZ (aT Ax) .nil) (aB GV (aT zE) .nil)))) (aB Kz (aB Kn (aB Fy (aB Ct (aT (A3 P)) (aT zn)) (aB BH (aT Af) .nil)) (aB Ii (aB B5 (aT AC) .nil) (aB G3 (aT zJ) .nil))) (aB (FE P) (aB Fm (aB HH (aT AN) (aT FK)) (aB Bw (aT zU) .nil)) (aB HX (aB Hs (aT Aq) .nil) (aB Bf (aT FV) .nil))))) (aB KI (aB KA (aB Gd (aB J3 (aB Cw (aT GN) (aT zp)) (aB BK (aT Ai) .nil)) (aB Fc (aB B8 (aT AF) .nil) (aB Bo (aT zM) .nil))) (aB Ke (aB Fp (aB Ck (aT AS) (aT ze)) (aB By (aT Gh) .nil)) (aB CF (aB BW (aT At) .nil) (aB Bi (aT FW) .nil)))) (aB Kv (aB (FI P) (aB Fu (aB Cr (aT GL) (aT zj)) (aB BE (aT Ac) .nil)) (aB Ih (aB B2 (aT Az) .nil) (aB GZ (aT zG) .nil))) (aB FC (aB Fi (aB (Ce P) (aT AK) .nil) (aB Bt (aT zR) .nil)) (aB CD (aB Hr (aT An) .nil) (aB Bc (aT zw) .nil)))))) (aB (PySem.W.boot_o_5 P) (aB (PySem.W.boot_o_9 P) (aB Hx (aB Ks (aB J4 (aB HQ (aT A8) (aT FS)) (aB BL (aT Gn) .nil)) (aB Fe (aB Ca (aT GH) .nil) (aB Hb (aT Gc) .nil))) (aB (Kh P) (aB Fq (aB Cn (aT AU) (aT FN)) (aB Hi (aT zY) .nil)) (aB Ic (aB BY (aT Au) .nil) (aB Bj (aT zC) .nil)))) (aB Kx (aB Kl (aB Fw (aB HM (aT A0) (aT zk)) (aB Hl (aT Ae) .nil)) (aB CM (aB Hy (aT Gz) .nil) (aB Bk (aT F0) .nil))) (aB Kb (aB JW (aB Cg (aT AL) (aT za)) (aB Bu (aT zS) .nil)) (aB HV (aB BR (aT Gr) .nil) (aB GQ (aT zx) .nil))))) (aB KG (aB Hh (aB (Kp P) (aB Fz (aB Cv (aT A5) (aT FR)) (aB Hn (aT Gm) .nil)) (aB CP (aB B6 (aT AD) .nil) (aB Bm (aT zK) .nil))) (aB Kc (aB Fn (aB Cj (aT AQ) (aT zc)) (aB Hg (aT zV) .nil)) (aB Ia (aB BV (aT Gu) .nil) (aB GR (aT zA) .nil)))) (aB GG (aB Kk (aB J0 (aB HL (aT AY) (aT FO)) (aB BD (aT Ab) .nil)) (aB CJ (aB Hw (aT Gx) .nil) (aB GX (aT FZ) .nil))) (aB (J8 P) (aB JV (aB Cc (aT GI) .nil) (aB Hc (aT Ge) .nil)) (aB HR (aB BO (aT Am) .nil) (aB Bb (aT zu) .nil))))))) (aB (Oi P) (aB (PySem.W.boot_o_4 P) (aB (PySem.W.boot_o_8 P) (aB KB (aB Gp (aB J5 (aB Cz (aT GO) (aT zr)) (aB BM (aT Go) .nil)) (aB JU (aB HF (aT AG) .nil) (aB Bp (aT zN) .nil))) (aB Ki (aB Fs (aB HK (aT AV) (aT zf)) (aB Hj (aT zZ) .nil)) (aB Ie (aB Hv (aT Aw) .nil) (aB GU (aT zD) .nil)))) (aB (Ky P) (aB Km (aB Fx (aB HN (aT A2) (aT zm)) (aB BG (aT Gk) .nil)) (aB CN (aB B4 (aT AB) .nil) (aB Bl (aT zI) .nil))) (aB FD (aB Fk (aB Ch (aT AM) (aT zb)) (aB Bv (aT zT) .nil)) (aB HW (aB BS (aT Ap) .nil) (aB Be (aT zy) .nil))))) (aB KH (aB Hm (aB Kq (aB FA (aB HP (aT A6) (aT zo)) (aB BJ (aT Ah) .nil)) (aB Ij (aB B7 (aT AE) .nil) (aB Bn (aT zL) .nil))) (aB Kd (aB Fo (aB HJ (aT AR) (aT zd)) (aB Bx (aT zW) .nil)) (aB Ib (aB Ht (aT As) .nil) (aB Bh (aT zB) .nil)))) (aB Ku (aB FH (aB J1 (aB Cq (aT GK) (aT zi)) (aB Hk (aT Gj) .nil)) (aB Ig (aB B1 (aT Ay) .nil) (aB (GY P) (aT zF) .nil))) (aB J9 (aB Fh (aB Cd (aT AJ) .nil) (aB Bs (aT zQ) .nil)) (aB HS (aB BP (aT Gq) .nil) (aB GP (aT zv) .nil)))))) (aB (PySem.W.boot_o_6 P) (aB (PySem.W.boot_o_10 P) (aB Hu (aB Kr (aB FB (aB Cy (aT A7) (aT zq)) (aB Ho (aT Aj) .nil)) (aB Fd (aB B9 (aT GF) .nil) (aB Ha (aT Gb) .nil))) (aB Kg (aB JY (aB Cm (aT AT) (aT FM)) (aB Bz (aT zX) .nil)) (aB CG (aB BX (aT Gv) .nil) (aB GS (aT FX) .nil)))) (aB Kw (aB FJ (aB (Fv P) (aB Cs (aT AZ) (aT FP)) (aB BF (aT Ad) .nil)) (aB CK (aB B3 (aT AA) .nil) (aB G0 (aT zH) .nil))) (aB Ka (aB Fj (aB Cf (aT GJ) .nil) (aB He (aT Gf) .nil)) (aB HU (aB BQ (aT Ao) .nil) (aB Bd (aT FU) .nil))))) (aB KC (aB Hd (aB Ko (aB J2 (aB Cu (aT A4) (aT FQ)) (aB BI (aT Ag) .nil)) (aB CO (aB Hz (aT GB) .nil) (aB G4 (aT Ga) .nil))) (aB FF (aB JX (aB Ci (aT AO) (aT FL)) (aB Hf (aT Gg) .nil)) (aB (HY P) (aB BU (aT Ar) .nil) (aB Bg (aT zz) .nil)))) (aB (Gy P) (aB Kj (aB Ft (aB Cp (aT (AX P)) (aT zh)) (aB BB (aT Aa) .nil)) (aB CI (aB B0 (aT Gw) .nil) (aB GW (aT FY) .nil))) (aB J7 (aB Fg (aB Cb (aT AI) .nil) (aB Br (aT zP) .nil)) (aB CC (aB Hq (aT Al) .nil) (aB Ba (aT FT) .nil)))))))
noncomputable def E4 (w:World) (os:OsState):PySem.W.SharedT:=stT (hL1 w.params) 410 796 w.params os
noncomputable def Ji:List Stmt:=(hB.drop 0).take 64
theorem yB (w0:World):(λ w:World=>(λ os=>N7 treeTable hP w 11 hN 1 3031 (Dd w os) ⟨(execs Ji hE).wrap NZ N8 id id,hC,⟨0,0,0,0⟩,hF⟩)=λ os=>some (Flow.next,(E4 w os),hC,⟨317,0,332,87⟩)) (w0.withFollow "special-get-raises" false):=by
 show (λ os=>_)=_;rw [PySem.W.Fast.te10110043849684766642,PySem.W.Fast.te12563942051412417395,PySem.W.Fast.te14364793385576792824]
 kernel_rfl
theorem yz (w0:World):(λ w:World=>(λ os=>N7 treeTable hP w 11 hN 1 3031 (Dd w os) ⟨(execs Ji hE).wrap NZ N8 id id,hC,⟨0,0,0,0⟩,hF⟩)=λ os=>some (Flow.next,(E4 w os),hC,⟨317,0,332,87⟩)) (w0.withFollow "special-get-raises" true):=by
 show (λ os=>_)=_;rw [PySem.W.Fast.te10110043849684766642,PySem.W.Fast.te12563942051412417395,PySem.W.Fast.te14364793385576792824]
 kernel_rfl
theorem Jf (w:World):(λ os=>N7 treeTable hP w 11 hN 1 3031 (Dd w os) ⟨(execs Ji hE).wrap NZ N8 id id,hC,⟨0,0,0,0⟩,hF⟩)=λ os=>some (Flow.next,(E4 w os),hC,⟨317,0,332,87⟩):=PySem.W.byRow2 "special-get-raises" (P:=λ w=>(λ os=>N7 treeTable hP w 11 hN 1 3031 (Dd w os) ⟨(execs Ji hE).wrap NZ N8 id id,hC,⟨0,0,0,0⟩,hF⟩)=λ os=>some (Flow.next,(E4 w os),hC,⟨317,0,332,87⟩)) yB yz w
noncomputable def hSf (tr:(String->Option Builtin)->Program->World->Nat->Option Value->Nat->Shared->Thread->Option Shared) (tb:String->Option Builtin) (w:World) (os:OsState):Shared:=
 (tr tb hP w 11 hN 2 (E4 w os).abs ⟨NZ .next,hC,⟨317,0,332,87⟩,hF⟩).elim (hS w os) id
noncomputable def hX (s:Shared):Bool:=PySem.W.xlAt hQ [] s&&PySem.W.recOk (PySem.W.RowW.records PySem.Challenge.rw_playboard_k07_games_written.row.toRowW) s
theorem K8 (w:World):(λ os=>NT treeTable hP w 11 hN 2 (E4 w os).abs ⟨NZ .next,hC,⟨317,0,332,87⟩,hF⟩)=λ os=>some (hSf NT treeTable w os):=by
 rw [PySem.W.Fast.te14364793385576792824,PySem.W.Fast.te14082659384304107361]
 kernel_rfl
theorem Ew (w:World):(λ os=>(PySem.W.staticsOk (importedModules hP.main.body) (N6 w.params) (hSf NT treeTable w os).heap&&PySem.W.namesBound hP (hSf NT treeTable w os).heap&&PySem.W.gensDone (hSf NT treeTable w os)&&PySem.W.laidKept (N6 w.params) (hSf NT treeTable w os).heap))=λ os=>true:=by
 rw [PySem.W.Fast.te14364793385576792824,PySem.W.Fast.te14082659384304107361,PySem.W.Fast.te5923862056798008813]
 kernel_rfl
theorem Eu (w:World):(λ os=>PySem.W.openSeen hQ ["FORMS"] (importedModules hP.main.body) hX true (hSf NT treeTable w os))=λ os=>PySem.W.openGood hQ ["FORMS"]:=by
 rw [PySem.W.Fast.te14364793385576792824,PySem.W.Fast.te14082659384304107361,PySem.W.Fast.te4187177175401517315,PySem.W.Fast.te5923862056798008813]
 kernel_rfl
theorem Et (w:World):(λ os=>sF hA (hSf NT treeTable w os))=λ os=>sy hK w:=by
 rw [PySem.W.Fast.te14364793385576792824,PySem.W.Fast.te14082659384304107361]
 kernel_rfl
theorem hBe:hB=(Ji++[]):=by kernel_rfl
theorem Jh (w:World) (os:OsState):NT treeTable hP w 11 hN (3031+2) (Dd w os).abs (On hB hE hC ⟨0,0,0,0⟩ hF)=some (hSf NT treeTable w os):=by have r:=PySem.W.piece_nil (env:=hE) (congrFun (K8 w) os);have r:=PySem.W.piece_app (PySem.W.segRun_of (congrFun (Jf w) os)) r;exact (congrArg (λ l=>NT treeTable hP w 11 hN (3031+2) (Dd w os).abs (On l hE hC ⟨0,0,0,0⟩ hF)) hBe).trans r
theorem hleft:PySem.W.LeftO hP hQ ["FORMS"] hX (sF hA) (sy hK) 6186:=
 uj (n0:=12) (nb:=1) (n:=(3031+2)) (qp:=⟨0,0,0,0⟩) (p0:=⟨0,0,0,0⟩) (p1:=⟨0,0,0,0⟩) (H₀:=N6) (m₀:=11) (ann:=hN) (b:=hB) (env:=hE) (sa:=Jj) (sb:=Dd) (sf:=λ w os=>(hSf NT treeTable w os))
  (PySem.W.boot_open (by kernel_rfl) (by decide+kernel) (λ s=>by kernel_rfl)) (λ w=>by kernel_rfl) hpre K9 Jh (by decide+kernel) (λ w os=>by rw [congrFun (Ew w) os,congrFun (Eu w) os,congrFun (Et w) os])
end K07
namespace K07
open PySem L2
theorem mC (P:Program) (w:World) (base:Heap) {K:Frag}{h:Heap}{mg:Str->Option Value}{name q:Str}{st:Stmt}{ps:List Str}{k:Nat}{sp:Sp}{f:Addr}{fd:FuncData}(X:K.In h) (G:h.Ns mainGlobals mg) (a:NP K mainGlobals name=some (some (.ref f))) (F:bX K name q st f fd) (b:gY K fd ps []) (o:bj P w K mg base eI k f fd ps sp):eA P w K mg base name ps k sp:=⟨f,_,o,NR X G a,F.kp,b⟩
noncomputable abbrev ζL (o:Value) (d:Option Addr) (a b:Str) (s:Stmt) (k c p:Value) (n:Option Addr) (e t:Value) (l:Array (Option Value)):Obj:=⟨o,d,.func (NW a b (fA s) (eP s) (ak s) .none k c p n e t),l⟩
theorem all_mk {l:PySem.W.OpenLaw}{w:World}{K:Frag}{h:Heap}{mg:Str->Option Value}{fa f1 f2 f3 f4 f5 f6 f7 f8 f9 f10 f11 f12 f13 f14 f15 f16 f17 f18 f19 f20 f21 f22 f23 f24 f25 f26 f27 f28 f29 f30 f31 f32 f33 f34 f35 f36 f37 f38 f39 f40 cBoard cGame aS aA aE aW aO aF bF0 bF1 bF2 bF3 bF4 bF5 bF6 bF7 bF8 bF9:Addr}(X:K.In h) (G:h.Ns mainGlobals mg) (hfa:mg "law"=some (.ref fa))
  {od40 an40:Option Addr} {sl40:Array (Option Value)} {oc40 kV40 dc40 pm40 cd40 ct40:Value} {d1 d2 d3 d4 d5 d6 d7 d8 d9 d10 d11 d12 d13 d14 d15 d16 d17 d18 d19 d20 d21 d22 d23 d24 d25 d26 d27 d28 d29 d30 d31 d32 d33 d34 d35 d36 d37 d38 d39:FuncData} {u0 u1 u2 u3 u4 u5:Value}
  (aCBoard:NP K mainGlobals "Board"=some (some (.ref cBoard)))
  (aCGame:NP K mainGlobals "Game"=some (some (.ref cGame)))
  (a1:NP K mainGlobals "is_whole"=some (some (.ref f1)))
  (F1:bX K "is_whole" "is_whole" eW f1 d1)
  (a2:NP K mainGlobals "is_letter"=some (some (.ref f2)))
  (F2:bX K "is_letter" "is_letter" dS f2 d2)
  (a3:NP K mainGlobals "is_among"=some (some (.ref f3)))
  (F3:bX K "is_among" "is_among" eY f3 d3)
  (a4:NP K mainGlobals "number_text"=some (some (.ref f4)))
  (F4:bX K "number_text" "number_text" bV f4 d4)
  (a5:NP K mainGlobals "number_of"=some (some (.ref f5)))
  (F5:bX K "number_of" "number_of" cV f5 d5)
  (a6:NP K mainGlobals "are_holes"=some (some (.ref f6)))
  (F6:bX K "are_holes" "are_holes" cZ f6 d6)
  (a7:NQ K (.ref cBoard) "__init__"=some (some (.ref f7))) (iF7:Oc K (.ref f7)=true)
  (F7:bX K "__init__" "Board.__init__" bM f7 d7)
  (a8:NP K mainGlobals "is_word"=some (some (.ref f8)))
  (F8:bX K "is_word" "is_word" fM f8 d8)
  (a9:NP K mainGlobals "is_tuple_of"=some (some (.ref f9)))
  (F9:bX K "is_tuple_of" "is_tuple_of" cQ f9 d9)
  (a10:NP K mainGlobals "is_list_of"=some (some (.ref f10)))
  (F10:bX K "is_list_of" "is_list_of" df f10 d10)
  (a11:NP K mainGlobals "is_step"=some (some (.ref f11)))
  (F11:bX K "is_step" "is_step" fN f11 d11)
  (a12:NP K mainGlobals "is_rule"=some (some (.ref f12)))
  (F12:bX K "is_rule" "is_rule" fO f12 d12)
  (a13:NP K mainGlobals "is_pair"=some (some (.ref f13)))
  (F13:bX K "is_pair" "is_pair" fP f13 d13)
  (a14:NP K mainGlobals "are_pairs"=some (some (.ref f14)))
  (F14:bX K "are_pairs" "are_pairs" cX f14 d14)
  (a15:NP K mainGlobals "is_turns"=some (some (.ref f15)))
  (F15:bX K "is_turns" "is_turns" cT f15 d15)
  (a16:NP K mainGlobals "is_ends"=some (some (.ref f16)))
  (F16:bX K "is_ends" "is_ends" fQ f16 d16)
  (a17:NP K mainGlobals "are_kinds"=some (some (.ref f17)))
  (F17:bX K "are_kinds" "are_kinds" cY f17 d17)
  (a18:NP K mainGlobals "are_rules"=some (some (.ref f18)))
  (F18:bX K "are_rules" "are_rules" cW f18 d18)
  (a19:NQ K (.ref cGame) "__init__"=some (some (.ref f19))) (iF19:Oc K (.ref f19)=true)
  (F19:bX K "__init__" "Game.__init__" cp f19 d19)
  (a20:NP K mainGlobals "rule_line"=some (some (.ref f20)))
  (F20:bX K "rule_line" "rule_line" dR f20 d20)
  (a21:NP K mainGlobals "written"=some (some (.ref f21)))
  (F21:bX K "written" "written" cr f21 d21)
  (a22:NP K mainGlobals "part_of"=some (some (.ref f22)))
  (F22:bX K "part_of" "part_of" fL f22 d22)
  (a23:NP K mainGlobals "parts_of"=some (some (.ref f23)))
  (F23:bX K "parts_of" "parts_of" dz f23 d23)
  (a24:NP K mainGlobals "may_follow"=some (some (.ref f24)))
  (F24:bX K "may_follow" "may_follow" de f24 d24)
  (a25:NP K mainGlobals "sorted_out"=some (some (.ref f25)))
  (F25:bX K "sorted_out" "sorted_out" dc f25 d25)
  (a26:NP K mainGlobals "game_of"=some (some (.ref f26)))
  (F26:bX K "game_of" "game_of" cu f26 d26)
  (a27:NP K mainGlobals "_law_at"=some (some (.ref f27)))
  (F27:bX K "_law_at" "_law_at" fR f27 d27)
  (a28:NP K mainGlobals "_law_whole"=some (some (.ref f28)))
  (F28:bX K "_law_whole" "_law_whole" dg f28 d28)
  (a29:NP K mainGlobals "_law_side"=some (some (.ref f29)))
  (F29:bX K "_law_side" "_law_side" dU f29 d29)
  (a30:NP K mainGlobals "_law_holes"=some (some (.ref f30)))
  (F30:bX K "_law_holes" "_law_holes" di f30 d30)
  (a31:NP K mainGlobals "_law_kinds"=some (some (.ref f31)))
  (F31:bX K "_law_kinds" "_law_kinds" cJ f31 d31)
  (a32:NP K mainGlobals "_law_rule"=some (some (.ref f32)))
  (F32:bX K "_law_rule" "_law_rule" dX f32 d32)
  (a33:NP K mainGlobals "_law_rules"=some (some (.ref f33)))
  (F33:bX K "_law_rules" "_law_rules" cH f33 d33)
  (a34:NP K mainGlobals "_law_turns"=some (some (.ref f34)))
  (F34:bX K "_law_turns" "_law_turns" cF f34 d34)
  (a35:NP K mainGlobals "_law_ends"=some (some (.ref f35)))
  (F35:bX K "_law_ends" "_law_ends" dY f35 d35)
  (a36:NP K mainGlobals "_law_parts"=some (some (.ref f36)))
  (F36:bX K "_law_parts" "_law_parts" dh f36 d36)
  (a37:NP K mainGlobals "_law_lines"=some (some (.ref f37)))
  (F37:bX K "_law_lines" "_law_lines" bI f37 d37)
  (a38:NP K mainGlobals "_law_same"=some (some (.ref f38)))
  (F38:bX K "_law_same" "_law_same" dW f38 d38)
  (a39:NP K mainGlobals "_law_right"=some (some (.ref f39)))
  (F39:bX K "_law_right" "_law_right" cI f39 d39)
  (a40:NP K mainGlobals "law"=some (some (.ref f40)))
  (l40:K.lookup f40=some (ζL oc40 od40 "law" "law" ia kV40 dc40 pm40 an40 cd40 ct40 sl40)) (c40:N5 K cd40 "law"=true) (k40:NY K (.ref f40)=true)
  (pgXBoard:N0 K cBoard Str.empty=true)
  (hdXBoard:N1 K cBoard=true)
  (poXBoard:N2 K cBoard=true)
  (saXBoard:NQ K (.ref cBoard) "__setattr__"=some (some (.builtin "object.__setattr__")))
  (mkXBoard:N3 K cBoard=true)
  (kcXBoard:NY K (.ref cBoard)=true)
  (naBoardwide:NQ K (.ref cBoard) "wide"=some none)
  (naBoardhigh:NQ K (.ref cBoard) "high"=some none)
  (naBoardholes:NQ K (.ref cBoard) "holes"=some none)
  (naBoardfirm:NQ K (.ref cBoard) "firm"=some none)
  (pgXGame:N0 K cGame Str.empty=true)
  (hdXGame:N1 K cGame=true)
  (poXGame:N2 K cGame=true)
  (saXGame:NQ K (.ref cGame) "__setattr__"=some (some (.builtin "object.__setattr__")))
  (mkXGame:N3 K cGame=true)
  (kcXGame:NY K (.ref cGame)=true)
  (naGameboard:NQ K (.ref cGame) "board"=some none)
  (naGamekinds:NQ K (.ref cGame) "kinds"=some none)
  (naGamerules:NQ K (.ref cGame) "rules"=some none)
  (naGameturns:NQ K (.ref cGame) "turns"=some none)
  (naGameends:NQ K (.ref cGame) "ends"=some none)
  (naGamestuck:NQ K (.ref cGame) "stuck"=some none)
  (z0:NP K mainGlobals "isinstance"=some none)
  (z1:NP K mainGlobals "int"=some none)
  (z2:NP K mainGlobals "bool"=some none)
  (z3:NP K mainGlobals "str"=some none)
  (z4:NP K mainGlobals "list"=some none)
  (z5:NP K mainGlobals "tuple"=some none)
  (z6:NP K mainGlobals "len"=some none)
  (z7:NP K mainGlobals "range"=some none)
  (z8:NP K mainGlobals "all"=some none)
  (z9:NP K mainGlobals "any"=some none)
  (z10:NP K mainGlobals "set"=some none)
  (z11:NP K mainGlobals "sorted"=some none)
  (z12:NP K mainGlobals "min"=some none)
  (z13:NP K mainGlobals "dict"=some none)
  (z14:NP K mainGlobals "zip"=some none)
  (z15:NP K mainGlobals "enumerate"=some none)
  (z16:NP K mainGlobals "reversed"=some none)
  (kg0:NP K mainGlobals "MOST_PAIRS"=some (some u0)) (rv0:aN (.int 6) u0)
  (kg1:NP K mainGlobals "MOST_KINDS"=some (some u1)) (rv1:aN (.int 6) u1)
  (kg2:NP K mainGlobals "MOST_RULES"=some (some u2)) (rv2:aN (.int 24) u2)
  (kg3:NP K mainGlobals "FIGURES"=some (some u3)) (rv3:aN (.str "0123456789") u3)
  (kg4:NP K mainGlobals "MOST_FIGURES"=some (some u4)) (rv4:aN (.int 9) u4)
  (kg5:NP K mainGlobals "LONGEST"=some (some u5)) (rv5:aN (.int 8) u5)
  {tO0:Value} {tD0:Option Addr} {tI0:Array Value} {tN0:Nat} {tS0:Array (Option Value)} (kt0:NP K mainGlobals "SORTS"=some (some (.ref aS))) (lt0:K.lookup aS=some ⟨tO0,tD0,.seq tI0 tN0,tS0⟩) (ctp0:tO0=.type "tuple") (zt0:tI0.size<=sizeLine) (vt0:aV ([V.str "leap",V.str "slide",V.str "jump"]) tI0.toList)
  {tO1:Value} {tD1:Option Addr} {tI1:Array Value} {tN1:Nat} {tS1:Array (Option Value)} (kt1:NP K mainGlobals "AIMS"=some (some (.ref aA))) (lt1:K.lookup aA=some ⟨tO1,tD1,.seq tI1 tN1,tS1⟩) (ctp1:tO1=.type "tuple") (zt1:tI1.size<=sizeLine) (vt1:aV ([V.str "go",V.str "hit",V.str "any"]) tI1.toList)
  {tO2:Value} {tD2:Option Addr} {tI2:Array Value} {tN2:Nat} {tS2:Array (Option Value)} (kt2:NP K mainGlobals "END_WORDS"=some (some (.ref aE))) (lt2:K.lookup aE=some ⟨tO2,tD2,.seq tI2 tN2,tS2⟩) (ctp2:tO2=.type "tuple") (zt2:tI2.size<=sizeLine) (vt2:aV ([V.str "without",V.str "home"]) tI2.toList)
  {tO3:Value} {tD3:Option Addr} {tI3:Array Value} {tN3:Nat} {tS3:Array (Option Value)} (kt3:NP K mainGlobals "STUCK_WORDS"=some (some (.ref aW))) (lt3:K.lookup aW=some ⟨tO3,tD3,.seq tI3 tN3,tS3⟩) (ctp3:tO3=.type "tuple") (zt3:tI3.size<=sizeLine) (vt3:aV ([V.str "lost",V.str "even",V.str "won"]) tI3.toList)
  (kd0:NP K mainGlobals "ORDER"=some (some (.ref aO)))
  (kd1:NP K mainGlobals "FORMS"=some (some (.ref aF)))
  (dF:Dl l.prog w K aF (fkv (Jn bF0 bF1 bF2 bF3 bF4 bF5 bF6 bF7 bF8 bF9)))
  (tF0:eG K bF0 ["board","number","number"])
  (tF1:eG K bF1 ["hole","number"])
  (tF2:eG K bF2 ["kind","letter"])
  (tF3:eG K bF3 ["rule","letter","aim","number","number"])
  (tF4:eG K bF4 ["rule","letter","aim","number","number"])
  (tF5:eG K bF5 ["rule","letter","aim","number","number"])
  (tF6:eG K bF6 ["turn","letter","letter"])
  (tF7:eG K bF7 ["end","letter"])
  (tF8:eG K bF8 ["end","letter"])
  (tF9:eG K bF9 ["stuck","word"])
  (tO:eG K aO ordL):
  ∃fd:FuncData,(∀(s:Shared) (v:Value),BindsTo s fd ⟨[v],[]⟩ [("_law_script",v)])/\∀base:Heap,K.In base->base.Ns mainGlobals mg->bj l.prog w K mg base eI 10 fa fd ["_law_script"] (rN K):=by
 have e:=hfa.symm.trans (NR X G a40);cases e;have T:Txt mg aS aA aE aW aO aF:=⟨NS X G z0,NS X G z1,NS X G z2,NS X G z3,NS X G z4,NS X G z5,NS X G z6,NS X G z7,NS X G z8,NS X G z9,NS X G z10,NS X G z11,NS X G z12,NS X G z13,NS X G z14,NS X G z15,NS X G z16,⟨_,NR X G kg0,rv0⟩,⟨_,NR X G kg1,rv1⟩,⟨_,NR X G kg2,rv2⟩,⟨_,NR X G kg3,rv3⟩,⟨_,NR X G kg4,rv4⟩,⟨_,NR X G kg5,rv5⟩,⟨_,NR X G kt0,rfl⟩,⟨_,NR X G kt1,rfl⟩,⟨_,NR X G kt2,rfl⟩,⟨_,NR X G kt3,rfl⟩,⟨_,NR X G kd0,rfl⟩,⟨_,NR X G kd1,rfl⟩⟩;have hT_SORTS:∀H,fI K H aS ["leap","slide","jump"]:=λ H=>.inr (.inr ⟨_,tI0,tN0,lt0,ctp0,rfl,zt0,vt0⟩);have hT_AIMS:∀H,fI K H aA ["go","hit","any"]:=λ H=>.inr (.inr ⟨_,tI1,tN1,lt1,ctp1,rfl,zt1,vt1⟩);have hT_END_WORDS:∀H,fI K H aE ["without","home"]:=λ H=>.inr (.inr ⟨_,tI2,tN2,lt2,ctp2,rfl,zt2,vt2⟩);have hT_STUCK_WORDS:∀H,fI K H aW ["lost","even","won"]:=λ H=>.inr (.inr ⟨_,tI3,tN3,lt3,ctp3,rfl,zt3,vt3⟩);have b1:=F1.binds (ps:=["thing"]) λ _ _ _ _ _ _=>L2.uh (λ _=>rfl);have b2:=F2.binds (ps:=["thing"]) λ _ _ _ _ _ _=>L2.uh (λ _=>rfl);have b3:=F3.binds (ps:=["thing","least","most"]) λ _ _ _ _ _ _=>L2.yp (λ _ _ _=>rfl);have b4:=F4.binds (ps:=["number"]) λ _ _ _ _ _ _=>L2.uh (λ _=>rfl);have b5:=F5.binds (ps:=["text"]) λ _ _ _ _ _ _=>L2.uh (λ _=>rfl);have b6:=F6.binds (ps:=["thing","many"]) λ _ _ _ _ _ _=>L2.ug (λ _ _=>rfl);have b7:=F7.binds (ps:=["self","wide","high","holes"]) λ _ _ _ _ _ _=>L2.ln4 (λ _ _ _ _=>rfl);have b8:=F8.binds (ps:=["thing","words"]) λ _ _ _ _ _ _=>L2.ug (λ _ _=>rfl);have b9:=F9.binds (ps:=["thing","many"]) λ _ _ _ _ _ _=>L2.ug (λ _ _=>rfl);have b10:=F10.binds (ps:=["thing","least","most"]) λ _ _ _ _ _ _=>L2.yp (λ _ _ _=>rfl);have b11:=F11.binds (ps:=["sort","across","up"]) λ _ _ _ _ _ _=>L2.yp (λ _ _ _=>rfl);have b12:=F12.binds (ps:=["thing","kinds"]) λ _ _ _ _ _ _=>L2.ug (λ _ _=>rfl);have b13:=F13.binds (ps:=["thing","firsts","seconds"]) λ _ _ _ _ _ _=>L2.yp (λ _ _ _=>rfl);have b14:=F14.binds (ps:=["thing","firsts","seconds"]) λ _ _ _ _ _ _=>L2.yp (λ _ _ _=>rfl);have b15:=F15.binds (ps:=["thing","kinds"]) λ _ _ _ _ _ _=>L2.ug (λ _ _=>rfl);have b16:=F16.binds (ps:=["thing","kinds"]) λ _ _ _ _ _ _=>L2.ug (λ _ _=>rfl);have b17:=F17.binds (ps:=["thing"]) λ _ _ _ _ _ _=>L2.uh (λ _=>rfl);have b18:=F18.binds (ps:=["thing","kinds"]) λ _ _ _ _ _ _=>L2.ug (λ _ _=>rfl);have b19:=F19.binds (ps:=["self","board","kinds","rules","turns","ends","stuck"]) λ _ _ _ _ _ _=>L2.ln7 (λ _ _ _ _ _ _ _=>rfl);have b20:=F20.binds (ps:=["rule"]) λ _ _ _ _ _ _=>L2.uh (λ _=>rfl);have b21:=F21.binds (ps:=["game"]) λ _ _ _ _ _ _=>L2.uh (λ _=>rfl);have b22:=F22.binds (ps:=["form","word"]) λ _ _ _ _ _ _=>L2.ug (λ _ _=>rfl);have b23:=F23.binds (ps:=["line"]) λ _ _ _ _ _ _=>L2.uh (λ _=>rfl);have b24:=F24.binds (ps:=["sort","last"]) λ _ _ _ _ _ _=>L2.ug (λ _ _=>rfl);have b25:=F25.binds (ps:=["lines"]) λ _ _ _ _ _ _=>L2.uh (λ _=>rfl);have b26:=F26.binds (ps:=["lines"]) λ _ _ _ _ _ _=>L2.uh (λ _=>rfl);have b27:=F27.binds (ps:=["_law_script","_law_k"]) λ _ _ _ _ _ _=>L2.ug (λ _ _=>rfl);have b28:=F28.binds (ps:=["_law_thing"]) λ _ _ _ _ _ _=>L2.uh (λ _=>rfl);have b29:=F29.binds (ps:=["_law_cell"]) λ _ _ _ _ _ _=>L2.uh (λ _=>rfl);have b30:=F30.binds (ps:=["_law_script","_law_k","_law_many"]) λ _ _ _ _ _ _=>L2.yp (λ _ _ _=>rfl);have b31:=F31.binds (ps:=["_law_script","_law_k"]) λ _ _ _ _ _ _=>L2.ug (λ _ _=>rfl);have b32:=F32.binds (ps:=["_law_cell","_law_kinds_here"]) λ _ _ _ _ _ _=>L2.ug (λ _ _=>rfl);have b33:=F33.binds (ps:=["_law_script","_law_k","_law_kinds_here"]) λ _ _ _ _ _ _=>L2.yp (λ _ _ _=>rfl);have b34:=F34.binds (ps:=["_law_script","_law_k","_law_kinds_here"]) λ _ _ _ _ _ _=>L2.yp (λ _ _ _=>rfl);have b35:=F35.binds (ps:=["_law_script","_law_k","_law_kinds_here"]) λ _ _ _ _ _ _=>L2.yp (λ _ _ _=>rfl);have b36:=F36.binds (ps:=["_law_script","_law_k"]) λ _ _ _ _ _ _=>L2.ug (λ _ _=>rfl);have b37:=F37.binds (ps:=["_law_wide","_law_high","_law_holes_here","_law_parts_here","_law_stuck"]) λ _ _ _ _ _ _=>L2.ln5 (λ _ _ _ _ _=>rfl);have b38:=F38.binds (ps:=["_law_game","_law_wide","_law_high","_law_holes_here","_law_parts_here","_law_stuck"]) λ _ _ _ _ _ _=>L2.ln6 (λ _ _ _ _ _ _=>rfl);have b39:=F39.binds (ps:=["_law_game","_law_wide","_law_high","_law_holes_here","_law_parts_here","_law_stuck","_law_kept"]) λ _ _ _ _ _ _=>L2.ln7 (λ _ _ _ _ _ _ _=>rfl);have F40:=aR (st:=ia) l40 c40 k40;have b40:=F40.binds (ps:=["_law_script"]) λ _ _ _ _ _ _=>L2.uh (λ _=>rfl);have cl_Board:rA K cBoard:=⟨pgXBoard,hdXBoard,poXBoard,saXBoard⟩;have cl_Game:rA K cGame:=⟨pgXGame,hdXGame,poXGame,saXGame⟩;refine ⟨NW "law" "law" (fA ia) (eP ia) (ak ia) .none kV40 dc40 pm40 an40 cd40 ct40,λ s v=>.of_eq rfl,λ base _ _=>?_⟩;have C_is_whole:=mC l.prog w base X G a1 F1 b1 (oV F1 T);have C_is_letter:=mC l.prog w base X G a2 F2 b2 (mO F2 T);have C_is_among:=mC l.prog w base X G a3 F3 b3 (oX F3 T ⟨C_is_whole⟩);have C_number_text:=mC l.prog w base X G a4 F4 b4 (j5 F4 T (NR X G a4) b4);have C_number_of:=mC l.prog w base X G a5 F5 b5 (mN F5 T);have C_is_word:=mC l.prog w base X G a8 F8 b8 (qB F8 T);have C_is_tuple_of:=mC l.prog w base X G a9 F9 b9 (j6 F9 T);have C_is_list_of:=mC l.prog w base X G a10 F10 b10 (kN F10 T);have C_is_step:=mC l.prog w base X G a11 F11 b11 (qC F11 T ⟨C_is_among⟩);have R2:RG2 l.prog w K mg base:=⟨C_is_word,C_is_tuple_of⟩;have R3:RG3 l.prog w K mg base:={toRG2:=R2,is_step:=C_is_step};have C_is_rule:=mC l.prog w base X G a12 F12 b12 (qD F12 T hT_SORTS hT_AIMS R3);have C_is_pair:=mC l.prog w base X G a13 F13 b13 (qE F13 T R2);have C_are_pairs:=mC l.prog w base X G a14 F14 b14 (mQ F14 T ⟨C_is_list_of,C_is_pair⟩);have C_is_ends:=mC l.prog w base X G a16 F16 b16 (qF F16 T hT_END_WORDS ⟨C_are_pairs⟩);have C_is_turns:=mC l.prog w base X G a15 F15 b15 (oW F15 T ⟨C_are_pairs⟩);have G1:Lu l.prog w K mg base:=⟨C_is_list_of,C_is_letter,C_is_rule⟩;have C_are_kinds:=mC l.prog w base X G a17 F17 b17 (mR F17 T G1);have C_are_rules:=mC l.prog w base X G a18 F18 b18 (mP F18 T G1);have G2:GG2 l.prog w K mg base:=⟨C_are_kinds,C_are_rules,C_is_turns,C_is_ends,C_is_word⟩;have GC:xx K cGame:=⟨cl_Game,naGameboard,naGamekinds,naGamerules,naGameturns,naGameends,naGamestuck⟩;have C_Game:kD l.prog w K mg base "Game" cGame _ _ _:=⟨f19,_,⟨mkXGame,a19,iF19,kcXGame⟩,mY F19 T hT_STUCK_WORDS GC G2,NR X G aCGame,b19⟩;have DA:CA l.prog w K mg base:=⟨EQ C_is_among⟩;have C_are_holes:=mC l.prog w base X G a6 F6 b6 (mS F6 T DA);have DB2:CB2 l.prog w K mg base:={toCA:=DA,are_holes:=C_are_holes};have BC:rB K cBoard:=⟨cl_Board,naBoardwide,naBoardhigh,naBoardholes,naBoardfirm⟩;have C_Board:kD l.prog w K mg base "Board" cBoard _ _ _:=⟨f7,_,⟨mkXBoard,a7,iF7,kcXBoard⟩,kX F7 T BC DB2,NR X G aCBoard,b7⟩;have C_rule_line:=mC l.prog w base X G a20 F20 b20 (mM F20 T ⟨C_number_text⟩);have C_written:=mC l.prog w base X G a21 F21 b21 (qz F21 T BC GC {number_text:=C_number_text,rule_line:=C_rule_line});have C_part_of:=mC l.prog w base X G a22 F22 b22 (qA F22 T hT_AIMS hT_STUCK_WORDS ⟨C_number_of,C_is_letter,C_is_word⟩);have F2:=yM tF0 tF1 tF2 tF3 tF4 tF5 tF6 tF7 tF8 tF9;have C_parts_of:=mC l.prog w base X G a23 F23 b23 (oU F23 T dF F2 rfl ⟨C_part_of⟩);have C_may_follow:=mC l.prog w base X G a24 F24 b24 (kM F24 T tO);have C_sorted_out:=mC l.prog w base X G a25 F25 b25 (kL F25 T dF F2 rfl tO ⟨C_parts_of,C_may_follow⟩);have C_game_of:=mC l.prog w base X G a26 F26 b26 (qG F26 T ⟨C_sorted_out,C_Board,C_Game⟩);have C__law_at:=mC l.prog w base X G a27 F27 b27 (qH F27 T);have C__law_whole:=mC l.prog w base X G a28 F28 b28 (kO F28 T);have C__law_side:=mC l.prog w base X G a29 F29 b29 (mT F29 T);have A1:L1 l.prog w K mg base:=⟨C__law_at⟩;have C__law_holes:=mC l.prog w base X G a30 F30 b30 (kW F30 T A1);have C__law_kinds:=mC l.prog w base X G a31 F31 b31 (kU F31 T A1);have C__law_rule:=mC l.prog w base X G a32 F32 b32 (mV F32 T);have C__law_rules:=mC l.prog w base X G a33 F33 b33 (kQ F33 T {toL1:=A1,_law_rule:=C__law_rule});have C__law_turns:=mC l.prog w base X G a34 F34 b34 (kP F34 T A1);have C__law_ends:=mC l.prog w base X G a35 F35 b35 (mW F35 T A1);have C__law_parts:=mC l.prog w base X G a36 F36 b36 (kS F36 T ⟨C__law_kinds,C__law_rules,C__law_turns,C__law_ends⟩);have C__law_lines:=mC l.prog w base X G a37 F37 b37 (kT F37 T);have C__law_same:=mC l.prog w base X G a38 F38 b38 (mU F38 T BC GC ⟨C__law_whole⟩);have C__law_right:=mC l.prog w base X G a39 F39 b39 (kR F39 T ⟨C__law_lines,C_written,C_game_of,C__law_same⟩);have C:CL l.prog w K mg base cBoard cGame:=⟨C__law_at,C__law_side,C__law_holes,C__law_parts,C__law_right,C_Board,C_Game⟩;exact D9 F40 T C
theorem walk {l:PySem.W.OpenLaw}{q:Program}{loose:List Str}{XP:(Str->Option Value)->Heap->Prop}{YP:World->Heap->Prop}{d:DefRec}{K:Params->Frag}(hn:l.most=some 63) (hdf:d.params.defaults=[])
  (hY:∀(w:World) (h:Heap),YP w h->(K w.params).In h)
  (F:∀(w:World) (mg:Str->Option Value) (fa:Addr) (h:Heap),(K w.params).In h->h.Ns mainGlobals mg->mg d.name=some (.ref fa)->
   ∃fd:FuncData,(∀(s:Shared) (u:Value),BindsTo s fd ⟨[u],[]⟩ [("_law_script",u)])/\∀base:Heap,(K w.params).In base->base.Ns mainGlobals mg->bj l.prog w (K w.params) mg base eI 10 fa fd ["_law_script"] (rN (K w.params))):
  PySem.W.WalkO q loose XP YP l.row.toRowW d [] (λ f vs=>PySem.call f vs):=
 L2.xD (n:=63) (k:=10) (x:="_law_script") (CX:=λ _=>eI) (sp:=λ w=>rN (K w.params)) hn (by decide) hdf ⟨rfl,by decide,by decide⟩ hY F (λ _ _ a ns hl _ hS=>⟨a,ns,rfl,hS,hl,λ _=>rfl⟩) λ _ _ _ _ _ z=>z
end K07
open PySem PySem.W PyProof.Rows
set_option maxRecDepth 100000 in
set_option maxHeartbeats 0 in
theorem PySem.Challenge.cw_playboard_k07_games_written_holds : PySem.Challenge.rw_playboard_k07_games_written.Holds := by
 w_on
 o_law
 refine PySem.W.holds_openX (q:=K07.hQ) (loose:=["FORMS"]) (Xt:=K07.hX) (XP:=PySem.W.XL K07.hQ []) (Yf:=L2.sF K07.hA) (Ya:=L2.sy K07.hK) K07.hleft (λ s e=>PySem.W.xl_of s (NF.mp e).1) PySem.W.XL.keeps (by rfl) (by rfl) (by rfl) (λ s e=>PySem.W.recFacts_of (NF.mp e).2) (by rfl) (by first | assumption | decide+kernel) (by decide+kernel) ⟨rfl,rfl,rfl,rfl,rfl,by decide+kernel⟩ ?hw ?hc
 (case hw=>w_witness2)
 k_fill
 refine L2.uZ (L2.Jg (λ _=>by kernel_rfl)) ?_;refine K07.walk (l:=PySem.Challenge.rw_playboard_k07_games_written) rfl rfl (λ w h Y=>Y) ?F
 case F=>
  intro w mg fa h KX G hmg
  refine' K07.all_mk KX G hmg ?aCBoard ?aCGame ?a1 ?F1 ?a2 ?F2 ?a3 ?F3 ?a4 ?F4 ?a5 ?F5 ?a6 ?F6 ?a7 ?iF7 ?F7 ?a8 ?F8 ?a9 ?F9 ?a10 ?F10 ?a11 ?F11 ?a12 ?F12 ?a13 ?F13 ?a14 ?F14 ?a15 ?F15 ?a16 ?F16 ?a17 ?F17 ?a18 ?F18 ?a19 ?iF19 ?F19 ?a20 ?F20 ?a21 ?F21 ?a22 ?F22 ?a23 ?F23 ?a24 ?F24 ?a25 ?F25 ?a26 ?F26 ?a27 ?F27 ?a28 ?F28 ?a29 ?F29 ?a30 ?F30 ?a31 ?F31 ?a32 ?F32 ?a33 ?F33 ?a34 ?F34 ?a35 ?F35 ?a36 ?F36 ?a37 ?F37 ?a38 ?F38 ?a39 ?F39 ?a40 ?l40 ?c40 ?k40 ?pgXBoard ?hdXBoard ?poXBoard ?saXBoard ?mkXBoard ?kcXBoard ?naBoardwide ?naBoardhigh ?naBoardholes ?naBoardfirm ?pgXGame ?hdXGame ?poXGame ?saXGame ?mkXGame ?kcXGame ?naGameboard ?naGamekinds ?naGamerules ?naGameturns ?naGameends ?naGamestuck ?z0 ?z1 ?z2 ?z3 ?z4 ?z5 ?z6 ?z7 ?z8 ?z9 ?z10 ?z11 ?z12 ?z13 ?z14 ?z15 ?z16 ?kg0 ?rv0 ?kg1 ?rv1 ?kg2 ?rv2 ?kg3 ?rv3 ?kg4 ?rv4 ?kg5 ?rv5 ?kt0 ?lt0 ?ctp0 ?zt0 ?vt0 ?kt1 ?lt1 ?ctp1 ?zt1 ?vt1 ?kt2 ?lt2 ?ctp2 ?zt2 ?vt2 ?kt3 ?lt3 ?ctp3 ?zt3 ?vt3 ?kd0 ?kd1 ?dF ?tF0 ?tF1 ?tF2 ?tF3 ?tF4 ?tF5 ?tF6 ?tF7 ?tF8 ?tF9 ?tO
  (case aCBoard=>k_is)
  (case aCGame=>k_is)
  (case a1=>k_is)
  (case F1=>exact L2.aR (by k_is) (by k_is) (by k_is))
  (case a2=>k_is)
  (case F2=>exact L2.aR (by k_is) (by k_is) (by k_is))
  (case a3=>k_is)
  (case F3=>exact L2.aR (by k_is) (by k_is) (by k_is))
  (case a4=>k_is)
  (case F4=>exact L2.aR (by k_is) (by k_is) (by k_is))
  (case a5=>k_is)
  (case F5=>exact L2.aR (by k_is) (by k_is) (by k_is))
  (case a6=>k_is)
  (case F6=>exact L2.aR (by k_is) (by k_is) (by k_is))
  (case a7=>k_is)
  (case iF7=>k_is)
  (case F7=>exact L2.aR (by k_is) (by k_is) (by k_is))
  (case a8=>k_is)
  (case F8=>exact L2.aR (by k_is) (by k_is) (by k_is))
  (case a9=>k_is)
  (case F9=>exact L2.aR (by k_is) (by k_is) (by k_is))
  (case a10=>k_is)
  (case F10=>exact L2.aR (by k_is) (by k_is) (by k_is))
  (case a11=>k_is)
  (case F11=>exact L2.aR (by k_is) (by k_is) (by k_is))
  (case a12=>k_is)
  (case F12=>exact L2.aR (by k_is) (by k_is) (by k_is))
  (case a13=>k_is)
  (case F13=>exact L2.aR (by k_is) (by k_is) (by k_is))
  (case a14=>k_is)
  (case F14=>exact L2.aR (by k_is) (by k_is) (by k_is))
  (case a15=>k_is)
  (case F15=>exact L2.aR (by k_is) (by k_is) (by k_is))
  (case a16=>k_is)
  (case F16=>exact L2.aR (by k_is) (by k_is) (by k_is))
  (case a17=>k_is)
  (case F17=>exact L2.aR (by k_is) (by k_is) (by k_is))
  (case a18=>k_is)
  (case F18=>exact L2.aR (by k_is) (by k_is) (by k_is))
  (case a19=>k_is)
  (case iF19=>k_is)
  (case F19=>exact L2.aR (by k_is) (by k_is) (by k_is))
  (case a20=>k_is)
  (case F20=>exact L2.aR (by k_is) (by k_is) (by k_is))
  (case a21=>k_is)
  (case F21=>exact L2.aR (by k_is) (by k_is) (by k_is))
  (case a22=>k_is)
  (case F22=>exact L2.aR (by k_is) (by k_is) (by k_is))
  (case a23=>k_is)
  (case F23=>exact L2.aR (by k_is) (by k_is) (by k_is))
  (case a24=>k_is)
  (case F24=>exact L2.aR (by k_is) (by k_is) (by k_is))
  (case a25=>k_is)
  (case F25=>exact L2.aR (by k_is) (by k_is) (by k_is))
  (case a26=>k_is)
  (case F26=>exact L2.aR (by k_is) (by k_is) (by k_is))
  (case a27=>k_is)
  (case F27=>exact L2.aR (by k_is) (by k_is) (by k_is))
  (case a28=>k_is)
  (case F28=>exact L2.aR (by k_is) (by k_is) (by k_is))
  (case a29=>k_is)
  (case F29=>exact L2.aR (by k_is) (by k_is) (by k_is))
  (case a30=>k_is)
  (case F30=>exact L2.aR (by k_is) (by k_is) (by k_is))
  (case a31=>k_is)
  (case F31=>exact L2.aR (by k_is) (by k_is) (by k_is))
  (case a32=>k_is)
  (case F32=>exact L2.aR (by k_is) (by k_is) (by k_is))
  (case a33=>k_is)
  (case F33=>exact L2.aR (by k_is) (by k_is) (by k_is))
  (case a34=>k_is)
  (case F34=>exact L2.aR (by k_is) (by k_is) (by k_is))
  (case a35=>k_is)
  (case F35=>exact L2.aR (by k_is) (by k_is) (by k_is))
  (case a36=>k_is)
  (case F36=>exact L2.aR (by k_is) (by k_is) (by k_is))
  (case a37=>k_is)
  (case F37=>exact L2.aR (by k_is) (by k_is) (by k_is))
  (case a38=>k_is)
  (case F38=>exact L2.aR (by k_is) (by k_is) (by k_is))
  (case a39=>k_is)
  (case F39=>exact L2.aR (by k_is) (by k_is) (by k_is))
  (case a40=>k_is)
  (case l40=>k_is)
  (case c40=>k_is)
  (case k40=>k_is)
  (case pgXBoard=>k_is)
  (case hdXBoard=>k_is)
  (case poXBoard=>k_is)
  (case saXBoard=>k_is)
  (case mkXBoard=>k_is)
  (case kcXBoard=>k_is)
  (case naBoardwide=>k_is)
  (case naBoardhigh=>k_is)
  (case naBoardholes=>k_is)
  (case naBoardfirm=>k_is)
  (case pgXGame=>k_is)
  (case hdXGame=>k_is)
  (case poXGame=>k_is)
  (case saXGame=>k_is)
  (case mkXGame=>k_is)
  (case kcXGame=>k_is)
  (case naGameboard=>k_is)
  (case naGamekinds=>k_is)
  (case naGamerules=>k_is)
  (case naGameturns=>k_is)
  (case naGameends=>k_is)
  (case naGamestuck=>k_is)
  (case z0=>k_is)
  (case z1=>k_is)
  (case z2=>k_is)
  (case z3=>k_is)
  (case z4=>k_is)
  (case z5=>k_is)
  (case z6=>k_is)
  (case z7=>k_is)
  (case z8=>k_is)
  (case z9=>k_is)
  (case z10=>k_is)
  (case z11=>k_is)
  (case z12=>k_is)
  (case z13=>k_is)
  (case z14=>k_is)
  (case z15=>k_is)
  (case z16=>k_is)
  (case kg0=>k_is)
  (case rv0=>exact ⟨_,rfl⟩)
  (case kg1=>k_is)
  (case rv1=>exact ⟨_,rfl⟩)
  (case kg2=>k_is)
  (case rv2=>exact ⟨_,rfl⟩)
  (case kg3=>k_is)
  (case rv3=>exact ⟨_,rfl⟩)
  (case kg4=>k_is)
  (case rv4=>exact ⟨_,rfl⟩)
  (case kg5=>k_is)
  (case rv5=>exact ⟨_,rfl⟩)
  (case kt0=>k_is)
  (case lt0=>k_is)
  (case ctp0=>rfl)
  (case zt0=>decide)
  (case vt0=>exact .cons ⟨_,rfl⟩ (.cons ⟨_,rfl⟩ (.cons ⟨_,rfl⟩ (.nil))))
  (case kt1=>k_is)
  (case lt1=>k_is)
  (case ctp1=>rfl)
  (case zt1=>decide)
  (case vt1=>exact .cons ⟨_,rfl⟩ (.cons ⟨_,rfl⟩ (.cons ⟨_,rfl⟩ (.nil))))
  (case kt2=>k_is)
  (case lt2=>k_is)
  (case ctp2=>rfl)
  (case zt2=>decide)
  (case vt2=>exact .cons ⟨_,rfl⟩ (.cons ⟨_,rfl⟩ (.nil)))
  (case kt3=>k_is)
  (case lt3=>k_is)
  (case ctp3=>rfl)
  (case zt3=>decide)
  (case vt3=>exact .cons ⟨_,rfl⟩ (.cons ⟨_,rfl⟩ (.cons ⟨_,rfl⟩ (.nil))))
  (case kd0=>k_is)
  (case kd1=>k_is)
  (case dF=>(refine K07.dck_mk (by k_is) ?_ ?_ ?_;decide;exact .cons ⟨rfl,⟨_,rfl⟩,rfl⟩ (.cons ⟨rfl,⟨_,rfl⟩,rfl⟩ (.cons ⟨rfl,⟨_,rfl⟩,rfl⟩ (.cons ⟨rfl,⟨_,rfl⟩,rfl⟩ (.cons ⟨rfl,⟨_,rfl⟩,rfl⟩ (.cons ⟨rfl,⟨_,rfl⟩,rfl⟩ (.cons ⟨rfl,⟨_,rfl⟩,rfl⟩ (.cons ⟨rfl,⟨_,rfl⟩,rfl⟩ (.cons ⟨rfl,⟨_,rfl⟩,rfl⟩ (.cons ⟨rfl,⟨_,rfl⟩,rfl⟩ (.nil))))))))));decide+kernel))
  (case tF0=>exact ⟨_,_,_,by k_is,.cons ⟨_,rfl⟩ (.cons ⟨_,rfl⟩ (.cons ⟨_,rfl⟩ (.nil)))⟩)
  (case tF1=>exact ⟨_,_,_,by k_is,.cons ⟨_,rfl⟩ (.cons ⟨_,rfl⟩ (.nil))⟩)
  (case tF2=>exact ⟨_,_,_,by k_is,.cons ⟨_,rfl⟩ (.cons ⟨_,rfl⟩ (.nil))⟩)
  (case tF3=>exact ⟨_,_,_,by k_is,.cons ⟨_,rfl⟩ (.cons ⟨_,rfl⟩ (.cons ⟨_,rfl⟩ (.cons ⟨_,rfl⟩ (.cons ⟨_,rfl⟩ (.nil)))))⟩)
  (case tF4=>exact ⟨_,_,_,by k_is,.cons ⟨_,rfl⟩ (.cons ⟨_,rfl⟩ (.cons ⟨_,rfl⟩ (.cons ⟨_,rfl⟩ (.cons ⟨_,rfl⟩ (.nil)))))⟩)
  (case tF5=>exact ⟨_,_,_,by k_is,.cons ⟨_,rfl⟩ (.cons ⟨_,rfl⟩ (.cons ⟨_,rfl⟩ (.cons ⟨_,rfl⟩ (.cons ⟨_,rfl⟩ (.nil)))))⟩)
  (case tF6=>exact ⟨_,_,_,by k_is,.cons ⟨_,rfl⟩ (.cons ⟨_,rfl⟩ (.cons ⟨_,rfl⟩ (.nil)))⟩)
  (case tF7=>exact ⟨_,_,_,by k_is,.cons ⟨_,rfl⟩ (.cons ⟨_,rfl⟩ (.nil))⟩)
  (case tF8=>exact ⟨_,_,_,by k_is,.cons ⟨_,rfl⟩ (.cons ⟨_,rfl⟩ (.nil))⟩)
  (case tF9=>exact ⟨_,_,_,by k_is,.cons ⟨_,rfl⟩ (.cons ⟨_,rfl⟩ (.nil))⟩)
  (case tO=>exact ⟨_,_,_,by k_is,.cons ⟨_,rfl⟩ (.cons ⟨_,rfl⟩ (.cons ⟨_,rfl⟩ (.cons ⟨_,rfl⟩ (.cons ⟨_,rfl⟩ (.cons ⟨_,rfl⟩ (.cons ⟨_,rfl⟩ (.nil)))))))⟩)
