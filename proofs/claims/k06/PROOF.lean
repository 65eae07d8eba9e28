import PyProof.Rows.All
import Wide.All
import OpenK.AllK
import Wide.FinOn
import Lean
import PyProof.EqAt
import PyProof.EqKinds
import PyProof.TupleCall
import KE.KIntText
import KE.IntTextLaws
import KE.IntText
import KE.KRevIter
import KE.KEqDict
import PyProof.ZipIter
import PyProof.Draws
import PyProof.EnumMake
import PyProof.ListStr
import PyProof.Seq
import PyProof.TupleIter
import PyProof.StationsW
import PyProof.Rows.Catch
import PyProof.ToksMono
import PyProof.Rows.TupIter
import PyProof.AttrMissHeap
import KE.KDictOf
import PyProof.SetScanFacts
import PyProof.SetKind
import PyProof.CollectWalk
import PyProof.FactsAll.set
import PyProof.StrLoop
import PyProof.TupleKey
import KE.KSortTup
import PyProof.Rows.SortWalk
import PyProof.Rows.SortStr
import PyProof.NeKinds
import PyProof.ListRange
import PyProof.StrCalls6
import OpenK.ZGo
import PySem.Challenge.RW_playboard_k06_games
set_option Elab.async false
open List renaming length_map → Jx, mem_cons → Jy, mem_map → Jz, size_toArray → JA, getElem?_eq_getElem → JB, not_mem_nil → JC, length_append → JD, mem_singleton → JE, mem_append_right → JF, mem_append → JG, map_map → JH, mem_cons_self → JI, mem_cons_of_mem → JJ, length_cons → JK, all_eq_true → JL, getD_eq_getElem?_getD → JM, map_append → JN, getElem?_map → JO, all_cons → JP, getElem?_eq_some_iff → JQ, append_nil → JR, length_take → JS, mem_of_getElem? → JT, any_eq_true → JU, filter_eq_self → JV, map_cons → JW, lookup_cons → JX, mem_filterMap → JY, nodup_cons → JZ, length_drop → J0, replicate_succ → J1, map_congr_left → J2, mem_range → J3, mem_append_left → J4, any_cons → J6, length_range → J7, getElem_mem → J9, length_filter_le → Ka, any_eq_false → Kb, flatten_cons → Kc, nodup_append → Kd, getElem?_of_mem → Ke, mem_filter → Kg, filterMap_cons → Kh, of_mem_zip → Ki, length_replicate → Kj, find?_cons → Kk, length_nil → Kl, take_of_length_le → Km, getElem?_eq_none → Kn, set_cons_zero → Ko, pairwise_map → Kp, nodup_iff_pairwise_ne → Kq, mem_of_mem_take → Kr, getElem?_append_right → Ks, getElem?_append_left → Ku, append_assoc → Kv, length_singleton → Kw, drop_zero → Kx, getElem?_range → Ky, range_succ → Kz, any_map → KA, filter_congr → KB, all_map → KC, all_eq_false → KD, getElem?_set_self → KG, getElem?_set_ne → KH, getElem?_replicate → KI, mem_iff_getElem → KJ, ext_getElem? → KL, filter_append → KM, getElem?_cons_zero → KN, getElem?_cons_succ → KP, set_cons_succ → KQ, pairwise_iff_getElem → KR, getElem_range → KS, mem_of_mem_drop → KT, mem_replicate → KU
open Nat renaming le_refl → KW, ne_of_lt → KY, le_trans → KZ, lt_of_lt_of_le → K0, zero_le → K7, lt_irrefl → La, ne_of_gt → Lb, le_succ → Lc, le_of_eq → Ld, le_add_right → Le, le_of_lt → Lf, lt_succ_self → Lg, lt_trans → Lh, lt_succ_of_lt → Li, zero_add → Lj, le_of_ble_eq_true → Lk
open Int renaming emod_nonneg → Ll, emod_lt_of_pos → Lm, toNat_natCast → Ln, mul_le_mul → Lo, zero_add → Lp
open Bool renaming false_ne_true → Lq, and_eq_true → Lr, eq_iff_iff → Ls, and_false → Lu, true_and → Lv, false_eq_true → Lw, false_and → Lx, not_eq_true' → Ly, and_eq_true_iff → Lz
open Array renaming getElem?_eq_some_iff → LA, length_toList → LB, getElem?_eq_none → LC
open Option renaming map_eq_some_iff → LD, isSome_iff_exists → LF, getD_none → LG
open PySem.W renaming nsIn → LH, findIn → LJ, kitOne → LK, mg_of → LL, mg_none_of → LM, kia_one → LN, topRun → LO, keepIn → LP, emptyDict → LQ, fnOf → LR, instObj → LS, isFn → LU, hideAll_get → LV, plainGet → LW, hasDictIn → LX, mroIn → LY, callWith_K → LZ, excIn → L4, exmOne → L5, lookIn → L7, plainOver → L8, makesIn → Ma, codeIn → Mb, boot_heap → Mc, methodObj → Md, plainGet_of → Me, takerIn → Mf, cellsFrom_some → Mg, doneF → Mh, hideAll → Mi, of_hideAll → Mj, handedIn → Ml, specialIn → Mm, takesIn → Mn, kitx_list → Mo, kitx_dict → Mp, codeRec_of → Mq, boot_o_2 → Mr, topStub → Ms, segRun → Mt, blockOf → Mu, restOf → Mv
open PySem.W (Frag)
set_option linter.all false
set_option maxRecDepth 100000
set_option maxHeartbeats 4000000
namespace L2
open PySem PySem.Spec PyProof.Rows
abbrev Key:=Sum Int Str
def kM:Key->Value->Bool
 | .inl k,v=>Value.isInt k v
 | .inr x,v=>Value.isStrOf x v
def Jb (w:World):Key->Int
 | .inl k=>hashInt k
 | .inr x=>hashStr w x
theorem bO:∀{k:Key}{v:Value},kM k v=true->(∃i t,k=Sum.inl i/\v=Value.int i t)\/(∃x t,k=Sum.inr x/\v=Value.str x t)
 | .inl i,v,h=>by obtain ⟨t,e⟩:=Value.isInt_shape (k:=i) (v:=v) h;exact .inl ⟨i,t,rfl,e⟩
 | .inr x,v,h=>by obtain ⟨t,e⟩:=Value.isStrOf_shape (x:=x) (v:=v) h;exact .inr ⟨x,t,rfl,e⟩
theorem sH (i:Int) (t:Tok):kM (.inl i) (.int i t)=true:=by simp [kM,Value.isInt]
theorem sG (x:Str) (t:Tok):kM (.inr x) (.str x t)=true:=by simp [kM,Value.isStrOf]
theorem B8 (a b:Int):decide ((Sum.inl a:Key)=Sum.inl b)=(a == b):=by
 by_cases e:a=b
 ·subst e;simp
 ·have h:¬(Sum.inl a:Key)=Sum.inl b:=λ q=>e (Sum.inl.inj q);rw [decide_eq_false h];exact (beq_eq_false_iff_ne.mpr e).symm
theorem B5 (a b:Str):decide ((Sum.inr a:Key)=Sum.inr b)=decide (a=b):=by
 by_cases e:a=b
 ·subst e;simp
 ·have h:¬(Sum.inr a:Key)=Sum.inr b:=λ q=>e (Sum.inr.inj q);rw [decide_eq_false h,decide_eq_false e]
theorem B7 (a:Int) (b:Str):decide ((Sum.inl a:Key)=Sum.inr b)=false:=decide_eq_false (λ q=>nomatch q)
theorem B6 (a:Str) (b:Int):decide ((Sum.inr a:Key)=Sum.inl b)=false:=decide_eq_false (λ q=>nomatch q)
def dn (prog:Program) (w:World):PySem.KeyKind prog w Key where
 is:=kM
 hash:=Jb w
 inj:=λ v a b ha hb=>by
  rcases bO ha with ⟨i,t,rfl,rfl⟩ | ⟨x,t,rfl,rfl⟩
  ·rcases bO hb with ⟨j,u,rfl,e⟩ | ⟨y,u,rfl,e⟩
   ·injection e with e1 _;rw [e1]
   ·exact nomatch e
  ·rcases bO hb with ⟨j,u,rfl,e⟩ | ⟨y,u,rfl,e⟩
   ·exact nomatch e
   ·injection e with e1 _;rw [e1]
 byValue:=λ k v h=>by
   rcases bO h with ⟨i,t,rfl,rfl⟩ | ⟨x,t,rfl,rfl⟩<;>rfl
 pyHash:=λ hv h=>by
  rcases bO hv with ⟨i,t,rfl,rfl⟩ | ⟨x,t,rfl,rfl⟩
  ·exact wpAny_pyHash_int h
  ·exact wpAny_pyHash_str h
 eqBool:=λ hu hv h=>by
  rcases bO hu with ⟨i,t,rfl,rfl⟩ | ⟨x,t,rfl,rfl⟩
  ·rcases bO hv with ⟨j,u,rfl,rfl⟩ | ⟨y,u,rfl,rfl⟩
   ·rw [B8] at h;exact wpAny_eqBool_int h
   ·rw [B7] at h;exact SeqAt.EqAt.int_str i t y u _ _ _ _ h
  ·rcases bO hv with ⟨j,u,rfl,rfl⟩ | ⟨y,u,rfl,rfl⟩
   ·rw [B6] at h;exact SeqAt.EqAt.str_int x t j u _ _ _ _ h
   ·rw [B5] at h;exact wpAny_eqBool_str h
 «strs» :=λ k x t v h=>by
  rcases bO h with ⟨i,u,rfl,e⟩ | ⟨y,u,rfl,e⟩
  ·exact nomatch e
  ·injection e with e1 _;subst e1;cases v<;>rfl
theorem nM (prog:Program) (w:World) (i:Int) (t:Tok):(dn prog w).is (.inl i) (.int i t)=true:=sH i t
theorem nL (prog:Program) (w:World) (x:Str) (t:Tok):(dn prog w).is (.inr x) (.str x t)=true:=sG x t
end L2
namespace L2
open PySem PySem.Spec PyProof.Rows
inductive V where
 | non | bl (b:Bool) | int (i:Int) | str (x:Str) | byt (b:Array UInt8) | flt (b:UInt64) | ref (a:Addr) | ty (n:String)
 deriving DecidableEq
def aQ:V->Value->Prop
 | .non,u=>u=Value.none
 | .bl b,u=>u=Value.bool b
 | .int i,u=> ∃t,u=Value.int i t
 | .str x,u=> ∃t,u=Value.str x t
 | .byt b,u=> ∃t,u=Value.bytes b t
 | .flt b,u=> ∃t,u=Value.float b t
 | .ref a,u=>u=Value.ref a
 | .ty n,u=>u=Value.type n
abbrev aU:List V->List Value->Prop:=Paired aQ
theorem aU.length {xs:List V}{us:List Value}(r:aU xs us):xs.length=us.length:=Paired.length r
theorem aU.get:∀{xs:List V}{us:List Value}{i:Nat}{x:V},aU xs us->xs[i]? =some x->∃u,us[i]? =some u/\aQ x u
 | _,_,_,_,.nil,e=>by simp at e
 | _,_,0,_,.cons r _,e=>by simp at e;subst e;exact ⟨_,rfl,r⟩
 | _,_,i+1,x,.cons _ t,e=>by obtain ⟨u,h1,h2⟩:=aU.get (i:=i) (x:=x) t (by simpa using e);exact ⟨u,by simpa using h1,h2⟩
theorem aU.append:∀{xs ys:List V}{us ws:List Value},aU xs us->aU ys ws->aU (xs++ys) (us++ws)
 | _,_,_,_,.nil,s=>s
 | _,_,_,_,.cons r t,s=>.cons r (aU.append t s)
theorem aU.take:∀{xs:List V}{us:List Value}(n:Nat),aU xs us->aU (xs.take n) (us.take n)
 | _,_,0,_=>.nil
 | _,_,_+1,.nil=>.nil
 | _,_,n+1,.cons r t=>.cons r (aU.take n t)
theorem aU.drop:∀{xs:List V}{us:List Value}(n:Nat),aU xs us->aU (xs.drop n) (us.drop n)
 | _,_,0,r=>r
 | _,_,_+1,.nil=>.nil
 | _,_,n+1,.cons _ t=>aU.drop n t
def iW:Option V->Option Value->Prop
 | some v,some u=>aQ v u
 | none,none=>True
 | _,_=>False
def KV {κ:Type}:List (κ×V)->List (κ×Value)->Prop:=Paired λ (p:κ×V) (q:κ×Value)=>p.1=q.1/\aQ p.2 q.2
def kV:Key->V
 | .inl i=>.int i
 | .inr x=>.str x
inductive HO where
 | lst (xs:List V)
 | tup (xs:List V)
 | dK (kvs:List (Key×V)) | dT (kvs:List (List Key×V))
 | set (S:Int->Bool) (n:Nat)
 | ins (C dx:Addr) (fs:List (Str×V))
 | own (x:Addr)
 | xd (fs:List (Str×V))
 | met (f x:Addr)
 | rng (lo hi:Int)
 | frz (o:Obj) (u:HO)
 | tbl (ps:Array Value)
 | ext (φ:Heap->Prop)
abbrev Hp:=Addr->Option HO
def upd (H:Hp) (a:Addr) (o:HO):Hp:=λ b=>if b=a then some o else H b
theorem ae {H:Hp}{a:Addr}{o:HO}:upd H a o a=some o:=by unfold upd;rw [if_pos rfl]
theorem au {H:Hp}{a b:Addr}{o:HO}(h:b≠a):upd H a o b=H b:=by unfold upd;rw [if_neg h]
theorem aj {H:Hp}{a b:Addr}{o:HO}(h:H a=some o) (h':H b=none):a≠b:=by intro e;subst e;rw [h] at h';cases h'
section
variable (P:Program) (w:World)
def bD (H:Hp) (h:Heap) (a:Addr):HO->Prop
 | .lst xs=>xs.length<=sizeLine/\∃(its:List Value) (n:Nat),aU xs its/\h.get? a=some {cls:=.type "list",data:=.seq its.toArray n}
 | .tup xs=>xs.length<=sizeLine/\∃its:List Value,aU xs its/\IsTup h a its.toArray
 | .dK kvs=>kvs.length<=sizeLine/\(a == sysModules)=false/\∃vs,KV kvs vs/\h.DictOf (dn P w) a vs
 | .dT kvs=>kvs.length<=sizeLine/\(a == sysModules)=false/\∃xs:List (List Key×Addr×Value),
   Paired (λ (p:List Key×V) (q:List Key×Addr×Value)=>p.1=q.1/\H q.2.1=some (.tup (p.1.map kV))/\aQ p.2 q.2.2) kvs xs/\
   ∃o es ep,h.get? a=some o/\o.ExactDict/\o.data=.dict es ep/\es.toList=xs.map (entryOfKey (tupleKind (dn P w)))/\(xs.map (·.1)).Nodup
 | .set S n=>h.SetOf (intKind P w) a S n
 | .ins C dx fs=>H dx=some (.own a)/\fs.length<=1000/\dx≠a/\h.get? a=some (LS C dx)/\
   ∃mA,h.Ns1 dx mA/\(∀f,iW (fs.lookup f) (mA f))/\PySem.Within mA (fs.map (·.1))
 | .own _=> ∃o,h.get? a=some o
 | .xd fs=> ∃mA,h.Ns1 a mA/\∀f,iW (fs.lookup f) (mA f)
 | .rng lo hi=> ∃t u v,h.get? a=some {cls:=.type "range",data:=.fields #[.int lo t,.int hi u,.int 1 v]}
 | .frz o u=>h.get? a=some o/\bD H h a u
 | .tbl ps=>h.get? a=some {cls:=.none,data:=.fields ps}
 | .met f x=>h.get? a=some (Md (.ref f) (.ref x))
 | .ext φ=>φ h/\(∃o,h.get? a=some o)/\∀h1 h2:Heap,φ h1->(∀o,h1.get? a=some o->h2.get? a=some o)->φ h2
def ib (H:Hp) (h:Heap):Prop:= ∀a o,H a=some o->bD P w H h a o
end
section
variable {P:Program}{w:World}{H H':Hp}{h h':Heap}{a:Addr}{o:HO}
theorem bD.lt (x:bD P w H h a o):a<h.objs.size:=by
 cases o with
 | lst xs=>obtain ⟨_,_,_,_,e⟩:=x;exact Heap.lt_size e
 | tup xs=>obtain ⟨_,_,_,p⟩:=x;exact p.lt
 | dK kvs=>obtain ⟨_,_,_,_,o,_,_,e,_⟩:=x;exact Heap.lt_size e
 | dT kvs=>obtain ⟨_,_,_,_,o,_,_,e,_⟩:=x;exact Heap.lt_size e
 | set S n=>obtain ⟨o,_,_,_,e,_⟩:=x;exact Heap.lt_size e
 | ins C dx fs=>obtain ⟨_,_,_,e,_⟩:=x;exact Heap.lt_size e
 | own y=>obtain ⟨_,e⟩:=x;exact Heap.lt_size e
 | xd fs=>obtain ⟨_,⟨_,_,_,e,_⟩,_⟩:=x;exact Heap.lt_size e
 | rng lo hi=>obtain ⟨_,_,_,e⟩:=x;exact Heap.lt_size e
 | frz ob u=>obtain ⟨e,_⟩:=x;exact Heap.lt_size e
 | tbl ps=>exact Heap.lt_size (show h.get? a=some _ from x)
 | met f y=>exact Heap.lt_size (show h.get? a=some _ from x)
 | ext φ=>obtain ⟨_,⟨_,e⟩,_⟩:=x;exact Heap.lt_size e
theorem Paired.mapP {α β:Type}{F G:α->β->Prop}:∀{l₁:List α}{l₂:List β},Paired F l₁ l₂->(∀a b,F a b->G a b)->Paired G l₁ l₂
 | _,_,.nil,_=>.nil
 | _,_,.cons r t,f=>.cons (f _ _ r) (Paired.mapP t f)
theorem bD.stay (x:bD P w H h a o) (k:∀b u,(b=a\/H b=some (.own a))->h.get? b=some u->h'.get? b=some u)
  (ho:∀b,H b=some (.own a)->H' b=some (.own a)) (ht:∀b xs,H b=some (.tup xs)->H' b=some (.tup xs)):bD P w H' h' a o:=by
 induction o with
 | lst xs=>obtain ⟨z,its,n,r,e⟩:=x;exact ⟨z,its,n,r,k _ _ (.inl rfl) e⟩
 | tup xs=>obtain ⟨z,its,r,ob,e,c⟩:=x;exact ⟨z,its,r,ob,k _ _ (.inl rfl) e,c⟩
 | dK kvs=>obtain ⟨z,y,vs,r,ob,es,ep,e,c⟩:=x;exact ⟨z,y,vs,r,ob,es,ep,k _ _ (.inl rfl) e,c⟩
 | dT kvs=>
   obtain ⟨z,y,xs,r,ob,es,ep,e,c⟩:=x;exact ⟨z,y,xs,Paired.mapP r λ p q z=>⟨z.1,ht _ _ z.2.1,z.2.2⟩,ob,es,ep,k _ _ (.inl rfl) e,c⟩
 | set S n=>obtain ⟨ob,es,ep,t,e,c⟩:=x;exact ⟨ob,es,ep,t,k _ _ (.inl rfl) e,c⟩
 | ins C dx fs=>
   obtain ⟨d,z,ne,e,mA,⟨od,es,ep,e2,c⟩,r⟩:=x;exact ⟨ho _ d,z,ne,k _ _ (.inl rfl) e,mA,⟨od,es,ep,k _ _ (.inr d) e2,c⟩,r⟩
 | own y=>obtain ⟨ob,e⟩:=x;exact ⟨ob,k _ _ (.inl rfl) e⟩
 | xd fs=>obtain ⟨mA,⟨od,es,ep,e,c⟩,r⟩:=x;exact ⟨mA,⟨od,es,ep,k _ _ (.inl rfl) e,c⟩,r⟩
 | rng lo hi=>obtain ⟨t,u,v,e⟩:=x;exact ⟨t,u,v,k _ _ (.inl rfl) e⟩
 | frz ob u ih=>obtain ⟨e,q⟩:=x;exact ⟨k _ _ (.inl rfl) e,ih q⟩
 | tbl ps=>
   have e:h.get? a=some {cls:=.none,data:=.fields ps}:=x;show h'.get? a=some {cls:=.none,data:=.fields ps};exact k a _ (.inl rfl) e
 | met f y=>
   have e:h.get? a=some (Md (.ref f) (.ref y)):=x;show h'.get? a=some (Md (.ref f) (.ref y));exact k a _ (.inl rfl) e
 | ext φ=>obtain ⟨p,⟨o,e⟩,st⟩:=x;exact ⟨st _ _ p λ o q=>k _ _ (.inl rfl) q,⟨o,k _ _ (.inl rfl) e⟩,st⟩
theorem ib.lt (x:ib P w H h) (e:H a=some o):a<h.objs.size:=(x a o e).lt
theorem ib.fresh (x:ib P w H h) (e:h.objs.size<=a):H a=none:=by
 cases q:H a with
 | none=>rfl
 | some u=>exact absurd (K0 (x.lt q) e) (La _)
theorem ib.kept (x:ib P w H h) (k:∀b u,h.get? b=some u->h'.get? b=some u):ib P w H h':=λ a o e=>
 (x a o e).stay (λ b u _ q=>k b u q) (λ _ q=>q) λ _ _ q=>q
theorem ib.laid (x:ib P w H h) (k:∀b u,h.get? b=some u->h'.get? b=some u) (hp:h.objs.size<=a) (new:bD P w (upd H a o) h' a o):ib P w (upd H a o) h':=λ b u e=>by
 have hn:=x.fresh hp
 by_cases hb:b=a
 ·subst hb;rw [ae] at e;cases e;exact new
 ·rw [au hb] at e;exact (x b u e).stay (λ c v _ q=>k c v q) (λ c q=>by rw [au (aj q hn)];exact q) λ c xs q=>by rw [au (aj q hn)];exact q
end
def Rd (H:Hp) (a:Addr) (u:HO):Prop:=H a=some u\/∃o,H a=some (.frz o u)
theorem Rd.ok {P:Program}{w:World}{H:Hp}{h:Heap}{a:Addr}{u:HO}(r:Rd H a u) (x:ib P w H h):bD P w H h a u:=by
 rcases r with r | ⟨o,r⟩
 ·exact x a u r
 ·obtain ⟨_,q⟩:=x a _ r;exact q
def HC:Option HO->Prop
 | some (.lst _)=>True
 | some (.dK _)=>True
 | some (.dT _)=>True
 | some (.set _ _)=>True
 | some (.ins _ _ _)=>True
 | some (.ext _)=>True
 | _=>False
section
variable {P:Program}{w:World}{H:Hp}{h h':Heap}{x e:Addr}{o':HO}
theorem ib.write (ok:ib P w H h) (mu:HC (H x)) (he:e=x\/H e=some (.own x)) (k:∀b u,b≠e->h.get? b=some u->h'.get? b=some u) (heo:∃u,h'.get? e=some u)
  (new:bD P w (upd H x o') h' x o'):ib P w (upd H x o') h':=λ b u q=>by
 have nown:∀c y,H c=some (.own y)->c≠x:=λ c y r z=>by subst z;rw [r] at mu;exact mu
 have ntup:∀c xs,H c=some (.tup xs)->c≠x:=λ c xs r z=>by subst z;rw [r] at mu;exact mu
 by_cases hb:b=x
 ·subst hb;rw [ae] at q;cases q;exact new
 ·rw [au hb] at q
  by_cases hbe:b=e
  ·have q':H b=some (.own x):=by
    rcases he with z | z
    ·exact absurd (hbe.trans z) hb
    ·rw [hbe];exact z
   rw [q] at q';cases q';obtain ⟨v,hv⟩:=heo;exact ⟨v,by rw [hbe];exact hv⟩
  ·refine (ok b u q).stay (λ c v hc r=>k c v ?_ r) (λ c r=>by rw [au (nown c b r)];exact r) λ c xs r=>by rw [au (ntup c xs r)];exact r
   rcases hc with rfl | hc
   ·exact hbe
   ·rintro rfl
    rcases he with z | z
    ·exact nown c b hc z
    ·rw [hc] at z;cases z;exact hb rfl
end
structure Un (fs ex:List Addr) (H H':Hp) (h h':Heap):Prop where
 keep:∀b o,h.get? b=some o->H b=none->b∉fs->b∉ex->h'.get? b=some o
 slot:∀b o,h.get? b=some o->H b=none->b∈fs->b∉ex->∃sl,h'.get? b=some {o with slots:=sl}
 free:∀b o,h.get? b=some o->H b=none->b∉ex->H' b=none
 there:∀b o,h.get? b=some o->b∉ex->∃o',h'.get? b=some o'
 tups:∀b xs,H b=some (.tup xs)->H' b=some (.tup xs)
 frzs:∀b o u,H b=some (.frz o u)->H' b=some (.frz o u)
 tbls:∀b ps,H b=some (.tbl ps)->∃more,H' b=some (.tbl (ps++more))
section
variable {fs fs' ex ex':List Addr}{H H1 H2:Hp}{h h1 h2 h':Heap}{a x e:Addr}{o:HO}
theorem Un.any (u:Un fs ex H H1 h h1) {b:Addr}{ob:Obj}(q:h.get? b=some ob) (n:H b=none) (hx:b∉ex):∃sl,h1.get? b=some {ob with slots:=sl}:=by
 by_cases hb:b∈fs
 ·exact u.slot b ob q n hb hx
 ·exact ⟨ob.slots,u.keep b ob q n hb hx⟩
theorem Un.kept (k:∀b u,h.get? b=some u->h'.get? b=some u):Un fs ex H H h h':=
 ⟨λ b ob q _ _ _=>k b ob q,λ b ob q _ _ _=>⟨ob.slots,k b ob q⟩,λ _ _ _ n _=>n,λ b ob q _=>⟨ob,k b ob q⟩,λ _ _ q=>q,λ _ _ _ q=>q,λ _ ps q=>⟨#[],by rw [q];simp⟩⟩
theorem Un.refl:Un fs ex H H h h:=Un.kept λ _ _ q=>q
theorem Un.laid (k:∀b u,h.get? b=some u->h'.get? b=some u) (hp:h.objs.size<=a) (hn:H a=none):Un fs ex H (upd H a o) h h' where
 keep:=λ b u q _ _ _=>k b u q
 slot:=λ b u q _ _ _=>⟨u.slots,k b u q⟩
 free:=λ b u q n _=>by rw [au (KY (K0 (Heap.lt_size q) hp))];exact n
 there:=λ b u q _=>⟨u,k b u q⟩
 tups:=λ b xs q=>by rw [au (aj q hn)];exact q
 frzs:=λ b u xs q=>by rw [au (aj q hn)];exact q
 tbls:=λ b ps q=>⟨#[],by rw [au (aj q hn),q];simp⟩
theorem Un.write (mu:HC (H x)) (he:e=x\/H e=some (.own x)) (k:∀b u,b≠e->h.get? b=some u->h'.get? b=some u) (heo:∃u,h'.get? e=some u):Un fs ex H (upd H x o) h h':=by
 have hx:∀b,H b=none->b≠x:=λ b n z=>by subst z;rw [n] at mu;exact mu
 have hb:∀b,H b=none->b≠e:=λ b n z=>by
  subst z
  rcases he with r | r
  ·exact hx b n r
  ·rw [n] at r;cases r
 have hm:∀b u,H b=some u->¬HC (some u)->b≠x:=λ b u q nm z=>by subst z;rw [q] at mu;exact nm mu
 refine ⟨λ b u q n _ _=>k b u (hb b n) q,λ b u q n _ _=>⟨u.slots,k b u (hb b n) q⟩,λ b u q n _=>by rw [au (hx b n)];exact n,λ b u q _=>?_,
  λ b xs q=>by rw [au (hm b _ q λ z=>z)];exact q,λ b u xs q=>by rw [au (hm b _ q λ z=>z)];exact q,λ b ps q=>⟨#[],by rw [au (hm b _ q λ z=>z),q];simp⟩⟩
 by_cases hbe:b=e
 ·subst hbe;exact heo
 ·exact ⟨u,k b u hbe q⟩
end
def Hz (h:Heap) (H:Hp):List Addr:=(List.range h.objs.size).filter λ a=>(H a).isSome
def ms (h:Heap) (H:Hp):Heap:=Mi h (Hz h H)
theorem sJ (h:Heap) (H:Hp):(ms h H).objs.size=h.objs.size:=PySem.W.hideAll_size _ _
theorem uN {h:Heap}{H:Hp}{b:Addr}{o:Obj}(e:h.get? b=some o) (n:H b=none):(ms h H).get? b=some o:=
 LV _ e λ hm=>by have q:(H b).isSome=true:=(Kg.mp hm).2;rw [n] at q;simp at q
theorem wy {h:Heap}{H:Hp}{b:Addr}{o:Obj}(e:(ms h H).get? b=some o):h.get? b=some o/\H b=none:=by
 have e':h.get? b=some o:=Mj (Hz h H) e;refine ⟨e',?_⟩;cases q:H b with
 | none=>rfl
 | some x=>
   have hm:b∈Hz h H:=Kg.mpr ⟨J3.mpr (Heap.lt_size e'),by simp [q]⟩;have z:(ms h H).get? b=none:=PySem.W.hideAll_none (Hz h H) hm;rw [z] at e;cases e
def w6 (g h:Heap) (L:Addr):List (Addr×Obj):=(List.range h.objs.size).filterMap λ a=>if a=L\/(g.get? a).isSome=true then none else (h.get? a).map λ o=>(a,o)
def rest (g h:Heap) (L d:Addr):List (Addr×Obj):=(w6 g h L).filter λ p=>decide (p.1≠d)
end L2
namespace L2
open PySem PySem.Spec PyProof.Rows
structure Mod (K:Frag) (mg:Str->Option Value) (base:Heap):Prop where
 kin:K.In base
 glob:base.Ns mainGlobals mg
 blt:∃mb,base.Ns builtinsNs mb/\∀x:Str,x≠"__name__"->mb x=bootBuiltins x
 nolimit:base.NoLimit
structure Cx where
 prog:Program
 w:World
 K:Frag
 mg:Str->Option Value
 base:Heap
 A:Around
 N:List Str
 s₀:Shared
 H₀:Hp
 env:Env
 outer:List Env
 stack:List Env
 ex:List Addr
 fn:Str->Bool
 calm:Bool
 pn:List (Addr×Obj)
 xe:Value->Shared->Prop
def ia (l:List Env):List Addr:=l.filterMap (·.frame)
abbrev Cx.fs (X:Cx):List Addr:=ia X.outer
def HB (sc:Scope) (x:Str):Prop:=sc.names.lookup x=some .local\/sc.names.lookup x=some .cell\/sc.names.lookup x=some .free
def C2 (sc:Scope) (x:Str):Prop:=sc.names.lookup x=some .local\/sc.names.lookup x=some .cell
def Js (env:Env) (h:Heap) (m:Str->Option Value) (x:Str) (u:Value):Prop:=
 (env.kindOf x=some .local/\m x=some u)\/((env.kindOf x=some .cell\/env.kindOf x=some .free)/\∃c,env.cells.lookup x=some c/\h.IsCell c (some u))
structure Cx.Ok (X:Cx):Prop where
 mod:Mod X.K X.mg X.base
 kind:X.env.scope.kind=.function
 glob:X.env.globals=mainGlobals
 blt:X.env.builtins=builtinsNs
 above:X.s₀.heap.objs.size<=X.env.locals
 inj:∀x y c,X.env.cells.lookup x=some c->X.env.cells.lookup y=some c->x=y
 has:∀x,(X.env.kindOf x=some .cell\/X.env.kindOf x=some .free)->∃c,X.env.cells.lookup x=some c
 cab:∀x c,X.fn x=true->X.env.cells.lookup x=some c->X.s₀.heap.objs.size<=c
 hd:X.calm=true->X.A.handled=none
 frames:X.A.frames=some X.stack
 stk:X.stack=X.outer\/(X.stack=X.env::X.outer/\X.env.frame=some X.env.locals)
 exf:∀b∈X.ex,b≠X.env.locals/\∀x c,X.env.cells.lookup x=some c->c≠b
 bs:∀b o,X.base.get? b=some o->X.s₀.heap.get? b=some o/\X.H₀ b=none
 bsz:X.base.objs.size<=X.s₀.heap.objs.size
 noex:∀b o,X.base.get? b=some o->b∉X.ex
 exfs:∀b∈X.ex,b∉X.fs
 funs:X.s₀.heap.FunFrames X.base X.outer
 frf:∀b∈X.fs,X.H₀ b=none
structure aD (X:Cx) (pins:List (Addr×Obj)) (σ:List (Option V)) (H:Hp) (s:Shared):Prop where
 ok:X.Ok
 os:s.os=X.s₀.os
 bare:AllBare s.gens
 base:Un X.fs X.ex X.H₀ H X.s₀.heap s.heap
 loc:∃m,s.heap.Ns X.env.locals m/\∀(i:Nat) (x:Str) (v:V),X.N[i]? =some x->σ[i]? =some (some v)->HB X.env.scope x->∃u,aQ v u/\Js X.env s.heap m x u
 cell:∀x c,X.env.cells.lookup x=some c->∃v,s.heap.IsCell c v
 free:H X.env.locals=none
 freeC:∀x c,X.env.cells.lookup x=some c->H c=none
 pin:∀p∈X.pn++pins,s.heap.get? p.1=some p.2/\H p.1=none/\p.1≠X.env.locals/\p.1∉X.fs/\∀v,p.2.data≠.cell v
 hok:ib X.prog X.w H s.heap
 len:σ.length=X.N.length
section
variable {X:Cx}{pins:List (Addr×Obj)}{σ:List (Option V)}{H H':Hp}{s:Shared}{h':Heap}
theorem Cx.Ok.nofr (ok:X.Ok) {b:Addr}{o:Obj}(e:X.base.get? b=some o):b∉X.fs:=λ hb=>by have:=(ok.funs.mem hb).1;rw [e] at this;cases this
theorem aD.bs (I:aD X pins σ H s):∀b o,X.base.get? b=some o->s.heap.get? b=some o/\H b=none:=λ b o e=>
 ⟨I.base.keep b o (I.ok.bs b o e).1 (I.ok.bs b o e).2 (I.ok.nofr e) (I.ok.noex b o e),I.base.free b o (I.ok.bs b o e).1 (I.ok.bs b o e).2 (I.ok.noex b o e)⟩
theorem aD.bk (I:aD X pins σ H s):∀b o,X.base.get? b=some o->s.heap.get? b=some o:=λ b o e=>(I.bs b o e).1
theorem aD.mod (I:aD X pins σ H s):Mod X.K X.mg X.base:=I.ok.mod
theorem aD.kIn (I:aD X pins σ H s):X.K.In s.heap:=I.ok.mod.kin.keeps I.bk
theorem aD.lt (I:aD X pins σ H s):X.env.locals<s.heap.objs.size:=let ⟨_,hn,_⟩:=I.loc;hn.lt
theorem aD.sz (I:aD X pins σ H s):X.s₀.heap.objs.size<=s.heap.objs.size:=KZ I.ok.above (Lf I.lt)
theorem aD.nofs (I:aD X pins σ H s) {a:Addr}(h:s.heap.objs.size<=a):a∉X.fs:=λ hb=>by obtain ⟨_,o,ho,_⟩:=I.ok.funs.mem hb;exact absurd (K0 (Heap.lt_size ho) (KZ I.sz h)) (La _)
theorem aD.cne (I:aD X pins σ H s):∀x c,X.env.cells.lookup x=some c->c≠X.env.locals:=λ x c e z=>by obtain ⟨v,o,ho,hd⟩:=I.cell x c e;obtain ⟨m,⟨o',es,ep,ho',hd',_⟩,_⟩:=I.loc;rw [z,ho'] at ho;cases ho;rw [hd'] at hd;cases hd
theorem aD.funs (I:aD X pins σ H s):s.heap.FunFrames X.base X.outer:=by
 have all:∀(l:List Env),(∀b∈ia l,b∈X.fs)->X.s₀.heap.FunFrames X.base l->s.heap.FunFrames X.base l:=by
  intro l
  induction l with
  | nil=>intro _ _;trivial
  | cons env r ih=>
    intro hs hl;obtain ⟨hk,⟨L,o,hf,hn,ho,hd⟩,hr⟩:=hl;have hL:L∈X.fs:=hs L (by unfold ia;rw [Kh,hf];exact JI);obtain ⟨sl,e⟩:=I.base.slot L o ho (I.ok.frf L hL) hL λ z=>I.ok.exfs L z hL;exact ⟨hk,⟨L,_,hf,hn,e,hd⟩,ih (λ b hb=>hs b (by unfold ia;rw [Kh,hf];exact JJ _ hb)) hr⟩
 exact all X.outer (λ _ hb=>hb) I.ok.funs
theorem aD.stack (I:aD X pins σ H s):s.heap.FunFrames X.base X.stack:=by
 rcases I.ok.stk with e | ⟨e,hf⟩
 ·rw [e];exact I.funs
 ·rw [e];obtain ⟨m,hn,_⟩:=I.loc;refine .cons (by rw [I.ok.kind];decide) hf hn ?_ I.funs;exact Heap.get?_none_of_le (KZ I.ok.bsz I.ok.above)
theorem aD.stkSub (I:aD X pins σ H s):∀b∈ia X.stack,b∈X.env.locals::X.fs:=λ b hb=>by
 rcases I.ok.stk with e | ⟨e,hf⟩
 ·rw [e] at hb;exact JJ _ hb
 ·rw [e] at hb;unfold ia at hb;rw [Kh,hf] at hb;exact hb
theorem aD.stkFree (I:aD X pins σ H s):∀b∈ia X.stack,H b=none:=λ b hb=>by
 rcases Jy.mp (I.stkSub b hb) with e | hb
 ·rw [e];exact I.free
 ·obtain ⟨_,o,ho,_⟩:=I.ok.funs.mem hb;exact I.base.free b o ho (I.ok.frf b hb) λ z=>I.ok.exfs b z hb
theorem aD.step {g':Array GenState}{t':Nat}{d':Drawn}{ch:List Addr}(I:aD X pins σ H s)
  (hch:∀b∈ch,(b∈X.ex\/X.s₀.heap.objs.size<=b)/\b≠X.env.locals/\(∀x c,X.env.cells.lookup x=some c->c≠b)/\∀p∈X.pn++pins,p.1≠b)
  (keep:∀b o,b≠X.env.locals->b∉X.fs->b∉ch->s.heap.get? b=some o->H b=none->h'.get? b=some o)
  (slot:∀b o,b≠X.env.locals->b∈X.fs->b∉ch->s.heap.get? b=some o->H b=none->∃sl,h'.get? b=some {o with slots:=sl}) (free:∀b o,b∉ch->s.heap.get? b=some o->H b=none->H' b=none)
  (there:∀b o,b∉ch->s.heap.get? b=some o->∃o',h'.get? b=some o')
  (tups:∀b xs,H b=some (.tup xs)->H' b=some (.tup xs)) (frzs:∀b o u,H b=some (.frz o u)->H' b=some (.frz o u)) (tbls:∀b ps,H b=some (.tbl ps)->∃more,H' b=some (.tbl (ps++more)))
  (ns:∀m,s.heap.Ns X.env.locals m->h'.Ns X.env.locals m) (hok:ib X.prog X.w H' h') (hg:AllBare g'):
  aD X pins σ H' {s with heap:=h',gens:=g',drawn:=d',toks:=t'}:=by
 have neL:∀b o,X.s₀.heap.get? b=some o->b≠X.env.locals:=λ b o e=>KY (K0 (Heap.lt_size e) I.ok.above);have neC:∀b o,X.s₀.heap.get? b=some o->b∉X.ex->b∉ch:=λ b o e hx hb=>by
  rcases (hch b hb).1 with z | z
  ·exact hx z
  ·exact absurd (K0 (Heap.lt_size e) z) (La _)
 have cellK:∀x c,X.env.cells.lookup x=some c->∀v,s.heap.IsCell c v->h'.IsCell c v:=λ x c e v ⟨o,ho,hd⟩=>by
  have nch:c∉ch:=λ z=>(hch c z).2.2.1 x c e rfl
  by_cases hc:c∈X.fs
  ·obtain ⟨sl,q⟩:=slot c o (I.cne x c e) hc nch ho (I.freeC x c e);exact ⟨_,q,hd⟩
  ·exact ⟨o,keep c o (I.cne x c e) hc nch ho (I.freeC x c e),hd⟩
 refine ⟨I.ok,I.os,hg,⟨λ b o e n hb hx=>?_,λ b o e n hb hx=>?_,λ b o e n hx=>?_,λ b o e hx=>?_,λ b xs e=>tups b xs (I.base.tups b xs e),λ b o xs e=>frzs b o xs (I.base.frzs b o xs e),λ b ps e=>?_⟩,?_,λ x c e=>?_,?_,λ x c e=>?_,λ p hp=>?_,hok,I.len⟩
 ·exact keep b o (neL b o e) hb (neC b o e hx) (I.base.keep b o e n hb hx) (I.base.free b o e n hx)
 ·obtain ⟨sl,e1⟩:=I.base.slot b o e n hb hx;obtain ⟨sl',e2⟩:=slot b _ (neL b o e) hb (neC b o e hx) e1 (I.base.free b o e n hx);exact ⟨sl',e2⟩
 ·obtain ⟨o',e1⟩:=I.base.there b o e hx;exact free b o' (neC b o e hx) e1 (I.base.free b o e n hx)
 ·obtain ⟨o',e1⟩:=I.base.there b o e hx;exact there b o' (neC b o e hx) e1
 ·obtain ⟨m1,e1⟩:=I.base.tbls b ps e;obtain ⟨m2,e2⟩:=tbls b _ e1;exact ⟨m1++m2,by rw [e2,Array.append_assoc]⟩
 ·obtain ⟨m,hn,hl⟩:=I.loc;refine ⟨m,ns m hn,λ i x v e1 e2 e3=>?_⟩;obtain ⟨u,r,l⟩:=hl i x v e1 e2 e3;refine ⟨u,r,?_⟩
  rcases l with l | ⟨k,c,e,z⟩
  ·exact .inl l
  ·exact .inr ⟨k,c,e,cellK x c e _ z⟩
 ·obtain ⟨v,z⟩:=I.cell x c e;exact ⟨v,cellK x c e v z⟩
 ·obtain ⟨m,⟨o,_,_,ho,_⟩,_⟩:=I.loc;exact free _ o (λ z=>(hch _ z).2.1 rfl) ho I.free
 ·obtain ⟨v,o,ho,hd⟩:=I.cell x c e;exact free c o (λ z=>(hch c z).2.2.1 x c e rfl) ho (I.freeC x c e)
 ·obtain ⟨e,n,ne,nf,d⟩:=I.pin p hp;have nch:p.1∉ch:=λ z=>(hch p.1 z).2.2.2 p hp rfl;exact ⟨keep p.1 p.2 ne nf nch e n,free p.1 p.2 nch e n,ne,nf,d⟩
theorem aD.un {t':Nat}(I:aD X pins σ H s) (u:Un X.fs [] H H' s.heap h') (hok:ib X.prog X.w H' h'):aD X pins σ H' {s with heap:=h',toks:=t'}:=by
 obtain ⟨m,⟨o,es,ep,ho,r⟩,_⟩:=id I.loc;obtain ⟨sl,hL⟩:=u.any ho I.free (by simp);exact I.step (g':=s.gens) (d':=s.drawn) (ch:=[]) (λ _ z=>nomatch z) (λ b o _ hb _ e n=>u.keep b o e n hb (by simp)) (λ b o _ hb _ e n=>u.slot b o e n hb (by simp)) (λ b o _ e n=>u.free b o e n (by simp)) (λ b o _ e=>u.there b o e (by simp)) u.tups u.frzs u.tbls (λ m' hm=>by
  obtain ⟨o',es',ep',ho',r'⟩:=hm;rw [ho] at ho';cases ho';exact ⟨_,es',ep',hL,r'⟩) hok I.bare
theorem aD.call {g':Array GenState}{t':Nat}{d':Drawn}{ch:List Addr}(I:aD X pins σ H s) (u:Un (ia X.stack) ch H H' s.heap h') (hok:ib X.prog X.w H' h') (hg:AllBare g')
  (hch:∀b∈ch,(b∈X.ex\/X.s₀.heap.objs.size<=b)/\b≠X.env.locals/\(∀x c,X.env.cells.lookup x=some c->c≠b)/\∀p∈X.pn++pins,p.1≠b):
  aD X pins σ H' {s with heap:=h',gens:=g',drawn:=d',toks:=t'}:=by
 obtain ⟨m,⟨o,es,ep,ho,r⟩,_⟩:=id I.loc;obtain ⟨sl,hL⟩:=u.any ho I.free λ z=>(hch _ z).2.1 rfl;exact I.step (ch:=ch) hch (λ b o hL hb hc e n=>u.keep b o e n (λ z=>(Jy.mp (I.stkSub b z)).elim hL hb) hc) (λ b o _ _ hc e n=>u.any e n hc) (λ b o hc e n=>u.free b o e n hc) (λ b o hc e=>u.there b o e hc) u.tups u.frzs u.tbls (λ m' hm=>by
  obtain ⟨o',es',ep',ho',r'⟩:=hm;rw [ho] at ho';cases ho';exact ⟨_,es',ep',hL,r'⟩) hok hg
theorem aD.turned {t':Nat}{it:Addr}(I:aD X pins σ H s) (k:∀b o,b≠it->s.heap.get? b=some o->h'.get? b=some o) (hn:H it=none) (hL:it≠X.env.locals)
  (h1:it∈X.ex\/X.s₀.heap.objs.size<=it) (h2:∀x c,X.env.cells.lookup x=some c->c≠it) (h3:∀p∈X.pn++pins,p.1≠it):aD X pins σ H {s with heap:=h',toks:=t'}:=by
 have nit:∀b u,H b=some u->b≠it:=λ b u e z=>by rw [z,hn] at e;cases e
 refine I.step (g':=s.gens) (d':=s.drawn) (ch:=[it]) (λ b hb=>?_) (λ b o _ _ hc e _=>k b o (λ z=>hc (by simp [z])) e) (λ b o _ _ hc e _=>⟨o.slots,k b o (λ z=>hc (by simp [z])) e⟩) (λ _ _ _ _ n=>n)
  (λ b o hc e=>⟨o,k b o (λ z=>hc (by simp [z])) e⟩) (λ _ _ e=>e) (λ _ _ _ e=>e) (λ b ps e=>⟨#[],by rw [e];simp⟩) (λ m hm=>?_) (λ b u e=>?_) I.bare
 ·have e:b=it:=by simpa using hb
  subst e;exact ⟨h1,hL,h2,h3⟩
 ·obtain ⟨o,es,ep,ho,r⟩:=hm;exact ⟨o,es,ep,k _ o (Ne.symm hL) ho,r⟩
 ·refine (I.hok b u e).stay (λ c v hc q=>k c v ?_ q) (λ _ q=>q) λ _ _ q=>q
  rcases hc with z | z
  ·rw [z];exact nit b u e
  ·exact nit c _ z
theorem aD.tok (I:aD X pins σ H s) (t:Nat):aD X pins σ H {s with toks:=t}:=I.un (h':=s.heap) (t':=t) Un.refl I.hok
theorem aD.kept {t':Nat}(I:aD X pins σ H s) (k:∀b u,s.heap.get? b=some u->h'.get? b=some u):aD X pins σ H {s with heap:=h',toks:=t'}:=I.un (Un.kept k) (I.hok.kept k)
theorem aD.laid {a:Addr}{o:HO}{t':Nat}(I:aD X pins σ H s) (k:∀b u,s.heap.get? b=some u->h'.get? b=some u) (hp:s.heap.objs.size<=a) (new:bD X.prog X.w (upd H a o) h' a o):
  aD X pins σ (upd H a o) {s with heap:=h',toks:=t'}:=I.un (Un.laid k hp (I.hok.fresh hp)) (I.hok.laid k hp new)
theorem aD.write {x e:Addr}{o:HO}{t':Nat}(I:aD X pins σ H s) (mu:HC (H x)) (he:e=x\/H e=some (.own x)) (k:∀b u,b≠e->s.heap.get? b=some u->h'.get? b=some u) (heo:∃u,h'.get? e=some u)
  (new:bD X.prog X.w (upd H x o) h' x o):aD X pins σ (upd H x o) {s with heap:=h',toks:=t'}:=I.un (Un.write mu he k heo) (I.hok.write mu he k heo new)
theorem aD.pins_of {pins':List (Addr×Obj)}(I:aD X pins σ H s) (h:∀p∈pins',s.heap.get? p.1=some p.2/\H p.1=none/\p.1≠X.env.locals/\p.1∉X.fs/\∀v,p.2.data≠.cell v):aD X pins' σ H s:=
 ⟨I.ok,I.os,I.bare,I.base,I.loc,I.cell,I.free,I.freeC,λ p hp=>(JG.mp hp).elim (λ z=>I.pin p (J4 _ z)) (h p),I.hok,I.len⟩
theorem nK {N:List Str}(hN:N.Nodup) {i j:Nat}{x:Str}(a:N[i]? =some x) (b:N[j]? =some x):i=j:=by obtain ⟨h1,e1⟩:=JQ.mp a;obtain ⟨h2,e2⟩:=JQ.mp b;exact (List.getElem_inj hN).mp (e1.trans e2.symm)
theorem kC {M:Model}{A:Around}{E:Value->Shared->Prop}{i:Nat}{x:Str}{v:V}{u:Value}{Q:Unit->Shared->Prop}(I:aD X pins σ H s) (hN:X.N.Nodup) (hi:X.N[i]? =some x) (hx:C2 X.env.scope x) (r:aQ v u)
  (h:∀s',aD X pins (σ.set i (some v)) H s'->(∃a,Heap.SameBut a s.heap s'.heap/\(a=X.env.locals\/X.env.cells.lookup x=some a))->Q () s') (hf:X.fn x=true\/X.env.scope.names.lookup x=some .local:=by first | exact .inl rfl | exact .inr rfl | assumption):wpAny M A (storeName X.env x u) Q E s:=by
 obtain ⟨m,hn,hl⟩:=id I.loc;have hcls:(X.env.scope.kind == .class||(X.env.scope.kind == .module&&X.env.locals != X.env.globals))=false:=by rw [I.ok.kind];rfl
 have hiσ:i<σ.length:=by rw [I.len];exact (JQ.mp hi).1
 have cne:=I.cne;have tracked:∀{a:Addr} {h':Heap},(∃o,s.heap.get? a=some o/\H a=none)->Heap.SameBut a s.heap h'->ib X.prog X.w H h':=λ {a h'} ha hs b ob e=>by
  obtain ⟨_,_,hfree⟩:=ha;refine (I.hok b ob e).stay (λ c w' hc q=>(hs.2 c ?_).trans q) (λ _ q=>q) λ _ _ q=>q;rintro rfl
  rcases hc with rfl | hc
  ·rw [hfree] at e;cases e
  ·rw [hfree] at hc;cases hc
 rcases hx with hk | hk
 ·refine wpAny_storeName_local hk hn (λ h' hn' hs=>?_) hcls;obtain ⟨oL,_,_,hoL,_⟩:=id hn;refine h _ ⟨I.ok,I.os,I.bare,⟨λ b o e n hb hx=>?_,λ b o e n hb hx=>?_,I.base.free,λ b o e hx=>?_,I.base.tups,I.base.frzs,I.base.tbls⟩,⟨_,hn',λ j y v' e1 e2 e3=>?_⟩,λ y c e=>?_,I.free,I.freeC,λ p hp=>?_,tracked ⟨oL,hoL,I.free⟩ hs,by simpa using I.len⟩ ⟨_,hs,.inl rfl⟩
  ·exact (hs.2 b (KY (K0 (Heap.lt_size e) I.ok.above))).trans (I.base.keep b o e n hb hx)
  ·obtain ⟨sl,e1⟩:=I.base.slot b o e n hb hx;exact ⟨sl,(hs.2 b (KY (K0 (Heap.lt_size e) I.ok.above))).trans e1⟩
  ·obtain ⟨o',e1⟩:=I.base.there b o e hx;exact ⟨o',(hs.2 b (KY (K0 (Heap.lt_size e) I.ok.above))).trans e1⟩
  ·by_cases hj:j=i
   ·subst hj;rw [hi] at e1;cases e1;rw [KG hiσ] at e2;cases e2;exact ⟨u,r,.inl ⟨hk,by simp⟩⟩
   ·rw [KH (Ne.symm hj)] at e2;obtain ⟨u',r',q⟩:=hl j y v' e1 e2 e3;refine ⟨u',r',?_⟩
    rcases q with ⟨k,e⟩ | ⟨k,c,e,z⟩
    ·refine .inl ⟨k,?_⟩;have:y≠x:=λ e=>hj (nK hN e1 (e▸hi));simp [this,e]
    ·exact .inr ⟨k,c,e,z.sameBut hs (cne y c e)⟩
  ·obtain ⟨w',z⟩:=I.cell y c e;exact ⟨w',z.sameBut hs (cne y c e)⟩
  ·obtain ⟨e,n,ne,nf,d⟩:=I.pin p hp;exact ⟨(hs.2 p.1 ne).trans e,n,ne,nf,d⟩
 ·have hfn:X.fn x=true:=by
   rcases hf with z | z
   ·exact z
   ·rw [z] at hk;cases hk
  obtain ⟨c,hc⟩:=I.ok.has x (.inl hk);obtain ⟨w',z⟩:=I.cell x c hc;refine wpAny_storeName_cell I.ok.kind hk hc z (λ h' hc' hs=>?_);obtain ⟨oc,hoc,hocd⟩:=id z;refine h {s with heap:=h'} ⟨I.ok,I.os,I.bare,⟨λ b o e n hb hx=>?_,λ b o e n hb hx=>?_,I.base.free,λ b o e hx=>?_,I.base.tups,I.base.frzs,I.base.tbls⟩,⟨m,hn.sameBut hs (Ne.symm (cne x c hc)),λ j y v' e1 e2 e3=>?_⟩,λ y c' e=>?_,I.free,I.freeC,λ p hp=>?_,tracked ⟨oc,hoc,I.freeC x c hc⟩ hs,by simpa using I.len⟩ ⟨c,hs,.inr hc⟩
  ·exact (hs.2 b (KY (K0 (Heap.lt_size e) (I.ok.cab x c hfn hc)))).trans (I.base.keep b o e n hb hx)
  ·obtain ⟨sl,e1⟩:=I.base.slot b o e n hb hx;exact ⟨sl,(hs.2 b (KY (K0 (Heap.lt_size e) (I.ok.cab x c hfn hc)))).trans e1⟩
  ·obtain ⟨o',e1⟩:=I.base.there b o e hx;exact ⟨o',(hs.2 b (KY (K0 (Heap.lt_size e) (I.ok.cab x c hfn hc)))).trans e1⟩
  ·by_cases hj:j=i
   ·subst hj;rw [hi] at e1;cases e1;rw [KG hiσ] at e2;cases e2;exact ⟨u,r,.inr ⟨.inl hk,c,hc,hc'⟩⟩
   ·rw [KH (Ne.symm hj)] at e2;obtain ⟨u',r',q⟩:=hl j y v' e1 e2 e3;refine ⟨u',r',?_⟩
    rcases q with q | ⟨k,c',e,z'⟩
    ·exact .inl q
    ·refine .inr ⟨k,c',e,z'.sameBut hs ?_⟩;rintro rfl;exact hj (nK hN e1 (I.ok.inj _ _ _ e hc▸hi))
  ·by_cases hcc:c'=c
   ·subst hcc;exact ⟨_,hc'⟩
   ·obtain ⟨w2,z2⟩:=I.cell y c' e;exact ⟨w2,z2.sameBut hs hcc⟩
  ·obtain ⟨e,n,ne,nf,d⟩:=I.pin p hp;refine ⟨(hs.2 p.1 ?_).trans e,n,ne,nf,d⟩;intro q;rw [q,hoc] at e;have q':oc=p.2:=Option.some.inj e;exact d w' (by rw [<-q'];exact hocd)
theorem js {M:Model}{A:Around}{E:Value->Shared->Prop}{i:Nat}{x:Str}{v:V}{u:Value}{Q:Unit->Shared->Prop}(I:aD X pins σ H s) (hN:X.N.Nodup) (hi:X.N[i]? =some x) (hx:C2 X.env.scope x) (r:aQ v u)
  (h:∀s',aD X pins (σ.set i (some v)) H s'->Q () s') (hf:X.fn x=true\/X.env.scope.names.lookup x=some .local:=by first | exact .inl rfl | exact .inr rfl | assumption):wpAny M A (storeName X.env x u) Q E s:=
 kC I hN hi hx r (λ s' I' _=>h s' I') hf
theorem aD.call' {s':Shared}{ch:List Addr}(I:aD X pins σ H s) (ho:s'.os=s.os) (u:Un (ia X.stack) ch H H' s.heap s'.heap) (hok:ib X.prog X.w H' s'.heap) (hg:AllBare s'.gens)
  (hch:∀b∈ch,(b∈X.ex\/X.s₀.heap.objs.size<=b)/\b≠X.env.locals/\(∀x c,X.env.cells.lookup x=some c->c≠b)/\∀p∈X.pn++pins,p.1≠b):aD X pins σ H' s':=by
 obtain ⟨h',g',d',t',o'⟩:=s';have e:o'=s.os:=ho;subst e;exact I.call (g':=g') (t':=t') (d':=d') u hok hg hch
end
abbrev XK:=Value->Option Addr->Hp->Prop
abbrev St:=List (Option V)
abbrev oR (a:Addr):Option V:=some (.ref a)
abbrev oJ (a:Int):Option V:=some (.int a)
abbrev oT (a:Str):Option V:=some (.str a)
abbrev VK:=V->Hp->Prop
abbrev TE:=St->Hp->VK->Prop
abbrev TT:=St->Hp->(Bool->Hp->Prop)->Prop
abbrev TA:=St->Hp->(List V->Hp->Prop)->Prop
structure cQ where
 nx:St->Hp->Prop
 rt:VK
 bk:St->Hp->Prop:=λ _ _=>False
 ct:St->Hp->Prop:=λ _ _=>False
abbrev TS:=cQ->St->Hp->Prop
def EP (X:Cx) (pins:List (Addr×Obj)) (σ:St) (Q:VK) (u:Value) (s':Shared):Prop:= ∃v H',aD X pins σ H' s'/\aQ v u/\Q v H'
def TP (X:Cx) (pins:List (Addr×Obj)) (σ:St) (Q:Bool->Hp->Prop) (b:Bool) (s':Shared):Prop:= ∃H',aD X pins σ H' s'/\Q b H'
def AP (X:Cx) (pins:List (Addr×Obj)) (σ:St) (Q:List V->Hp->Prop) (us:List Value) (s':Shared):Prop:= ∃vs H',aD X pins σ H' s'/\aU vs us/\Q vs H'
def SP (X:Cx) (pins:List (Addr×Obj)) (D:cQ) (f:Flow) (s':Shared):Prop:=
 match f with
 | .next=> ∃σ' H',aD X pins σ' H' s'/\D.nx σ' H'
 | .brk=> ∃σ' H',aD X pins σ' H' s'/\D.bk σ' H'
 | .cont=> ∃σ' H',aD X pins σ' H' s'/\D.ct σ' H'
 | .ret u=> ∃v σ' H',aD X pins σ' H' s'/\aQ v u/\D.rt v H'
def PE (X:Cx) (e:Expr) (t:TE):Prop:=
 ∀(pins:List (Addr×Obj)) (s:Shared) (σ:St) (H:Hp) (Q:VK),aD X pins σ H s->t σ H Q->wpAny (model X.prog X.w) X.A (eval e X.env) (EP X pins σ Q) X.xe s
def PT (X:Cx) (e:Expr) (t:TT):Prop:=
 ∀(pins:List (Addr×Obj)) (s:Shared) (σ:St) (H:Hp) (Q:Bool->Hp->Prop),aD X pins σ H s->t σ H Q->wpAny (model X.prog X.w) X.A (isTrue e X.env (eval e X.env)) (TP X pins σ Q) X.xe s
def PW (X:Cx) (e:Expr) (t:TT):Prop:=
 ∀(whole:Sem Value) (pins:List (Addr×Obj)) (s:Shared) (σ:St) (H:Hp) (Q:Bool->Hp->Prop),aD X pins σ H s->t σ H Q->wpAny (model X.prog X.w) X.A (isTrue e X.env whole) (TP X pins σ Q) X.xe s
theorem PW.pt {X:Cx}{e:Expr}{t:TT}(h:PW X e t):PT X e t:=h _
def PA (X:Cx) (es:List Expr) (t:TA):Prop:=
 ∀(pos:Pos) (pins:List (Addr×Obj)) (s:Shared) (σ:St) (H:Hp) (Q:List V->Hp->Prop),aD X pins σ H s->t σ H Q->wpAny (model X.prog X.w) X.A (spliced (backTo pos (starEach es X.env))) (AP X pins σ Q) X.xe s
def PS (X:Cx) (st:Stmt) (t:TS):Prop:=
 ∀(pins:List (Addr×Obj)) (s:Shared) (σ:St) (H:Hp) (D:cQ),aD X pins σ H s->t D σ H->wpAny (model X.prog X.w) X.A (exec st X.env) (SP X pins D) X.xe s
def mI (X:Cx) (st:List Stmt) (t:TS):Prop:=
 ∀(pins:List (Addr×Obj)) (s:Shared) (σ:St) (H:Hp) (D:cQ),aD X pins σ H s->t D σ H->wpAny (model X.prog X.w) X.A (execs st X.env) (SP X pins D) X.xe s
theorem cb {α:Type}{t:Sem α}{Q Q':α->Shared->Prop}{M:Model}{A:Around}{E:Value->Shared->Prop}{s:Shared}(h:wpAny M A t Q E s) (hQ:∀a s,Q a s->Q' a s):wpAny M A t Q' E s:=wpAny_mono h hQ λ _ _ x=>x
end L2
namespace L2
open PySem PySem.Spec PyProof.Rows
section
variable {X:Cx}
theorem bin {a b:Expr}{ta tb:TE}(ha:PE X a ta) (hb:PE X b tb) {pins:List (Addr×Obj)}{s:Shared}{σ:St}{H:Hp}{R:V->V->Hp->Prop}(I:aD X pins σ H s) (h:ta σ H λ x H1=>tb σ H1 λ y H2=>R x y H2)
  {α:Type} {Q:α->Shared->Prop} {f:Value->Value->Sem α}
  (hf:∀v u s2 x y H2,aD X pins σ H2 s2->aQ x v->aQ y u->R x y H2->wpAny (model X.prog X.w) X.A (f v u) Q X.xe s2):
  wpAny (model X.prog X.w) X.A (eval a X.env) (λ v s₁=>wpAny (model X.prog X.w) X.A (eval b X.env) (λ u s₂=>wpAny (model X.prog X.w) X.A (f v u) Q X.xe s₂) X.xe s₁) X.xe s:=by
 refine cb (ha pins s σ H _ I h) λ v s1 ⟨x,H1,I1,r1,q1⟩=>?_;refine cb (hb pins s1 σ H1 _ I1 q1) λ u s2 ⟨y,H2,I2,r2,q2⟩=>?_;exact hf v u s2 x y H2 I2 r1 r2 q2
def IR (i:Nat):TE:=λ σ H Q=> ∃v,σ[i]? =some (some v)/\Q v H
def tC (v:V):TE:=λ _ H Q=>Q v H
theorem BL {i:Nat}{x:Str}{pos:Pos}(hN:X.N[i]? =some x) (hv:HB X.env.scope x) (hd:(x == ("__debug__":Str))=false:=by decide) (hcd:(x == ("__classdict__":Str))=false:=by decide):PE X (.Name x pos) (IR i):=by
 intro pins s σ H Q I h;obtain ⟨v,e,h⟩:=h;obtain ⟨m,hn,hl⟩:=I.loc;obtain ⟨u,r,l⟩:=hl i x v hN e hv;have fin:EP X pins σ Q u s:=⟨v,H,I,r,h⟩
 rcases l with ⟨hk,hm⟩ | ⟨hk,c,hc,hcell⟩
 ·exact wpAny_Name (wpAny_loadName_local I.ok.kind hk hn hm fin) hd
 ·rcases hk with hk | hk
  ·exact wpAny_Name (wpAny_loadName_cell I.ok.kind hk hc hcell fin) hd
  ·exact wpAny_Name (wpAny_loadName_free I.ok.kind hk hc hcell fin hcd) hd
theorem ag {i j pos}:PE X (.Constant (.int i) j pos) (tC (.int i)):=λ _ _ _ H _ I h=>wpAny_Constant_int ⟨.int i,H,I.tok _,⟨_,rfl⟩,h⟩
theorem db {b j pos}:PE X (.Constant (.bool b) j pos) (tC (.bl b)):=λ _ _ _ H _ I h=>Constant_bool ⟨.bl b,H,I,rfl,h⟩
theorem fj {j pos}:PE X (.Constant .none j pos) (tC .non):=λ _ _ _ H _ I h=>Constant_none ⟨.non,H,I,rfl,h⟩
theorem aI {x j pos}:PE X (.Constant (.str x) j pos) (tC (.str x)):=λ _ _ _ H _ I h=>Calls.Constant_str ⟨.str x,H,I.tok _,⟨_,rfl⟩,h⟩
def Gl (X:Cx) (x:Str):Prop:=X.env.kindOf x=some .globalImplicit
theorem fS {E:Value->Shared->Prop}{pins:List (Addr×Obj)}{s:Shared}{σ:St}{H:Hp}{x:Str}{u:Value}{pos:Pos}{Q:Value->Shared->Prop}(I:aD X pins σ H s) (hg:Gl X x) (hm:X.mg x=some u) (h:Q u s)
  (hd:(x == ("__debug__":Str))=false:=by decide):wpAny (model X.prog X.w) X.A (eval (.Name x pos) X.env) Q E s:=
 Calls.Name_function_global I.ok.kind hg (Calls.loadGlobal_global (by rw [I.ok.glob];exact I.mod.glob.keeps I.bk) hm h) hd
theorem iQ {E:Value->Shared->Prop}{pins:List (Addr×Obj)}{s:Shared}{σ:St}{H:Hp}{x:Str}{u:Value}{pos:Pos}{Q:Value->Shared->Prop}(I:aD X pins σ H s) (hg:Gl X x) (hm:X.mg x=none) (hv:bootBuiltins x=some u) (h:Q u s)
  (hn:x≠"__name__":=by decide) (hd:(x == ("__debug__":Str))=false:=by decide):wpAny (model X.prog X.w) X.A (eval (.Name x pos) X.env) Q E s:=by
 obtain ⟨mb,h1,h2⟩:=I.mod.blt;exact Calls.Name_function_global I.ok.kind hg (Calls.loadGlobal_builtin (by rw [I.ok.glob];exact I.mod.glob.keeps I.bk) hm (by rw [I.ok.blt];exact h1.keeps I.bk) ((h2 x hn).trans hv) h) hd
theorem we {x:Str}{v:V}{u:Value}{pos:Pos}(hg:Gl X x) (hm:X.mg x=some u) (r:aQ v u) (hd:(x == ("__debug__":Str))=false:=by decide):PE X (.Name x pos) (tC v):=
 λ _ _ _ H _ I h=>fS I hg hm ⟨v,H,I,r,h⟩ hd
theorem qG {x:Str}{v:V}{u:Value}{pos:Pos}(hg:Gl X x) (hm:X.mg x=none) (hv:bootBuiltins x=some u) (r:aQ v u) (hn:x≠"__name__":=by decide) (hd:(x == ("__debug__":Str))=false:=by decide):PE X (.Name x pos) (tC v):=
 λ _ _ _ H _ I h=>iQ I hg hm hv ⟨v,H,I,r,h⟩ hn hd
variable {a b:Expr}{ta tb:TE}{pos:Pos}
def tB (t:TE):TT:=λ σ H Q=>t σ H λ x H1=> ∃c,x=.bl c/\Q c H1
variable {tA tB':TT}{rest:List Expr}
def vS (t u:TT):TT:=λ σ H Q=>t σ H λ c H1=>if c=true then u σ H1 Q else Q false H1
def CU (t u:TT):TT:=λ σ H Q=>t σ H λ c H1=>if c=true then Q true H1 else u σ H1 Q
def rC (t:TT):TT:=λ σ H Q=>t σ H λ c H1=>Q (!c) H1
theorem qy (ha:PT X a tA):PW X (.BoolOp .And [a] pos) tA:=by
 intro wh pins s σ H Q I h;refine isTrue_and (cb (ha pins s σ H Q I h) λ c s1 e=>?_);cases c with
 | true=>exact isTrue_and_nil e
 | false=>exact e
theorem fQ (ha:PT X a tA):PW X (.BoolOp .Or [a] pos) tA:=by
 intro wh pins s σ H Q I h;refine isTrue_or (cb (ha pins s σ H Q I h) λ c s1 e=>?_);cases c with
 | false=>exact isTrue_or_nil e
 | true=>exact e
theorem uu (ha:PT X a tA) (hb:PW X (.BoolOp .And (b::rest) pos) tB'):PW X (.BoolOp .And (a::b::rest) pos) (vS tA tB'):=by
 intro wh pins s σ H Q I h;refine isTrue_and (cb (ha pins s σ H _ I h) λ c s1 ⟨H1,I1,q1⟩=>?_);cases c with
 | true=>exact hb wh pins s1 σ H1 Q I1 q1
 | false=>exact ⟨H1,I1,q1⟩
theorem io (ha:PT X a tA) (hb:PW X (.BoolOp .Or (b::rest) pos) tB'):PW X (.BoolOp .Or (a::b::rest) pos) (CU tA tB'):=by
 intro wh pins s σ H Q I h;refine isTrue_or (cb (ha pins s σ H _ I h) λ c s1 ⟨H1,I1,q1⟩=>?_);cases c with
 | true=>exact ⟨H1,I1,q1⟩
 | false=>exact hb wh pins s1 σ H1 Q I1 q1
theorem bq (ha:PT X a tA):PT X (.UnaryOp .Not a pos) (rC tA):=by intro pins s σ H Q I h;exact isTrue_not (ha pins s σ H (λ c H1=>Q (!c) H1) I h)
theorem eM {op}{t:TE}(h:PE X a t):PE X (.BoolOp op [a] pos) t:=λ pins s σ H Q I hw=>BoolOp_one (h pins s σ H Q I hw)
def Gc (t:TT) (ta tb:TE):TE:=λ σ H Q=>t σ H λ c H1=>if c=true then ta σ H1 Q else tb σ H1 Q
theorem nB {c:Expr}(hc:PT X c tA) (ha:PE X a ta) (hb:PE X b tb):PE X (.IfExp c a b pos) (Gc tA ta tb):=by
 intro pins s σ H Q I h;refine wpAny_IfExp (cb (hc pins s σ H _ I h) λ d s1 ⟨H1,I1,q1⟩=>?_);cases d with
 | true=>exact ha pins s1 σ H1 Q I1 q1
 | false=>exact hb pins s1 σ H1 Q I1 q1
end
end L2
namespace L2
open PySem PySem.Spec PyProof.Rows
def aJ (K:Frag) (H:Hp) (a:Addr) (xs:List V):Prop:=
 Rd H a (.lst xs)\/
  ∃(o:Obj) (its:Array Value) (n:Nat),K.lookup a=some o/\o.cls=.type "list"/\o.dict=none/\o.data=.seq its n/\its.size<=sizeLine/\aU xs its.toList
def eE (K:Frag) (H:Hp) (a:Addr) (xs:List V):Prop:=
 Rd H a (.tup xs)\/
  ∃(o:Obj) (its:Array Value) (n:Nat),K.lookup a=some o/\o.cls=.type "tuple"/\o.data=.seq its n/\its.size<=sizeLine/\aU xs its.toList
def Jm:Value->Option V
 | .none=>some .non
 | .bool b=>some (.bl b)
 | .int i _=>some (.int i)
 | .str x _=>some (.str x)
 | .bytes b _=>some (.byt b)
 | .float b _=>some (.flt b)
 | .ref a=>some (.ref a)
 | .type n=>some (.ty n)
 | _=>none
theorem aQ.abs {x:V}{u:Value}(r:aQ x u):Jm u=some x:=by
 cases x with
 | non=>cases r;rfl
 | bl _=>cases r;rfl
 | int _=>obtain ⟨t,rfl⟩:=r;rfl
 | str _=>obtain ⟨t,rfl⟩:=r;rfl
 | byt _=>obtain ⟨t,rfl⟩:=r;rfl
 | flt _=>obtain ⟨t,rfl⟩:=r;rfl
 | ref _=>cases r;rfl
 | ty _=>cases r;rfl
theorem aQ.inj {x y:V}{u:Value}(r:aQ x u) (q:aQ y u):x=y:=Option.some.inj (r.abs.symm.trans q.abs)
theorem aU.inj:∀{xs ys:List V}{us:List Value},aU xs us->aU ys us->xs=ys
 | _,_,_,.nil,.nil=>rfl
 | _,_,_,.cons r t,.cons r' t'=>by rw [r.inj r',aU.inj t t']
section
variable {X:Cx}{pins:List (Addr×Obj)}{σ:St}{H:Hp}{s:Shared}{a:Addr}{xs ys:List V}
theorem aJ.of {K:Frag}(h:H a=some (.lst xs)):aJ K H a xs:=.inl (.inl h)
theorem eE.of {K:Frag}(h:H a=some (.tup xs)):eE K H a xs:=.inl (.inl h)
theorem aD.list (I:aD X pins σ H s) (h:aJ X.K H a xs):∃its:List Value,aU xs its/\PlainL s.heap a its.toArray/\xs.length<=sizeLine:=by
 rcases h with h | ⟨o,its,n,hk,hc,hd,hs,hz,r⟩
 ·obtain ⟨z,its,n,r,e⟩:=h.ok I.hok;exact ⟨its,r,⟨_,n,e,rfl,rfl,rfl⟩,z⟩
 ·refine ⟨its.toList,r,⟨o,n,I.kIn a o hk,hc,hd,by simpa using hs⟩,?_⟩;have e:=r.length;simp only [LB] at e;omega
theorem aD.tuple (I:aD X pins σ H s) (h:eE X.K H a xs):∃its:List Value,aU xs its/\IsTup s.heap a its.toArray/\xs.length<=sizeLine:=by
 rcases h with h | ⟨o,its,n,hk,hc,hs,hz,r⟩
 ·obtain ⟨z,its,r,p⟩:=h.ok I.hok;exact ⟨its,r,p,z⟩
 ·refine ⟨its.toList,r,⟨o,I.kIn a o hk,hc,n,by simpa using hs⟩,?_⟩;have e:=r.length;simp only [LB] at e;omega
theorem aD.list_inj (I:aD X pins σ H s) (h:aJ X.K H a xs) (h':aJ X.K H a ys):xs=ys:=by
 obtain ⟨its,r,⟨o,n,e,_,_,d⟩,_⟩:=I.list h;obtain ⟨its',r',⟨o',n',e',_,_,d'⟩,_⟩:=I.list h';rw [e] at e';cases e';rw [d] at d';injection d' with d1 _;have:its=its':=by simpa using congrArg Array.toList d1
 subst this;exact r.inj r'
end
abbrev Cx.wish (X:Cx) (E:Value->Shared->Prop):Cx:={X with xe:=E}
abbrev Cx.nox (X:Cx):Cx:=X.wish λ _ _=>False
theorem Cx.Ok.wish {X:Cx}(ok:X.Ok) (E:Value->Shared->Prop):(X.wish E).Ok:=
 ⟨ok.mod,ok.kind,ok.glob,ok.blt,ok.above,ok.inj,ok.has,ok.cab,ok.hd,ok.frames,ok.stk,ok.exf,ok.bs,ok.bsz,ok.noex,ok.exfs,ok.funs,ok.frf⟩
theorem Cx.Ok.unwish {X:Cx}{E:Value->Shared->Prop}(ok:(X.wish E).Ok):X.Ok:=
 ⟨ok.mod,ok.kind,ok.glob,ok.blt,ok.above,ok.inj,ok.has,ok.cab,ok.hd,ok.frames,ok.stk,ok.exf,ok.bs,ok.bsz,ok.noex,ok.exfs,ok.funs,ok.frf⟩
section
variable {X:Cx}{pins:List (Addr×Obj)}{σ:St}{H:Hp}{s:Shared}{E:Value->Shared->Prop}
theorem aD.wish (I:aD X pins σ H s) (E:Value->Shared->Prop):aD (X.wish E) pins σ H s:=⟨I.ok.wish E,I.os,I.bare,I.base,I.loc,I.cell,I.free,I.freeC,I.pin,I.hok,I.len⟩
theorem aD.unwish (I:aD (X.wish E) pins σ H s):aD X pins σ H s:=⟨I.ok.unwish,I.os,I.bare,I.base,I.loc,I.cell,I.free,I.freeC,I.pin,I.hok,I.len⟩
theorem SP.unwish {D:cQ}{f:Flow}{s':Shared}(h:SP (X.wish E) pins D f s'):SP X pins D f s':=by
 cases f with
 | next=>obtain ⟨σ',H',I,q⟩:=h;exact ⟨σ',H',I.unwish,q⟩
 | brk=>obtain ⟨σ',H',I,q⟩:=h;exact ⟨σ',H',I.unwish,q⟩
 | cont=>obtain ⟨σ',H',I,q⟩:=h;exact ⟨σ',H',I.unwish,q⟩
 | ret u=>obtain ⟨v,σ',H',I,r,q⟩:=h;exact ⟨v,σ',H',I.unwish,r,q⟩
theorem mI.nox {st:List Stmt}{t:TS}(h:mI X.nox st t):mI X st t:=λ pins s σ H D I hw=>
 wpAny_mono (h pins s σ H D (I.wish _) hw) (λ _ _ q=>q.unwish) λ _ _ z=>False.elim z
end
section
variable {X:Cx}{st:Stmt}{rest:List Stmt}{t u:TS}{e:Expr}{te:TE}{pos:Pos}
def iZ:TS:=λ D σ H=>D.nx σ H
def bu (t u:TS):TS:=λ D σ H=>t {D with nx:=u D} σ H
theorem aG:mI X [] iZ:=λ _ _ σ H _ I h=>wpAny_execs_nil ⟨σ,H,I,h⟩
theorem af (h1:PS X st t) (h2:mI X rest u):mI X (st::rest) (bu t u):=by
 intro pins s σ H D I h;refine wpAny_execs_cons (cb (h1 pins s σ H {D with nx:=u D} I h) λ f s1 q=>?_);cases f with
 | next=>
   obtain ⟨σ',H',I',q⟩:=q;exact h2 pins s1 σ' H' D I' q
 | ret v=>exact q
 | brk=>exact q
 | cont=>exact q
theorem ar (h1:PS X st t):mI X [st] t:=by
 intro pins s σ H D I h;refine wpAny_execs_cons (cb (h1 pins s σ H D I h) λ f s1 q=>?_);cases f with
 | next=>exact wpAny_execs_nil q
 | ret v=>exact q
 | brk=>exact q
 | cont=>exact q
theorem aD.quiet {pins:List (Addr×Obj)}{σ:St}{H:Hp}{s:Shared}(I:aD X pins σ H s):interactive X.env=false:=by simp [interactive,I.ok.kind]
def kA (te:TE):TS:=λ D σ H=>te σ H λ _ H1=>D.nx σ H1
theorem ip (he:PE X e te) (hs:swapsWith e none pos.line X.env=pure false:=by rfl):PS X (.Expr e pos) (kA te):=by intro pins s σ H D I h;exact wpAny_Expr_any (cb (he pins s σ H _ I h) λ v s1 ⟨x,H1,I1,r1,q1⟩=>⟨σ,H1,I1,q1⟩) I.quiet hs
def dw (te:TE):TS:=λ D σ H=>te σ H D.rt
theorem aF (he:PE X e te):PS X (.Return (some e) pos) (dw te):=by intro pins s σ H D I h;exact wpAny_Return_some (cb (he pins s σ H _ I h) λ v s1 ⟨x,H1,I1,r1,q1⟩=>⟨x,σ,H1,I1,r1,q1⟩)
def jX (c:TT) (t u:TS):TS:=λ D σ H=>c σ H λ b H1=>if b=true then t D σ H1 else u D σ H1
theorem bn {c:Expr}{a b:List Stmt}{tc:TT}(hc:PT X c tc) (ha:mI X a t) (hb:mI X b u):PS X (.If c a b pos) (jX tc t u):=by
 intro pins s σ H D I h;refine wpAny_If (cb (hc pins s σ H _ I h) λ d s1 ⟨H1,I1,q1⟩=>?_);cases d with
 | true=>exact ha pins s1 σ H1 D I1 q1
 | false=>exact hb pins s1 σ H1 D I1 q1
def tP:TS:=λ _ _ _=>False
theorem eJ:PS X st tP:=λ _ _ _ _ _ _ h=>h.elim
theorem rR {sts:List Stmt}:mI X sts tP:=λ _ _ _ _ _ _ h=>h.elim
end
abbrev TG:=V->St->Hp->(St->Hp->Prop)->Prop
abbrev vQ:=List V->St->Hp->(St->Hp->Prop)->Prop
def PG (X:Cx) (target:Expr) (t:TG):Prop:=
 ∀(pins:List (Addr×Obj)) (s:Shared) (σ:St) (H:Hp) (v:V) (u:Value) (Q:St->Hp->Prop),aD X pins σ H s->aQ v u->t v σ H Q->
  wpAny (model X.prog X.w) X.A (assign target X.env u) (λ _ s'=> ∃σ' H',aD X pins σ' H' s'/\Q σ' H') X.xe s
def CO (X:Cx) (ts:List Expr) (t:vQ):Prop:=
 ∀(pins:List (Addr×Obj)) (s:Shared) (σ:St) (H:Hp) (vs:List V) (us:List Value) (Q:St->Hp->Prop),aD X pins σ H s->aU vs us->t vs σ H Q->
  wpAny (model X.prog X.w) X.A (assignInOrder ((assignEach ts X.env).map (·.2)) us) (λ _ s'=> ∃σ' H',aD X pins σ' H' s'/\Q σ' H') X.xe s
section
variable {X:Cx}{pos:Pos}
def gName (i:Nat):TG:=λ v σ H Q=>Q (σ.set i (some v)) H
theorem cE {i:Nat}{x:Str}(hN:X.N.Nodup) (hi:X.N[i]? =some x) (hx:C2 X.env.scope x) (hf:X.fn x=true\/X.env.scope.names.lookup x=some .local:=by first | exact .inl rfl | exact .inr rfl | assumption):PG X (.Name x pos) (gName i):=by intro pins s σ H v u Q I r h;exact wpAny_assign_Name (js I hN hi hx r (λ s' I'=>⟨_,H,I',h⟩) hf)
def wK:vQ:=λ vs σ H Q=>vs=[]/\Q σ H
def jN (t:TG) (u:vQ):vQ:=λ vs σ H Q=> ∃v r,vs=v::r/\t v σ H λ σ' H'=>u r σ' H' Q
theorem lV:CO X [] wK:=by intro pins s σ H vs us Q I r h;obtain ⟨e,h⟩:=h;subst e;cases r;exact assignInOrder_nil ⟨σ,H,I,h⟩
theorem fJ {e:Expr}{es:List Expr}{t:TG}{u:vQ}(h1:PG X e t) (h2:CO X es u)
  (hs:(assignEach (e::es) X.env).map (·.2)=assign e X.env::(assignEach es X.env).map (·.2):=by rfl):CO X (e::es) (jN t u):=by
 intro pins s σ H vs us Q I r h;obtain ⟨v,vr,e1,h⟩:=h;subst e1;cases r with
 | cons r rr=>
   rw [hs];refine assignInOrder_cons (cb (h1 pins s σ H _ _ _ I r h) λ _ s1 ⟨σ1,H1,I1,q1⟩=>?_);exact h2 pins s1 σ1 H1 _ _ Q I1 rr q1
def Cn (K:Frag) (n:Nat) (t:vQ):TG:=λ v σ H Q=> ∃a xs,v=.ref a/\eE K H a xs/\xs.length=n/\t xs σ H Q
theorem BK {es:List Expr}{k:Nat}{t:vQ}{n:Nat}(hc:X.calm=true) (h:CO X es t)
  (hn:(assignEach es X.env).length=n:=by rfl) (hst:(assignEach es X.env).findIdx? (·.1)=none:=by rfl):PG X (.Tuple es k pos) (Cn X.K n t):=by
 intro pins s σ H v u Q I r hw;obtain ⟨a,xs,e1,hq,hl,hw⟩:=hw;subst e1;cases r;obtain ⟨its,rv,ht,hz⟩:=I.tuple hq;refine assign_Tuple_tuple (I.ok.hd hc) ht (by simp [hn,<-hl,rv.length]) hst λ h' hx=>?_;have I1:aD X pins σ H {s with heap:=h'}:=I.kept (t':=s.toks) λ b o e=>hx b o (KY (Heap.lt_size e)) e;exact h pins _ σ H xs _ Q I1 (by simpa using rv) hw
def tAsg (te:TE) (g:TG):TS:=λ D σ H=>te σ H λ x H1=>g x σ H1 D.nx
theorem az {i:Nat}{x:Str}{e:Expr}{te:TE}{pos':Pos}(hN:X.N.Nodup) (hi:X.N[i]? =some x) (hx:C2 X.env.scope x) (he:PE X e te) (hs:swapsWith e (some (.Name x pos')) pos.line X.env=pure false:=by rfl) (hf:X.fn x=true\/X.env.scope.names.lookup x=some .local:=by first | exact .inl rfl | exact .inr rfl | assumption):
  PS X (.Assign [.Name x pos'] e pos) (tAsg te (gName i)):=by
 intro pins s σ H D I h;refine wpAny_Assign_Name (cb (he pins s σ H _ I h) λ v s1 ⟨y,H1,I1,r1,q1⟩=>?_) hs;exact js I1 hN hi hx r1 (λ s2 I2=>⟨_,H1,I2,q1⟩) hf
end
section
variable {X:Cx}{pos:Pos}
end
structure It where
 go:Nat->Hp->Prop
 yld:Nat->Hp->V->Hp->Prop
 stop:Nat->Hp->Prop
def hZ (X:Cx) (pins:List (Addr×Obj)) (H:Hp) (b:Addr):Prop:=
 H b=none/\b≠X.env.locals/\b∉X.fs/\(b∈X.ex\/X.s₀.heap.objs.size<=b)/\(∀x c,X.env.cells.lookup x=some c->c≠b)/\∀p∈X.pn++pins,p.1≠b
theorem aD.fpOk {X:Cx}{pins:List (Addr×Obj)}{σ:St}{H H':Hp}{s:Shared}{b:Addr}(I:aD X pins σ H s) (hb:s.heap.objs.size<=b) (hn:H' b=none):hZ X pins H' b:=by
 refine ⟨hn,Lb (K0 I.lt hb),I.nofs hb,.inr (KZ I.sz hb),λ x c e z=>?_,λ p hp z=>?_⟩
 ·obtain ⟨v,q⟩:=I.cell x c e;exact absurd (K0 q.lt (by rw [z];exact hb)) (La _)
 ·exact absurd (K0 (Heap.lt_size (I.pin p hp).1) (by rw [z];exact hb)) (La _)
structure vG (P:Program) (w:World) (K:Frag) (tg:Expr) (J:It) (fp:List Addr) (it:Addr) (tn:Nat->Heap->Prop):Prop where
 mem:it∈fp
 obj:∀i h,tn i h->∀b∈fp,∃o,h.get? b=some o/\∀v,o.data≠.cell v
 keep:∀i h h',tn i h->(∀b∈fp,∀o,h.get? b=some o->h'.get? b=some o)->tn i h'
 item:∀(X:Cx),X.prog=P->X.w=w->X.K=K->X.calm=true->∀(i:Nat) (pins:List (Addr×Obj)) (s:Shared) (σ:St) (H:Hp) (E:Value->Shared->Prop),aD X pins σ H s->(∀b∈fp,hZ X pins H b)->tn i s.heap->J.go i H->
  wpAny (model P w) X.A (pyNext (.ref it)) (λ r s1=> ∃u,r=some u/\
   wpAny (model P w) X.A (letOwnedTupleGo tg (.ref it) u) (λ _ s2=> ∃x H',aD X pins σ H' s2/\aQ x u/\J.yld i H x H'/\tn (i+1) s2.heap/\∀b∈fp,H' b=none) E s1) E s
 done:∀(X:Cx),X.prog=P->X.w=w->X.K=K->X.calm=true->∀(i:Nat) (pins:List (Addr×Obj)) (s:Shared) (σ:St) (H:Hp) (E:Value->Shared->Prop),aD X pins σ H s->(∀b∈fp,hZ X pins H b)->tn i s.heap->J.stop i H->
   wpAny (model P w) X.A (pyNext (.ref it)) (λ r s1=>r=none/\aD X pins σ H s1) E s
 self:∀(A:Around) (i:Nat) (s:Shared) (Q:Value->Shared->Prop) (E:Value->Shared->Prop),tn i s.heap->Q (.ref it) s->wpAny (model P w) A (pyIter (.ref it)) Q E s
abbrev TI:=St->Hp->(It->Hp->Prop)->Prop
def Jp (X:Cx) (pins:List (Addr×Obj)) (σ:St) (tg:Expr) (R:It->Hp->Prop) (itv:Value) (s2:Shared):Prop:=
 ∃(it:Addr) (fp:List Addr) (tn:Nat->Heap->Prop) (J:It) (H':Hp),itv=.ref it/\aD X pins σ H' s2/\vG X.prog X.w X.K tg J fp it tn/\tn 0 s2.heap/\(∀b∈fp,hZ X pins H' b)/\R J H'
def PI (X:Cx) (tg iter:Expr) (wi:TI):Prop:=
 ∀(pins:List (Addr×Obj)) (s:Shared) (σ:St) (H:Hp) (R:It->Hp->Prop),aD X pins σ H s->wi σ H R->
  wpAny (model X.prog X.w) X.A (eval iter X.env) (λ v s1=>wpAny (model X.prog X.w) X.A (pyIter v) (Jp X pins σ tg R) X.xe s1) X.xe s
theorem qQ {M:Model}{A:Around}{E:Value->Shared->Prop}{s:Shared}{tg:Expr}{it:Addr}{u:Value}{o:Obj}{n:String}{vs:Array Value}{Q:Unit->Shared->Prop}(ho:s.heap.get? it=some o) (hc:o.cls=.type n) (hd:o.data=.fields vs)
  (hn:["enumerate","zip","dict_itemiterator","dict_reverseitemiterator","odict_iterator","itertools.zip_longest","itertools.pairwise"].contains n=false) (hQ:Q () s):wpAny M A (letOwnedTupleGo tg (.ref it) u) Q E s:=by
 unfold letOwnedTupleGo;cases tg<;>first
  | exact wpAny_pure hQ
  | (cases u<;>first
    | exact wpAny_pure hQ
    | (refine wpAny_bind (wpAny_load ho ?_)
       rw [hc,hd];show wpAny M A (if (["enumerate","zip","dict_itemiterator","dict_reverseitemiterator","odict_iterator","itertools.zip_longest","itertools.pairwise"].contains n&&vs[0]? == some (rawInt _))=true then _ else _) Q E s;rw [if_neg (by intro h;rw [hn,Lx] at h;cases h)];exact wpAny_pure hQ))
def C4 (K:Frag) (a:Addr):It:=
 ⟨λ i H=> ∃xs x,aJ K H a xs/\xs[i]? =some x,λ i H x H'=>H'=H/\∀xs,aJ K H a xs->xs[i]? =some x,λ i H=> ∃xs,aJ K H a xs/\xs.length<=i⟩
def C3 (lo:Int) (n:Nat):It:=⟨λ i _=>i<n,λ i H x H'=>H'=H/\x=.int (lo+i),λ i _=>n<=i⟩
theorem rB {P:Program}{w:World}{K:Frag}{tg:Expr}(a it:Addr):vG P w K tg (C4 K a) [it] it (λ i h=>h.IsListIter it a i) where
 mem:=by simp
 obj:=λ i h st b hb=>by
  have e:b=it:=by simpa using hb
  subst e;obtain ⟨o,e,c,d⟩:=st;exact ⟨o,e,λ v z=>by rw [d] at z;cases z⟩
 keep:=λ i h h' st k=>st.at λ o e=>k it (by simp) o e
 item:=by intro X hP hw hK hc i pins s σ H E I hf st hg;subst hP hw hK;obtain ⟨xs,x,hq,hx⟩:=hg;obtain ⟨its,rv,p,hz⟩:=I.list hq;obtain ⟨u,hu,ru⟩:=rv.get hx;obtain ⟨f0,f1,f2,f3,f4,f5⟩:=hf it (by simp);refine wpAny_pyNext_list_item st p.isList (x:=u) (by simpa using hu) λ h' st' sb=>?_;have I1:aD X pins σ H {s with heap:=h'}:=I.turned (t':=s.toks) (λ b o hb e=>(sb.2 b hb).trans e) f0 f1 f3 f4 f5;obtain ⟨o,e,c,d⟩:=id st';exact ⟨u,rfl,qQ (s:={s with heap:=h'}) e c d (by decide) ⟨x,H,I1,ru,⟨rfl,λ ys hy=>by rw [I.list_inj hy hq];exact hx⟩,st',λ b hb=>(hf b hb).1⟩⟩
 done:=by intro X hP hw hK hc i pins s σ H E I hf st hg;subst hP hw hK;obtain ⟨xs,hq,hx⟩:=hg;obtain ⟨its,rv,p,hz⟩:=I.list hq;obtain ⟨f0,f1,f2,f3,f4,f5⟩:=hf it (by simp);have hl:=rv.length;exact wpAny_pyNext_list_end (I.ok.hd hc) st p.isList (by simp;omega) λ h' eb=>⟨rfl,I.turned (t':=s.toks) (λ b o hb e=>eb b o hb e) f0 f1 f3 f4 f5⟩
 self:=λ _ _ _ _ _ st h=>wpAny_pyIter_listiter st h
theorem oN {P:Program}{w:World}{K:Frag}{tg:Expr}(it:Addr) (lo:Int) (n:Nat):vG P w K tg (C3 lo n) [it] it (λ i h=>IsRangeIter h it (lo+(i:Nat)*1) ((n:Int) - (i:Nat)) 1) where
 mem:=by simp
 obj:=λ i h st b hb=>by
  have e:b=it:=by simpa using hb
  subst e;exact ⟨_,st,λ v z=>by
   have z':Data.fields _=Data.cell v:=z;cases z'⟩
 keep:=λ i h h' st k=>k it (by simp) _ st
 item:=by intro X hP hw hK hc i pins s σ H E I hf st hg;subst hP hw hK;obtain ⟨f0,f1,f2,f3,f4,f5⟩:=hf it (by simp);have W:=Walks.range (prog:=X.prog) (w:=X.w) (I.ok.hd hc) it lo 1 n;refine W.item i s _ _ hg st λ v h' tk hv st' kk=>?_;obtain ⟨t,rfl⟩:=hv;have I1:aD X pins σ H {s with heap:=h',toks:=tk}:=I.turned (λ b o hb e=>kk b o (by simpa using hb) e) f0 f1 f3 f4 f5;refine ⟨_,rfl,qQ (s:={s with heap:=h',toks:=tk}) (n:="range_iterator") st' rfl rfl (by decide) ⟨.int (lo+i),H,I1,⟨t,?_⟩,⟨rfl,rfl⟩,st',λ b hb=>(hf b hb).1⟩⟩;rw [Int.mul_one]
 done:=by intro X hP hw hK hc i pins s σ H E I hf st hg;subst hP hw hK;obtain ⟨f0,f1,f2,f3,f4,f5⟩:=hf it (by simp);exact wpAny_pyNext_range_end (I.ok.hd hc) st (by have:n<=i:=hg;omega) λ h' eb=>⟨rfl,I.turned (t':=s.toks) (λ b o hb e=>eb b o hb e) f0 f1 f3 f4 f5⟩
 self:=λ _ _ _ _ _ st h=>wpAny_pyIter_rangeiter st h
end L2
namespace L2
open PySem PySem.Spec PyProof.Rows
section
variable {X:Cx}{tg:Expr}
def kP (K:Frag) (tl:TE):TI:=λ σ H R=>tl σ H λ x H1=> ∃a,x=.ref a/\(∃xs,aJ K H1 a xs)/\R (C4 K a) H1
theorem v9 {l:Expr}{tl:TE}(hl:PE X l tl):PI X tg l (kP X.K tl):=by
 intro pins s σ H R I h;refine cb (hl pins s σ H _ I h) λ v s1 ⟨x,H1,I1,r1,q1⟩=>?_;obtain ⟨a,e,⟨xs,hq⟩,q⟩:=q1;subst e;cases r1;obtain ⟨its,rv,p,hz⟩:=I1.list hq;refine wpAny_pyIter_list p.isList ?_;refine ⟨s1.heap.objs.size,[s1.heap.objs.size],_,_,H1,rfl,I1.kept (t':=s1.toks) λ b o e=>Heap.get?_push_of_some _ e,rB a _,⟨_,Heap.get?_push_size _ rfl,rfl,rfl⟩,λ b hb=>?_,q⟩;have e:b=s1.heap.objs.size:=by simpa using hb
 subst e;exact I1.fpOk (KW _) (I1.hok.fresh (KW _))
theorem ua {pins:List (Addr×Obj)}{σ:St}{H:Hp}{s:Shared}{R:It->Hp->Prop}{E:Value->Shared->Prop}{lo hi:Int}{t u v:Tok}{tk:Nat}(I:aD X pins σ H s) (h1: -(2 ^ 62)<=lo) (h2:lo<2 ^ 62) (h3: -(2 ^ 62)<=hi) (h4:hi<2 ^ 62)
  (q:R (C3 lo (hi - lo).toNat) H):wpAny (model X.prog X.w) X.A (pyIter (.ref s.heap.objs.size)) (Jp X pins σ tg R) E {s with heap:=s.heap.push {cls:=.type "range",data:=.fields #[.int lo t,.int hi u,.int 1 v]},toks:=tk}:=by
 refine wpAny_pyIter_range (IsRange.new ..) (small_one h1 h2 h3 h4) ?_;have I1:aD X pins σ H {s with heap:=s.heap.push {cls:=.type "range",data:=.fields #[.int lo t,.int hi u,.int 1 v]},toks:=tk}:=I.kept λ b o e=>Heap.get?_push_of_some _ e;refine ⟨(s.heap.push {cls:=.type "range",data:=.fields #[.int lo t,.int hi u,.int 1 v]}).objs.size,[(s.heap.push {cls:=.type "range",data:=.fields #[.int lo t,.int hi u,.int 1 v]}).objs.size],_,_,H,rfl,
  I1.kept (t':=tk) λ b o e=>Heap.get?_push_of_some _ e,oN _ lo (hi - lo).toNat,?_,λ b hb=>?_,q⟩
 ·have e1:lo+((0:Nat):Int)*1=lo:=by simp
  have e2:(((hi - lo).toNat:Nat):Int) - ((0:Nat):Int)=Builtin.Range.rangeSize lo hi 1:=by rw [rangeSize_one];split<;>omega
  show IsRangeIter _ _ (lo+((0:Nat):Int)*1) ((((hi - lo).toNat:Nat):Int) - ((0:Nat):Int)) 1;rw [e1,e2];exact Heap.get?_push_size _ rfl
 ·have e:b=(s.heap.push {cls:=.type "range",data:=.fields #[.int lo t,.int hi u,.int 1 v]}).objs.size:=by simpa using hb
  subst e;exact I1.fpOk (KW _) (I1.hok.fresh (KW _))
def kO (ta:TA):TI:=λ σ H R=>ta σ H λ vs H1=> ∃j:Int,vs=[.int j]/\-(2 ^ 62)<=j/\j<2 ^ 62/\R (C3 0 j.toNat) H1
theorem rV {a:Expr}{ta:TA}{p pos:Pos}(hg:Gl X "range") (hm:X.mg "range"=none) (ha:PA X [a] ta) (hs:starEach [a] X.env=[(false,eval a X.env)]:=by rfl):PI X tg (.Call (.Name "range" p) [a] [] pos) (kO ta):=by
 intro pins s σ H R I h;refine Call_ (iQ I hg hm boot_range (PyProof.Rows.callWith_type1 (cb (ha pos pins s σ H _ I h) λ us s1 ⟨vs,H1,I1,r1,q1⟩=>?_) hs rfl));obtain ⟨j,e,q1,q2,q⟩:=q1;subst e;cases r1 with
 | cons r rr=>
   cases rr;obtain ⟨t,rfl⟩:=r;exact call_range_1 (ua I1 (by omega) (by omega) q1 q2 (by simpa using q))
def tFor (wi:TI) (g:TG) (tb:TS):TS:=λ D σ H=>wi σ H λ J H1=> ∃W:Nat->Nat->St->Hp->Prop,(∃m,W 0 m σ H1)/\∀i m σ H,W i m σ H->
 (J.stop i H/\D.nx σ H)\/(J.go i H/\∃N:St->Hp->Prop,(∀σ' H',N σ' H'->∃m',m'<m/\W (i+1) m' σ' H')/\∀x H',J.yld i H x H'->g x σ H' λ σ2 H2=>tb {D with nx:=N,ct:=N,bk:=D.nx} σ2 H2)
def fR (fp:List Addr) (h:Heap):List (Addr×Obj):=fp.filterMap λ b=>(h.get? b).map λ o=>(b,o)
theorem eN {fp:List Addr}{h:Heap}{b:Addr}{o:Obj}(hb:b∈fp) (e:h.get? b=some o):(b,o)∈fR fp h:=JY.mpr ⟨b,hb,by rw [e];rfl⟩
theorem kJ {fp:List Addr}{h:Heap}{p:Addr×Obj}(hp:p∈fR fp h):p.1∈fp/\h.get? p.1=some p.2:=by
 obtain ⟨b,hb,e⟩:=JY.mp hp;cases q:h.get? b with
 | none=>rw [q] at e;cases e
 | some o=>
   rw [q] at e;have e':(b,o)=p:=Option.some.inj e;subst e';exact ⟨hb,q⟩
theorem aD.pinned {pins:List (Addr×Obj)}{σ:St}{H:Hp}{s:Shared}{fp:List Addr}(I:aD X pins σ H s) (hf:∀b∈fp,hZ X pins H b) (ho:∀b∈fp,∃o,s.heap.get? b=some o/\∀v,o.data≠.cell v):aD X (pins++fR fp s.heap) σ H s:=
 I.pins_of λ p hp=>(JG.mp hp).elim (λ z=>I.pin p (JF _ z)) λ z=>by obtain ⟨hb,e⟩:=kJ z;obtain ⟨f0,f1,f2,_⟩:=hf p.1 hb;obtain ⟨o,e',d⟩:=ho p.1 hb;rw [e] at e';cases e';exact ⟨e,f0,f1,f2,d⟩
theorem aD.unpinned {pins pl:List (Addr×Obj)}{σ:St}{H:Hp}{s:Shared}(I:aD X (pins++pl) σ H s):aD X pins σ H s:=I.pins_of λ p hp=>I.pin p (JF _ (J4 _ hp))
theorem iK {iter:Expr}{body:List Stmt}{wi:TI}{g:TG}{tb:TS}{pos:Pos}(hp:PassesOwn (model X.prog X.w) X.A X.env X.xe) (hc:X.calm=true) (hi:PI X tg iter wi) (hg:PG X tg g) (hb:mI X body tb)
  (hs:∀x,foldedSetIterable iter X.env x=pure x:=by intro _;rfl):PS X (.For tg iter body [] pos) (tFor wi g tb):=by
 intro pins s σ H D I h;refine wpAny_For (cb (hi pins s σ H _ I h) λ v s1 h1=>cb h1 λ itv s2 h2=>?_) hs;obtain ⟨it,fp,tn,J,H2,e,I2,T,st2,f2,W,⟨m0,w0⟩,turn⟩:=h2;subst e;have stat:∀{H':Hp},(∀b∈fp,H' b=none)->∀b∈fp,hZ X pins H' b:=λ hn b hb=>⟨hn b hb,(f2 b hb).2⟩;refine codeAny_forLoop_any (λ n s'=> ∃i σ' H',aD X pins σ' H' s'/\tn i s'.heap/\(∀b∈fp,H' b=none)/\W i n σ' H') ?_ m0 ⟨0,σ,H2,I2,st2,λ b hb=>(f2 b hb).1,w0⟩;rintro n s3 ⟨i,σ3,H3,I3,st3,fr3,w3⟩
 rcases turn i n σ3 H3 w3 with ⟨stop,qn⟩ | ⟨go,N,hN,step⟩
 ·refine wpAny_passesOwn hp (cb (T.done X rfl rfl rfl hc i pins s3 σ3 H3 X.xe I3 (stat fr3) st3 stop) λ r s4 ⟨hr,I4⟩=>?_);subst hr;exact wpAny_execs_nil ⟨σ3,H3,I4,qn⟩
 ·refine wpAny_passesOwn hp (cb (T.item X rfl rfl rfl hc i pins s3 σ3 H3 X.xe I3 (stat fr3) st3 go) λ r s4 ⟨u,hr,h4⟩=>?_);subst hr;refine wpAny_passesOwn hp (cb h4 λ _ s5 ⟨x,H5,I5,r5,y5,st5,fr5⟩=>?_);have I5':=I5.pinned (stat fr5) (T.obj _ _ st5);refine wpAny_passesOwn hp (cb (hg _ s5 σ3 H5 x u _ I5' r5 (step x H5 y5)) λ _ s6 ⟨σ6,H6,I6,q6⟩=>?_);refine wpAny_passesOwn hp (cb (hb _ s6 σ6 H6 _ I6 q6) λ f s7 q7=>?_);have again:∀{σ7:St} {H7:Hp},aD X (pins++fR fp s5.heap) σ7 H7 s7->N σ7 H7->∃m,m<n/\∃i σ' H',aD X pins σ' H' s7/\tn i s7.heap/\(∀b∈fp,H' b=none)/\W i m σ' H':=λ {σ7 H7} I7 n7=>by obtain ⟨m',hm,w7⟩:=hN σ7 H7 n7;refine ⟨m',hm,i+1,σ7,H7,I7.unpinned,T.keep _ _ _ st5 λ b hb o e=>(I7.pin (b,o) (JF _ (JF _ (eN hb e)))).1,λ b hb=>?_,w7⟩;obtain ⟨o,e,d⟩:=T.obj _ _ st5 b hb;exact (I7.pin (b,o) (JF _ (JF _ (eN hb e)))).2.1
  cases f with
  | next=>obtain ⟨σ7,H7,I7,n7⟩:=q7;exact again I7 n7
  | cont=>obtain ⟨σ7,H7,I7,n7⟩:=q7;exact again I7 n7
  | brk=>obtain ⟨σ7,H7,I7,q7⟩:=q7;exact ⟨σ7,H7,I7.unpinned,q7⟩
  | ret v=>obtain ⟨x7,σ7,H7,I7,r7,q7⟩:=q7;exact ⟨x7,σ7,H7,I7.unpinned,r7,q7⟩
end
theorem uW {K:Frag}{a:Addr}{xs:List V}{g:TG}{tb:TS}{D:cQ}{σ:St}{H:Hp}(Pv:Nat->St->Hp->Prop) (h0:Pv 0 σ H) (hl:∀i σ H,i<=xs.length->Pv i σ H->aJ K H a xs)
  (hs:∀i x σ H,xs[i]? =some x->Pv i σ H->g x σ H λ σ2 H2=>tb {D with nx:=Pv (i+1),ct:=Pv (i+1),bk:=D.nx} σ2 H2) (hd:∀σ H,Pv xs.length σ H->D.nx σ H):
  ∃W:Nat->Nat->St->Hp->Prop,(∃m,W 0 m σ H)/\∀i m σ H,W i m σ H->
   ((C4 K a).stop i H/\D.nx σ H)\/((C4 K a).go i H/\∃N:St->Hp->Prop,(∀σ' H',N σ' H'->∃m',m'<m/\W (i+1) m' σ' H')/\∀x H',(C4 K a).yld i H x H'->g x σ H' λ σ2 H2=>tb {D with nx:=N,ct:=N,bk:=D.nx} σ2 H2):=by
 refine ⟨λ i m σ H=>m=xs.length - i/\i<=xs.length/\Pv i σ H,⟨xs.length,by simp,K7 _,h0⟩,?_⟩;rintro i m σ H ⟨rfl,hi,p⟩;have q:=hl i σ H hi p
 by_cases hlt:i<xs.length
 ·refine .inr ⟨⟨xs,xs[i],q,by simp [hlt]⟩,Pv (i+1),λ σ' H' p'=>⟨xs.length - (i+1),by omega,rfl,hlt,p'⟩,λ x H' y=>?_⟩;obtain ⟨e,y⟩:=y;subst e;exact hs i x σ _ (y xs q) p
 ·have e:i=xs.length:=by omega
  subst e;exact .inl ⟨⟨xs,q,KW _⟩,hd σ H p⟩
theorem kQ {lo:Int}{n:Nat}{g:TG}{tb:TS}{D:cQ}{σ:St}{H:Hp}(Pv:Nat->St->Hp->Prop) (h0:Pv 0 σ H)
  (hs:∀i σ H,i<n->Pv i σ H->g (.int (lo+i)) σ H λ σ2 H2=>tb {D with nx:=Pv (i+1),ct:=Pv (i+1),bk:=D.nx} σ2 H2) (hd:∀σ H,Pv n σ H->D.nx σ H):
  ∃W:Nat->Nat->St->Hp->Prop,(∃m,W 0 m σ H)/\∀i m σ H,W i m σ H->
   ((C3 lo n).stop i H/\D.nx σ H)\/((C3 lo n).go i H/\∃N:St->Hp->Prop,(∀σ' H',N σ' H'->∃m',m'<m/\W (i+1) m' σ' H')/\∀x H',(C3 lo n).yld i H x H'->g x σ H' λ σ2 H2=>tb {D with nx:=N,ct:=N,bk:=D.nx} σ2 H2):=by
 refine ⟨λ i m σ H=>m=n - i/\i<=n/\Pv i σ H,⟨n,by simp,K7 _,h0⟩,?_⟩;rintro i m σ H ⟨rfl,hi,p⟩
 by_cases hlt:i<n
 ·refine .inr ⟨hlt,Pv (i+1),λ σ' H' p'=>⟨n - (i+1),by omega,rfl,hlt,p'⟩,λ x H' y=>?_⟩;obtain ⟨e,y⟩:=y;subst e y;exact hs i σ _ hlt p
 ·have e:i=n:=by omega
  subst e;exact .inl ⟨KW _,hd σ H p⟩
end L2
namespace L2
open PySem PySem.Spec PyProof.Rows
abbrev R2:=V->V->Hp->VK->Prop
def gK (X:Cx) (f:Value->Value->Sem Value) (r:R2):Prop:=
 ∀(pins:List (Addr×Obj)) (s:Shared) (σ:St) (H:Hp) (x y:V) (v u:Value) (Q:VK),aD X pins σ H s->aQ x v->aQ y u->r x y H Q->
  wpAny (model X.prog X.w) X.A (f v u) (EP X pins σ Q) X.xe s
def Jn (X:Cx) (f:Value->Sem Value) (r:V->Hp->VK->Prop):Prop:=
 ∀(pins:List (Addr×Obj)) (s:Shared) (σ:St) (H:Hp) (x:V) (v:Value) (Q:VK),aD X pins σ H s->aQ x v->r x H Q->
  wpAny (model X.prog X.w) X.A (f v) (EP X pins σ Q) X.xe s
def bd (X:Cx) (f:Value) (r:List V->Hp->VK->Prop):Prop:=
 ∀(pins:List (Addr×Obj)) (s:Shared) (σ:St) (H:Hp) (xs:List V) (us:List Value) (Q:VK),aD X pins σ H s->aU xs us->r xs H Q->
  wpAny (model X.prog X.w) X.A (call f us) (EP X pins σ Q) X.xe s
def tO (r:R2) (ta tb:TE):TE:=λ σ H Q=>ta σ H λ x H1=>tb σ H1 λ y H2=>r x y H2 Q
def rI (C:Int->Int->Prop) (g:Int->Int->V):R2:=λ x y H Q=> ∃i j,x=.int i/\y=.int j/\C i j/\Q (g i j) H
def Bc (g:Int->Int->V):R2:=λ x y H Q=> ∃i j,x=.int i/\y=.int j/\Q (g i j) H
def rU (g:Int->V):V->Hp->VK->Prop:=λ x H Q=> ∃i,x=.int i/\Q (g i) H
section
variable {X:Cx}{a b c:Expr}{ta tb tc:TE}{pos:Pos}
theorem CG (ha:PE X a ta) (hb:PE X b tb) {pins:List (Addr×Obj)}{s:Shared}{σ:St}{H:Hp}{R:V->V->Hp->Prop}(I:aD X pins σ H s)
  (h:ta σ H λ x H1=>tb σ H1 λ y H2=>R x y H2) {Q:Value->Shared->Prop} {f:Value->Value->Sem Value}
  (hf:∀v u s2 x y H2,aD X pins σ H2 s2->aQ x v->aQ y u->R x y H2->wpAny (model X.prog X.w) X.A (f v u) Q X.xe s2):
  wpAny (model X.prog X.w) X.A (eval a X.env) (λ v s₁=>wpAny (model X.prog X.w) X.A (eval b X.env) (λ u s₂=>wpAny (model X.prog X.w) X.A (f v u) Q X.xe s₂) X.xe s₁) X.xe s:=by
 refine cb (ha pins s σ H _ I h) λ v s1 ⟨x,H1,I1,r1,q1⟩=>?_;refine cb (hb pins s1 σ H1 _ I1 q1) λ u s2 ⟨y,H2,I2,r2,q2⟩=>?_;exact hf v u s2 x y H2 I2 r1 r2 q2
theorem uy {op:Operator}{r:R2}(ho:gK X (binaryOp op) r) (ha:PE X a ta) (hb:PE X b tb):PE X (.BinOp a op b pos) (tO r ta tb):=by intro pins s σ H Q I h;exact wpAny_BinOp (CG ha hb I h λ v u s2 x y H2 I2 rx ry q=>ho pins s2 σ H2 x y v u Q I2 rx ry q)
theorem HA {f:Value->Value->Sem Value}{C:Int->Int->Prop}{g:Int->Int->Int}
  (rule:∀(i j:Int) (t u:Tok) (s:Shared) (Q:Value->Shared->Prop) (E:Value->Shared->Prop),C i j->Q (.int (g i j) s.toks) {s with toks:=s.toks+1}->wpAny (model X.prog X.w) X.A (f (.int i t) (.int j u)) Q E s):
  gK X f (rI C λ i j=>.int (g i j)):=by
 intro pins s σ H x y v u Q I rx ry h;obtain ⟨i,j,rfl,rfl,hc,q⟩:=h;obtain ⟨t,rfl⟩:=rx;obtain ⟨t',rfl⟩:=ry;exact rule i j t t' s _ _ hc ⟨.int (g i j),H,I.tok _,⟨_,rfl⟩,q⟩
theorem GN {f:Value->Value->Sem Value}{g:Int->Int->Int}
  (rule:∀(i j:Int) (t u:Tok) (s:Shared) (Q:Value->Shared->Prop) (E:Value->Shared->Prop),Q (.int (g i j) s.toks) {s with toks:=s.toks+1}->wpAny (model X.prog X.w) X.A (f (.int i t) (.int j u)) Q E s):
  gK X f (Bc λ i j=>.int (g i j)):=by
 intro pins s σ H x y v u Q I rx ry h;obtain ⟨i,j,rfl,rfl,q⟩:=h;obtain ⟨t,rfl⟩:=rx;obtain ⟨t',rfl⟩:=ry;exact rule i j t t' s _ _ ⟨.int (g i j),H,I.tok _,⟨_,rfl⟩,q⟩
theorem ww {f:Value->Value->Sem Value}{g:Int->Int->Bool}
  (rule:∀(i j:Int) (t u:Tok) (s:Shared) (Q:Value->Shared->Prop) (E:Value->Shared->Prop),Q (.bool (g i j)) s->wpAny (model X.prog X.w) X.A (f (.int i t) (.int j u)) Q E s):
  gK X f (Bc λ i j=>.bl (g i j)):=by
 intro pins s σ H x y v u Q I rx ry h;obtain ⟨i,j,rfl,rfl,q⟩:=h;obtain ⟨t,rfl⟩:=rx;obtain ⟨t',rfl⟩:=ry;exact rule i j t t' s _ _ ⟨.bl (g i j),H,I,rfl,q⟩
def xa (i j:Int):Prop:=0<j/\j<1073741824
def CS (i j:Int):Prop:=0<=j/\j<=1000000/\i.natAbs<2 ^ 64
def sZ (i j:Int):Prop:=(-(2 ^ 64)<i/\i<2 ^ 64)\/(-(2 ^ 64)<j/\j<2 ^ 64)
theorem sZ.ok {i j:Int}(h:sZ i j):IntMulOk i j:=by
 rcases h with ⟨h1,h2⟩ | ⟨h1,h2⟩
 ·exact .of_left (intBits_le_64 h1 h2)
 ·exact .of_right (intBits_le_64 h1 h2)
theorem BY:gK X (binaryOp .Add) (Bc λ i j=>.int (i+j)):=GN λ _ _ _ _ _ _ _ q=>add_int q
theorem BM:gK X (binaryOp .Sub) (Bc λ i j=>.int (i - j)):=GN λ _ _ _ _ _ _ _ q=>sub_int q
theorem BQ:gK X (binaryOp .Mult) (rI sZ λ i j=>.int (i*j)):=HA λ _ _ _ _ _ _ _ hc q=>mul_int q hc.ok
theorem wu:gK X (binaryOp .FloorDiv) (rI xa λ i j=>.int (i / j)):=HA λ i j _ _ _ _ _ hc q=>by have h1:(0:Int)<j:=hc.1;have h2:j<1073741824:=hc.2;exact floordiv_int (by omega) (by rw [Int.fdiv_eq_ediv_of_nonneg i (by omega)];exact q) (.inl (PyProof.noPylong_small (by omega)))
theorem BR:gK X (binaryOp .Mod) (rI (λ _ j=>0<j) λ i j=>.int (i % j)):=HA λ i j _ _ _ _ _ hc q=>by have h1:(0:Int)<j:=hc;exact mod_int' (by omega) (by rw [Int.fmod_eq_emod_of_nonneg i (by omega)];exact q)
theorem BO:gK X (binaryOp .Pow) (rI CS λ i j=>.int (i ^ j.toNat)):=HA λ _ _ _ _ _ _ _ hc q=>pow_int_small hc.1 hc.2.1 hc.2.2 q
theorem unI {f:Value->Sem Value}{g:Int->Int}
  (rule:∀(i:Int) (t:Tok) (s:Shared) (Q:Value->Shared->Prop) (E:Value->Shared->Prop),Q (.int (g i) s.toks) {s with toks:=s.toks+1}->wpAny (model X.prog X.w) X.A (f (.int i t)) Q E s):
  Jn X f (rU λ i=>.int (g i)):=by
 intro pins s σ H x v Q I rx h;obtain ⟨i,rfl,q⟩:=h;obtain ⟨t,rfl⟩:=rx;exact rule i t s _ _ ⟨.int (g i),H,I.tok _,⟨_,rfl⟩,q⟩
theorem Bq:Jn X (unaryOp .USub) (rU λ i=>.int (-i)):=unI λ _ _ _ _ _ q=>neg_int q
end
def scal:V->V->Bool
 | .non,.non=>true | .non,.int _=>true | .int _,.non=>true | .non,.bl _=>true | .bl _,.non=>true | .non,.str _=>true | .str _,.non=>true
 | .int _,.int _=>true | .bl _,.bl _=>true | .str _,.str _=>true | .byt _,.byt _=>true
 | .int _,.str _=>true | .str _,.int _=>true | .bl _,.str _=>true | .str _,.bl _=>true
 | _,_=>false
def rEq:R2:=λ x y H Q=>scal x y=true/\Q (.bl (decide (x=y))) H
def rNe:R2:=λ x y H Q=>scal x y=true/\Q (.bl (!decide (x=y))) H
theorem q0 {i j:Int}:decide (V.int i=V.int j)=(i == j):=by rw [Ls];simp
theorem dec_bl {i j:Bool}:decide (V.bl i=V.bl j)=(i == j):=by rw [Ls];simp
theorem qZ {i j:Str}:decide (V.str i=V.str j)=(i == j):=by rw [Ls];simp
theorem q8 {i j:Array UInt8}:decide (V.byt i=V.byt j)=(i.toList == j.toList):=by rw [Ls];cases i;cases j;simp
section
variable {X:Cx}{a b c:Expr}{ta tb tc:TE}{pos:Pos}
theorem fin_bl {pins:List (Addr×Obj)}{σ:St}{H:Hp}{s:Shared}{Q:VK}{k k':Bool}(I:aD X pins σ H s) (q:Q (.bl k) H) (e:k=k'):EP X pins σ Q (.bool k') s:=by subst e;exact ⟨.bl k,H,I,rfl,q⟩
theorem GL:gK X (compareOp .Eq) rEq:=by
 intro pins s σ H x y v u Q I rx ry h;obtain ⟨hs,q⟩:=h;cases x with
 | non=>
   cases rx;cases y with
   | non=>cases ry;exact PySem.EqNone.eq_none_none (fin_bl I q (by simp))
   | bl j=>cases ry;exact PySem.EqNone.eq_none_bool (fin_bl I q (by simp))
   | int j=>obtain ⟨t',rfl⟩:=ry;exact PySem.EqNone.eq_none_int (fin_bl I q (by simp))
   | str j=>obtain ⟨t',rfl⟩:=ry;exact PySem.EqNone.eq_none_str (fin_bl I q (by simp))
   | _=>exact absurd (show false=true from hs) Lq
 | bl i=>
   cases rx;cases y with
   | non=>cases ry;exact PySem.EqNone.eq_bool_none (fin_bl I q (by simp))
   | bl j=>cases ry;exact eq_bool (fin_bl I q dec_bl)
   | str j=>obtain ⟨t',rfl⟩:=ry;exact PySem.EqMixed.eq_bool_str (fin_bl I q (by simp))
   | _=>exact absurd (show false=true from hs) Lq
 | int i=>
   obtain ⟨t,rfl⟩:=rx;cases y with
   | non=>cases ry;exact PySem.EqNone.eq_int_none (fin_bl I q (by simp))
   | int j=>obtain ⟨t',rfl⟩:=ry;exact eq_int (fin_bl I q q0)
   | str j=>obtain ⟨t',rfl⟩:=ry;exact PySem.EqMixed.eq_int_str (fin_bl I q (by simp))
   | _=>exact absurd (show false=true from hs) Lq
 | str i=>
   obtain ⟨t,rfl⟩:=rx;cases y with
   | non=>cases ry;exact PySem.EqNone.eq_str_none (fin_bl I q (by simp))
   | bl j=>cases ry;exact PySem.EqMixed.eq_str_bool (fin_bl I q (by simp))
   | int j=>obtain ⟨t',rfl⟩:=ry;exact PySem.EqMixed.eq_str_int (fin_bl I q (by simp))
   | str j=>obtain ⟨t',rfl⟩:=ry;exact eq_str (fin_bl I q qZ)
   | _=>exact absurd (show false=true from hs) Lq
 | byt i=>
   obtain ⟨t,rfl⟩:=rx;cases y with
   | byt j=>obtain ⟨t',rfl⟩:=ry;exact PySem.W.eq_bytes (fin_bl I q q8)
   | _=>exact absurd (show false=true from hs) Lq
 | _=>cases y<;>exact absurd (show false=true from hs) Lq
theorem GG:gK X (compareOp .NotEq) rNe:=by
 intro pins s σ H x y v u Q I rx ry h;obtain ⟨hs,q⟩:=h;cases x with
 | non=>
   cases rx;cases y with
   | non=>cases ry;exact PySem.EqNone.ne_none_none (fin_bl I q (by simp))
   | bl j=>cases ry;exact PySem.EqNone.ne_none_bool (fin_bl I q (by simp))
   | int j=>obtain ⟨t',rfl⟩:=ry;exact PySem.EqNone.ne_none_int (fin_bl I q (by simp))
   | str j=>obtain ⟨t',rfl⟩:=ry;exact PySem.EqNone.ne_none_str (fin_bl I q (by simp))
   | _=>exact absurd (show false=true from hs) Lq
 | bl i=>
   cases rx;cases y with
   | non=>cases ry;exact PySem.EqNone.ne_bool_none (fin_bl I q (by simp))
   | bl j=>cases ry;exact ne_bool (fin_bl I q (congrArg not dec_bl))
   | str j=>obtain ⟨t',rfl⟩:=ry;exact PySem.EqMixed.ne_bool_str (fin_bl I q (by simp))
   | _=>exact absurd (show false=true from hs) Lq
 | int i=>
   obtain ⟨t,rfl⟩:=rx;cases y with
   | non=>cases ry;exact PySem.EqNone.ne_int_none (fin_bl I q (by simp))
   | int j=>obtain ⟨t',rfl⟩:=ry;exact ne_int (fin_bl I q (congrArg not q0))
   | str j=>obtain ⟨t',rfl⟩:=ry;exact PySem.EqMixed.ne_int_str (fin_bl I q (by simp))
   | _=>exact absurd (show false=true from hs) Lq
 | str i=>
   obtain ⟨t,rfl⟩:=rx;cases y with
   | non=>cases ry;exact PySem.EqNone.ne_str_none (fin_bl I q (by simp))
   | bl j=>cases ry;exact PySem.EqMixed.ne_str_bool (fin_bl I q (by simp))
   | int j=>obtain ⟨t',rfl⟩:=ry;exact PySem.EqMixed.ne_str_int (fin_bl I q (by simp))
   | str j=>obtain ⟨t',rfl⟩:=ry;exact ne_str (fin_bl I q (congrArg not qZ))
   | _=>exact absurd (show false=true from hs) Lq
 | byt i=>
   obtain ⟨t,rfl⟩:=rx;cases y with
   | byt j=>obtain ⟨t',rfl⟩:=ry;exact PySem.W.ne_bytes (fin_bl I q (congrArg not q8))
   | _=>exact absurd (show false=true from hs) Lq
 | _=>cases y<;>exact absurd (show false=true from hs) Lq
theorem GH:gK X (compareOp .Lt) (Bc λ i j=>.bl (decide (i<j))):=ww λ _ _ _ _ _ _ _ q=>lt_int q
theorem GI:gK X (compareOp .LtE) (Bc λ i j=>.bl (decide (i<=j))):=ww λ _ _ _ _ _ _ _ q=>le_int q
theorem GJ:gK X (compareOp .Gt) (Bc λ i j=>.bl (decide (j<i))):=ww λ _ _ _ _ _ _ _ q=>gt_int q
theorem GK:gK X (compareOp .GtE) (Bc λ i j=>.bl (decide (j<=i))):=ww λ _ _ _ _ _ _ _ q=>ge_int q
theorem rY:gK X (compareOp .Lt) (λ x y H Q=> ∃i j,x=.str i/\y=.str j/\Q (.bl (decide (i.cps.toList<j.cps.toList))) H):=by intro pins s σ H x y v u Q I rx ry h;obtain ⟨i,j,rfl,rfl,q⟩:=h;obtain ⟨t,rfl⟩:=rx;obtain ⟨t',rfl⟩:=ry;exact lt_str (fin_bl I q rfl)
theorem r6:gK X (compareOp .In) (λ x y H Q=> ∃i j,x=.str i/\y=.str j/\Q (.bl (!(Builtin.Str.occurrences j i 0 j.length 1).isEmpty)) H):=by intro pins s σ H x y v u Q I rx ry h;obtain ⟨i,j,rfl,rfl,q⟩:=h;obtain ⟨t,rfl⟩:=rx;obtain ⟨t',rfl⟩:=ry;exact in_str (fin_bl I q rfl)
theorem BS:gK X (compareOp .Is) (λ x y H Q=>y=.non/\Q (.bl (decide (x=.non))) H):=by
 intro pins s σ H x y v u Q I rx ry h;obtain ⟨rfl,q⟩:=h;cases ry;refine is_none_gen (fin_bl I q ?_);cases x<;>first
  | (cases rx;rfl)
  | (obtain ⟨t,rfl⟩:=rx;rfl)
theorem wn:gK X (compareOp .IsNot) (λ x y H Q=>y=.non/\Q (.bl (!decide (x=.non))) H):=by
 intro pins s σ H x y v u Q I rx ry h;obtain ⟨rfl,q⟩:=h;cases ry;refine isnot_none_gen (fin_bl I q ?_);cases x<;>first
  | (cases rx;rfl)
  | (obtain ⟨t,rfl⟩:=rx;rfl)
theorem lW:gK X (compareOp .NotIn) (λ x y H Q=> ∃i j,x=.str i/\y=.str j/\Q (.bl (!(!(Builtin.Str.occurrences j i 0 j.length 1).isEmpty))) H):=by intro pins s σ H x y v u Q I rx ry h;obtain ⟨i,j,rfl,rfl,q⟩:=h;obtain ⟨t,rfl⟩:=rx;obtain ⟨t',rfl⟩:=ry;exact notIn_str (fin_bl I q rfl)
theorem mn (b:Expr) {op:CmpOp}(h:op≠.In:=by decide) (h2:op≠.NotIn:=by decide):behindInMarks op b=false:=by
 have e1:(op == CmpOp.In)=false:=by cases op<;>first | rfl | exact absurd rfl h
 have e2:(op == CmpOp.NotIn)=false:=by cases op<;>first | rfl | exact absurd rfl h2
 cases b<;>simp [behindInMarks,e1,e2]
theorem wg {op:CmpOp}{r:R2}(ho:gK X (compareOp op) r) (ha:PE X a ta) (hb:PE X b tb) (hm:behindInMarks op b=false):PE X (.Compare a [op] [b] pos) (tO r ta tb):=by intro pins s σ H Q I h;exact wpAny_Compare1 (CG ha hb I h λ v u s2 x y H2 I2 rx ry q=>ho pins s2 σ H2 x y v u Q I2 rx ry q) hm
theorem jH:(sizeLine:Nat)<2 ^ 63:=by rw [sizeLine_eq];decide
theorem pp:gK X (binaryOp .Add) (λ x y H Q=> ∃i j,x=.str i/\y=.str j/\i.length+j.length<=sizeLine/\Q (.str (i++j)) H):=by intro pins s σ H x y v u Q I rx ry h;obtain ⟨i,j,rfl,rfl,hz,q⟩:=h;obtain ⟨t,rfl⟩:=rx;obtain ⟨t',rfl⟩:=ry;exact add_str (λ t' tk=>⟨.str (i++j),H,I.tok _,⟨_,rfl⟩,q⟩) hz
theorem eS {x:V}{us:List Value}(r:aU [x] us):∃u,us=[u]/\aQ x u:=by
 cases r with
 | cons r1 r2=>cases r2;exact ⟨_,rfl,r1⟩
theorem tE {x y:V}{us:List Value}(r:aU [x,y] us):∃u w',us=[u,w']/\aQ x u/\aQ y w':=by
 cases r with
 | cons r1 r2=>
   cases r2 with
   | cons r3 r4=>cases r4;exact ⟨_,_,rfl,r1,r3⟩
theorem sS (hc:X.calm=true):bd X (.builtin "min") (λ xs H Q=> ∃i j,xs=[.int i,.int j]/\Q (.int (if j<i then j else i)) H):=by
 intro pins s σ H xs us Q I r h;obtain ⟨i,j,rfl,q⟩:=h;obtain ⟨u,w',rfl,⟨t,rfl⟩,⟨t',rfl⟩⟩:=tE r;refine min_two_ints (I.ok.hd hc) λ h' tk k=>⟨_,H,I.kept k,?_,q⟩
 by_cases hj:j<i
 ·rw [if_pos hj,if_pos hj];exact ⟨_,rfl⟩
 ·rw [if_neg hj,if_neg hj];exact ⟨_,rfl⟩
theorem sU:bd X (.type "int") (λ xs H Q=>(∃i,xs=[.int i]/\Q (.int i) H)\/∃k,xs=[.bl k]/\Q (.int (if k then 1 else 0)) H):=by
 intro pins s σ H xs us Q I r h
 rcases h with ⟨i,rfl,q⟩ | ⟨k,rfl,q⟩
 ·obtain ⟨u,rfl,t,rfl⟩:=eS r;exact call_int_int ⟨.int i,H,I,⟨_,rfl⟩,q⟩
 ·obtain ⟨u,rfl,r1⟩:=eS r;cases r1;exact call_int_bool ⟨.int (if k then 1 else 0),H,I.tok _,⟨_,rfl⟩,q⟩
end
end L2
namespace L2
open PySem PySem.Spec PyProof.Rows
structure qb (h:Heap) (x dx C:Addr) (mA:Str->Option Value):Prop where
 obj:h.get? x=some (LS C dx)
 ns:h.Ns1 dx mA
 ne:dx≠x
theorem sw {h:Heap}{dx:Addr}{mA:Str->Option Value}(n:h.Ns1 dx mA):∃od,h.get? dx=some od/\∀name,L7 name od=some (mA name):=by
 obtain ⟨o,es,ep,ho,hd,hk,_,hm⟩:=n;refine ⟨o,ho,λ name=>?_⟩;have e:=hm name;unfold nsFind findBy at e;rw [<-Array.find?_toList] at e;unfold L7;rw [hd];dsimp only;split
 ·rename_i y q;rw [q] at e;exact congrArg some e
 ·rename_i q;rw [q] at e;have a:es.toList.any (·.refKey)=false:=by rw [Kb];intro y hy;obtain ⟨z,t,hkey⟩:=hk y (Array.mem_toList_iff.mp hy);simp [DictEntry.refKey,hkey]
  have a':¬es.toList.any (·.refKey)=true:=by rw [a];exact Lq
  rw [if_neg a'];exact congrArg some e
theorem qb.look {h:Heap}{x dx C:Addr}{mA:Str->Option Value}(I:qb h x dx C mA):∃od,PySem.W.InstAt h x (LS C dx) C (some od)/\∀name,L7 name od=some (mA name):=
 let ⟨od,ho,hl⟩:=sw I.ns
 ⟨od,⟨I.obj,rfl,rfl,ho⟩,hl⟩
section
variable {prog:Program}{w:World}{A:Around}{E:Value->Shared->Prop}{s:Shared}{K:Frag}{x dx C f:Addr}{mA:Str->Option Value}{name:Str}{v:Value}
theorem wJ {expr:Bool}{Q:Value->Shared->Prop}(X:K.In s.heap) (I:qb s.heap x dx C mA) (hg:LW K C name=true) (hh:LX K C=true)
  (ha:LJ K (.ref C) name=some none) (hv:mA name=some v) (hv':Ml v=true) (h:Q v {s with toks:=s.toks+1}):
  wpAny (model prog w) A (getAttr (.ref x) name expr) Q E s:=by
 obtain ⟨od,J,hl⟩:=I.look;exact PySem.W.get_value X J (Me hg).1 (PySem.W.findObj_own hh ha rfl (by rw [hl,hv])) hv' h
theorem uT {pl:Sem Bool}{Q:Value×List Value->Shared->Prop}(X:K.In s.heap) (I:qb s.heap x dx C mA) (hg:LW K C name=true)
  (hf:LJ K (.ref C) name=some (some (.ref f))) (ht:LU K (.ref f)=true) (hv:mA name=none) (h:Q (.ref f,[.ref x]) s):
  wpAny (model prog w) A (getMethod (.ref x) name pl) Q E s:=by
 obtain ⟨od,J,hl⟩:=I.look;exact PySem.W.method_fn X J (Me hg).1 (Me hg).2 hf (beq_iff_eq.mp ht) (by show (L7 name od).map (·.isSome)=some false;rw [hl,hv];rfl) h
theorem vW {ns:List Str}{Q:Unit->Shared->Prop}(X:K.In s.heap) (I:qb s.heap x dx C mA)
  (hs:LJ K (.ref C) "__setattr__"=some (some (.builtin "object.__setattr__"))) (hp:L8 K C=true) (ht:Mf K C name=some none) (hh:LX K C=true)
  (hw:PySem.Within mA ns) (hsz:ns.length<=sizeLine)
  (h:∀h',qb h' x dx C (λ y=>if y=name then some v else mA y)->Heap.SameBut dx s.heap h'->Q () {s with heap:=h',toks:=s.toks+2}):
  wpAny (model prog w) A (setAttr (.ref x) name v) Q E s:=by
 obtain ⟨od,J,hl⟩:=I.look;refine PySem.W.set_plain X J hs (PySem.W.osa_open (s:={s with toks:=s.toks+1}) (r:=none) X J hp ht λ b=>?_);obtain ⟨cd,hc,hd'⟩:=PySem.W.any_some hh;have hx:s.heap.get? x=some ⟨.ref C,some dx,.plain,#[]⟩:=I.obj;refine wpAny_bind (wpAny_pure (wpAny_bind (wpAny_bind (wpAny_loadPart hx (wpAny_bind (PySem.W.Looks.here (s:={s with toks:=s.toks+1}) (PySem.W.looks_clsIn X hc) ?_))))));rw [hd'];refine wpAny_pure (a:=some dx) (wpAny_bind (wpAny_pure (wpAny_bind ?_)));refine wpAny_nsSet1 (s:={s with toks:=s.toks+1}) I.ns λ h' hn2 hs2=>?_;obtain ⟨oD,esD,epD,hoD,hdD,hcD⟩:=hn2.count (PySem.Within.cons name v hw);refine wpAny_bind (wpAny_lookBehind hoD (by rw [hdD];exact pastItsLine_dict (KZ hcD (by rw [JK];omega))) ?_);exact wpAny_pure (h _ ⟨(hs2.2 _ (Ne.symm I.ne)).trans I.obj,hn2,I.ne⟩ hs2)
theorem nO {R:Result->Shared->Prop}{vs:List Value}{kw:List (Str×Value)}(X:K.In s.heap) (hm:Ma K C=true)
  (hi:LJ K (.ref C) "__init__"=some (some (.ref f))) (hf:PySem.W.typeIn K (.ref f)=some (.type "function"))
  (h:codeAny (model prog w) (A.under (.builtin "type.__call__" ⟨.ref C::vs,kw⟩)) (.call (.ref f) ⟨.ref (s.heap.objs.size+1)::vs,kw⟩) (PySem.W.InitBack (s.heap.objs.size+1) R)
   {s with heap:=(s.heap.push LQ).push (LS C s.heap.objs.size)}):
  codeAny (model prog w) A (.call (.ref C) ⟨vs,kw⟩) R s:=by
 obtain ⟨hh,g,d,t,os⟩:=s;exact PySem.W.make_core (PySem.W.makes_of X hm) (PySem.W.looks_findIn X hi) (λ self=>PySem.W.bind_fn X self hf) (.inl rfl) h
end
def putF (f:Str) (v:V):List (Str×V)->List (Str×V)
 | []=>[(f,v)]
 | (g,x)::r=>if g=f then (g,v)::r else (g,x)::putF f v r
theorem aw (f g:Str) (v:V):∀fs:List (Str×V),(putF f v fs).lookup g=if g=f then some v else fs.lookup g
 | []=>by
   show List.lookup g [(f,v)]=_
   by_cases h:g=f
   ·have hb:(g == f)=true:=beq_iff_eq.mpr h;simp only [List.lookup,hb,if_pos h]
   ·have hb:(g == f)=false:=beq_eq_false_iff_ne.mpr h;simp only [List.lookup,hb,if_neg h]
 | (k,x)::r=>by
   have ih:=aw f g v r;rw [show putF f v ((k,x)::r)=(if k=f then (k,v)::r else (k,x)::putF f v r) from rfl]
   by_cases hk:k=f
   ·rw [if_pos hk]
    by_cases h:g=k
    ·have hb:(g == k)=true:=beq_iff_eq.mpr h;simp only [List.lookup,hb,if_pos (h.trans hk)]
    ·have hb:(g == k)=false:=beq_eq_false_iff_ne.mpr h;simp only [List.lookup,hb,if_neg (λ e:g=f=>h (e.trans hk.symm))]
   ·rw [if_neg hk]
    by_cases h:g=k
    ·have hb:(g == k)=true:=beq_iff_eq.mpr h;simp only [List.lookup,hb,if_neg (λ e:g=f=>hk (h.symm.trans e))]
    ·have hb:(g == k)=false:=beq_eq_false_iff_ne.mpr h;simp only [List.lookup,hb];exact ih
theorem iR (f:Str) (v:V):∀fs:List (Str×V),f∈(putF f v fs).map (·.1)/\∀g,g∈fs.map (·.1)->g∈(putF f v fs).map (·.1)
 | []=>⟨by simp [putF],λ g h=>by simp at h⟩
 | (k,x)::r=>by
   obtain ⟨i1,i2⟩:=iR f v r;rw [show putF f v ((k,x)::r)=(if k=f then (k,v)::r else (k,x)::putF f v r) from rfl]
   by_cases hk:k=f
   ·rw [if_pos hk];subst hk;exact ⟨by simp,λ g h=>by simpa using h⟩
   ·rw [if_neg hk];refine ⟨?_,λ g h=>?_⟩
    ·rw [JW];exact JJ _ i1
    ·rw [JW] at h ⊢
     rcases Jy.mp h with e | e
     ·exact Jy.mpr (.inl e)
     ·exact JJ _ (i2 g e)
theorem bG (f:Str) (v:V):∀fs:List (Str×V),(putF f v fs).length<=fs.length+1
 | []=>by simp [putF]
 | (k,x)::r=>by
   have ih:=bG f v r;rw [show putF f v ((k,x)::r)=(if k=f then (k,v)::r else (k,x)::putF f v r) from rfl]
   by_cases hk:k=f
   ·rw [if_pos hk,JK,JK];omega
   ·rw [if_neg hk,JK,JK];omega
theorem iW.some_of {v:V}{o:Option Value}(r:iW (some v) o):∃u,o=some u/\aQ v u:=by
 cases o with
 | none=>exact (show False from r).elim
 | some u=>exact ⟨u,rfl,r⟩
theorem iW.none_of {o:Option Value}(r:iW none o):o=none:=by
 cases o with
 | none=>rfl
 | some u=>exact (show False from r).elim
theorem sK {v:V}{u:Value}(r:aQ v u):Ml u=true:=by
 cases v with
 | non=>cases (show u=Value.none from r);rfl
 | bl b=>cases (show u=Value.bool b from r);rfl
 | int i=>obtain ⟨t,e⟩:=(show∃t,u=Value.int i t from r);cases e;rfl
 | str x=>obtain ⟨t,e⟩:=(show∃t,u=Value.str x t from r);cases e;rfl
 | byt b=>obtain ⟨t,e⟩:=(show∃t,u=Value.bytes b t from r);cases e;rfl
 | flt b=>obtain ⟨t,e⟩:=(show∃t,u=Value.float b t from r);cases e;rfl
 | ref a=>cases (show u=Value.ref a from r);rfl
 | ty n=>cases (show u=Value.type n from r);rfl
section
variable {P:Program}{w:World}{H H':Hp}{h h':Heap}{a C dx:Addr}{fs fs':List (Str×V)}
theorem jo (hok:ib P w H h) (e:H a=some (.ins C dx fs)):∃mA,qb h a dx C mA/\(∀f,iW (fs.lookup f) (mA f))/\PySem.Within mA (fs.map (·.1))/\fs.length<=1000/\H dx=some (.own a):=by obtain ⟨d,z,ne,ob,mA,n,r,q⟩:=(show bD P w H h a (.ins C dx fs) from hok a _ e);exact ⟨mA,⟨ob,n,ne⟩,r,q,z,d⟩
end
structure oH (K:Frag) (C:Addr):Prop where
 pg:LW K C Str.empty=true
 hd:LX K C=true
 po:L8 K C=true
 sa:LJ K (.ref C) "__setattr__"=some (some (.builtin "object.__setattr__"))
theorem oH.get {K:Frag}{C:Addr}(c:oH K C) (f:Str):LW K C f=true:=c.pg
def bY (K:Frag) (C:Addr) (f:Str):Prop:=LJ K (.ref C) f=some none
theorem bY.taker {K:Frag}{C:Addr}{f:Str}(n:bY K C f):Mf K C f=some none:=by unfold Mf;rw [show LJ K (.ref C) f=some none from n];rfl
structure Hu (K:Frag) (C:Addr) (m:Str) (f:Addr):Prop where
 at_:LJ K (.ref C) m=some (some (.ref f))
 fn:LU K (.ref f)=true
 kp:LP K (.ref f)=true
section
variable {X:Cx}{pins:List (Addr×Obj)}{σ:St}{H:Hp}{s:Shared}{a C dx:Addr}{fs:List (Str×V)}{f:Str}{v:V}{A:Around}{E:Value->Shared->Prop}
theorem pH {b:Bool}{Q:Value->Shared->Prop}(I:aD X pins σ H s) (e:H a=some (.ins C dx fs)) (c:oH X.K C) (n:bY X.K C f) (l:fs.lookup f=some v)
  (h:∀u s',aD X pins σ H s'->aQ v u->Q u s'):wpAny (model X.prog X.w) A (getAttr (.ref a) f b) Q E s:=by
 obtain ⟨mA,O,r,_,_,_⟩:=jo I.hok e;obtain ⟨u,hu,ru⟩:=iW.some_of (v:=v) (o:=mA f) (by rw [<-l];exact r f);exact wJ I.kIn O (c.get f) c.hd n hu (sK ru) (h u _ (I.tok _) ru)
theorem pG {m:Str}{g:Addr}{pl:Sem Bool}{Q:Value×List Value->Shared->Prop}(I:aD X pins σ H s) (e:H a=some (.ins C dx fs)) (c:oH X.K C) (k:Hu X.K C m g) (l:fs.lookup m=none)
  (h:Q (.ref g,[.ref a]) s):wpAny (model X.prog X.w) A (getMethod (.ref a) m pl) Q E s:=by
 obtain ⟨mA,O,r,_,_,_⟩:=jo I.hok e;have hn:mA m=none:=iW.none_of (by rw [<-l];exact r m);exact uT I.kIn O (c.get m) k.at_ k.fn hn h
theorem oV {y:V}{u:Value}{Q:Unit->Shared->Prop}(I:aD X pins σ H s) (e:H a=some (.ins C dx fs)) (c:oH X.K C) (n:bY X.K C f) (hl:fs.length<1000) (ry:aQ y u)
  (h:∀s',aD X pins σ (upd H a (.ins C dx (putF f y fs))) s'->Q () s'):wpAny (model X.prog X.w) A (setAttr (.ref a) f u) Q E s:=by
 obtain ⟨mA,O,r,wi,_,ho⟩:=jo I.hok e;have hz:(fs.map (·.1)).length<=sizeLine:=by rw [Jx,sizeLine_eq];omega
 refine vW I.kIn O c.sa c.po n.taker c.hd wi hz λ h' O' sb=>h _ ?_;have hd:∃o,h'.get? dx=some o:=let ⟨o,_,_,e',_⟩:=O'.ns;⟨o,e'⟩;refine I.write (x:=a) (e:=dx) (by rw [e];exact True.intro) (.inr ho) (λ b q hb z=>(sb.2 b hb).trans z) hd ?_;refine ⟨by rw [au O.ne];exact ho,?_,O.ne,O'.obj,_,O'.ns,λ g=>?_,λ g hg=>?_⟩
 ·have:=bG f y fs;omega
 ·show iW ((putF f y fs).lookup g) (if g=f then some u else mA g);rw [aw]
  by_cases q:g=f
  ·rw [if_pos q,if_pos q];exact ry
  ·rw [if_neg q,if_neg q];exact r g
 ·by_cases q:g=f
  ·rw [q];exact (iR f y fs).1
  ·refine (iR f y fs).2 g (wi g λ z=>hg ?_);show (if g=f then some u else mA g)=none;rw [if_neg q];exact z
theorem aD.made (I:aD X pins σ H s):aD X pins σ (upd (upd H s.heap.objs.size (.own (s.heap.objs.size+1))) (s.heap.objs.size+1) (.ins C s.heap.objs.size []))
  {s with heap:=(s.heap.push LQ).push (LS C s.heap.objs.size)}:=by
 have e1:(s.heap.push LQ).get? s.heap.objs.size=some LQ:=Heap.get?_push_size s.heap rfl;have e2:((s.heap.push LQ).push (LS C s.heap.objs.size)).get? (s.heap.objs.size+1)=some (LS C s.heap.objs.size):=by
  have:=Heap.get?_push_size (s.heap.push LQ) (o:=LS C s.heap.objs.size) rfl
  rwa [Heap.size_push] at this
 have e3:(s.heap.push LQ).Ns s.heap.objs.size (λ _=>none):=⟨LQ,#[],_,e1,rfl,(λ e he=>absurd he (by simp)),λ _=>rfl⟩;have I1:=I.laid (a:=s.heap.objs.size) (o:=.own (s.heap.objs.size+1)) (h':=s.heap.push LQ) (t':=s.toks) (λ b u q=>Heap.get?_push_of_some _ q) (KW _) ⟨_,e1⟩;refine I1.laid (a:=s.heap.objs.size+1) (o:=.ins C s.heap.objs.size []) (t':=s.toks) (λ b u q=>Heap.get?_push_of_some _ q) (Ld (Heap.size_push _ _)) ?_;have ne:s.heap.objs.size≠s.heap.objs.size+1:=KY (Lg _);refine ⟨by rw [au ne,ae],K7 _,ne,e2,λ _=>none,(Heap.Ns1.of_empty e3).at λ o q=>Heap.get?_push_of_some _ q,λ _=>True.intro,λ y hy=>absurd rfl hy⟩
theorem w5 {prog:Program}{w:World}{env:Env}{e:Expr}{f:Str}{pos:Pos}{s:Shared}{Q:Value->Shared->Prop}(hb:attributeBase e f env (eval e env)=eval e env)
  (h:wpAny (model prog w) A (eval e env) (λ o s₁=>wpAny (model prog w) A (getAttr o f true) Q E s₁) E s):wpAny (model prog w) A (eval (.Attribute e f pos) env) Q E s:=
 Attribute_any_ h (by rw [arm_eval_Attribute,hb])
end
def rG (K:Frag) (ta tv:TE) (f:Str):TS:=λ D σ H=>tv σ H λ y H1=>ta σ H1 λ x H2=> ∃a C dx fs,x=.ref a/\H2 a=some (.ins C dx fs)/\oH K C/\bY K C f/\fs.length<1000/\
 D.nx σ (upd H2 a (.ins C dx (putF f y fs)))
section
variable {X:Cx}{o e value:Expr}{f:Str}{pos pos' tpos:Pos}{ta tv:TE}
theorem BJ (ha:PE X o ta) (hv:PE X value tv) (hs:swapsWith value (some (.Attribute o f pos')) pos.line X.env=pure false):PS X (.Assign [.Attribute o f pos'] value pos) (rG X.K ta tv f):=by intro pins s σ H D I h;refine plainObj_wpAny_Assign_Attribute (cb (hv pins s σ H _ I h) λ u s1 ⟨y,H1,I1,ry,q⟩=>cb (ha pins s1 σ H1 _ I1 q) λ ov s2 ⟨x,H2,I2,rx,a,C,dx,fs,ex,ea,c,n,l,q2⟩=>?_) hs;subst ex;obtain rfl:ov=Value.ref a:=rx;exact oV I2 ea c n l ry λ s3 I3=>⟨σ,_,I3,q2⟩
end
section
variable {X:Cx}{pins:List (Addr×Obj)}{σ:St}{H:Hp}{s:Shared}{A:Around}{E:Value->Shared->Prop}{Q:Value->Shared->Prop}{c:Value}{b:Bool}
inductive iU (K:Frag) (H:Hp):V->Value->Prop where
 | non:iU K H .non (.type "NoneType")
 | bl (x:Bool):iU K H (.bl x) (.type "bool")
 | int (i:Int):iU K H (.int i) (.type "int")
 | str (x:Str):iU K H (.str x) (.type "str")
 | flt (x:UInt64):iU K H (.flt x) (.type "float")
 | lst {a:Addr} {xs:List V} (e:H a=some (.lst xs)):iU K H (.ref a) (.type "list")
 | frz {a:Addr} {o:Obj} {xs:List V} (e:H a=some (.frz o (.lst xs))):iU K H (.ref a) (.type "list")
 | tup {a:Addr} {xs:List V} (e:H a=some (.tup xs)):iU K H (.ref a) (.type "tuple")
 | dK {a:Addr} {kvs:List (Key×V)} (e:H a=some (.dK kvs)):iU K H (.ref a) (.type "dict")
 | dT {a:Addr} {kvs:List (List Key×V)} (e:H a=some (.dT kvs)):iU K H (.ref a) (.type "dict")
 | ins {a C dx:Addr} {fs:List (Str×V)} (e:H a=some (.ins C dx fs)) (cl:oH K C) (ha:LJ K (.ref C) "__class__"=some (some (.builtin "object.__class__")))
   (hn:Mm K (.builtin "object.__class__") "__get__"=some (some (.builtin "getset_descriptor.__get__"))) (htk:Mn K (.builtin "object.__class__")=some true)
   (hm:LY K C (.type "object")=some true):iU K H (.ref a) (.ref C)
theorem sI {x:V}{u t:Value}(I:aD X pins σ H s) (rx:aQ x u) (ty:iU X.K H x t) (e:LK X.K t c=some b) (h:∀tk,Q (.bool b) {s with toks:=tk}):
  wpAny (model X.prog X.w) A (call (.builtin "isinstance") [u,c]) Q E s:=by
 cases ty with
 | non=>cases (show u=Value.none from rx);exact LN PySem.W.kitx_none I.kIn True.intro e (λ z=>nomatch z) h
 | bl y=>cases (show u=Value.bool y from rx);exact LN PySem.W.kitx_bool I.kIn True.intro e (λ z=>nomatch z) h
 | int i=>obtain ⟨t,q⟩:=(show∃t,u=Value.int i t from rx);cases q;exact LN PySem.W.kitx_int I.kIn True.intro e (λ z=>nomatch z) h
 | str y=>obtain ⟨t,q⟩:=(show∃t,u=Value.str y t from rx);cases q;exact LN PySem.W.kitx_str I.kIn True.intro e (λ z=>nomatch z) h
 | flt y=>obtain ⟨t,q⟩:=(show∃t,u=Value.float y t from rx);cases q;exact LN PySem.W.kitx_float I.kIn True.intro e (λ z=>nomatch z) h
 | @lst a xs ea=>
   cases (show u=Value.ref a from rx);obtain ⟨_,_,n,_,h1⟩:=(show bD X.prog X.w H s.heap a (.lst xs) from I.hok a _ ea);exact LN Mo I.kIn ⟨_,h1,rfl⟩ e (λ z=>nomatch z) h
 | @frz a ob xs ea=>
   cases (show u=Value.ref a from rx);obtain ⟨_,_,_,n,_,h1⟩:=(show bD X.prog X.w H s.heap a (.frz ob (.lst xs)) from I.hok a _ ea);exact LN Mo I.kIn ⟨_,h1,rfl⟩ e (λ z=>nomatch z) h
 | @tup a xs ea=>
   cases (show u=Value.ref a from rx);obtain ⟨_,_,_,p⟩:=(show bD X.prog X.w H s.heap a (.tup xs) from I.hok a _ ea);obtain ⟨o,h1,h2,_⟩:=p;exact LN PySem.W.kitx_tuple I.kIn ⟨o,h1,h2⟩ e (λ z=>nomatch z) h
 | @dK a kvs ea=>
   cases (show u=Value.ref a from rx);obtain ⟨_,_,vs,_,p⟩:=(show bD X.prog X.w H s.heap a (.dK kvs) from I.hok a _ ea);obtain ⟨o,es,ep,h1,h2,_⟩:=p;exact LN Mp I.kIn ⟨o,h1,h2.1⟩ e (λ z=>nomatch z) h
 | @dT a kvs ea=>
   cases (show u=Value.ref a from rx);obtain ⟨_,_,xs,_,o,es,ep,h1,h2,_⟩:=(show bD X.prog X.w H s.heap a (.dT kvs) from I.hok a _ ea);exact LN Mp I.kIn ⟨o,h1,h2.1⟩ e (λ z=>nomatch z) h
 | @ins a C dx fs ea cl ha hn htk hm=>
   cases (show u=Value.ref a from rx);obtain ⟨mA,O,_⟩:=jo I.hok ea;obtain ⟨od,J,_⟩:=O.look;exact LN (PySem.W.kitx_own (cl.get _) cl.hd ha hn htk hm) I.kIn J e (λ z=>nomatch z) h
end
end L2
namespace L2
open PySem PySem.Spec PyProof.Rows
structure cz (k:Nat) (A:Around):Prop where
 hd:A.handled=none
 dp:A.depth+3*k+5<recursionLimit
 un:A.units+16*k+200<cLine
theorem cz.mono {j k:Nat}{A:Around}(r:cz k A) (h:j<=k):cz j A:=⟨r.hd,by have:=r.dp;omega,by have:=r.un;omega⟩
theorem cz.deeper {k:Nat}{A:Around}(r:cz (k+1) A) (env:Env):cz k (A.deeper env):=
 ⟨r.hd,by have:=r.dp;show A.depth+1+3*k+5<_;omega,by have:=r.un;show A.units+3+16*k+200<_;omega⟩
theorem pB {A:Around}{C:Addr}{us:List Value}{kw:List (Str×Value)}:(A.under (.builtin "type.__call__" ⟨.ref C::us,kw⟩)).depth=A.depth+1:=by
 first | rfl | simp [Around.under,Code.weight,Code.isCreation,Code.isGuard,Code.isCaller,Code.frames,Code.isFrame,guardIds]
theorem pA {A:Around}{C:Addr}{us:List Value}{kw:List (Str×Value)}:(A.under (.builtin "type.__call__" ⟨.ref C::us,kw⟩)).units=A.units+1:=by
 first | rfl | simp [Around.under,Code.cUnits,Code.frames,Code.isFrame]
theorem cz.make {k:Nat}{A:Around}(r:cz (k+1) A) (C:Addr) (us:List Value) (kw:List (Str×Value)):cz k (A.under (.builtin "type.__call__" ⟨.ref C::us,kw⟩)):=
 ⟨r.hd,by have:=r.dp;rw [pB];omega,by have:=r.un;rw [pA];omega⟩
theorem cz.depth {k:Nat}{A:Around}(r:cz k A):A.depth<recursionLimit:=by have:=r.dp;omega
theorem cz.units {k:Nat}{A:Around}(r:cz k A):A.units+64<cLine:=by have:=r.un;omega
def bK:TA:=λ _ H Q=>Q [] H
def aK (ta:TE) (tr:TA):TA:=λ σ H Q=>ta σ H λ x H1=>tr σ H1 λ xs H2=>Q (x::xs) H2
section
variable {X:Cx}{e:Expr}{es:List Expr}{te:TE}{t:TA}{pos:Pos}
theorem pa_nil:PA X [] bK:=λ _ _ _ _ H Q I h=>Calls.spliced_nil ⟨[],H,I,.nil,h⟩
theorem pa_cons (ha:PE X e te) (hr:PA X es t) (hs:starEach (e::es) X.env=(false,eval e X.env)::starEach es X.env:=by rfl):PA X (e::es) (aK te t):=by intro pos pins s σ H Q I h;rw [hs];show wpAny _ _ (spliced ((false,eval e X.env)::backTo pos (starEach es X.env))) _ _ s;refine Calls.spliced_cons (cb (ha pins s σ H _ I h) λ u s1 ⟨x,H1,I1,r1,q1⟩=>?_);exact cb (hr pos pins s1 σ H1 _ I1 q1) λ us s2 ⟨xs,H2,I2,r2,q2⟩=>⟨x::xs,H2,I2,.cons r1 r2,q2⟩
def mP (t:TA):TE:=λ σ H Q=>t σ H λ xs H1=>xs.length<=sizeLine/\∀p,H1 p=none->Q (.ref p) (upd H1 p (.tup xs))
def iH (t:TA):TE:=λ σ H Q=>t σ H λ xs H1=>xs.length<=sizeLine/\∀p,H1 p=none->Q (.ref p) (upd H1 p (.lst xs))
theorem bU {x1}(h:PA X es t):PE X (.Tuple es x1 pos) (mP t):=by intro pins s σ H Q I hq;refine wpAny_Tuple_spliced (cb (h pos pins s σ H _ I hq) λ us s1 ⟨xs,H1,I1,r,z,q⟩=>⟨by rw [<-r.length];exact z,?_⟩);have hf:H1 s1.heap.objs.size=none:=I1.hok.fresh (KW _);refine ⟨.ref s1.heap.objs.size,upd H1 s1.heap.objs.size (.tup xs),I1.laid (t':=s1.toks) (λ b u e=>Heap.get?_push_of_some _ e) (KW _) ?_,rfl,q _ hf⟩;exact ⟨z,us,r,⟨_,Heap.get?_push_size _ rfl,rfl,_,rfl⟩⟩
theorem aC (h:PA X es t):PE X (.List es pos) (iH t):=by intro pins s σ H Q I hq;refine wpAny_List_spliced (cb (h pos pins s σ H _ I hq) λ us s1 ⟨xs,H1,I1,r,z,q⟩=>⟨by rw [<-r.length];exact z,?_⟩);have hf:H1 s1.heap.objs.size=none:=I1.hok.fresh (KW _);refine ⟨.ref s1.heap.objs.size,upd H1 s1.heap.objs.size (.lst xs),I1.laid (t':=s1.toks) (λ b u e=>Heap.get?_push_of_some _ e) (KW _) ?_,rfl,q _ hf⟩;exact ⟨z,us,0,r,Heap.get?_push_size _ rfl⟩
end
abbrev Sp:=List V->Hp->VK->XK->Prop
abbrev rj:=List Env->Hp->Shared->XK->Value->Shared->Prop
structure mK (P:Program) (w:World) (K:Frag) (mg:Str->Option Value) (base:Heap) (A:Around) (outer:List Env) (s:Shared) (H:Hp):Prop where
 frames:A.frames=some outer
 mod:Mod K mg base
 bs:∀b o,base.get? b=some o->s.heap.get? b=some o/\H b=none
 bsz:base.objs.size<=s.heap.objs.size
 funs:s.heap.FunFrames base outer
 frf:∀b∈ia outer,H b=none
 hok:ib P w H s.heap
 bare:AllBare s.gens
def CE (outer:List Env) (P:Program) (w:World) (H:Hp) (s:Shared) (Q:VK) (u:Value) (s':Shared):Prop:=
 ∃v H',s'.os=s.os/\AllBare s'.gens/\Un (ia outer) [] H H' s.heap s'.heap/\ib P w H' s'.heap/\aQ v u/\Q v H'
def CR (CX:rj) (outer:List Env) (P:Program) (w:World) (H:Hp) (s:Shared) (Q:VK) (E:XK) (r:Result) (s':Shared):Prop:=
 match r with
 | .ok (.ret u)=>CE outer P w H s Q u s'
 | .ok _=>False
 | .error e=>CX outer H s E e s'
structure bz (P:Program) (w:World) (K:Frag) (mg:Str->Option Value) (base:Heap) (CX:rj) (k:Nat) (f:Addr) (fd:FuncData) (ps:List Str) (sp:Sp):Prop where
 len:∀vs H Q E,sp vs H Q E->vs.length=ps.length
 run:∀(A:Around) (outer:List Env) (s:Shared) (H:Hp) (args:Args) (us:List Value) (vs:List V) (Q:VK) (E:XK),cz k A->mK P w K mg base A outer s H->BindsTo s fd args (ps.zip us)->aU vs us->sp vs H Q E->
  codeAny (model P w) A (.call (.ref f) args) (CR CX outer P w H s Q E) s
theorem bz.imp {P:Program}{w:World}{K:Frag}{mg:Str->Option Value}{base:Heap}{CX:rj}{k:Nat}{f:Addr}{fd:FuncData}{ps:List Str}{sp sp':Sp}(F:bz P w K mg base CX k f fd ps sp)
  (h:∀vs H Q E,sp' vs H Q E->sp vs H Q E):bz P w K mg base CX k f fd ps sp':=
 ⟨λ vs H Q E q=>F.len vs H Q E (h _ _ _ _ q),λ A outer s H args us vs Q E hr he hb hv hs=>F.run A outer s H args us vs Q E hr he hb hv (h _ _ _ _ hs)⟩
theorem mK.make {P:Program}{w:World}{K:Frag}{mg:Str->Option Value}{base:Heap}{A:Around}{outer:List Env}{s:Shared}{H:Hp}(e:mK P w K mg base A outer s H) (C:Addr) (us:List Value) (kw:List (Str×Value)):
  mK P w K mg base (A.under (.builtin "type.__call__" ⟨.ref C::us,kw⟩)) outer s H:=⟨by first | exact e.frames | (simpa [Around.under,Code.envs,Code.isFrame,pushEnvs] using e.frames),e.mod,e.bs,e.bsz,e.funs,e.frf,e.hok,e.bare⟩
section
variable {X:Cx}{pins:List (Addr×Obj)}{σ:St}{H:Hp}{s s':Shared}
theorem aD.env0 (I:aD X pins σ H s):mK X.prog X.w X.K X.mg X.base X.A X.stack s H:=
 ⟨I.ok.frames,I.ok.mod,I.bs,KZ I.ok.bsz I.sz,I.stack,I.stkFree,I.hok,I.bare⟩
theorem aD.after {Q:VK}{u:Value}(I:aD X pins σ H s) (h:CE X.stack X.prog X.w H s Q u s'):EP X pins σ Q u s':=by obtain ⟨v,H',os,bare,un,hok,r,q⟩:=h;obtain ⟨hh,g,d,t,os'⟩:=s';obtain rfl:os'=s.os:=os;exact ⟨v,H',I.call (h':=hh) (g':=g) (d':=d) (t':=t) (ch:=[]) un hok bare (λ b z=>absurd z (by simp)),r,q⟩
end
def tR (sp:Sp) (dvs:List V) (E:XK) (t:TA):TE:=λ σ H Q=>t σ H λ vs H1=>sp (vs++dvs) H1 Q E
def tQ (C:Addr) (sp:Sp) (dvs:List V) (E:XK) (t:TA):TE:=λ σ H Q=>t σ H λ vs H1=> ∀x dx,H1 x=none->H1 dx=none->dx≠x->
 sp (.ref x::(vs++dvs)) (upd (upd H1 dx (.own x)) x (.ins C dx [])) (λ v H2=>v=.non/\Q (.ref x) H2) E
def fg (K:Frag) (fd:FuncData) (ps:List Str) (ds:List Value):Prop:=
 ∀(s:Shared) (us:List Value),K.In s.heap->(us++ds).length=ps.length->BindsTo s fd ⟨us,[]⟩ (ps.zip (us++ds))
theorem fg.all {K:Frag}{fd:FuncData}{ps:List Str}(h:∀us:List Value,us.length=ps.length->bindArgs fd ⟨us,[]⟩=pure (ps.zip us)):fg K fd ps []:=λ s us _ hl=>by rw [JR] at hl ⊢;exact .of_eq (h us hl)
def jV (CX:rj) (X:Cx) (E:XK):Prop:= ∀(pins:List (Addr×Obj)) (σ:St) (H:Hp) (s:Shared) (e:Value) (s':Shared),aD X pins σ H s->CX X.stack H s E e s'->X.xe e s'
section
variable {X:Cx}{CX:rj}{k:Nat}{f C:Addr}{fd:FuncData}{ps:List Str}{sp:Sp}{dvs:List V}{ds:List Value}{E:XK}{x m:Str}{p pos apos:Pos}{e o:Expr}{es:List Expr}{ta:TE}{t:TA}
theorem t5 {pins:List (Addr×Obj)}{σ:St}{H:Hp}{s:Shared}{Q:VK}{us:List Value}{vs:List V}(F:bz X.prog X.w X.K X.mg X.base CX k f fd ps sp) (hr:cz k X.A) (hb:fg X.K fd ps ds) (hd:aU dvs ds) (hx:jV CX X E)
  (I:aD X pins σ H s) (r:aU vs us) (h:sp (vs++dvs) H Q E):wpAny (model X.prog X.w) X.A (call (.ref f) us) (EP X pins σ Q) X.xe s:=by
 have r2:aU (vs++dvs) (us++ds):=r.append hd;have hl:(us++ds).length=ps.length:=by rw [<-r2.length];exact F.len _ _ _ _ h
 refine wpAny_call (codeAny_mono (F.run X.A X.stack s H ⟨us,[]⟩ (us++ds) (vs++dvs) Q E hr I.env0 (hb s us I.kIn hl) r2 h) λ r s' hq=>?_);cases r with
 | error e=>exact hx pins σ H s e s' I hq
 | ok fl=>
   cases fl with
   | ret u=>exact I.after hq
   | next=>exact False.elim hq
   | brk=>exact False.elim hq
   | cont=>exact False.elim hq
theorem wj (F:bz X.prog X.w X.K X.mg X.base CX k f fd ps sp) (hr:cz k X.A) (hg:Gl X x) (hm:X.mg x=some (.ref f)) (hk:LP X.K (.ref f)=true) (hb:fg X.K fd ps ds) (hd:aU dvs ds) (hx:jV CX X E)
  (ha:PA X (e::es) t) (hdb:(x == ("__debug__":Str))=false:=by decide) (he:starEach (e::es) X.env=(false,eval e X.env)::starEach es X.env:=by rfl) (hpl:(backTo pos (starEach es X.env)).any (·.1)=false:=by rfl):
  PE X (.Call (.Name x p) (e::es) [] pos) (tR sp dvs E t):=by
 intro pins s σ H Q I h;refine wpAny_Call_Name_kw (fS I hg hm ?_ hdb);refine LZ (h₀:=X.base) I.ok.mod.kin hk (cb (ha pos pins s σ H _ I h) λ us s1 ⟨vs,H1,I1,r,q⟩=>⟨I1.kIn,?_⟩) he hpl;exact t5 F hr hb hd hx I1 r q
structure Mk (K:Frag) (C f:Addr):Prop where
 makes:Ma K C=true
 init:LJ K (.ref C) "__init__"=some (some (.ref f))
 fn:LU K (.ref f)=true
 kp:LP K (.ref C)=true
theorem tZ {pins:List (Addr×Obj)}{σ:St}{H:Hp}{s:Shared}{Q:VK}{us:List Value}{vs:List V}(M:Mk X.K C f) (F:bz X.prog X.w X.K X.mg X.base CX k f fd ps sp) (hr:cz (k+1) X.A) (hb:fg X.K fd ps ds) (hd:aU dvs ds)
  (hx:jV CX X E) (I:aD X pins σ H s) (r:aU vs us)
  (h:∀x dx,H x=none->H dx=none->dx≠x->sp (.ref x::(vs++dvs)) (upd (upd H dx (.own x)) x (.ins C dx [])) (λ v H2=>v=.non/\Q (.ref x) H2) E):
  wpAny (model X.prog X.w) X.A (call (.ref C) us) (EP X pins σ Q) X.xe s:=by
 have hq:=h (s.heap.objs.size+1) s.heap.objs.size (I.hok.fresh (Lc _)) (I.hok.fresh (KW _)) (KY (Lg _));have I2:=aD.made (C:=C) I;have r2:aU (V.ref (s.heap.objs.size+1)::(vs++dvs)) (Value.ref (s.heap.objs.size+1)::(us++ds)):=.cons rfl (r.append hd);have hl:(Value.ref (s.heap.objs.size+1)::us++ds).length=ps.length:=by have e:=r2.length;rw [F.len _ _ _ _ hq] at e;exact e.symm
 refine wpAny_call (nO (f:=f) I.kIn M.makes M.init (beq_iff_eq.mp M.fn) (codeAny_mono (F.run _ X.stack _ _ ⟨Value.ref (s.heap.objs.size+1)::us,[]⟩ (Value.ref (s.heap.objs.size+1)::(us++ds)) _ _ E (hr.make C us [])
  (I2.env0.make C us []) (hb _ (Value.ref (s.heap.objs.size+1)::us) I2.kIn hl) r2 hq) λ r s' hq'=>?_))
 cases r with
 | error e=>exact hx pins σ _ _ e s' I2 hq'
 | ok fl=>
   cases fl with
   | ret u=>
     obtain ⟨v,H',I3,rv,ev,q3⟩:=I2.after hq';subst ev;exact ⟨rv,⟨V.ref (s.heap.objs.size+1),H',I3,rfl,q3⟩⟩
   | next=>exact False.elim hq'
   | brk=>exact False.elim hq'
   | cont=>exact False.elim hq'
theorem wc (M:Mk X.K C f) (F:bz X.prog X.w X.K X.mg X.base CX k f fd ps sp) (hr:cz (k+1) X.A) (hg:Gl X x) (hm:X.mg x=some (.ref C)) (hb:fg X.K fd ps ds) (hd:aU dvs ds) (hx:jV CX X E)
  (ha:PA X (e::es) t) (hdb:(x == ("__debug__":Str))=false:=by decide) (he:starEach (e::es) X.env=(false,eval e X.env)::starEach es X.env:=by rfl) (hpl:(backTo pos (starEach es X.env)).any (·.1)=false:=by rfl):
  PE X (.Call (.Name x p) (e::es) [] pos) (tQ C sp dvs E t):=by
 intro pins s σ H Q I h;refine wpAny_Call_Name_kw (fS I hg hm ?_ hdb);refine LZ (h₀:=X.base) I.ok.mod.kin M.kp (cb (ha pos pins s σ H _ I h) λ us s1 ⟨vs,H1,I1,r,q⟩=>⟨I1.kIn,?_⟩) he hpl;exact tZ M F hr hb hd hx I1 r q
end
section
variable {X:Cx}{CX:rj}{k:Nat}{f C:Addr}{fd:FuncData}{ps ks:List Str}{sp:Sp}{E:XK}{x m:Str}{p pos apos kpos:Pos}{e o:Expr}{es:List Expr}{kws:List Keyword}{te ta:TE}{t tk:TA}{nm:Option Str}
variable {g:List Value->List Value->List Value}{gV:List V->List V->List V}
end
structure aH (N P:List Str) (sc:Scope):Prop where
 kind:sc.kind=.function
 co:sc.isCoroutine=false
 gen:sc.isGenerator=false
 nd:N.Nodup
 pre:N.take P.length=P
 par:∀x∈P,sc.names.lookup x=some .local\/sc.names.lookup x=some .cell
 nofree:∀y∈sc.names,y.2≠.free
theorem lf {kindOf:Str->Option NameKind}{x:Str}:∀{binds:List (Str×Value)}{m:Str->Option Value},(∀v,(x,v)∉binds)->bindL kindOf binds m x=m x
 | [],_,_=>rfl
 | (n,v)::r,m,h=>by
   unfold bindL;rw [lf λ w hw=>h w (JJ _ hw)];split
   ·have:x≠n:=by rintro rfl;exact h v JI
    simp [this]
   ·rfl
theorem lh {kindOf:Str->Option NameKind}{x:Str}:∀{binds:List (Str×Value)}{m:Str->Option Value},(∀v,(x,v)∉binds)->bindC kindOf binds m x=m x
 | [],_,_=>rfl
 | (n,v)::r,m,h=>by
   unfold bindC;rw [lh λ w hw=>h w (JJ _ hw)];split
   ·rfl
   ·have:x≠n:=by rintro rfl;exact h v JI
    simp [this]
theorem lg {kindOf:Str->Option NameKind}{x:Str}{v:Value}:∀{P:List Str}{vs:List Value}{i:Nat}{m:Str->Option Value},P.Nodup->P[i]? =some x->vs[i]? =some v->kindOf x=some .local->
  bindL kindOf (P.zip vs) m x=some v
 | [],_,_,_,_,h,_,_=>by simp at h
 | _::_,[],_,_,_,_,h,_=>by simp at h
 | p::P,w::vs,0,m,nd,h1,h2,hk=>by simp at h1 h2;subst h1;subst h2;show bindL kindOf ((p,w)::P.zip vs) m p=_;unfold bindL;rw [lf λ v hv=>(JZ.mp nd).1 (Ki hv).1,if_pos hk];simp
 | p::P,w::vs,i+1,m,nd,h1,h2,hk=>by show bindL kindOf ((p,w)::P.zip vs) m x=_;unfold bindL;exact lg (i:=i) (JZ.mp nd).2 (by simpa using h1) (by simpa using h2) hk
theorem li {kindOf:Str->Option NameKind}{x:Str}{v:Value}:∀{P:List Str}{vs:List Value}{i:Nat}{m:Str->Option Value},P.Nodup->P[i]? =some x->vs[i]? =some v->kindOf x≠some .local->
  bindC kindOf (P.zip vs) m x=some v
 | [],_,_,_,_,h,_,_=>by simp at h
 | _::_,[],_,_,_,_,h,_=>by simp at h
 | p::P,w::vs,0,m,nd,h1,h2,hk=>by simp at h1 h2;subst h1;subst h2;show bindC kindOf ((p,w)::P.zip vs) m p=_;unfold bindC;rw [lh λ v hv=>(JZ.mp nd).1 (Ki hv).1,if_neg hk];simp
 | p::P,w::vs,i+1,m,nd,h1,h2,hk=>by show bindC kindOf ((p,w)::P.zip vs) m x=_;unfold bindC;exact li (i:=i) (JZ.mp nd).2 (by simpa using h1) (by simpa using h2) hk
def fA (N:List Str) (vs:List V):St:=vs.map some++List.replicate (N.length - vs.length) none
def iy (CX:rj) (P:Program) (w:World) (K:Frag) (mg:Str->Option Value) (base:Heap) (N:List Str) (qual:Str) (scope:Scope) (f:Addr) (cd:Value) (A:Around) (outer:List Env) (s:Shared) (H:Hp) (E:XK):Cx where
 prog:=P
 w:=w
 K:=K
 mg:=mg
 base:=base
 A:=A.deeper (envOfC qual scope s.heap.objs.size f cd)
 N:=N
 s₀:=s
 H₀:=H
 env:=envOfC qual scope s.heap.objs.size f cd
 outer:=outer
 stack:=envOfC qual scope s.heap.objs.size f cd::outer
 ex:=[]
 calm:=true
 fn:=λ _=>true
 pn:=[]
 xe:=λ e s'=>wpAny (model P w) (A.deeper (envOfC qual scope s.heap.objs.size f cd)) (leaving (envOfC qual scope s.heap.objs.size f cd) e) (λ _ s''=>CX outer H s E e s'') (λ e' s''=>CX outer H s E e' s'') s'
theorem ox {sc:Scope}{n:Nat}{x:Str}(h:sc.names.lookup x=some .cell):∃c,(cellsFrom n sc.names []).lookup x=some c:=by have q:=Mg sc.names n [] (.inl h);exact LF.mp q
theorem kN {CX:rj}{P:Program}{w:World}{K:Frag}{mg:Str->Option Value}{base:Heap}{N ps:List Str}{qual:Str}{scope:Scope}{f:Addr}{cd:Value}{A:Around}{outer:List Env}{s s1:Shared}{H:Hp}{E:XK}{us:List Value}{vs:List V}
  (S:aH N ps scope) (hd:A.handled=none) (e0:mK P w K mg base A outer s H) (hl:vs.length=ps.length) (r:aU vs us)
  (x:InCallC s s.heap.objs.size (bindL (envOfC qual scope s.heap.objs.size f cd).kindOf (ps.zip us) λ _=>none) (cellsFrom (s.heap.objs.size+1) scope.names []) (bindC (envOfC qual scope s.heap.objs.size f cd).kindOf (ps.zip us) λ _=>none) s1):
  aD (iy CX P w K mg base N qual scope f cd A outer s H E) [] (fA N vs) H s1:=by
 have hpl:ps.length<=N.length:=by have:=congrArg List.length S.pre;rw [JS] at this;omega
 obtain ⟨h1,tk,rfl,hk⟩:=x.done;have noA:∀b:Addr,b∉(iy CX P w K mg base N qual scope f cd A outer s H E).ex:=λ b z=>absurd (show b∈([]:List Addr) from z) (by simp);refine ⟨⟨e0.mod,S.kind,rfl,rfl,KW _,λ y z c h1 h2=>?_,λ y hy=>?_,λ y c _ h=>?_,λ _=>hd,Around.frames_deeper e0.frames,.inr ⟨rfl,rfl⟩,λ b z=>absurd z (noA b),e0.bs,e0.bsz,λ b _ _=>noA b,λ b z=>absurd z (noA b),e0.funs,e0.frf⟩,
  rfl,e0.bare,Un.kept hk,⟨_,x.toInCall.ns,λ i y v h1 h2 h3=>?_⟩,λ y c h=>⟨_,x.cell y c h⟩,e0.hok.fresh (KW _),λ y c h=>?_,λ p hp=>absurd (show p∈([]:List (Addr×Obj)) from hp) (by simp),e0.hok.kept hk,?_⟩
 ·exact name_of_addr x.apart (PySem.mem_of_lookup h1) (PySem.mem_of_lookup h2)
 ·have hy:scope.names.lookup y=some .cell\/scope.names.lookup y=some .free:=hy
  rcases hy with hy | hy
  ·exact ox hy
  ·exact absurd rfl (S.nofree _ (PySem.mem_of_lookup hy))
 ·exact Lf (x.above y c (PySem.mem_of_lookup h))
 ·have hi:i<vs.length:=by
   unfold fA at h2
   by_cases hi:i<vs.length
   ·exact hi
   ·rw [Ks (by simpa using hi)] at h2;rw [KI] at h2;split at h2<;>cases h2
  have ha:vs[i]? =some v:=by
   unfold fA at h2;rw [Ku (by simpa using hi),JO] at h2;cases e:vs[i]? with
   | none=>rw [e] at h2;cases h2
   | some a=>rw [e] at h2;cases h2;rfl
  obtain ⟨u,hu,rv⟩:=r.get ha;have hp:ps[i]? =some y:=by rw [<-S.pre,List.getElem?_take_of_lt (by omega)];exact h1
  have ndP:ps.Nodup:=by rw [<-S.pre];exact S.nd.sublist (List.take_sublist _ _)
  refine ⟨u,rv,?_⟩
  rcases S.par y (JT hp) with k | k
  ·exact .inl ⟨k,lg ndP hp hu k⟩
  ·obtain ⟨c,e⟩:=ox (n:=s.heap.objs.size+1) k;refine .inr ⟨.inl k,c,e,?_⟩;have q:=x.cell y c e;rw [li ndP hp hu (by show scope.names.lookup y≠_;rw [k];decide)] at q;exact q
 ·exact e0.hok.fresh (Lf (x.above y c (PySem.mem_of_lookup h)))
 ·unfold fA;show _=N.length;rw [JD,Jx,Kj];omega
theorem Bi {CX:rj}{P:Program}{w:World}{K:Frag}{mg:Str->Option Value}{base:Heap}{k:Nat}{f:Addr}{name qual:Str}{params:Arguments}{body:List Stmt}{scope:Scope}{dV kV doc pm cdv ct oc:Value}{an od:Option Addr}
  {osl:Array (Option Value)} {N ps:List Str} {sp:Sp} (lk:K.lookup f=some ⟨oc,od,.func (LR name qual params body scope dV kV doc pm an cdv ct),osl⟩) (hcd:Mb K cdv qual=true) (S:aH N ps scope)
  (len:∀vs H Q E,sp vs H Q E->vs.length=ps.length)
  (hbody:∀(A:Around) (outer:List Env) (s:Shared) (H:Hp) (vs:List V) (Q:VK) (E:XK),cz k (A.deeper (envOfC qual scope s.heap.objs.size f cdv))->sp vs H Q E->
   ∃t,mI (iy CX P w K mg base N qual scope f cdv A outer s H E) body t/\t {nx:=λ _ H'=>Q .non H',rt:=Q} (fA N vs) H):
  bz P w K mg base CX (k+1) f (LR name qual params body scope dV kV doc pm an cdv ct) ps sp:=by
 refine ⟨len,λ A outer s H args us vs Q E hr e0 hb r hsp=>?_⟩;have hl:=len _ _ _ _ hsp;have KX:K.In s.heap:=e0.mod.kin.keeps λ b o e=>(e0.bs b o e).1;have lim:s.heap.NoLimit:=e0.mod.nolimit.keeps λ b o e=>(e0.bs b o e).1;have hkind:∀y∈ps.zip us,scope.names.lookup y.1=some .local\/(scope.names.lookup y.1=some .cell/\((cellsFrom (s.heap.objs.size+1) scope.names []).lookup y.1).isSome=true):=λ ⟨n,v⟩ hy=>by
  rcases S.par n (Ki hy).1 with q | q
  ·exact .inl q
  ·exact .inr ⟨q,Mg _ _ _ (.inl q)⟩
 refine codeAny_call_function hr.depth (KX _ _ lk) rfl S.co S.gen rfl (Mq KX hcd) (hb _ _ _ _ ?_);refine wpAny_newFunctionEnv_cells S.kind hkind λ env he s1 x=>?_;subst he;refine ⟨lim.keeps x.toInCall.keep,codeAny_func ?_⟩;obtain ⟨t,ht,hq⟩:=hbody A outer s H vs Q E (hr.deeper _) hsp;have I:aD (iy CX P w K mg base N qual scope f cdv A outer s H E) [] (fA N vs) H s1:=kN S hr.hd e0 hl r x;refine wpAny_mono (ht [] s1 (fA N vs) H _ I hq) (λ fl s' hs=>?_) λ e s' hs=>hs;have fin:∀{σ':St} {H':Hp} {v:V} {u:Value},aD (iy CX P w K mg base N qual scope f cdv A outer s H E) [] σ' H' s'->aQ v u->Q v H'->CE outer P w H s Q u s':=
  λ {σ' H' v u} J rv q=>⟨v,H',J.os,J.bare,J.base,J.hok,rv,q⟩
 cases fl with
 | ret u=>
   obtain ⟨v,σ',H',J,rv,q⟩:=hs;exact fin J rv q
 | next=>
   obtain ⟨σ',H',J,q⟩:=hs;exact fin (v:=V.non) (u:=Value.none) J rfl q
 | brk=>
   obtain ⟨_,_,_,q⟩:=hs;exact False.elim q
 | cont=>
   obtain ⟨_,_,_,q⟩:=hs;exact False.elim q
end L2
namespace L2
open PySem PySem.Spec PyProof.Rows
section
variable {X:Cx}{x:Str}{p pos:Pos}{e:Expr}{es:List Expr}{t:TA}{id T:String}{r:List V->Hp->VK->Prop}
def tCB (r:List V->Hp->VK->Prop) (t:TA):TE:=λ σ H Q=>t σ H λ vs H1=>r vs H1 Q
theorem uA (hc:bd X (.builtin id) r) (hg:Gl X x) (hm:X.mg x=none) (hv:bootBuiltins x=some (.builtin id)) (ha:PA X (e::es) t) (hn:x≠"__name__":=by decide) (hdb:(x == ("__debug__":Str))=false:=by decide)
  (he:starEach (e::es) X.env=(false,eval e X.env)::starEach es X.env:=by rfl) (hpl:(backTo pos (starEach es X.env)).any (·.1)=false:=by rfl):PE X (.Call (.Name x p) (e::es) [] pos) (tCB r t):=by
 intro pins s σ H Q I h;refine wpAny_Call_Name_kw (iQ I hg hm hv ?_ hn hdb);exact PyProof.Rows.callWith_builtin1 (cb (ha pos pins s σ H _ I h) λ us s1 ⟨vs,H1,I1,r1,q1⟩=>hc pins s1 σ H1 vs us Q I1 r1 q1) he hpl
theorem rW (hc:bd X (.type T) r) (hg:Gl X x) (hm:X.mg x=none) (hv:bootBuiltins x=some (.type T)) (ha:PA X (e::es) t) (hn:x≠"__name__":=by decide) (hdb:(x == ("__debug__":Str))=false:=by decide)
  (he:starEach (e::es) X.env=(false,eval e X.env)::starEach es X.env:=by rfl) (hpl:(backTo pos (starEach es X.env)).any (·.1)=false:=by rfl):PE X (.Call (.Name x p) (e::es) [] pos) (tCB r t):=by
 intro pins s σ H Q I h;refine wpAny_Call_Name_kw (iQ I hg hm hv ?_ hn hdb);exact PyProof.Rows.callWith_type1 (cb (ha pos pins s σ H _ I h) λ us s1 ⟨vs,H1,I1,r1,q1⟩=>hc pins s1 σ H1 vs us Q I1 r1 q1) he hpl
end
end L2
namespace HT
open PySem PyProof.Rows
section
open PySem.SeqAt
open PySem.AutoSeq1 (wpAny_loadPart')
open PySem.MeetsSeq PySem.MeetsSeq2 PySem.MeetsSeq3
end
section
variable {prog:Program}{w:World}{A:Around}{E:Value->Shared->Prop}{s:Shared}
def sIx (n d:Nat):Option Int->Nat
 | none=>d
 | some v=>if v<0 then (v+(n:Int)).toNat else min v.toNat n
theorem sIx_none (n d:Nat):sIx n d none=d:=rfl
theorem sIx_nat (n d k:Nat):sIx n d (some (k:Int))=min k n:=by show (if (k:Int)<0 then ((k:Int)+(n:Int)).toNat else min (k:Int).toNat n)=min k n;rw [if_neg (by omega),Ln]
theorem sIx_le (n d:Nat) (hd:d<=n) (o:Option Int):sIx n d o<=n:=by
 cases o with
 | none=>exact hd
 | some v=>
   show (if v<0 then (v+(n:Int)).toNat else min v.toNat n)<=n
   by_cases hv:v<0
   ·rw [if_pos hv];omega
   ·rw [if_neg hv];exact Nat.min_le_right _ _
end
end HT
namespace L2
open PySem PySem.Spec PyProof.Rows
abbrev TO:=St->Hp->(Option Int->Hp->Prop)->Prop
def PO (X:Cx) (e:Option Expr) (t:TO):Prop:=
 ∀(pins:List (Addr×Obj)) (s:Shared) (σ:St) (H:Hp) (Q:Option Int->Hp->Prop),aD X pins σ H s->t σ H Q->
  wpAny (model X.prog X.w) X.A (evalPart e X.env) (λ u s'=> ∃o H',aD X pins σ H' s'/\IsPart u o/\Q o H') X.xe s
def dB:TO:=λ _ H Q=>Q none H
theorem jM {ns:List Int}:∀{us:List Value},aU (ns.map V.int) us->IntsAre us ns:=by
 induction ns with
 | nil=>intro us r;rw [List.map_nil] at r;cases r;exact .nil
 | cons n ns ih=>
   intro us r;rw [JW] at r;cases r with
   | cons r1 r2=>
     obtain ⟨t,e⟩:=r1;subst e;exact .cons n t (ih r2)
section
variable {X:Cx}{e:Expr}{te:TE}{lo hi:Option Expr}{tl th:TO}{pos p2:Pos}
theorem dE:PO X none dB:=by intro pins s σ H Q I h;rw [evalPart_none];exact wpAny_pure ⟨none,H,I,.none,h⟩
def tm (X:Cx) (r:V->Option Int->Option Int->Hp->VK->Prop):Prop:=
 ∀(pins:List (Addr×Obj)) (s:Shared) (σ:St) (H:Hp) (x:V) (v vl vu:Value) (lo hi:Option Int) (sl:Addr) (Q:VK),aD X pins σ H s->aQ x v->s.heap.IsSliceOf sl vl vu .none->IsPart vl lo->IsPart vu hi->r x lo hi H Q->
  ∃T id,typeLookup (.type T) "__getitem__"=pure (some (.builtin id))/\s.TypeIs v T/\wpAny (model X.prog X.w) X.A (getItem v (.ref sl)) (EP X pins σ Q) X.xe s
theorem tm.or {r r':V->Option Int->Option Int->Hp->VK->Prop}(h:tm X r) (h':tm X r'):tm X (λ x lo hi H Q=>r x lo hi H Q\/r' x lo hi H Q):=by
 intro pins s σ H x v vl vu lo hi sl Q I rx hs pl pu q
 rcases q with q | q
 ·exact h pins s σ H x v vl vu lo hi sl Q I rx hs pl pu q
 ·exact h' pins s σ H x v vl vu lo hi sl Q I rx hs pl pu q
def tSl (r:V->Option Int->Option Int->Hp->VK->Prop) (te:TE) (tl th:TO):TE:=λ σ H Q=>te σ H λ x H1=>tl σ H1 λ l H2=>th σ H2 λ u H3=>r x l u H3 Q
theorem ux {r:V->Option Int->Option Int->Hp->VK->Prop}(hr:tm X r) (he:PE X e te) (hl:PO X lo tl) (hu:PO X hi th):PE X (.Subscript e (.Slice lo hi none p2) pos) (tSl r te tl th):=by intro pins s σ H Q I h;refine Subscript_ (cb (he pins s σ H _ I h) λ v s1 ⟨x,H1,I1,r1,q1⟩=>?_);refine wpAny_Slice (cb (hl pins s1 σ H1 _ I1 q1) λ vl s2 ⟨l,H2,I2,pl,q2⟩=>cb (hu pins s2 σ H2 _ I2 q2) λ vu s3 ⟨u,H3,I3,pu,q3⟩=>?_);rw [evalPart_none];refine wpAny_pure ?_;have I4:aD X pins σ H3 {s3 with heap:=s3.heap.push {cls:=.type "slice",data:=.fields #[vl,vu,.none]}}:=I3.kept (t':=s3.toks) λ b ob q=>Heap.get?_push_of_some _ q;obtain ⟨T,id,hT,ht,hg⟩:=hr pins {s3 with heap:=s3.heap.push {cls:=.type "slice",data:=.fields #[vl,vu,.none]}} σ H3 x v vl vu l u s3.heap.objs.size Q I4 r1 (Heap.IsSliceOf.new ..) pl pu q3;show wpAny (model X.prog X.w) X.A (subscriptTail e (.Slice lo hi none p2) v (.ref s3.heap.objs.size)) (EP X pins σ Q) X.xe {s3 with heap:=s3.heap.push {cls:=.type "slice",data:=.fields #[vl,vu,.none]}};exact tail_any (ops:=[.ref s3.heap.objs.size,v]) ht hT hg (by with_unfolding_all rfl)
def iz (xs:List V) (lo hi:Option Int):List V:=(xs.drop (HT.sIx xs.length 0 lo)).take (HT.sIx xs.length xs.length hi - HT.sIx xs.length 0 lo)
theorem om (xs:List V) (lo hi:Option Int):(iz xs lo hi).length<=xs.length:=by unfold iz;rw [JS,J0];omega
end
end L2
namespace L2
open PySem PySem.Spec PyProof.Rows
def ixN (n:Nat) (i:Int):Option Nat:=if 0<=i then (if i<n then some i.toNat else none) else if -(n:Int)<=i then some (i+n).toNat else none
def atI {α:Type}(xs:List α) (i:Int):Option α:=(ixN xs.length i).bind λ j=>xs[j]?
theorem wF {n:Nat}{i:Int}{j:Nat}(h:ixN n i=some j):seqIndex? i n=some j/\j<n/\-(n:Int)<=i/\i<n:=by
 unfold ixN at h
 by_cases h0:0<=i
 ·rw [if_pos h0] at h
  by_cases h1:i<n
  ·rw [if_pos h1] at h;have e:i.toNat=j:=Option.some.inj h;exact ⟨by rw [seqIndex_of h0 h1,e],by omega,by omega,h1⟩
  ·rw [if_neg h1] at h;cases h
 ·rw [if_neg h0] at h
  by_cases h1: -(n:Int)<=i
  ·rw [if_pos h1] at h;have e:(i+n).toNat=j:=Option.some.inj h;exact ⟨by rw [seqIndex_neg (by omega) h1,e],by omega,h1,by omega⟩
  ·rw [if_neg h1] at h;cases h
theorem mG {α:Type}{xs:List α}{i:Int}{v:α}(h:atI xs i=some v):∃j,seqIndex? i xs.length=some j/\xs[j]? =some v/\j<xs.length/\-(xs.length:Int)<=i/\i<xs.length:=by
 unfold atI at h;cases e:ixN xs.length i with
 | none=>rw [e] at h;cases h
 | some j=>
   rw [e] at h;obtain ⟨h1,h2,h3,h4⟩:=wF e;exact ⟨j,h1,h,h2,h3,h4⟩
theorem bJ {α:Type}{xs:List α}{j:Nat}{v:α}(h:xs[j]? =some v):atI xs (j:Int)=some v:=by
 have hj:j<xs.length:=(JQ.mp h).1;have e:ixN xs.length (j:Int)=some j:=by unfold ixN;rw [if_pos (by omega),if_pos (by omega)];simp
 unfold atI;rw [e];exact h
def mH (b:Expr):Prop:= ∀o i,subscripted b false o i=operate [o,i] (getItem o i)
def rf (X:Cx) (r:R2):Prop:=
 ∀(value slice:Expr) (pins:List (Addr×Obj)) (s:Shared) (σ:St) (H:Hp) (x y:V) (v u:Value) (Q:VK),aD X pins σ H s->aQ x v->aQ y u->r x y H Q->
  subscripted slice false v u=operate [v,u] (getItem v u)->wpAny (model X.prog X.w) X.A (subscriptTail value slice v u) (EP X pins σ Q) X.xe s
def Jq (X:Cx) (id:String) (r:V->List V->Hp->VK->Prop):Prop:=
 ∀(pins:List (Addr×Obj)) (s:Shared) (σ:St) (H:Hp) (x:V) (xs:List V) (v:Value) (us:List Value) (Q:VK),aD X pins σ H s->aQ x v->aU xs us->r x xs H Q->
  wpAny (model X.prog X.w) X.A (call (.builtin id) (v::us)) (EP X pins σ Q) X.xe s
section
variable {X:Cx}{a b:Expr}{ta tb:TE}{pos:Pos}
theorem rf.or {r r':R2}(h:rf X r) (h':rf X r'):rf X (λ x y H Q=>r x y H Q\/r' x y H Q):=by
 intro value slice pins s σ H x y v u Q I rx ry q hs
 rcases q with q | q
 ·exact h value slice pins s σ H x y v u Q I rx ry q hs
 ·exact h' value slice pins s σ H x y v u Q I rx ry q hs
theorem GE {r:R2}(hr:rf X r) (ha:PE X a ta) (hb:PE X b tb) (hs:mH b):PE X (.Subscript a b pos) (tO r ta tb):=by intro pins s σ H Q I h;exact Subscript_ (CG ha hb I h λ v u s2 x y H2 I2 rx ry q=>hr a b pins s2 σ H2 x y v u Q I2 rx ry q (hs _ _))
def Gz (K:Frag):R2:=λ x y H Q=> ∃p xs i v,x=.ref p/\y=.int i/\aJ K H p xs/\atI xs i=some v/\Q v H
def Gx (K:Frag):R2:=λ x y H Q=> ∃p xs i v,x=.ref p/\y=.int i/\eE K H p xs/\atI xs i=some v/\Q v H
def Gy:R2:=λ x y H Q=> ∃z i c,x=.str z/\y=.int i/\z.length<=sizeLine/\atI z.cps.toList i=some c/\Q (.str ⟨#[c]⟩) H
theorem wE:rf X (Gz X.K):=by
 intro value slice pins s σ H x y v u Q I rx ry h hs;obtain ⟨p,xs,i,z,rfl,rfl,hq,he,q⟩:=h;cases rx;obtain ⟨t,rfl⟩:=ry;obtain ⟨its,r,pl,hz⟩:=I.list hq;obtain ⟨j,h1,h2,h3,h4,h5⟩:=mG he;obtain ⟨w,ew,rw'⟩:=r.get h2;have hl:=r.length;have hn:=jH;have fin:EP X pins σ Q w s:=⟨z,H,I,rw',q⟩
 by_cases h0:0<=i
 ·have hj:i.toNat=j:=by rw [seqIndex_of h0 h5] at h1;exact Option.some.inj h1
  exact item_listR pl.isList h0 (by omega) (by rw [hj];simpa using ew) fin hs
 ·have hj:(i+(its.toArray.size:Int)).toNat=j:=by rw [seqIndex_neg (by omega) h4] at h1;rw [JA,<-hl];exact Option.some.inj h1
  exact subscriptTail_builtinR (x:=w) pl.isList.typeIs slot_list_getitem.lookup
   (wpAny_getItem_list_neg (Q:=λ r s'=>r=w/\EP X pins σ Q r s') pl.isList (by omega) (by rw [JA]<;>omega) (by omega) (by rw [hj];simpa using ew) ⟨rfl,fin⟩) hs
theorem Cb:rf X (Gx X.K):=by
 intro value slice pins s σ H x y v u Q I rx ry h hs;obtain ⟨p,xs,i,z,rfl,rfl,hq,he,q⟩:=h;cases rx;obtain ⟨t,rfl⟩:=ry;obtain ⟨its,r,pl,hz⟩:=I.tuple hq;obtain ⟨j,h1,h2,h3,h4,h5⟩:=mG he;obtain ⟨w,ew,rw'⟩:=r.get h2;have hl:=r.length;have hn:=jH;have fin:EP X pins σ Q w s:=⟨z,H,I,rw',q⟩;exact subscriptTail_builtinR (x:=w) pl.typeIs slot_tuple_getitem.lookup
  (getItem_tuple (j:=j) (Q:=λ r s'=>r=w/\EP X pins σ Q r s') pl (by omega) (by omega) (by rw [JA,<-hl];exact h1) (by simpa using ew) ⟨rfl,fin⟩) hs
theorem Cc:rf X Gy:=by
 intro value slice pins s σ H x y v u Q I rx ry h hs;obtain ⟨z,i,c,rfl,rfl,hz,he,q⟩:=h;obtain ⟨t,rfl⟩:=rx;obtain ⟨t',rfl⟩:=ry;obtain ⟨j,h1,h2,h3,h4,h5⟩:=mG he;have hl:z.cps.toList.length=z.length:=by simp [Str.length]
 rw [hl] at h1 h4 h5;have hn:=jH;exact tail_any (typeIs_str s z t) slot_str_getitem.lookup (getItem_str (c:=c) (by
  have e1:decide (i< -(2 ^ 63:Int))=false:=decide_eq_false (by omega);have e2:decide (i≥2 ^ 63)=false:=decide_eq_false (by omega);rw [e1,e2,Bool.or_false]) (by rw [h1];simpa using h2) ⟨.str ⟨#[c]⟩,H,I.tok _,⟨_,rfl⟩,q⟩) hs
def rIx (K:Frag):R2:=λ x y H Q=>Gz K x y H Q\/Gx K x y H Q\/Gy x y H Q
theorem Cd:rf X (rIx X.K):=wE.or (Cb.or Cc)
theorem lu (lo hi:Option Int) (n:Nat):(sliceBounds lo hi none n).1=((HT.sIx n 0 lo:Nat):Int)/\(sliceBounds lo hi none n).2.1=((HT.sIx n n hi:Nat):Int)/\(sliceBounds lo hi none n).2.2=1:=by
 refine ⟨?_,?_,rfl⟩
 ·cases lo with
  | none=>simp [sliceBounds,HT.sIx]
  | some i=>
    simp only [sliceBounds,HT.sIx,LG,show (1:Int) > 0 by decide,if_true]
    by_cases h:i<0
    ·simp only [h,if_true]<;>omega
    ·simp only [h,if_false]<;>omega
 ·cases hi with
  | none=>simp [sliceBounds,HT.sIx]
  | some i=>
    simp only [sliceBounds,HT.sIx,LG,show (1:Int) > 0 by decide,if_true]
    by_cases h:i<0
    ·simp only [h,if_true]<;>omega
    ·simp only [h,if_false]<;>omega
theorem jY (its:List Value) (lo hi:Option Int):slicePick its.toArray lo hi none=((its.drop (HT.sIx its.length 0 lo)).take (HT.sIx its.length its.length hi - HT.sIx its.length 0 lo)).toArray:=by obtain ⟨h1,h2,h3⟩:=lu lo hi its.toArray.size;unfold slicePick;rw [h1,h2,h3];simp only [sliceRange_one,pick_run,JA]<;>rfl
def IX (K:Frag):V->Option Int->Option Int->Hp->VK->Prop:=λ x lo hi H Q=> ∃a xs,x=.ref a/\aJ K H a xs/\∀p,H p=none->Q (.ref p) (upd H p (.lst (iz xs lo hi)))
theorem vV:tm X (IX X.K):=by intro pins s σ H x v vl vu lo hi sl Q I rx hs pl pu h;obtain ⟨a,xs,rfl,hx,q⟩:=h;cases rx;obtain ⟨its,r,ht,hz⟩:=I.list hx;have hlen:=r.length;refine ⟨"list",_,slot_list_getitem.lookup,ht.isList.typeIs,?_⟩;refine wpAny_getItem_list_slice ht.isList hs pl pu .none (by simp) ?_ (by rw [JA]<;>omega);rw [jY,<-hlen];refine ⟨.ref s.heap.objs.size,_,I.laid (t':=s.toks) (o:=.lst (iz xs lo hi)) (λ b ob q=>Heap.get?_push_of_some _ q) (KW _) ?_,rfl,q _ (I.hok.fresh (KW _))⟩;exact ⟨KZ (om xs lo hi) hz,_,0,(r.drop (HT.sIx xs.length 0 lo)).take (HT.sIx xs.length xs.length hi - HT.sIx xs.length 0 lo),Heap.get?_push_size _ rfl⟩
def flatV:V->Bool
 | .non=>true
 | .bl _=>true
 | .int _=>true
 | .str _=>true
 | _=>false
def eqV:V->V->Bool
 | .non,.non=>true
 | .bl a,.bl b=>a == b
 | .bl a,.int b=>(if a then 1 else 0) == b
 | .int a,.bl b=>a == (if b then 1 else 0)
 | .int a,.int b=>a == b
 | .str a,.str b=>a == b
 | _,_=>false
theorem vf {A:Around}{s:Shared}{y x:V}{u v:Value}(ry:aQ y u) (rx:aQ x v) (fy:flatV y=true) (fx:flatV x=true):SeqAt.EqAt A s u v (eqV y x):=by
 cases y with
 | non=>
   cases ry;cases x with
   | non=>cases rx;exact SeqAt.EqAt.same _
   | bl b=>cases rx;exact SeqAt.EqAt.none_bool b
   | int b=>obtain ⟨t,rfl⟩:=rx;exact SeqAt.EqAt.none_int b t
   | str b=>obtain ⟨t,rfl⟩:=rx;exact SeqAt.EqAt.none_str b t
   | _=>exact absurd (show false=true from fx) Lq
 | bl a=>
   cases ry;cases x with
   | non=>cases rx;exact SeqAt.EqAt.bool_none a
   | bl b=>cases rx;exact SeqAt.EqAt.bool_bool a b
   | int b=>obtain ⟨t,rfl⟩:=rx;exact SeqAt.EqAt.bool_int a b t
   | str b=>obtain ⟨t,rfl⟩:=rx;exact SeqAt.EqAt.bool_str a b t
   | _=>exact absurd (show false=true from fx) Lq
 | int a=>
   obtain ⟨t',rfl⟩:=ry;cases x with
   | non=>cases rx;exact SeqAt.EqAt.int_none a t'
   | bl b=>cases rx;exact SeqAt.EqAt.int_bool a t' b
   | int b=>obtain ⟨t,rfl⟩:=rx;exact SeqAt.EqAt.int_int a t' b t
   | str b=>obtain ⟨t,rfl⟩:=rx;exact SeqAt.EqAt.int_str a t' b t
   | _=>exact absurd (show false=true from fx) Lq
 | str a=>
   obtain ⟨t',rfl⟩:=ry;cases x with
   | non=>cases rx;exact SeqAt.EqAt.str_none a t'
   | bl b=>cases rx;exact SeqAt.EqAt.str_bool a t' b
   | int b=>obtain ⟨t,rfl⟩:=rx;exact SeqAt.EqAt.str_int a t' b t
   | str b=>obtain ⟨t,rfl⟩:=rx;exact SeqAt.EqAt.str_str a t' b t
   | _=>exact absurd (show false=true from fx) Lq
 | _=>exact absurd (show false=true from fy) Lq
def pL (x:V) (u:Value):Bool:=match u with
 | .none=>eqV .non x
 | .bool b=>eqV (.bl b) x
 | .int i _=>eqV (.int i) x
 | .str z _=>eqV (.str z) x
 | _=>false
theorem vd {x y:V}{u:Value}(r:aQ y u) (f:flatV y=true):pL x u=eqV y x:=by
 cases y with
 | non=>cases r;rfl
 | bl b=>cases r;rfl
 | int i=>obtain ⟨t,rfl⟩:=r;rfl
 | str z=>obtain ⟨t,rfl⟩:=r;rfl
 | _=>exact absurd (show false=true from f) Lq
theorem iC {x:V}:∀{xs:List V}{us:List Value},aU xs us->xs.all flatV=true->us.any (pL x)=xs.any λ y=>eqV y x
 | _,_,.nil,_=>rfl
 | y::xs,u::us,.cons r t,f=>by rw [JP,Lr] at f;rw [J6,J6,vd r f.1,iC t f.2]
theorem gp {A:Around}{s:Shared}{x:V}{v:Value}(rx:aQ x v) (fx:flatV x=true):∀{xs:List V}{us:List Value},aU xs us->xs.all flatV=true->∀u∈us,SeqAt.EqAt A s u v (pL x u)
 | _,_,.nil,_=>λ u hu=>by cases hu
 | y::xs,u::us,.cons r t,f=>λ u' hu=>by
   rw [JP,Lr] at f
   rcases Jy.mp hu with rfl | hu
   ·rw [vd r f.1];exact vf r rx f.1 fx
   ·exact gp rx fx t f.2 u' hu
def Cf (x:V) (xs:List V):Bool:=xs.any λ y=>eqV y x
def pe (K:Frag) (neg:Bool):R2:=λ x y H Q=> ∃p xs,y=.ref p/\(aJ K H p xs\/eE K H p xs)/\flatV x=true/\xs.all flatV=true/\Q (.bl (if neg then !Cf x xs else Cf x xs)) H
theorem sh:gK X (compareOp .In) (pe X.K false):=by
 intro pins s σ H x y v u Q I rx ry h;obtain ⟨p,xs,rfl,hq,fx,fs,q⟩:=h;cases ry
 rcases hq with hq | hq
 ·obtain ⟨its,r,pl,hz⟩:=I.list hq;refine SeqAt.in_listAt (pL x) pl.isList (λ w hw=>gp rx fx r fs w (by simpa using hw)) ⟨.bl _,H,I,rfl,?_⟩;rw [show its.toArray.any (pL x)=its.any (pL x) by simp,iC r fs];exact q
 ·obtain ⟨its,r,pl,hz⟩:=I.tuple hq;refine SeqAt.in_tupleAt (pL x) pl (λ w hw=>gp rx fx r fs w (by simpa using hw)) ⟨.bl _,H,I,rfl,?_⟩;rw [show its.toArray.any (pL x)=its.any (pL x) by simp,iC r fs];exact q
theorem lX:gK X (compareOp .NotIn) (pe X.K true):=by
 intro pins s σ H x y v u Q I rx ry h;obtain ⟨p,xs,rfl,hq,fx,fs,q⟩:=h;cases ry
 rcases hq with hq | hq
 ·obtain ⟨its,r,pl,hz⟩:=I.list hq;refine SeqAt.notIn_listAt (pL x) pl.isList (λ w hw=>gp rx fx r fs w (by simpa using hw)) ⟨.bl _,H,I,rfl,?_⟩;rw [show its.toArray.any (pL x)=its.any (pL x) by simp,iC r fs];exact q
 ·obtain ⟨its,r,pl,hz⟩:=I.tuple hq;refine SeqAt.notIn_tupleAt (pL x) pl (λ w hw=>gp rx fx r fs w (by simpa using hw)) ⟨.bl _,H,I,rfl,?_⟩;rw [show its.toArray.any (pL x)=its.any (pL x) by simp,iC r fs];exact q
theorem mD:bd X (.builtin "len") (λ xs H Q=> ∃p ys,xs=[.ref p]/\(aJ X.K H p ys\/eE X.K H p ys)/\Q (.int ys.length) H):=by
 intro pins s σ H xs us Q I r h;obtain ⟨p,ys,rfl,hq,q⟩:=h;obtain ⟨u,rfl,rx⟩:=eS r;cases rx;have hn:=jH
 rcases hq with hq | hq
 ·obtain ⟨its,r',pl,hz⟩:=I.list hq;have hlen:=r'.length;exact Calls.call_len_list pl.isList (by simp only [JA]<;>omega) ⟨.int ys.length,H,I.tok _,⟨s.toks+1,by rw [JA,hlen]⟩,q⟩
 ·obtain ⟨its,r',pl,hz⟩:=I.tuple hq;have hlen:=r'.length;exact len_tuple pl (by simp only [JA]<;>omega) ⟨.int ys.length,H,I.tok _,⟨s.toks+1,by rw [JA,hlen]⟩,q⟩
theorem mB:bd X (.builtin "len") (λ xs H Q=> ∃z,xs=[.str z]/\z.length<=sizeLine/\Q (.int z.length) H):=by intro pins s σ H xs us Q I r h;obtain ⟨z,rfl,hz,q⟩:=h;obtain ⟨u,rfl,t,rfl⟩:=eS r;have hn:=jH;exact len_str (by omega) ⟨.int z.length,H,I.tok _,⟨_,rfl⟩,q⟩
theorem bd.or {f:Value}{r r':List V->Hp->VK->Prop}(h:bd X f r) (h':bd X f r'):bd X f (λ xs H Q=>r xs H Q\/r' xs H Q):=by
 intro pins s σ H xs us Q I rs q
 rcases q with q | q
 ·exact h pins s σ H xs us Q I rs q
 ·exact h' pins s σ H xs us Q I rs q
theorem mz:bd X (.type "list") (λ xs H Q=> ∃p ys,xs=[.ref p]/\(aJ X.K H p ys\/eE X.K H p ys)/\∀l,H l=none->Q (.ref l) (upd H l (.lst ys))):=by
 intro pins s σ H xs us Q I r h;obtain ⟨p,ys,rfl,hq,q⟩:=h;obtain ⟨u,rfl,rx⟩:=eS r;cases rx;have fin:∀(its:List Value),aU ys its->ys.length<=sizeLine->∀(h':Heap) (c':Nat),(∀b o',s.heap.get? b=some o'->h'.get? b=some o')->
   h'.get? s.heap.objs.size=some {cls:=.type "list",dict:=none,data:=.seq its.toArray c',slots:= #[]}->EP X pins σ Q (.ref s.heap.objs.size) {s with heap:=h'}:=λ its r' hz h' c' kp e=>
  ⟨.ref s.heap.objs.size,_,I.laid (t':=s.toks) kp (KW _) (show bD X.prog X.w _ h' _ (.lst ys) from ⟨hz,its,c',r',e⟩),rfl,q _ (I.hok.fresh (KW _))⟩
 rcases hq with hq | hq
 ·obtain ⟨its,r',pl,hz⟩:=I.list hq;have hlen:=r'.length;obtain ⟨o,ho,hc,n,hd⟩:=pl.isList;exact call_list_seq p (.inl rfl) ho hc hd (λ h' c' kp e=>fin its r' hz h' c' kp e) (by simp only [JA]<;>omega)
 ·obtain ⟨its,r',pl,hz⟩:=I.tuple hq;have hlen:=r'.length;obtain ⟨o,ho,hc,n,hd⟩:=pl;exact call_list_seq p (.inr rfl) ho hc hd (λ h' c' kp e=>fin its r' hz h' c' kp e) (by simp only [JA]<;>omega)
theorem km:bd X (.type "tuple") (λ xs H Q=> ∃p ys,xs=[.ref p]/\((aJ X.K H p ys/\∀l,H l=none->Q (.ref l) (upd H l (.tup ys)))\/(eE X.K H p ys/\Q (.ref p) H))):=by
 intro pins s σ H xs us Q I r h;obtain ⟨p,ys,rfl,h⟩:=h;obtain ⟨u,rfl,rx⟩:=eS r;cases rx
 rcases h with ⟨hq,q⟩ | ⟨hq,q⟩
 ·obtain ⟨its,r',pl,hz⟩:=I.list hq;have hlen:=r'.length;refine call_tuple_list pl.isList (λ h' kp=>?_) (by simp only [JA]<;>omega);have I1:aD X pins σ H {s with heap:=h'}:=I.kept (t':=s.toks) kp;have I2:aD X pins σ (upd H h'.objs.size (.tup ys)) {s with heap:=h'.push {cls:=.type "tuple",data:=.seq its.toArray}}:=
   I1.laid (t':=s.toks) (λ b o e=>Heap.get?_push_of_some _ e) (KW _) (show bD X.prog X.w _ _ _ (.tup ys) from ⟨hz,its,r',IsTup.new _ _⟩)
  exact ⟨.ref h'.objs.size,_,I2,rfl,q _ (I1.hok.fresh (KW _))⟩
 ·obtain ⟨its,r',pl,hz⟩:=I.tuple hq;exact call_tuple_same pl ⟨.ref p,H,I,rfl,q⟩
def IQ (K:Frag) (T:String) (x:V) (H:Hp):Prop:=match x with
 | .str _=>T="str"
 | .int _=>T="int"
 | .ref p=>(T="list"/\∃xs,aJ K H p xs)\/(T="tuple"/\∃o,K.lookup p=some o/\o.cls=.type "tuple"/\o.dict=none)\/
   (T="dict"/\((∃kvs,H p=some (.dK kvs))\/∃kvs,H p=some (.dT kvs)))\/(T="set"/\∃S n,H p=some (.set S n))
 | _=>False
theorem tI {pins:List (Addr×Obj)}{σ:St}{H:Hp}{s:Shared}{T:String}{x:V}{v:Value}(I:aD X pins σ H s) (r:aQ x v) (ty:IQ X.K T x H):
  s.TypeIs v T/\∀a,v=.ref a->∃ob,s.heap.get? a=some ob/\ob.dict=none:=by
 cases x with
 | str z=>
   obtain ⟨t,rfl⟩:=r;cases (show T="str" from ty);exact ⟨typeIs_str s z t,λ _ e=>nomatch e⟩
 | int i=>
   obtain ⟨t,rfl⟩:=r;cases (show T="int" from ty);exact ⟨typeIs_int s i t,λ _ e=>nomatch e⟩
 | ref p=>
   cases r
   rcases ty with ⟨rfl,xs,hq⟩ | ⟨rfl,o,hk,hc,hd⟩ | ⟨rfl,hk⟩ | ⟨rfl,S,n,hk⟩
   ·obtain ⟨its,_,pl,_⟩:=I.list hq;refine ⟨pl.isList.typeIs,λ a e=>?_⟩;cases e;obtain ⟨o,n,e,c,hd,_⟩:=pl;exact ⟨o,e,hd⟩
   ·refine ⟨⟨o,I.kIn p o hk,hc⟩,λ a e=>?_⟩;cases e;exact ⟨o,I.kIn _ o hk,hd⟩
   ·have z:∃o,s.heap.get? p=some o/\o.ExactDict:=by
     rcases hk with ⟨kvs,hk⟩ | ⟨kvs,hk⟩
     ·obtain ⟨_,_,_,_,o,_,_,e,ex,_⟩:=I.hok p _ hk;exact ⟨o,e,ex⟩
     ·obtain ⟨_,_,_,_,o,_,_,e,ex,_⟩:=I.hok p _ hk;exact ⟨o,e,ex⟩
    obtain ⟨o,e,ex⟩:=z;refine ⟨⟨o,e,ex.1⟩,λ a e2=>?_⟩;cases e2;exact ⟨o,e,ex.2.1⟩
   ·obtain ⟨o,_,_,_,e,ex,_⟩:=I.hok p _ hk;refine ⟨⟨o,e,ex.1⟩,λ a e2=>?_⟩;cases e2;exact ⟨o,e,ex.2.1⟩
 | _=>exact False.elim ty
def IS (K:Frag) (T:String) (r:V->List V->Hp->VK->Prop) (to:TE) (t:TA):TE:=λ σ H Q=>to σ H λ x H1=>IQ K T x H1/\t σ H1 λ xs H2=>r x xs H2 Q
variable {o e:Expr}{es:List Expr}{to:TE}{t:TA}{name:Str}{apos cpos:Pos}{T id:String}{r:V->List V->Hp->VK->Prop}
theorem GF (pa:PlainAttrs T) (slot:Slot T name id) (hty:typeOf (.builtin id)=pure (.type "method_descriptor")) (hm:Jq X id r) (ho:PE X o to) (ha:PA X (e::es) t)
  (hbase:attributeBase o name X.env (eval o X.env)=eval o X.env:=by rfl)
  (hfew:((backTo cpos (starEach (e::es) X.env)).all (λ x=> !x.1)&&(backToKw cpos (keywordEach [] X.env)).all (λ x=>x.1.isSome)
   &&decide ((e::es).length+([]:List Keyword).length+(if ([]:List Keyword).isEmpty then 0 else 1)<30))=true:=by rfl)
  (hline:(apos.endLine == cpos.line)=true:=by rfl) (hs:starEach (e::es) X.env=(false,eval e X.env)::starEach es X.env:=by rfl) (hplain:(backTo cpos (starEach es X.env)).any (·.1)=false:=by rfl):
  PE X (.Call (.Attribute o name apos) (e::es) [] cpos) (IS X.K T r to t):=by
 intro pins s σ H Q I h;refine wpAny_Call_method_late hbase hfew hline rfl (cb (ho pins s σ H _ I h) λ v s1 ⟨x,H1,I1,r1,ty,q1⟩=>?_);obtain ⟨h1,h2⟩:=tI I1 r1 ty;refine ⟨T,id,pa,slot,hty,h1,h2,?_⟩;have hA:=ha cpos pins s1 σ H1 _ I1 q1;rw [hs] at hA ⊢;refine Calls.callWith_builtin (by show (false||(backTo cpos (starEach es X.env)).any (·.1))=false;rw [hplain]<;>rfl) (Calls.evalArgs_plain ?_)
 exact cb hA λ us s2 ⟨vs,H2,I2,r2,q2⟩=>hm pins s2 σ H2 x vs v us Q I2 r1 r2 q2
end
end L2
namespace L2
open PySem PySem.Spec PyProof.Rows
def MtM (X:Cx) (id:String) (r:V->List V->Hp->VK->Prop):Prop:=
 ∀(pins:List (Addr×Obj)) (s:Shared) (σ:St) (H:Hp) (x:V) (xs:List V) (v:Value) (us:List Value) (Q:VK),aD X pins σ H s->aQ x v->aU xs us->r x xs H Q->
  wpAny (model X.prog X.w) X.A (call (.builtin id) (v::us)) (EP X pins σ Q) X.xe s
theorem aU.one:∀{x:V}{us:List Value},aU [x] us->∃u,us=[u]/\aQ x u
 | _,_,.cons r .nil=>⟨_,rfl,r⟩
theorem aU.two:∀{x y:V}{us:List Value},aU [x,y] us->∃u v,us=[u,v]/\aQ x u/\aQ y v
 | _,_,_,.cons r (.cons q .nil)=>⟨_,_,rfl,r,q⟩
theorem aU.rep {xs:List V}{us:List Value}(h:aU xs us):∀k:Nat,aU (List.replicate k xs).flatten (List.replicate k us).flatten
 | 0=>.nil
 | k+1=>by rw [J1,J1,Kc,Kc];exact aU.append h (aU.rep h k)
theorem kR (its:List Value):∀(k:Nat) (acc:List Value),
  List.foldl (λ x1 x2=>x1++x2) acc.toArray (List.replicate k its.toArray)=(acc++(List.replicate k its).flatten).toArray
 | 0,acc=>by simp
 | k+1,acc=>by
   have e:acc.toArray++its.toArray=(acc++its).toArray:=by simp
   have e2:(acc++its)++(List.replicate k its).flatten=acc++(List.replicate (k+1) its).flatten:=by rw [J1,Kc,Kv]
   rw [<-e2,<-kR its k (acc++its),<-e,J1,List.foldl_cons]
section
variable {X:Cx}{pins:List (Addr×Obj)}{σ:St}{H:Hp}{s:Shared}{l b:Addr}{xs ys zs:List V}
theorem aD.lset {its its':List Value}{n:Nat}{f:Array Value->Array Value}{t':Nat}(I:aD X pins σ H s) (hH:H l=some (.lst xs))
  (e:s.heap.get? l=some {cls:=.type "list",data:=.seq its.toArray n}) (hf:f its.toArray=its'.toArray) (hv:aU ys its') (hz:ys.length<=sizeLine):
  aD X pins σ (upd H l (.lst ys)) {s with heap:=s.heap.update l (Obj.mapSeq f),toks:=t'}:=by
 have q:=PySem.IsL.update e f;rw [hf] at q;refine I.write (x:=l) (e:=l) (by rw [hH];exact trivial) (.inl rfl) (λ b' u hb hu=>(Heap.get?_update_other s.heap (Obj.mapSeq f) (Ne.symm hb)).trans hu) ⟨_,q⟩ ?_;exact ⟨hz,its',_,hv,q⟩
theorem aD.lnew {its:List Value}{t':Nat}(I:aD X pins σ H s) (hv:aU ys its) (hz:ys.length<=sizeLine):
  aD X pins σ (upd H s.heap.objs.size (.lst ys)) {s with heap:=s.heap.push {cls:=.type "list",data:=.seq its.toArray},toks:=t'}:=
 I.laid (λ _ _ q=>Heap.get?_push_of_some _ q) (KW _) ⟨hz,its,0,hv,Heap.get?_push_size _ rfl⟩
theorem aD.fresh (I:aD X pins σ H s):H s.heap.objs.size=none:=I.hok.fresh (KW _)
theorem aD.lstM (I:aD X pins σ H s) (hH:H l=some (.lst xs)):xs.length<=sizeLine/\∃(its:List Value) (n:Nat),aU xs its/\xs.length=its.length/\s.heap.get? l=some {cls:=.type "list",data:=.seq its.toArray n}:=by obtain ⟨z,its,n,r,e⟩:=I.hok l _ hH;exact ⟨z,its,n,r,r.length,e⟩
theorem iq {n:Nat}(h:n<=sizeLine):Builtin.List.listTooLong n=false:=by unfold Builtin.List.listTooLong;exact decide_eq_false (by omega)
end
section
variable {X:Cx}
def v7:V->List V->Hp->VK->Prop:=λ x vs H Q=> ∃l xs y,x=.ref l/\vs=[y]/\H l=some (.lst xs)/\xs.length<sizeLine/\Q .non (upd H l (.lst (xs++[y])))
theorem si:MtM X "list.append" v7:=by intro pins s σ H x vs v us Q I rx rv h;obtain ⟨l,xs,y,rfl,rfl,hH,hz,q⟩:=h;cases rx;obtain ⟨u,rfl,ru⟩:=rv.one;obtain ⟨z,its,n,r,hl,e⟩:=I.lstM hH;refine call_meets F.slot_list_append ⟨_,e,rfl⟩ F.entry_list_append (F.args_list_append_2 _ _) (PySem.list_append l its.toArray n u (by rw [JA];omega)) ⟨e,?_⟩;refine ⟨.non,_,I.lset (its':=its++[u]) hH e (by simp) (r.append (.cons ru .nil)) ?_,rfl,q⟩;rw [JD,Kw];omega
def v6:V->List V->Hp->VK->Prop:=λ x vs H Q=> ∃l b xs zs,x=.ref l/\vs=[.ref b]/\H l=some (.lst xs)/\H b=some (.lst zs)/\xs.length+zs.length<=sizeLine/\Q .non (upd H l (.lst (xs++zs)))
theorem CW:MtM X "list.extend" v6:=by
 intro pins s σ H x vs v us Q I rx rv h;obtain ⟨l,b,xs,zs,rfl,rfl,hH,hB,hz,q⟩:=h;cases rx;obtain ⟨u,rfl,ru⟩:=rv.one;cases ru;obtain ⟨z,its,n,r,hl,e⟩:=I.lstM hH;obtain ⟨z2,its2,n2,r2,hl2,e2⟩:=I.lstM hB;have hsz:its.toArray.size+its2.toArray.size<=sizeLine:=by rw [JA,JA];omega
 have hlong:¬(!its.toArray.isEmpty&&Builtin.List.listTooLong (its.toArray.size+its2.toArray.size))=true:=by rw [iq hsz,Lu];exact Lq
 refine call_meets F.slot_list_extend ⟨_,e,rfl⟩ F.entry_list_extend (F.args_list_extend_2 _ _)
  (AutoSeq1.list_extend_list_list_0 l its.toArray n b its2.toArray n2 hlong (by rw [JA];omega) (by omega)) ⟨e,e2,?_⟩
 refine ⟨.non,_,I.lset (its':=its++its2) hH e (by simp) (r.append r2) ?_,rfl,q⟩;rw [JD];omega
def BI:R2:=λ x y H Q=> ∃l b xs zs,x=.ref l/\y=.ref b/\H l=some (.lst xs)/\H b=some (.lst zs)/\xs.length+zs.length<=sizeLine/\∀p,H p=none->Q (.ref p) (upd H p (.lst (xs++zs)))
theorem BW:gK X (binaryOp .Add) BI:=by
 intro pins s σ H x y v u Q I rx ry h;obtain ⟨l,b,xs,zs,rfl,rfl,hH,hB,hz,q⟩:=h;cases rx;cases ry;obtain ⟨z,its,n,r,hl,e⟩:=I.lstM hH;obtain ⟨z2,its2,n2,r2,hl2,e2⟩:=I.lstM hB;refine PySem.P.add_list e e2 ?_ (by rw [JA,JA];omega);have ea:its.toArray++its2.toArray=(its++its2).toArray:=by simp
 rw [ea];exact ⟨.ref _,_,I.lnew (t':=s.toks) (r.append r2) (by rw [JD];omega),rfl,q _ I.fresh⟩
def ut:R2:=λ x y H Q=> ∃l k xs,x=.ref l/\y=.int k/\H l=some (.lst xs)/\-(2 ^ 63)<=k/\k<2 ^ 63/\xs.length*k.toNat<=sizeLine/\
 ∀p,H p=none->Q (.ref p) (upd H p (.lst (List.replicate k.toNat xs).flatten))
theorem wB {α:Type}(xs:List α) (k:Nat):(List.replicate k xs).flatten.length=k*xs.length:=by
 induction k with
 | zero=>simp
 | succ k ih=>rw [J1,Kc,JD,ih,Nat.succ_mul,Nat.add_comm]
theorem BN:gK X (binaryOp .Mult) ut:=by
 intro pins s σ H x y v u Q I rx ry h;obtain ⟨l,k,xs,rfl,rfl,hH,h1,h2,hz,q⟩:=h;cases rx;obtain ⟨t,rfl⟩:=ry;obtain ⟨z,its,n,r,hl,e⟩:=I.lstM hH;have hlen:its.toArray.size*k.toNat<=sizeLine:=by rw [JA,<-hl];exact hz
 have hcap:¬its.toArray.size*k.toNat > (2 ^ 63 - 1) / 8:=by
  have:(sizeLine:Nat)<=(2 ^ 63 - 1) / 8:=by decide
  omega
 have hfit:¬(!Builtin.List.listFitsIndex k)=true:=by rw [fitsIndex_both h1 h2];exact Lq
 have hlong:¬Builtin.List.listTooLong (its.toArray.size*k.toNat)=true:=by rw [iq hlen];exact Lq
 have hnew:List.foldl (λ x1 x2=>x1++x2) #[] (List.replicate (if its.toArray.isEmpty=true then 0 else k.toNat) its.toArray)=(List.replicate k.toNat its).flatten.toArray:=by
  have f0:∀m:Nat,List.foldl (λ x1 x2=>x1++x2) #[] (List.replicate m its.toArray)=(List.replicate m its).flatten.toArray:=λ m=>by have:=kR its m [];rw [List.nil_append] at this;exact this
  rw [f0];cases its with
  | nil=>simp
  | cons a r'=>rw [if_neg (by simp)]
 refine wpAny_binaryOp_repeat_ref (T:="list") (U:="int") (by decide) ⟨_,e,rfl⟩ (λ s'=>typeIs_int s' k t) noFill_list_mul F.fills_int_mul F.slot_int_rmul repeat_list F.slot_int_index.lookup
  (call_meets F.slot_int_rmul (typeIs_int s k t) F.entry_int_rmul (F.args_int_rmul_2 _ _) (int___rmul___int_list k t l its.toArray n)
   ⟨e,rfl,⟨_,e,rfl⟩,call_meets F.slot_list_mul ⟨_,e,rfl⟩ F.entry_list_mul (F.args_list_mul_2 _ _) (AutoListH.list___mul___list_int_3 l its.toArray n k t hfit hcap hlong) ⟨e,?_⟩⟩)
 rw [hnew];exact ⟨.ref _,_,I.lnew (t':=s.toks) (r.rep k.toNat) (by rw [wB,Nat.mul_comm];exact hz),rfl,q _ I.fresh⟩
end
section
variable {prog:Program}{w:World}{A:Around}{E:Value->Shared->Prop}{s:Shared}
theorem pY {a c n:Nat}(hac:a<=c) (hc:c<=n):sliceBounds (some (a:Int)) (some (c:Int)) none n=((a:Int),(c:Int),1):=by
 simp only [sliceBounds,LG];have h1:¬((a:Int)<0):=by omega
 have h2:¬((c:Int)<0):=by omega
 simp only [h1,h2,if_false,show (1:Int) > 0 by decide,if_true];congr 1
 ·omega
 ·congr 1;omega
set_option maxRecDepth 100000 in
theorem vM {l b sl:Addr}{items new:Array Value}{n n2:Nat}{vl vu:Value}{a c:Nat}{Q:Unit->Shared->Prop}
  (e:s.heap.get? l=some {cls:=.type "list",data:=.seq items n}) (e2:s.heap.get? b=some {cls:=.type "list",data:=.seq new n2}) (hne:l≠b)
  (hs:s.heap.IsSliceOf sl vl vu .none) (pl:IsPart vl (some (a:Int))) (pu:IsPart vu (some (c:Int))) (hac:a<=c) (hc:c<=items.size)
  (hsz:items.size+new.size<=sizeLine) (h:Q () {s with heap:=s.heap.update l (Obj.mapSeq λ xs=>xs.extract 0 a++new++xs.extract c xs.size)}):
  wpAny (model prog w) A (setItem (.ref l) (.ref sl) (.ref b)) Q E s:=by
 have hl:s.heap.IsList l items:=PySem.IsL.isList e;have hb:s.heap.IsList b new:=PySem.IsL.isList e2;obtain ⟨os,hos,hcs,hds⟩:=id hs;have hTs:s.TypeIs (.ref sl) "slice":=⟨os,hos,hcs⟩;have hstep:¬((rawPart none == rawInt 0)=true):=Lq;have hsame:Builtin.List.listSameRef (.ref l) (.ref b)=false:=by unfold Builtin.List.listSameRef;exact beq_eq_false_iff_ne.mpr hne
 have hmax:(max (a:Int) (c:Int)).toNat=c:=by omega
 have hz':((λ xs:Array Value=>xs.extract 0 a++new++xs.extract c xs.size) items).size<=sizeLine+1:=by simp only [Array.size_append,Array.size_extract];omega
 unfold setItem
 try with_reducible refine wpAny_holding ?_
 first | refine wpAny_bind (wpAny_pure ?_) | skip
 refine wpAny_bind (wpAny_sequenceKey hl.typeIs (by decide) ?_);refine wpAny_bind (wpAny_callSpecial?_slot (name:=Str.ofString "__setitem__") hl.typeIs slot_list_setitem
  (wpAny_call_entry slot_list_setitem hl.typeIs entry_list_setitem ?_ (args_list_setitem _ _ _)))
 show wpAny _ _ (Builtin.List.listSubscript? (.ref sl) >>= _) _ _ s;refine wpAny_bind ?_;unfold Builtin.List.listSubscript?;refine wpAny_bind (wpAny_specialOf hTs slice_no_index ?_);simp only [Option.isNone_none,if_true];refine wpAny_pure ?_;show wpAny _ _ (typeOf (.ref sl) >>= _) _ _ s;refine wpAny_bind (wpAny_typeOf hTs ?_)
 first
  | rw [if_neg (by decide)]
  | refine PySem.W.KFB.if_not (by decide) ?_
 rw [listSliceParts_eq];refine wpAny_bind (wpAny_bind (wpAny_field hos hds (x:=.none) rfl (wpAny_bind (wpAny_listPart .none ?_))));rw [if_neg hstep];refine wpAny_bind (wpAny_field hos hds (x:=vl) rfl (wpAny_bind (wpAny_listPart pl ?_)));refine wpAny_bind (wpAny_field hos hds (x:=vu) rfl (wpAny_bind (wpAny_listPart pu (wpAny_pure ?_))))
 first
  | simp only [hsame,Lw,if_false]
  | refine PySem.W.KFB.if_not hsame ?_
  | (dsimp only
     rw [if_neg (by rw [hsame];exact Lq)])
 refine wpAny_bind (m:=Builtin.List.listAllItems (.ref b) "must assign iterable to extended slice") ?_;unfold Builtin.List.listAllItems;refine wpAny_bind (wpAny_typeOf hb.typeIs ?_)
 first
  | refine PySem.W.KFB.if_so (by decide) ?_
  | rw [if_pos (by decide)]
  | simp only [beq_self_eq_true,Bool.true_or,if_true]
 unfold Builtin.List.listItems;refine wpAny_bind (wpAny_seqItems e2 rfl (wpAny_pure ?_));refine wpAny_bind (wpAny_bind (wpAny_seqItems e rfl (wpAny_pure ?_)));refine wpAny_bind (wpAny_of_eq ((sliceIndices_raw (some (a:Int)) (some (c:Int)) none items.size (by simp)).trans (congrArg (pure:Int×Int×Int->Sem (Int×Int×Int)) (pY hac hc))) ?_);show wpAny _ _ (if ((1:Int) == 1)=true then _ else _) _ _ s;rw [if_pos (by decide)];refine wpAny_bind (wpAny_rule ?_)
 first
  | simp only [iq hsz,Lw,if_false]
  | refine PySem.W.KFB.if_not (iq hsz) ?_
 first | refine wpAny_bind (wpAny_pure ?_) | skip
 show wpAny _ _ (updateSeq l (λ xs=>xs.extract 0 ((a:Int)).toNat++new++xs.extract (max (a:Int) (c:Int)).toNat xs.size) >>= _) _ _ s;rw [hmax,Ln];refine wpAny_bind (wpAny_updateSeq (hz:=KZ (Le _ _) hsz) (_hz':=hz') e rfl ?_);refine wpAny_bind (wpAny_letGo ?_)
 first
  | exact wpAny_bind (wpAny_pure (wpAny_pure ⟨.none,rfl,wpAny_pure h⟩))
  | exact wpAny_pure ⟨.none,rfl,wpAny_pure h⟩
end
section
variable {X:Cx}
end
end L2
namespace L2
open PySem PySem.Spec PyProof.Rows
section
variable {κ:Type} [DecidableEq κ]
def jW (kvs:List (κ×V)) (k:κ):Option V:=(kvs.find? λ kv=>decide (kv.1=k)).map (·.2)
def j1 (kvs:List (κ×V)) (k:κ) (v:V):List (κ×V):=
 if (kvs.any λ kv=>decide (kv.1=k))=true then kvs.map (λ kv=>if kv.1=k then (kv.1,v) else kv) else kvs++[(k,v)]
theorem tF {p:κ×V}{r:List (κ×V)}{k:κ}(e:p.1=k):jW (p::r) k=some p.2:=by simp [jW,Kk,e]
theorem tG {p:κ×V}{r:List (κ×V)}{k:κ}(e:¬p.1=k):jW (p::r) k=jW r k:=by simp [jW,Kk,e]
theorem nQ (kvs:List (κ×V)) (k:κ) (v:V):(j1 kvs k v).length<=kvs.length+1:=by
 unfold j1;split
 ·rw [Jx];omega
 ·rw [JD,JK,Kl];omega
theorem iW.getD {o:Option V}{u:Option Value}{d:V}{d':Value}(r:iW o u) (rd:aQ d d'):aQ (o.getD d) (u.getD d'):=by
 cases o with
 | none=>cases u with
   | none=>exact rd
   | some _=>exact (show False from r).elim
 | some _=>cases u with
   | none=>exact (show False from r).elim
   | some _=>exact r
theorem KV.val {kvs:List (κ×V)}{vs:List (κ×Value)}(r:KV kvs vs) (k:κ):iW (jW kvs k) (valueAt vs k):=by
 unfold KV at r
 induction r with
 | nil=>exact True.intro
 | @cons p q ps qs h t ih=>
   obtain ⟨h1,h2⟩:=h
   by_cases e:p.1=k
   ·have e':q.1=k:=h1.symm.trans e;have b:valueAt (q::qs) k=some q.2:=by simp [valueAt,Kk,e']
    rw [tF e,b];exact h2
   ·have e':¬q.1=k:=λ z=>e (h1.trans z);have b:valueAt (q::qs) k=valueAt qs k:=by simp [valueAt,Kk,e']
    rw [tG e,b];exact ih
theorem KV.any {kvs:List (κ×V)}{vs:List (κ×Value)}(r:KV kvs vs) (k:κ):(kvs.any λ kv=>decide (kv.1=k))=vs.any λ kv=>decide (kv.1=k):=by
 unfold KV at r
 induction r with
 | nil=>rfl
 | cons h t ih=>rw [J6,J6,ih,h.1]
theorem KV.repl {kvs:List (κ×V)}{vs:List (κ×Value)}(r:KV kvs vs) (k:κ) {y:V}{u:Value}(ry:aQ y u):
  KV (kvs.map λ kv=>if kv.1=k then (kv.1,y) else kv) (vs.map λ kv=>if kv.1=k then (kv.1,u) else kv):=by
 unfold KV at r ⊢
 induction r with
 | nil=>exact .nil
 | @cons p q ps qs h t ih=>
   rw [JW,JW];refine .cons ?_ ih;obtain ⟨h1,h2⟩:=h
   by_cases e:p.1=k
   ·rw [if_pos e,if_pos (h1.symm.trans e)];exact ⟨h1,ry⟩
   ·rw [if_neg e,if_neg (λ z=>e (h1.trans z))];exact ⟨h1,h2⟩
theorem KV.put {kvs:List (κ×V)}{vs:List (κ×Value)}(r:KV kvs vs) (k:κ) {y:V}{u:Value}(ry:aQ y u):KV (j1 kvs k y) (stored vs k u):=by
 unfold j1 stored;rw [r.any k]
 by_cases e:(vs.any λ kv=>decide (kv.1=k))=true
 ·rw [if_pos e,if_pos e];exact r.repl k ry
 ·rw [if_neg e,if_neg e];exact Paired.snoc r ⟨rfl,ry⟩
end
theorem Bh {P:Program}{w:World}{k:Key}{u:Value}(r:aQ (kV k) u):(dn P w).is k u=true:=by
 cases k with
 | inl i=>obtain ⟨t,e⟩:=(show∃t,u=Value.int i t from r);subst e;exact nM P w i t
 | inr x=>obtain ⟨t,e⟩:=(show∃t,u=Value.str x t from r);subst e;exact nL P w x t
section
variable {P:Program}{w:World}{H:Hp}{h:Heap}{a:Addr}
theorem Gi {u:HO}(ok:ib P w H h) (e:Rd H a u):bD P w H h a u:=e.ok ok
theorem Hk {kvs:List (Key×V)}(ok:ib P w H h) (e:Rd H a (.dK kvs)):kvs.length<=sizeLine/\(a == sysModules)=false/\∃vs,KV kvs vs/\h.DictOf (dn P w) a vs:=
 show bD P w H h a (.dK kvs) from Gi ok e
theorem Hl {kvs:List (Key×V)}(ok:ib P w H h) (e:H a=some (.dK kvs)):kvs.length<=sizeLine/\(a == sysModules)=false/\∃vs,KV kvs vs/\h.DictOf (dn P w) a vs:=Hk ok (.inl e)
end
section
variable {X:Cx}{pins:List (Addr×Obj)}{σ:St}{H:Hp}{s:Shared}{a:Addr}{y v:V}{u r:Value}{o:Option V}{A:Around}{E:Value->Shared->Prop}
theorem aD.big (I:aD X pins σ H s):sysModules<s.heap.objs.size:=by have h:mainGlobals<s.heap.objs.size:=(I.mod.glob.keeps I.bk).lt;exact Lh (by decide) h
theorem Cu {P:Program}{w:World}{H':Hp}{h':Heap}{kvs:List (Key×V)}{vs:List (Key×Value)}(z:kvs.length<=sizeLine) (hd:(a == sysModules)=false) (rel:KV kvs vs) (dd:h'.DictOf (dn P w) a vs):
  bD P w H' h' a (.dK kvs):=⟨z,hd,vs,rel,dd⟩
end
section
variable {X:Cx}{pins:List (Addr×Obj)}{σ:St}{H:Hp}{s:Shared}{a:Addr}{kvs:List (Key×V)}{k:Key}{u:Value}{A:Around}{E:Value->Shared->Prop}
end
section
variable {X:Cx}{o i e value:Expr}{pos pos' tpos:Pos}{td ty tv:TE}
end
section
variable {X:Cx}{pos:Pos}
end
section
variable {X:Cx}{pins:List (Addr×Obj)}{σ:St}{H:Hp}{s:Shared}{a:Addr}{y d:V}{u r:Value}{o:Option V}{A:Around}{E:Value->Shared->Prop}
end
section
variable {X:Cx}{o e f:Expr}{apos cpos:Pos}{td ty tx:TE}
end
section
variable {X:Cx}{pins:List (Addr×Obj)}{σ:St}{H:Hp}{s:Shared}{a:Addr}{kvs:List (Key×V)}{A:Around}{E:Value->Shared->Prop}
end
section
variable {X:Cx}{pins:List (Addr×Obj)}{σ:St}{H:Hp}{s:Shared}{a:Addr}{y:V}{u:Value}{A:Around}{E:Value->Shared->Prop}
end
end L2
namespace Att
open PySem PySem.W PySem.Calls PyProof.Rows
theorem jg {P:Params}{h:Heap}:∀(ns:List Int) (vs:List Value),WellAll P h vs (ns.map WData.int)->IntsAre vs ns:=by
 intro ns
 induction ns with
 | nil=>
   intro vs w;rw [List.map_nil] at w;cases w;exact .nil
 | cons n ns ih=>
   intro vs w;rw [JW] at w;cases w with
   | cons a b=>
     cases a;exact .cons _ _ (ih _ b)
theorem rF {l:OpenLaw}{n:Nat}(hn:l.most=some n) {P:Params}{h:Heap}{args:List WData}{vals:List Value}
  (hpre:l.row.toRowW.claim.pre args=true) (hwl:WellAll P h vals args):
  ∃a vs ns,vals=[Value.ref a]/\args=[WData.list (ns.map WData.int)]/\h.get? a=some {cls:=.type "list",data:=.seq vs.toArray}/\IntsAre vs ns/\ns.length<=n:=by
 have hsh:WShape.hasAll [] args [.list .int]=true:=(pre_splitW hpre).1;have hc:l.pre.holds [] {args:=args}=true:=(pre_splitW hpre).2;obtain ⟨d,r,rfl,h1,h2⟩:=hasAllW_cons hsh;obtain rfl:=hasAllW_nil h2;obtain ⟨xs,rfl,h3⟩:=hasW_list h1;obtain ⟨ns,rfl⟩:=items_int h3;have hlen:ns.length<=n:=by
  unfold OpenLaw.pre at hc;have h4:(WTm.not (.lt (.lit (.int (n:Int))) (.len (.arg 0)))).holds [] {args:=[.list (ns.map .int)]}=true:=by have h4:=(holds_andW hc).1;rw [hn] at h4;exact h4
  have h5:=condW_of h4 (w_not (w_lt w_lit (w_len_list (w_arg rfl))));rw [Jx] at h5;refine Nat.le_of_not_lt λ q=>?_;have q':(n:Int)<((ns.length:Nat):Int):=by omega
  first
   | (rw [decide_eq_true q'] at h5;exact absurd h5 (by decide))
   | (simp at h5;omega)
 cases hwl with
 | cons w1 w2=>
   cases w2;cases w1 with
   | list ho hall=>exact ⟨_,_,ns,rfl,rfl,ho,jg ns _ hall,hlen⟩
theorem rS (l:OpenLaw) (args:List WData):l.row.toRowW.claim.post args (.bool true) args=true:=
 postW_of (r:=l.row.toRowW) (X:=(true == true))
  (show WShape.has [] (.bool true) .bool=true by first | rfl | decide | simp [WShape.has,WShape.arms,WShape.armsAll])
  (show (WTm.eq .res (.lit (.bool true))).value [] {args:=args,res:=some (.bool true),after:=args}=some (.bool (true == true)) from w_eq_bool (w_res rfl) w_lit) rfl
theorem attach_call {l:OpenLaw}{n:Nat}{q:Program}{loose:List Str}{XP:(Str->Option Value)->Heap->Prop}{YP:World->Heap->Prop}{d:DefRec}
  (hn:l.most=some n) (hdf:d.params.defaults=[])
  (call:∀(w:World) (s₀ s₁:Shared) (mg mb:Str->Option Value) (fa:Addr) (o:Obj) (pm cd doc:Value) (a:Addr) (vs:List Value) (ns:List Int),
   Ground q loose [] XP w s₀ mg mb s₁.heap->YP w s₁.heap->
   s₁.heap.get? fa=some o->o.data=.func (docDef d.name d.params d.body d.scope pm cd doc)->s₁.heap.CodeRec cd d.name->mg d.name=some (.ref fa)->
   s₁.heap.get? a=some {cls:=.type "list",data:=.seq vs.toArray}->IntsAre vs ns->ns.length<=n->s₁.gens= #[]->
   codeAny (model l.prog w) callerA (.call (.ref fa) ⟨[.ref a],[]⟩) (λ r s'=>r=.ok (.ret (.bool true))/\OldK s₁.heap s'.heap/\s'.os=s₁.os/\AllBare s'.gens) s₁):
  WalkO q loose XP YP l.row.toRowW d [] (λ f vs=>PySem.call f vs):=by
 intro w s₀ s₁ mg mb G Y fa o pm cd doc dV kV ho hd hcd hD hmg hg args vals as hpre hlay hrd hwl hlo;obtain rfl:dV=.none:=Dflts.none hD hdf;obtain rfl:kV=.none:=Dflts.noKw hD;obtain ⟨a,vs,ns,rfl,rfl,hobj,hints,hlen⟩:=rF hn hpre hwl;refine enter_call (codeAny_mono (call w s₀ s₁ mg mb fa o pm cd doc a vs ns G Y ho (fd_plain hd) hcd hmg hobj hints hlen hg) λ r s' hq=>?_);obtain ⟨rfl,h2,h3,h4⟩:=hq;exact ⟨.inl ⟨.bool true,.bool true,[],rfl,λ _=>rfl,.bool true,rS l _,λ _=>⟨List.Pairwise.nil,λ _ hm=>(nomatch hm)⟩⟩,h2,h3,h4⟩
section
variable {prog:Program}{w:World}{A:Around}{E:Value->Shared->Prop}{s:Shared}{K:Frag}
end
end Att
namespace L2
open PySem PySem.Spec PyProof.Rows
theorem iG:∀{vs:List Value}{ns:List Int},IntsAre vs ns->aU (ns.map V.int) vs
 | _,_,.nil=>.nil
 | _,_,.cons n t h=>.cons ⟨t,rfl⟩ (iG h)
def CP (H:Hp):Prop:= ∀b,H b=none\/∃o xs,H b=some (.frz o (.lst xs))
theorem uF {P:Program}{w:World}{K:Frag}{mg mb:Str->Option Value}{CX:rj}{k:Nat}{fa a:Addr}{fd:FuncData}{x:Str}{sp:Sp}{s₁:Shared}{vs:List Value}{ns:List Int}
  (KX:K.In s₁.heap) (hns:s₁.heap.Ns mainGlobals mg) (hb:s₁.heap.Ns builtinsNs mb) (hbb:∀x:Str,x≠"__name__"->mb x=bootBuiltins x) (hlim:s₁.heap.NoLimit) (hg:s₁.gens= #[])
  (ha:s₁.heap.get? a=some {cls:=.type "list",data:=.seq vs.toArray}) (hi:IntsAre vs ns) (hl:ns.length<=sizeLine) (hr:cz k callerA)
  (F:∀base:Heap,K.In base->base.Ns mainGlobals mg->bz P w K mg base CX k fa fd [x] sp) (hbind:∀(s:Shared) (u:Value),BindsTo s fd ⟨[u],[]⟩ [(x,u)])
  (hsp:∀H:Hp,CP H->aJ K H a (ns.map V.int)->sp [.ref a] H (λ v _=>v=.bl true) λ _ _ _=>False)
  (hCX:∀H e s',CX [] H s₁ (λ _ _ _=>False) e s'->False):
  codeAny (model P w) callerA (.call (.ref fa) ⟨[.ref a],[]⟩) (λ r s'=>r=.ok (.ret (.bool true))/\OldK s₁.heap s'.heap/\s'.os=s₁.os/\AllBare s'.gens) s₁:=by
 have rv:=iG hi;have lenV:=hi.length;have core:∀H:Hp,CP H->aJ K H a (ns.map V.int)->ib P w H s₁.heap->(∀b,H b≠none->b=a)->(H a≠none->K.lookup a=none)->
   codeAny (model P w) callerA (.call (.ref fa) ⟨[.ref a],[]⟩) (λ r s'=>r=.ok (.ret (.bool true))/\OldK s₁.heap s'.heap/\s'.os=s₁.os/\AllBare s'.gens) s₁:=by
  intro H hO hS hok hA hK;have base_of:∀{b:Addr} {o:Obj},s₁.heap.get? b=some o->H b=none->(ms s₁.heap H).get? b=some o:=λ e n=>uN e n;have noA:∀{b:Addr} {o:Obj} {es:Array DictEntry} {ep:Nat},s₁.heap.get? b=some o->o.data=.dict es ep->H b=none:=λ {b o es ep} e d=>by
   cases q:H b with
   | none=>rfl
   | some u=>
     have e':b=a:=hA b (by rw [q];simp);subst e';rw [ha] at e;cases e;have d':Data.seq vs.toArray _=Data.dict es ep:=d;cases d'
  have nsK:∀{b:Addr} {m:Str->Option Value},s₁.heap.Ns b m->(ms s₁.heap H).Ns b m:=λ {b m} ⟨o,es,ep,e,d,r⟩=>⟨o,es,ep,base_of e (noA e d),d,r⟩;have hKb:K.In (ms s₁.heap H):=λ b o e=>base_of (KX b o e) (by
   cases q:H b with
   | none=>rfl
   | some u=>
     have e':b=a:=hA b (by rw [q];simp);subst e';rw [hK (by rw [q];simp)] at e;cases e)
  have hM:Mod K mg (ms s₁.heap H):=⟨hKb,nsK hns,⟨mb,nsK hb,hbb⟩,let ⟨mc,h1,h2⟩:=hlim;⟨mc,nsK h1,h2⟩⟩;have e0:mK P w K mg (ms s₁.heap H) callerA [] s₁ H:=⟨rfl,hM,λ b o e=>wy e,Ld (sJ _ _),trivial,λ b hb=>absurd (show b∈([]:List Addr) from hb) (by simp),hok,.of_eq hg⟩;refine codeAny_mono ((F _ hKb (nsK hns)).run callerA [] s₁ H ⟨[.ref a],[]⟩ [.ref a] [.ref a] _ _ hr e0 (hbind s₁ (.ref a)) (.cons rfl .nil) (hsp H hO hS)) λ r s' h=>?_;cases r with
  | error e=>exact (hCX H e s' h).elim
  | ok fl=>
    cases fl with
    | next=>exact False.elim h
    | brk=>exact False.elim h
    | cont=>exact False.elim h
    | ret u=>
      obtain ⟨v,H',os,bare,un,hok',r',q⟩:=h;have q':v=.bl true:=q;subst q';obtain rfl:u=Value.bool true:=r';refine ⟨rfl,OldK.of_keep λ b o e=>?_,os,bare⟩;cases q:H b with
      | none=>exact un.keep b o e q (by intro z;exact absurd (show b∈([]:List Addr) from z) (by simp)) (by simp)
      | some u=>
        rcases hO b with z | ⟨ob,xs,z⟩
        ·rw [q] at z;cases z
        ·have z2:=un.frzs b ob _ z;obtain ⟨e1,_⟩:=hok b _ z;obtain ⟨e2,_⟩:=hok' b _ z2;rw [e] at e1;cases e1;exact e2
 cases hk:K.lookup a with
 | some o=>
   have e:=KX a o hk;rw [ha] at e;cases e;refine core (λ _=>none) (λ _=>.inl rfl) (.inr ⟨_,vs.toArray,_,hk,rfl,rfl,rfl,by rw [JA,lenV];exact hl,by simpa using rv⟩) (λ b u z=>by have z':(none:Option HO)=some u:=z;cases z') (λ b z=>absurd rfl z) λ z=>absurd rfl z
 | none=>
   refine core (λ b=>if b=a then some (.frz {cls:=.type "list",data:=.seq vs.toArray} (.lst (ns.map V.int))) else none) (λ b=>?_) (.inl (.inr ⟨{cls:=.type "list",data:=.seq vs.toArray},if_pos rfl⟩)) (λ b u z=>?_) (λ b z=>?_) λ _=>hk
   ·by_cases hb:b=a
    ·exact .inr ⟨_,_,if_pos hb⟩
    ·exact .inl (if_neg hb)
   ·by_cases hb:b=a
    ·have z':=(if_pos hb).symm.trans z;cases z';subst hb;exact ⟨ha,by rw [Jx];exact hl,vs,_,rv,ha⟩
    ·have z':=(if_neg hb).symm.trans z;cases z'
   ·by_cases hb:b=a
    ·exact hb
    ·exact absurd (if_neg hb) z
end L2
namespace L2
open PySem PySem.Spec PyProof.Rows
theorem vR {l:PySem.W.OpenLaw}{n k:Nat}{q:Program}{loose:List Str}{XP:(Str->Option Value)->Heap->Prop}{YP:World->Heap->Prop}{d:DefRec}{K:Params->Frag}{CX:World->rj}{sp:World->Sp}{x:Str}
  (hn:l.most=some n) (hn2:n<=sizeLine) (hdf:d.params.defaults=[]) (hr:cz k callerA)
  (hY:∀(w:World) (h:Heap),YP w h->(K w.params).In h)
  (F:∀(w:World) (mg:Str->Option Value) (fa:Addr) (h:Heap),(K w.params).In h->h.Ns mainGlobals mg->mg d.name=some (.ref fa)->
   ∃fd:FuncData,(∀(s:Shared) (u:Value),BindsTo s fd ⟨[u],[]⟩ [(x,u)])/\
    ∀base:Heap,(K w.params).In base->base.Ns mainGlobals mg->bz l.prog w (K w.params) mg base (CX w) k fa fd [x] (sp w))
  (hsp:∀(w:World) (H:Hp) (a:Addr) (ns:List Int),ns.length<=n->CP H->aJ (K w.params) H a (ns.map V.int)->sp w [.ref a] H (λ v _=>v=.bl true) λ _ _ _=>False)
  (hCX:∀(w:World) (H:Hp) (s:Shared) (e:Value) (s':Shared),CX w [] H s (λ _ _ _=>False) e s'->False):
  PySem.W.WalkO q loose XP YP l.row.toRowW d [] (λ f vs=>PySem.call f vs):=by
 refine Att.attach_call hn hdf λ w s₀ s₁ mg mb fa o pm cd doc a vs ns G Y ho hd hcd hmg hobj hints hlen hg=>?_;have KX:=hY w _ Y;obtain ⟨fd,hb,hF⟩:=F w mg fa _ KX G.T.g hmg;exact uF KX G.T.g G.T.b G.T.builtins G.T.nolimit hg hobj hints (KZ hlen hn2) hr hF hb (λ H hO hS=>hsp w H a ns hlen hO hS) λ H e s'=>hCX w H s₁ e s'
end L2
namespace L2
open PySem PySem.Spec PyProof.Rows
def eA (s:Stmt) (j:Nat):Stmt:=match s with
 | .ClassDef _ _ _ body _ _ _ _ _ _ _=>body.getD j (.Pass ⟨0,0,0,0⟩)
 | _=>.Pass ⟨0,0,0,0⟩
def eY (s:Stmt):Arguments:=match s with
 | .FunctionDef _ a _ _ _ _ _ _ _ _=>a
 | _=>{posonlyargs:=[],args:=[],vararg:=none,kwonlyargs:=[],kw_defaults:=[],kwarg:=none,defaults:=[]}
def dt (s:Stmt):List Stmt:=match s with
 | .FunctionDef _ _ b _ _ _ _ _ _ _=>b
 | _=>[]
def am (s:Stmt):Scope:=match s with
 | .FunctionDef _ _ _ _ _ _ sc _ _ _=>sc
 | _=>{kind:=.function,names:=[],isGenerator:=false,isCoroutine:=false}
abbrev eP:rj:=λ _ _ _ _ _ _=>False
abbrev E0:XK:=λ _ _ _=>False
theorem uB {X:Cx}:jV eP X E0:=λ _ _ _ _ _ _ _ h=>h.elim
structure ce (K:Frag) (x qual:Str) (st:Stmt) (f:Addr) (fd:FuncData):Prop where
 ex:∃(oc:Value) (od:Option Addr) (kV doc pm:Value) (an:Option Addr) (cdv ct:Value) (osl:Array (Option Value)),
  fd=LR x qual (eY st) (dt st) (am st) .none kV doc pm an cdv ct/\K.lookup f=some ⟨oc,od,.func fd,osl⟩/\Mb K cdv qual=true
 kp:LP K (.ref f)=true
section
variable {P:Program}{w:World}{K:Frag}{mg:Str->Option Value}{base:Heap}
theorem ce.ok {x qual:Str}{st:Stmt}{f:Addr}{fd:FuncData}{N ps:List Str}{k:Nat}{sp:Sp}(F:ce K x qual st f fd) (S:aH N ps (am st)) (len:∀vs H Q E,sp vs H Q E->vs.length=ps.length)
  (hbody:∀(cdv:Value) (A:Around) (outer:List Env) (s:Shared) (H:Hp) (vs:List V) (Q:VK) (E:XK),cz k (A.deeper (envOfC qual (am st) s.heap.objs.size f cdv))->sp vs H Q E->
   ∃t,mI (iy eP P w K mg base N qual (am st) f cdv A outer s H E).nox (dt st) t/\t {nx:=λ _ H'=>Q .non H',rt:=Q} (fA N vs) H):bz P w K mg base eP (k+1) f fd ps sp:=by
 obtain ⟨oc,od,kV,doc,pm,an,cdv,ct,osl,rfl,lk,hcd⟩:=F.ex;refine Bi lk hcd S len λ A outer s H vs Q E hr hsp=>?_;obtain ⟨t,h,q⟩:=hbody cdv A outer s H vs Q E hr hsp;exact ⟨t,h.nox,q⟩
theorem ce.binds {x qual:Str}{st:Stmt}{f:Addr}{fd:FuncData}{ps:List Str}(F:ce K x qual st f fd)
  (h:∀(kV doc pm:Value) (an:Option Addr) (cdv ct:Value) (us:List Value),us.length=ps.length->bindArgs (LR x qual (eY st) (dt st) (am st) .none kV doc pm an cdv ct) ⟨us,[]⟩=pure (ps.zip us)):fg K fd ps []:=by
 obtain ⟨oc,od,kV,doc,pm,an,cdv,ct,osl,rfl,lk,hcd⟩:=F.ex;exact .all (h kV doc pm an cdv ct)
theorem aZ {x qual:Str}{st:Stmt}{f:Addr}{oc:Value}{od an:Option Addr}{osl:Array (Option Value)}{kV doc pm cdv ct:Value}(l:K.lookup f=some ⟨oc,od,.func (LR x qual (eY st) (dt st) (am st) .none kV doc pm an cdv ct),osl⟩)
  (c:Mb K cdv qual=true) (k:LP K (.ref f)=true):ce K x qual st f (LR x qual (eY st) (dt st) (am st) .none kV doc pm an cdv ct):=⟨⟨oc,od,kV,doc,pm,an,cdv,ct,osl,rfl,l,c⟩,k⟩
end
section
variable {X:Cx}
end
theorem jK {A B:Prop}(h:B):if false=true then A else B:=by rw [if_neg Lq];exact h
theorem jf {A B:Prop}(h:A):if true=true then A else B:=by rw [if_pos rfl];exact h
def ah (H H':Hp):Prop:= ∀b o,H b=some o->H' b=some o
theorem ah.refl (H:Hp):ah H H:=λ _ _ h=>h
theorem ah.trans {H H1 H2:Hp}(a:ah H H1) (b:ah H1 H2):ah H H2:=λ c o h=>b c o (a c o h)
theorem ah.free {H H':Hp}(e:ah H H') {l:Addr}(h:H' l=Option.none):H l=Option.none:=by
 cases q:H l with
 | none=>rfl
 | some o=>
   rw [e l o q] at h;cases h
theorem ah.seq {K:Frag}{H H':Hp}{a:Addr}{xs:List V}(e:ah H H') (h:aJ K H a xs):aJ K H' a xs:=by
 rcases h with (h | ⟨o,h⟩) | h
 ·exact .inl (.inl (e _ _ h))
 ·exact .inl (.inr ⟨o,e _ _ h⟩)
 ·exact .inr h
section
variable {κ:Type} [DecidableEq κ]
end
end L2
namespace L2
open PySem PySem.Spec PyProof.Rows
def iA (env:Env):List (Str×NameKind)->List (Str×Addr)->List (Str×Addr)
 | [],cs=>cs
 | (n,k)::r,cs=>iA env r (if k == .free then (match env.cells.lookup n with | some a=>(n,a)::cs | none=>cs) else cs)
theorem fm (env:Env):∀(l:List (Str×NameKind)) (cs:List (Str×Addr)),(∀x∈l,x.2=.free->∃c,env.cells.lookup x.1=some c)->
  (forIn l cs λ (x:Str×NameKind) r=>if (x.2 == NameKind.free)=true then do let a<-cellOf env x.1;pure (ForInStep.yield ((x.1,a)::r)) else pure (ForInStep.yield r):Sem (List (Str×Addr)))=pure (iA env l cs)
 | [],cs,_=>rfl
 | (n,k)::r,cs,h=>by
   have hr:∀x∈r,x.2=.free->∃c,env.cells.lookup x.1=some c:=λ x hx=>h x (JJ _ hx);rw [List.forIn_cons,iA]
   by_cases hk:(k == NameKind.free)=true
   ·obtain ⟨c,hc⟩:=h (n,k) JI (by simpa using hk);have hc':env.cells.lookup n=some c:=hc;have e:cellOf env n=pure c:=by unfold cellOf;rw [hc']
    simp only [hk,if_true,e,pure_bind,hc'];exact fm env r _ hr
   ·simp only [hk,if_false,pure_bind];exact fm env r _ hr
theorem gS {scope:Scope}{env:Env}(h:∀x∈scope.names,x.2=.free->∃c,env.cells.lookup x.1=some c):closureFor scope env=pure (iA env scope.names []):=by have e:=fm env scope.names [] h;unfold closureFor;show (forIn scope.names ([]:List (Str×Addr)) _ >>= λ r=>pure r:Sem (List (Str×Addr)))=_;rw [bind_pure];exact e
theorem ow (env:Env):∀(l:List (Str×NameKind)) (cs:List (Str×Addr)) (x:Str) (c:Addr),cs.lookup x=some c->env.cells.lookup x=some c->(iA env l cs).lookup x=some c
 | [],_,_,_,h,_=>h
 | (n,k)::r,cs,x,c,h,e=>by
   rw [iA];refine ow env r _ x c ?_ e;split
   ·cases q:env.cells.lookup n with
    | none=>exact h
    | some a=>
      show List.lookup x ((n,a)::cs)=some c;rw [JX];cases hx:x == n with
      | false=>exact h
      | true=>
        have:x=n:=by simpa using hx
        subst this;rw [q] at e;exact e
   ·exact h
theorem jQ (env:Env):∀(l:List (Str×NameKind)) (cs:List (Str×Addr)) (x:Str) (c:Addr),(∀y d,cs.lookup y=some d->env.cells.lookup y=some d)->(iA env l cs).lookup x=some c->env.cells.lookup x=some c
 | [],cs,x,c,h,e=>h x c e
 | (n,k)::r,cs,x,c,h,e=>by
   rw [iA] at e;refine jQ env r _ x c ?_ e;intro y d q;split at q
   ·cases z:env.cells.lookup n with
    | none=>rw [z] at q;exact h y d q
    | some a=>
      rw [z] at q;have q2:List.lookup y ((n,a)::cs)=some d:=q;rw [JX] at q2;cases hx:y == n with
      | false=>rw [hx] at q2;exact h y d q2
      | true=>
        rw [hx] at q2;have hyn:y=n:=by simpa using hx
        rw [hyn,z];exact q2
   ·exact h y d q
theorem jR (env:Env):∀(l:List (Str×NameKind)) (cs:List (Str×Addr)) (x:Str) (c:Addr),(x,NameKind.free)∈l->env.cells.lookup x=some c->(iA env l cs).lookup x=some c
 | [],_,_,_,h,_=>by simp at h
 | (n,k)::r,cs,x,c,h,e=>by
   rw [iA]
   rcases Jy.mp h with h | h
   ·have h1:n=x:=(congrArg Prod.fst h).symm;have h2:k=NameKind.free:=(congrArg Prod.snd h).symm;subst h1 h2;refine ow env r _ n c ?_ e;rw [e];show List.lookup n (if (NameKind.free == NameKind.free)=true then (n,c)::cs else cs)=some c;rw [if_pos (by decide),JX];simp
   ·exact jR env r _ x c h e
theorem il (scope:Scope) (env:Env) (x:Str):(relabel scope env).names.lookup x=
  (scope.names.lookup x).map λ k=>if (k == .free&&env.scope.kind == .function&&env.kindOf x == some .cell)=true then NameKind.cell else k:=by
 show (scope.names.map λ (p:Str×NameKind)=>if (p.2 == .free&&env.scope.kind == .function&&env.kindOf p.1 == some .cell)=true then (p.1,NameKind.cell) else (p.1,p.2)).lookup x=_
 induction scope.names with
 | nil=>rfl
 | cons p r ih=>
   obtain ⟨n,k⟩:=p;rw [JW];show List.lookup x ((if (k == .free&&env.scope.kind == .function&&env.kindOf n == some .cell)=true then (n,NameKind.cell) else (n,k))::_)=_;cases hx:x == n with
   | false=>
     have e1:List.lookup x ((n,k)::r)=List.lookup x r:=by rw [JX,hx]
     rw [e1];split<;>(rw [JX,hx];exact ih)
   | true=>
     have:x=n:=by simpa using hx
     subst this;have e1:List.lookup x ((x,k)::r)=some k:=by rw [JX,hx]
     rw [e1];show _=some _;split
     ·rename_i hc;rw [JX,hx];show some NameKind.cell=some (if _ then _ else _);rw [if_pos hc]
     ·rename_i hc;rw [JX,hx];show some k=some (if _ then _ else _);rw [if_neg hc]
structure bZ (X:Cx) (N:List Str) (src:List (Option Nat)) (scope:Scope):Prop where
 kind:scope.kind=.function
 nocell:∀y∈scope.names,y.2≠.cell
 names:∀y∈scope.names,y.2=.local->scope.names.lookup y.1=some .local
 fre:∀y∈scope.names,y.2=.free->X.env.kindOf y.1=some .cell\/X.env.kindOf y.1=some .free
 len:src.length=N.length
 nd:N.Nodup
 src:∀(j i:Nat) (x:Str),N[j]? =some x->src[j]? =some (some i)->X.N[i]? =some x/\scope.names.lookup x=some .free
def pQ (dsc:Scope) (XN N:List Str) (src:List (Option Nat)) (scope:Scope):Bool:=
 decide (scope.kind=.function)&&scope.names.all (λ y=>decide (y.2≠.cell))&&scope.names.all (λ y=> !decide (y.2=.local)||decide (scope.names.lookup y.1=some .local))&&
 scope.names.all (λ y=> !decide (y.2=.free)||decide (dsc.names.lookup y.1=some .cell)||decide (dsc.names.lookup y.1=some .free))&&decide (src.length=N.length)&&decide N.Nodup&&
 (N.zip src).all λ p=>match p.2 with
  | none=>true
  | some i=>decide (XN[i]? =some p.1)&&decide (scope.names.lookup p.1=some .free)
theorem bZ.of {X:Cx}{dsc:Scope}{XN N:List Str}{src:List (Option Nat)}{scope:Scope}(he:X.env.scope=dsc) (hN:X.N=XN) (h:pQ dsc XN N src scope=true):bZ X N src scope:=by
 subst he hN;unfold pQ at h;simp only [Lr,decide_eq_true_eq,JL,Bool.or_eq_true,Ly,decide_eq_false_iff_not] at h;obtain ⟨⟨⟨⟨⟨⟨h1,h2⟩,h3⟩,h4⟩,h5⟩,h6⟩,h7⟩:=h;refine ⟨h1,h2,λ y hy e=>?_,λ y hy e=>?_,h5,h6,λ j i x e1 e2=>?_⟩
 ·rcases h3 y hy with q | q
  ·exact absurd e q
  ·exact q
 ·rcases h4 y hy with (q | q) | q
  ·exact absurd e q
  ·exact .inl q
  ·exact .inr q
 ·have hm:(x,some i)∈N.zip src:=by
   have:(N.zip src)[j]? =some (x,some i):=by rw [List.getElem?_zip_eq_some];exact ⟨e1,e2⟩
   exact JT this
  have q:=h7 _ hm;simpa using q
def cxC (X:Cx) (scope:Scope) (N:List Str) (s:Shared) (H:Hp) (ex:List Addr):Cx:=
 {X with
  N:=N
  s₀:=s
  H₀:=H
  env:=compEnvC scope (iA X.env scope.names []) s.heap.objs.size X.env
  outer:=X.stack
  ex:=ex
  fn:=λ _=>false
  pn:=[]
  xe:=λ _ _=>False}
def eX (src:List (Option Nat)) (σ:St):St:=src.map λ o=>match o with | none=>none | some i=>(σ[i]?).join
section
variable {X:Cx}{pins:List (Addr×Obj)}{σ:St}{H:Hp}{s:Shared}{N:List Str}{src:List (Option Nat)}{scope:Scope}{ex:List Addr}
theorem bZ.cells (S:bZ X N src scope) (ok:X.Ok):∀x∈scope.names,x.2=.free->∃c,X.env.cells.lookup x.1=some c:=λ x hx e=>ok.has _ (S.fre x hx e)
theorem aD.enterC (I:aD X pins σ H s) (S:bZ X N src scope) (hf:∀b∈ex,hZ X pins H b) (hlt:∀b∈ex,b<s.heap.objs.size) {h1:Heap}{m:Str->Option Value}{tk:Nat}
  (hns:h1.Ns s.heap.objs.size m) (hk:∀b o,s.heap.get? b=some o->h1.get? b=some o):aD (cxC X scope N s H ex) [] (eX src σ) H {s with heap:=h1,toks:=tk}:=by
 have neC:∀b o,s.heap.get? b=some o->b≠s.heap.objs.size:=λ b o e=>KY (Heap.lt_size e);have sub:∀x c,(iA X.env scope.names []).lookup x=some c->X.env.cells.lookup x=some c:=λ x c e=>jQ X.env _ _ x c (λ y d z=>by simp at z) e;refine ⟨⟨I.ok.mod,S.kind,I.ok.glob,I.ok.blt,KW _,λ x y c e1 e2=>I.ok.inj x y c (sub x c e1) (sub y c e2),λ x hx=>?_,λ x c z=>absurd z (by simp [cxC]),I.ok.hd,I.ok.frames,.inl rfl,λ b hb=>?_,I.bs,KZ I.ok.bsz I.sz,λ b o e hb=>?_,λ b hb hz=>?_,I.stack,I.stkFree⟩,
  rfl,I.bare,Un.kept hk,⟨m,hns,λ j x v e1 e2 e3=>?_⟩,λ x c e=>?_,I.hok.fresh (KW _),λ x c e=>I.freeC x c (sub x c e),λ p hp=>absurd (show p∈([]:List (Addr×Obj)) from hp) (by simp),I.hok.kept hk,?_⟩
 ·have hx:(relabel scope X.env).names.lookup x=some .cell\/(relabel scope X.env).names.lookup x=some .free:=hx;have hm:(x,NameKind.free)∈scope.names:=by
   rw [il] at hx;cases q:scope.names.lookup x with
   | none=>rw [q] at hx;simp at hx
   | some k=>
     have hm:=PySem.mem_of_lookup q;cases k with
     | free=>exact hm
     | cell=>exact absurd rfl (S.nocell _ hm)
     | _=>rw [q] at hx;simp at hx
  obtain ⟨c,hc⟩:=S.cells I.ok _ hm rfl;exact ⟨c,jR X.env _ _ x c hm hc⟩
 ·obtain ⟨f0,f1,f2,f3,f4,f5⟩:=hf b hb;exact ⟨KY (hlt b hb),λ x c e=>f4 x c (sub x c e)⟩
 ·obtain ⟨f0,f1,f2,f3,f4,f5⟩:=hf b hb
  rcases f3 with z | z
  ·exact I.ok.noex b o e z
  ·exact absurd (K0 (Heap.lt_size (I.ok.bs b o e).1) z) (La _)
 ·obtain ⟨f0,f1,f2,f3,f4,f5⟩:=hf b hb
  rcases Jy.mp (I.stkSub b hz) with z | z
  ·exact f1 z
  ·exact f2 z
 ·have e2:(eX src σ)[j]? =some (some v):=e2;unfold eX at e2;rw [JO] at e2;cases q:src[j]? with
  | none=>rw [q] at e2;simp at e2
  | some o=>
    rw [q] at e2;cases o with
    | none=>simp at e2
    | some i=>
      have e2:(σ[i]?).join=some v:=by simpa using e2
      have e2:σ[i]? =some (some v):=by
       cases z:σ[i]? with
       | none=>rw [z] at e2;simp at e2
       | some w=>rw [z] at e2;simp at e2;rw [e2]
      obtain ⟨hX,hfr⟩:=S.src j i x e1 q;have hm:=PySem.mem_of_lookup hfr;have hk2:=S.fre _ hm rfl;obtain ⟨mX,hnX,hl⟩:=I.loc;have hvis:HB X.env.scope x:=.inr hk2;obtain ⟨u,r,l⟩:=hl i x v hX e2 hvis;refine ⟨u,r,?_⟩
      rcases l with ⟨l1,_⟩ | ⟨_,c,hc,hcell⟩
      ·rcases hk2 with z | z
       ·have:X.env.kindOf x=some .cell:=z;rw [l1] at this;cases this
       ·have:X.env.kindOf x=some .free:=z;rw [l1] at this;cases this
      ·refine .inr ⟨?_,c,jR X.env _ _ x c hm hc,?_⟩
       ·show (relabel scope X.env).names.lookup x=some .cell\/(relabel scope X.env).names.lookup x=some .free;rw [il,hfr]
        by_cases hcc:(NameKind.free == .free&&X.env.scope.kind == .function&&X.env.kindOf x == some .cell)=true
        ·left
         show some (if _ then _ else _)=_;rw [if_pos hcc]
        ·right
         show some (if _ then _ else _)=_;rw [if_neg hcc]
       ·exact hcell.keeps hk
 ·obtain ⟨v,z⟩:=I.cell x c (sub x c e);exact ⟨v,z.keeps hk⟩
 ·show (eX src σ).length=N.length;unfold eX;rw [Jx];exact S.len
end
def oE (X:Cx) (ifs:List Expr) (t:TT):Prop:=
 ∀(pins:List (Addr×Obj)) (s:Shared) (σ:St) (H:Hp) (Q:Bool->Hp->Prop),aD X pins σ H s->t σ H Q->
  wpAny (model X.prog X.w) X.A (forIn ifs true λ c r=>if r=true then do let ok<-isTrue c X.env (eval c X.env);pure (ForInStep.yield ok) else pure (ForInStep.yield r)) (TP X pins σ Q) X.xe s
def ky:TT:=λ _ H Q=>Q true H
theorem cu {X:Cx}:oE X [] ky:=λ _ _ _ H _ I h=>wpAny_tests_nil ⟨H,I,h⟩
theorem eK {X:Cx}{c:Expr}{t:TT}(h:PT X c t):oE X [c] t:=λ pins s σ H Q I hw=>wpAny_tests_one (h pins s σ H Q I hw)
def fK (g:TG) (tt:TT) (te:TE) (src:List (Option Nat)) (σ:St) (Q:VK) (J:It) (H1:Hp):Prop:=
 ∃W:Nat->Nat->List V->St->Hp->Prop,(∃m,W 0 m [] (eX src σ) H1)/\∀i m ys σ' H',W i m ys σ' H'->
  (J.stop i H'/\∀p,H' p=none->Q (.ref p) (upd H' p (.lst ys)))\/
  (J.go i H'/\ys.length<sizeLine/\∀x H2,J.yld i H' x H2->g x σ' H2 λ σ3 H3=>tt σ3 H3 λ b H4=>
   if b=true then te σ3 H4 λ v H5=> ∃m',m'<m/\W (i+1) m' (ys++[v]) σ3 H5 else∃m',m'<m/\W (i+1) m' ys σ3 H4)
def tComp (wi:TI) (g:TG) (tt:TT) (te:TE) (src:List (Option Nat)):TE:=λ σ H Q=>wi σ H (fK g tt te src σ Q)
def ri (X:Cx) (pins:List (Addr×Obj)) (σ:St) (Q:VK) (acc:Value) (C:Addr) (r:Result) (s':Shared):Prop:=
 (∃f,r=.ok f)/\∃D H',acc=.ref D/\aD X pins σ H' s'/\(∃m,s'.heap.Ns C m)/\hZ X pins H' C/\Q (.ref D) H'
theorem my {prog:Program}{w:World}{A:Around}{R:Result->Shared->Prop}{s:Shared}{elt target iter:Expr}{ifs:List Expr}{scope:Scope}{pos:Pos}{it acc:Value}{env:Env}(I:Nat->Shared->Prop)
  (turn:∀n s,I n s->wpAny (model prog w) A (pyNext it) (λ r s₁=>match r with
   | none=>R (.ok .next) s₁
   | some v=>wpAny (model prog w) A (letOwnedTupleGo target it v) (λ _ s₂=>wpAny (model prog w) A (assign target env v) (λ _ s₃=>
     wpAny (model prog w) A (forIn ifs true λ c r=>if r=true then do let ok<-isTrue c env (eval c env);pure (ForInStep.yield ok) else pure (ForInStep.yield r)) (λ ok s₄=>
      if ok=true then wpAny (model prog w) A (eval elt env) (λ x s₅=>wpAny (model prog w) A (call (.builtin "list.append") [acc,x]) (λ _ s₆=> ∃m,m<n/\I m s₆) (λ _ _=>False) s₅) (λ _ _=>False) s₄
      else∃m,m<n/\I m s₄) (λ _ _=>False) s₃) (λ _ _=>False) s₂) (λ _ _=>False) s₁) (λ _ _=>False) s)
  (n:Nat) (h:I n s):codeAny (model prog w) A (.compLoop (.ListComp elt [⟨target,iter,ifs,0⟩] scope pos) 0 it acc env) R s:=by
 refine codeAny_loop rfl I (λ n s hI=>?_) n h;show wpAny _ A ((compTurn (.ListComp elt [⟨target,iter,ifs,0⟩] scope pos) 0 it acc env).onRaise (λ x=>do noteFrame x env;theTreesLotGoes x)) _ _ s;refine wpAny_noted ?_;rw [compTurn_list];refine wpAny_bind (wpAny_standAt (wpAny_bind (wpAny_mono (turn n s hI) (λ r s₁ h₁=>?_) λ _ _ f=>f.elim)));cases r with
 | none=>exact wpAny_pure h₁
 | some v=>
   refine wpAny_bind (wpAny_mono h₁ (λ _ s₂ h₂=>?_) λ _ _ f=>f.elim);refine wpAny_bind (wpAny_mono h₂ (λ _ s₃ h₃=>wpAny_bind (wpAny_mono h₃ (λ ok s₄ h₄=>?_) λ _ _ f=>f.elim)) λ _ _ f=>f.elim);cases ok with
   | false=>exact wpAny_pure ⟨rfl,h₄⟩
   | true=>
     exact wpAny_bind (wpAny_bind (wpAny_mono h₄ (λ x s₅ h₅=>wpAny_bind (wpAny_mono h₅ (λ _ s₆ h₆=>wpAny_pure (wpAny_pure ⟨rfl,h₆⟩)) λ _ _ f=>f.elim)) λ _ _ f=>f.elim))
abbrev gL (us:List Value) (k:Nat):Obj:={cls:=.type "list",data:=.seq us.toArray k}
section
variable {X:Cx}{N:List Str}{src:List (Option Nat)}{scope:Scope}{elt tg iter:Expr}{ifs:List Expr}{pos:Pos}{wi:TI}{g:TG}{tt:TT}{te:TE}
theorem on (hc:X.calm=true) (S:bZ X N src scope) (hg:∀s H ex,PG (cxC X scope N s H ex) tg g) (ht:∀s H ex,oE (cxC X scope N s H ex) ifs tt) (he:∀s H ex,PE (cxC X scope N s H ex) elt te)
  {pins:List (Addr×Obj)} {σ:St} {Q:VK} {itv:Value} {s2:Shared} {E:Value->Shared->Prop} (h:Jp X pins σ tg (fK g tt te src σ Q) itv s2):
  wpAny (model X.prog X.w) X.A (newList []) (λ acc s₃=>wpAny (model X.prog X.w) X.A (newFunctionEnv scope X.env.globals (iA X.env scope.names []) [] X.env.qual none .none (some X.env)) (λ cenv s₄=>
   codeAny (model X.prog X.w) X.A (.compStart (.ListComp elt [⟨tg,iter,ifs,0⟩] scope pos) 0 itv acc {cenv with scope:=relabel scope X.env}) (ri X pins σ Q acc cenv.locals) s₄) E s₃) E s2:=by
 obtain ⟨it,fp,tn,J,H1,e,I2,T,st2,f2,W,⟨m0,w0⟩,turn⟩:=h;subst e;refine wpAny_newObj_type (wpAny_newFunctionEnv S.nocell (by intro y hy;simp at hy) (λ h₁ hns₁ hsb₁=>?_) S.kind);dsimp only at hns₁ hsb₁ ⊢;generalize hH2:s2.heap.push {cls:=.type "list",dict:=none,data:=.seq ([]:List Value).toArray}=H2 at hns₁ hsb₁ ⊢;have hC:H2.objs.size=s2.heap.objs.size+1:=by rw [<-hH2,Heap.size_push]
 have push:∀b o,s2.heap.get? b=some o->H2.get? b=some o:=λ b o e=>hH2▸Heap.get?_push_of_some _ e;have hD2:H2.get? s2.heap.objs.size=some (gL [] 0):=hH2▸Heap.get?_push_size _ rfl;have hk:∀b o,H2.get? b=some o->h₁.get? b=some o:=λ b o e=>hsb₁.extBut b o (KY (Heap.lt_size e)) (Heap.get?_push_of_some _ e);generalize hD:s2.heap.objs.size=D at*;have I3:aD X pins σ H1 {s2 with heap:=H2}:=I2.kept (t':=s2.toks) push;have fD:hZ X pins H1 D:=I2.fpOk (Ld hD) (I2.hok.fresh (Ld hD));have fpl:∀b∈fp,b<D:=λ b hb=>by obtain ⟨o,e,_⟩:=T.obj _ _ st2 b hb;rw [<-hD];exact Heap.lt_size e
 have fex:∀b∈D::fp,hZ X pins H1 b:=λ b hb=>by
  rcases Jy.mp hb with z | z
  ·rw [z];exact fD
  ·exact f2 b z
 have lex:∀b∈D::fp,b<({s2 with heap:=H2}:Shared).heap.objs.size:=λ b hb=>by
  show b<H2.objs.size
  rcases Jy.mp hb with z | z
  ·rw [z,hC];exact Lg _
  ·rw [hC];exact Li (fpl b z)
 have I4:=I3.enterC (N:=N) S fex lex (h1:=h₁) (tk:=s2.toks+([]:List (Str×Value)).length) hns₁ hk;generalize hY:cxC X scope N {s2 with heap:=H2} H1 (D::fp)=Y at*;have yP:Y.prog=X.prog:=by rw [<-hY];rfl
 have yw:Y.w=X.w:=by rw [<-hY];rfl
 have yA:Y.A=X.A:=by rw [<-hY];rfl
 have yC:Y.env.locals=H2.objs.size:=by rw [<-hY];rfl
 have yK:Y.K=X.K:=by rw [<-hY];rfl
 have yc:Y.calm=true:=by rw [<-hY];exact hc
 have yfs:Y.fs=ia X.stack:=by rw [<-hY];rfl
 have yex:Y.ex=D::fp:=by rw [<-hY];rfl
 have ypn:Y.pn=[]:=by rw [<-hY];rfl
 have yxe:Y.xe=λ _ _=>False:=by rw [<-hY];rfl
 have ycl:∀x c,Y.env.cells.lookup x=some c->X.env.cells.lookup x=some c:=by rw [<-hY];exact λ x c e=>jQ X.env _ _ x c (λ y d z=>by simp at z) e
 have ye:Y.env=compEnvC scope (iA X.env scope.names []) H2.objs.size X.env:=by rw [<-hY];rfl
 have ys0:Y.s₀={s2 with heap:=H2}:=by rw [<-hY];rfl
 have yH0:Y.H₀=H1:=by rw [<-hY];rfl
 have hgY:PG Y tg g:=by rw [<-hY];exact hg _ _ _
 have htY:oE Y ifs tt:=by rw [<-hY];exact ht _ _ _
 have heY:PE Y elt te:=by rw [<-hY];exact he _ _ _
 have nfs:∀b∈D::fp,b∉Y.fs:=λ b hb z=>by
  rw [yfs] at z;obtain ⟨f0,f1,f2',_⟩:=fex b hb
  rcases Jy.mp (I2.stkSub b z) with q | q
  ·exact f1 q
  ·exact f2' q
 have ncl:∀b∈D::fp,∀x c,Y.env.cells.lookup x=some c->c≠b:=λ b hb x c e=>(fex b hb).2.2.2.2.1 x c (ycl x c e);have nC:∀b∈D::fp,b≠Y.env.locals:=λ b hb=>by rw [yC];exact KY (lex b hb)
 have stat:∀{H':Hp} {us:List Value} {k:Nat},(∀b∈fp,H' b=none)->∀b∈fp,hZ Y [(D,gL us k)] H' b:=λ {H' us k} hn b hb=>
  ⟨hn b hb,nC b (JJ _ hb),nfs b (JJ _ hb),.inl (by rw [yex];exact JJ _ hb),ncl b (JJ _ hb),λ p hp=>by
   rw [ypn] at hp;have hp1:p=(D,gL us k):=by simpa using hp
   rw [hp1];exact Lb (fpl b hb)⟩
 have pinD:∀{σ':St} {H':Hp} {s':Shared} {pl:List (Addr×Obj)} {us:List Value} {k:Nat},aD Y pl σ' H' s'->s'.heap.get? D=some (gL us k)->H' D=none->aD Y [(D,gL us k)] σ' H' s':=λ {σ' H' s' pl us k} I' e n=>
  I'.pins_of λ p hp=>by
   have hp1:p=(D,gL us k):=by simpa using hp
   subst hp1;exact ⟨e,n,nC D JI,nfs D JI,λ v z=>by cases z⟩
 have I4':aD Y [(D,gL [] 0)] (eX src σ) H1 {s2 with heap:=h₁,toks:=s2.toks+([]:List (Str×Value)).length}:=pinD I4 (hk _ _ hD2) fD.1;have loop:codeAny (model X.prog X.w) X.A (.compLoop (.ListComp elt [⟨tg,iter,ifs,0⟩] scope pos) 0 (.ref it) (.ref D) Y.env) (ri X pins σ Q (.ref D) H2.objs.size) {s2 with heap:=h₁,toks:=s2.toks+([]:List (Str×Value)).length}:=by
  refine my (λ n s'=> ∃i ys us k σ' H',aD Y [(D,gL us k)] σ' H' s'/\tn i s'.heap/\(∀b∈fp,H' b=none)/\aU ys us/\ys.length<=sizeLine/\W i n ys σ' H') ?_ m0
   ⟨0,[],[],0,_,H1,I4',T.keep _ _ _ st2 λ b hb o e=>hk _ _ (push b o e),λ b hb=>(f2 b hb).1,.nil,K7 _,w0⟩
  rintro n s3 ⟨i,ys,us,k,σ3,H3,I3',st3,fr3,rv,hz,w3⟩
  rcases turn i n ys σ3 H3 w3 with ⟨stop,q⟩ | ⟨go,hlen,step⟩
  ·have hd:=T.done Y yP yw yK yc i _ s3 σ3 H3 (λ _ _=>False) I3' (stat fr3) st3 stop;rw [yA] at hd;refine cb hd λ r s4 ⟨hr,I4⟩=>?_;subst hr;obtain ⟨eD,nD,_⟩:=I4.pin (D,gL us k) (by simp);have eD:s4.heap.get? D=some (gL us k):=eD;have nD:H3 D=none:=nD;have base:Un (ia X.stack) (D::fp) H1 H3 H2 s4.heap:=by have b:=I4.base;rw [yex,yH0,ys0,yfs] at b;exact b
   have hnD:∀b o,s2.heap.get? b=some o->b≠D:=λ b o e=>by rw [<-hD];exact KY (Heap.lt_size e)
   have nx:∀b o,s2.heap.get? b=some o->b∉fp->b∉D::fp:=λ b o e hb z=>(Jy.mp z).elim (hnD b o e) hb;have un:Un (ia X.stack) fp H1 (upd H3 D (.lst ys)) s2.heap s4.heap:=
    ⟨λ b o e n hb hx=>base.keep b o (push b o e) n hb (nx b o e hx),λ b o e n hb hx=>base.slot b o (push b o e) n hb (nx b o e hx),λ b o e n hx=>by rw [au (hnD b o e)];exact base.free b o (push b o e) n (nx b o e hx),
     λ b o e hx=>base.there b o (push b o e) (nx b o e hx),λ b xs e=>by rw [au (aj e fD.1)];exact base.tups b xs e,λ b o u e=>by rw [au (aj e fD.1)];exact base.frzs b o u e,
     λ b ps e=>by rw [au (aj e fD.1)];exact base.tbls b ps e⟩
   have hok:ib X.prog X.w (upd H3 D (.lst ys)) s4.heap:=λ b u e=>by
    by_cases hb:b=D
    ·subst hb;rw [ae] at e;cases e;exact ⟨hz,us,k,rv,eD⟩
    ·rw [au hb] at e;have x:=I4.hok b u e;rw [yP,yw] at x;exact x.stay (λ c v _ z=>z) (λ c z=>by rw [au (aj z nD)];exact z) λ c xs z=>by rw [au (aj z nD)];exact z
   have ho:s4.os=s2.os:=by rw [I4.os,ys0]
   have J':aD X pins σ (upd H3 D (.lst ys)) s4:=I2.call' (ch:=fp) ho un hok I4.bare λ b hb=>⟨(f2 b hb).2.2.2.1,(f2 b hb).2.1,(f2 b hb).2.2.2.2.1,(f2 b hb).2.2.2.2.2⟩;refine ⟨⟨_,rfl⟩,D,_,rfl,J',?_,?_,q D nD⟩
   ·obtain ⟨m,hm,_⟩:=I4.loc;rw [yC] at hm;exact ⟨m,hm⟩
   ·refine I2.fpOk (by rw [hC,hD];exact Lc _) ?_;rw [au (by rw [hC];exact Nat.succ_ne_self D)];have z:=I4.free;rw [yC] at z;exact z
  ·have hd:=T.item Y yP yw yK yc i _ s3 σ3 H3 (λ _ _=>False) I3' (stat fr3) st3 go;rw [yA] at hd;refine cb hd λ r s4 ⟨u,hr,h4⟩=>?_;subst hr;refine cb h4 λ _ s5 ⟨x,H5,I5,r5,y5,st5,fr5⟩=>?_;have I5':=I5.pinned (stat fr5) (T.obj _ _ st5);have hg':=hgY _ s5 σ3 H5 x u _ I5' r5 (step x H5 y5);rw [yP,yw,yA,yxe] at hg';refine cb hg' λ _ s6 ⟨σ6,H6,I6,q6⟩=>?_;have ht':=htY _ s6 σ6 H6 _ I6 q6;rw [yP,yw,yA,yxe] at ht';refine cb ht' λ ok s7 ⟨H7,I7,q7⟩=>?_;have again:∀{σ8:St} {H8:Hp} {s8:Shared} {ys':List V} {us':List Value} {k' m':Nat},aD Y ([(D,gL us' k')]++fR fp s5.heap) σ8 H8 s8->aU ys' us'->ys'.length<=sizeLine->m'<n->W (i+1) m' ys' σ8 H8->
     ∃m,m<n/\∃i ys us k σ' H',aD Y [(D,gL us k)] σ' H' s8/\tn i s8.heap/\(∀b∈fp,H' b=none)/\aU ys us/\ys.length<=sizeLine/\W i m ys σ' H':=λ {σ8 H8 s8 ys' us' k' m'} I8 rv' hz' hm w8=>by
    refine ⟨m',hm,i+1,ys',us',k',σ8,H8,I8.unpinned,T.keep _ _ _ st5 λ b hb o e=>(I8.pin (b,o) (JF _ (JF _ (eN hb e)))).1,λ b hb=>?_,rv',hz',w8⟩;obtain ⟨o,e,d⟩:=T.obj _ _ st5 b hb;exact (I8.pin (b,o) (JF _ (JF _ (eN hb e)))).2.1
   cases ok with
   | false=>
     obtain ⟨m',hm,w8⟩:=q7;exact again I7 rv hz hm w8
   | true=>
     rw [if_pos rfl];have he':=heY _ s7 σ6 H7 _ I7 q7;rw [yP,yw,yA,yxe] at he';refine cb he' λ u8 s8 ⟨v,H8,I8,r8,m',hm,w8⟩=>?_;obtain ⟨eD,nD,_⟩:=I8.pin (D,gL us k) (by simp);have eD:s8.heap.get? D=some (gL us k):=eD;have nD:H8 D=none:=nD;have hl:=rv.length;refine call_meets F.slot_list_append ⟨_,eD,rfl⟩ F.entry_list_append (F.args_list_append_2 _ _) (PySem.list_append D us.toArray k u8 (by rw [JA];omega)) ⟨eD,?_⟩;have q:=PySem.IsL.update eD (λ a=>a.push u8);have eu:us.toArray.push u8=(us++[u8]).toArray:=by simp
     rw [eu] at q;obtain ⟨k',q⟩:∃k',(s8.heap.update D (Obj.mapSeq λ a=>a.push u8)).get? D=some (gL (us++[u8]) k'):=⟨_,q⟩;have I8':aD Y (fR fp s5.heap) σ6 H8 s8:=I8.pins_of λ p hp=>I8.pin p (JF _ (JF _ hp));have I9:aD Y (fR fp s5.heap) σ6 H8 {s8 with heap:=s8.heap.update D (Obj.mapSeq λ a=>a.push u8)}:=I8'.turned (it:=D) (t':=s8.toks) (λ b o hb e=>(Heap.get?_update_other s8.heap _ (Ne.symm hb)).trans e) nD (nC D JI)
      (.inl (by rw [yex];exact JI)) (ncl D JI) λ p hp=>by
       rw [ypn] at hp;have hp:p∈fR fp s5.heap:=by simpa using hp
       exact KY (fpl _ (kJ hp).1)
     refine again (us':=us++[u8]) (ys':=ys++[v]) (m':=m') (k':=k') (I9.pins_of λ p hp=>?_) (rv.append (.cons r8 .nil)) (by rw [JD,Kw];omega) hm w8
     rcases JG.mp hp with z | z
     ·have hp1:p=(D,gL (us++[u8]) k'):=by simpa using z
      subst hp1;exact ⟨q,nD,nC D JI,nfs D JI,λ v z=>by cases z⟩
     ·exact I9.pin p (JF _ z)
 rw [ye] at loop;exact codeAny_compStart_list loop (T.self _ 0 _ _ _ (T.keep _ _ _ st2 λ b hb o e=>hk _ _ (push b o e)) loop)
theorem wf (hc:X.calm=true) (S:bZ X N src scope) (hi:PI X tg iter wi) (hg:∀s H ex,PG (cxC X scope N s H ex) tg g) (ht:∀s H ex,oE (cxC X scope N s H ex) ifs tt) (he:∀s H ex,PE (cxC X scope N s H ex) elt te)
  (hs:∀x,foldedSetIterable iter X.env x=pure x:=by intro _;rfl):PE X (.ListComp elt [⟨tg,iter,ifs,0⟩] scope pos) (tComp wi g tt te src):=by
 intro pins s σ H Q I h;rw [eval_ListComp];refine wpAny_comprehension_free (use:=none) rfl hs (gS (S.cells I.ok)) S.kind S.names (cb (hi pins s σ H _ I h) λ v s1 h1=>cb h1 λ it s2 h2=>?_);refine cb (on hc S hg ht he h2) λ acc s3 h3=>cb h3 λ cenv s4 h4=>codeAny_mono h4 λ r s' hr=>?_;obtain ⟨⟨f,rfl⟩,D,H',rfl,J,⟨m,hm⟩,hf,q⟩:=hr;refine ⟨m,hm,λ h' sb=>?_⟩;exact ⟨.ref D,H',J.turned (t':=s'.toks) (λ b o hb e=>(sb.2 b hb).trans e) hf.1 hf.2.1 hf.2.2.2.1 hf.2.2.2.2.1 hf.2.2.2.2.2,rfl,q⟩
theorem qz {i:Nat}{y:Str}{py spos:Pos}(hc:X.calm=true) (S:bZ X N src scope) (hi:PI X tg iter wi) (hg:∀s H ex,PG (cxC X scope N s H ex) tg g) (ht:∀s H ex,oE (cxC X scope N s H ex) ifs tt) (he:∀s H ex,PE (cxC X scope N s H ex) elt te)
  (hN:X.N.Nodup) (hy:X.N[i]? =some y) (hx:C2 X.env.scope y) (hsw:swapsWith (.ListComp elt [⟨tg,iter,ifs,0⟩] scope pos) (some (.Name y py)) spos.line X.env=pure true) (hf:X.fn y=true\/X.env.scope.names.lookup y=some .local)
  (hs:∀x,foldedSetIterable iter X.env x=pure x:=by intro _;rfl):PS X (.Assign [.Name y py] (.ListComp elt [⟨tg,iter,ifs,0⟩] scope pos) spos) (tAsg (tComp wi g tt te src) (gName i)):=by
 intro pins s σ H D I h;rw [exec_Assign_Name_used _ _ _ _ hsw];refine wpAny_bind (wpAny_standAt (wpAny_bind ?_));show wpAny _ X.A (do let _<-comprehension (.ListComp elt [⟨tg,iter,ifs,0⟩] scope pos) scope X.env _ (newList []) false (eval iter X.env) (some (assign (.Name y py) X.env))) _ _ s;refine wpAny_bind (wpAny_mono (wpAny_comprehension_free (use:=some (assign (.Name y py) X.env)) (Q:=λ _ s'=>SP X pins D .next s') rfl hs (gS (S.cells I.ok)) S.kind S.names (cb (hi pins s σ H _ I h) λ v s1 h1=>cb h1 λ it s2 h2=>?_)) (λ _ s' hq=>wpAny_pure (wpAny_pure hq)) λ _ _ e=>e);refine cb (on hc S hg ht he h2) λ acc s3 h3=>cb h3 λ cenv s4 h4=>codeAny_mono h4 λ r s' hr=>?_;obtain ⟨⟨f,rfl⟩,D',H',rfl,J,⟨m,hm⟩,hfp,q⟩:=hr;show wpAny _ X.A (assign (.Name y py) X.env (.ref D')) _ _ _;refine wpAny_assign_Name (kC J hN hy hx (v:=.ref D') rfl (λ s5 I5 ⟨a,sb,ha⟩=>?_) hf);have hne:cenv.locals≠a:=by
  rcases ha with z | z
  ·rw [z];exact hfp.2.1
  ·exact Ne.symm (hfp.2.2.2.2.1 y a z)
 refine ⟨m,hm.sameBut sb hne,λ h' sb'=>?_⟩;exact ⟨_,H',I5.turned (t':=s5.toks) (λ b o hb e=>(sb'.2 b hb).trans e) hfp.1 hfp.2.1 hfp.2.2.2.1 hfp.2.2.2.2.1 hfp.2.2.2.2.2,q⟩
end
end L2
namespace L2
open PySem PySem.Spec PyProof.Rows
section
variable {X:Cx}
theorem PE.imp {e:Expr}{t t':TE}(h:PE X e t) (i:∀σ H Q,t' σ H Q->t σ H Q):PE X e t':=λ pins s σ H Q I q=>h pins s σ H Q I (i σ H Q q)
theorem bd.imp {f:Value}{r r':List V->Hp->VK->Prop}(h:bd X f r) (i:∀xs H Q,r' xs H Q->r xs H Q):bd X f r':=λ pins s σ H xs us Q I r q=>h pins s σ H xs us Q I r (i xs H Q q)
abbrev Str.tl (x:Str):List Nat:=x.cps.toList
theorem qe {x y:Str}(h:x.cps.toList=y.cps.toList):x=y:=by obtain ⟨a⟩:=x;obtain ⟨b⟩:=y;have:a=b:=Array.toList_inj.mp h;rw [this]
theorem fO (x:Str):x.length=x.cps.toList.length:=by simp [Str.length]
theorem qf (x y:Str):(x++y).cps.toList=x.cps.toList++y.cps.toList:=by show (x.cps++y.cps).toList=_;simp
theorem rZ:gK X (compareOp .LtE) (λ x y H Q=> ∃i j,x=.str i/\y=.str j/\Q (.bl (!decide (j.cps.toList<i.cps.toList))) H):=by intro pins s σ H x y v u Q I rx ry h;obtain ⟨i,j,rfl,rfl,q⟩:=h;obtain ⟨t,rfl⟩:=rx;obtain ⟨t',rfl⟩:=ry;exact PySem.P.le_str (fin_bl I q rfl)
def kj (x:Str) (lo hi:Option Int):Str:=⟨((x.cps.toList.drop (HT.sIx x.length 0 lo)).take (HT.sIx x.length x.length hi - HT.sIx x.length 0 lo)).toArray⟩
theorem qD (l:List Nat):∀(k i:Nat),i+k<=l.length->(List.range' i k).filterMap (λ m=>l[m]?)=(l.drop i).take k
 | 0,i,_=>by simp
 | k+1,i,h=>by have ih:=qD l k (i+1) (by omega);rw [List.range'_succ,Kh,JB (by omega),List.drop_eq_getElem_cons (by omega),List.take_succ_cons];show l[i]::_=_;rw [ih]
theorem uw (x:Str) (i k:Nat) (h:i+k<=x.length):((List.range k).map λ (m:Nat)=>i+m).filterMap (x.cps[·]?)=(x.cps.toList.drop i).take k:=by have hx:x.cps.toList.length=x.length:=(fO x).symm;rw [<-List.range'_eq_map_range,<-qD _ _ _ (by omega)];congr 1;funext m;rw [Array.getElem?_toList]
theorem qM (lo hi:Option Int) (n:Nat):Builtin.Str.strSliceIndices lo hi 1 n=(List.range (HT.sIx n n hi - HT.sIx n 0 lo)).map λ m=>HT.sIx n 0 lo+m:=by
 have cl:∀(v:Int) (d:Nat),max 0 (min (if v<0 then v+(n:Int) else v) (n:Int))=((HT.sIx n d (some v):Nat):Int):=λ v d=>by
  show _=(((if v<0 then (v+(n:Int)).toNat else min v.toNat n):Nat):Int)
  by_cases hv:v<0
  ·simp only [if_pos hv];omega
  ·simp only [if_neg hv];omega
 have main:∀(a b:Nat),sliceRange (a:Int) (b:Int) 1=(List.range (b - a)).map λ m=>a+m:=λ a b=>by
  have e:(if (1:Int) > 0 then (if (a:Int)<(b:Int) then ((b:Int) - a+1 - 1) / 1 else 0) else (if (a:Int) > b then ((a:Int) - b - 1 - 1) / (-1) else 0)).toNat=b - a:=by rw [if_pos (by decide)];split<;>omega
  show (List.range (if (1:Int) > 0 then (if (a:Int)<(b:Int) then ((b:Int) - a+1 - 1) / 1 else 0) else (if (a:Int) > b then ((a:Int) - b - 1 - 1) / (-1) else 0)).toNat).map (λ (k:Nat)=>((a:Int)+1*(k:Int)).toNat)=_;rw [e];apply J2;intro m _;omega
 have e1:HT.sIx n 0 none=0:=rfl;have e2:HT.sIx n n none=n:=rfl;unfold Builtin.Str.strSliceIndices;simp only [show (1:Int) > 0 by decide,if_true];cases lo with
 | none=>
   cases hi with
   | none=>exact main 0 n
   | some h=>show sliceRange ((0:Nat):Int) (max 0 (min (if h<0 then h+(n:Int) else h) (n:Int))) 1=_;rw [cl h n];exact main _ _
 | some l=>
   cases hi with
   | none=>show sliceRange (max 0 (min (if l<0 then l+(n:Int) else l) (n:Int))) (n:Int) 1=_;rw [cl l 0];exact main _ _
   | some h=>show sliceRange (max 0 (min (if l<0 then l+(n:Int) else l) (n:Int))) (max 0 (min (if h<0 then h+(n:Int) else h) (n:Int))) 1=_;rw [cl l 0,cl h n];exact main _ _
theorem rE (x:Str) (lo hi:Option Int):(⟨((Builtin.Str.strSliceIndices lo hi 1 x.length).filterMap (x.cps[·]?)).toArray⟩:Str)=kj x lo hi:=by
 unfold kj;rw [qM];have h1:=HT.sIx_le x.length 0 (K7 _) lo;have h2:=HT.sIx_le x.length x.length (KW _) hi
 by_cases h:HT.sIx x.length 0 lo<=HT.sIx x.length x.length hi
 ·rw [uw x _ _ (by omega)]
 ·have e:HT.sIx x.length x.length hi - HT.sIx x.length 0 lo=0:=by omega
  rw [e];simp
theorem kX (x:Str) (lo hi:Option Int):(kj x lo hi).cps.toList=(x.cps.toList.drop (HT.sIx x.length 0 lo)).take (HT.sIx x.length x.length hi - HT.sIx x.length 0 lo):=by unfold kj;simp
theorem vi (x:Str) (lo hi:Option Int):(kj x lo hi).length<=x.length:=by rw [fO,kX,fO x,JS,J0];omega
theorem pO {x:Str}{lo hi:Option Int}(h:(Builtin.Str.strSliceIndices lo hi 1 x.length).length=x.length):kj x lo hi=x:=by
 rw [qM,Jx,J7] at h;have h1:=HT.sIx_le x.length 0 (K7 _) lo;have h2:=HT.sIx_le x.length x.length (KW _) hi;apply qe;rw [kX]
 by_cases z:x.length=0
 ·have e:x.cps.toList=[]:=List.length_eq_zero_iff.mp (by rw [<-fO];exact z);rw [e];simp
 ·have e1:HT.sIx x.length 0 lo=0:=by omega
  rw [h,e1,Kx,Km (by rw [<-fO];exact KW _)]
def IW:V->Option Int->Option Int->Hp->VK->Prop:=λ x lo hi H Q=> ∃z,x=.str z/\z.length<=sizeLine/\Q (.str (kj z lo hi)) H
theorem nE {v:Value}{o:Option Int}(p:IsPart v o):∃q:Option (Int×Tok),v=partValue q/\q.map (·.1)=o:=by
 cases p with
 | none=>exact ⟨none,rfl,rfl⟩
 | int i t=>exact ⟨some (i,t),rfl,rfl⟩
theorem Bx:tm X IW:=by
 intro pins s σ H x v vl vu lo hi sl Q I rx hs pl pu h;obtain ⟨z,rfl,hz,q⟩:=h;obtain ⟨t,rfl⟩:=rx;obtain ⟨l,rfl,el⟩:=nE pl;obtain ⟨u,rfl,eu⟩:=nE pu;refine ⟨"str",_,F.slot_str_getitem.lookup,typeIs_str _ _ _,?_⟩;obtain ⟨o,ho,hc,hd⟩:=hs;refine wpAny_getItem_str_slice (l:=l) (u:=u) (st:=none) ⟨o,ho,hc,hd⟩ rfl ?_;unfold sliceMade slicePicked;rw [el,eu];split
 ·rename_i hw;have hw:(Builtin.Str.strSliceIndices lo hi 1 z.length).length=z.length:=by simpa using hw
  rw [pO hw] at q;exact ⟨.str z,H,I,⟨t,rfl⟩,q⟩
 ·have e:=rE z lo hi;have e':(⟨((Builtin.Str.strSliceIndices lo hi ((Option.map (·.1) (none:Option (Int×Tok))).getD 1) z.length).filterMap (z.cps[·]?)).toArray⟩:Str)=kj z lo hi:=e;rw [e'];exact ⟨KZ (vi z lo hi) hz,⟨.str _,H,I.tok _,⟨_,rfl⟩,q⟩⟩
theorem kn:bd X (.type "int") (λ xs H Q=> ∃x n,xs=[.str x]/\PySem.intText? x=some n/\x.length<=640/\Q (.int n) H):=by intro pins s σ H xs us Q I r h;obtain ⟨x,n,rfl,hn,hl,q⟩:=h;obtain ⟨u,rfl,t,rfl⟩:=eS r;exact PySem.W.KIN.call_text hn hl ⟨.int n,H,I.tok _,⟨_,rfl⟩,q⟩
theorem mO {P:Program}{w:World}{A:Around}{its:List Value}{ks:List Bool}(r:aU (ks.map V.bl) its):TruthOf P w A (λ i v=>its.toArray[i]? =some v) (λ i=>ks.getD i false):=by
 intro i v s Q E hv hq;have hv:its[i]? =some v:=by simpa using hv
 have hlen:=r.length;rw [Jx] at hlen;have hi:i<its.length:=(JQ.mp hv).1;have hk:(ks.map V.bl)[i]? =some (V.bl (ks.getD i false)):=by rw [JO,JB (by omega),JM,JB (by omega)];rfl
 obtain ⟨u,hu,ru⟩:=r.get hk;rw [hv] at hu;cases hu;cases ru;exact wpAny_truthy_bool hq
theorem rM (ks:List Bool):(List.range ks.length).all (λ i=>ks.getD i false)=ks.all id:=by
 rw [Ls,JL,JL]
 constructor
 ·intro h b hb;obtain ⟨i,hi,e⟩:=KJ.mp hb;have:=h i (J3.mpr hi);rw [JM,JB hi] at this;rw [<-e];exact this
 ·intro h i hi;have hi:=J3.mp hi;rw [JM,JB hi];exact h _ (J9 hi)
theorem vw (hc:X.calm=true):bd X (.builtin "all") (λ xs H Q=> ∃(p:Addr) (ks:List Bool),xs=[.ref p]/\aJ X.K H p (ks.map V.bl)/\Q (.bl (ks.all id)) H):=by
 intro pins s σ H xs us Q I r h;obtain ⟨p,ks,rfl,hp,q⟩:=h;obtain ⟨u,rfl,ru⟩:=eS r;cases ru;obtain ⟨its,rv,pl,hl⟩:=I.list hp;have hlen:=rv.length;rw [Jx] at hlen;refine call_all_walk (wpAny_pyIter_list pl.isList ?_);have hne:p≠s.heap.objs.size:=by obtain ⟨o,ho,_⟩:=pl.isList;exact KY (Heap.lt_size ho)
 have W:=Walks.list (prog:=X.prog) (w:=X.w) (A:=X.A.in1) (show X.A.in1.handled=none from I.ok.hd hc) s.heap.objs.size p hne its.toArray;have hpush:∀o b ob,s.heap.get? b=some ob->(s.heap.push o).get? b=some ob:=λ o b ob e=>Heap.get?_push_of_some _ e;refine ⟨_,_,_,_,_,_,λ i=>ks.getD i false,rfl,W,⟨⟨_,Heap.get?_push_size _ rfl,rfl,rfl⟩,pl.isList.at λ o e=>hpush _ _ o e⟩,mO rv,λ h' tk k=>?_⟩;have e:(List.range its.toArray.size).all (λ i=>ks.getD i false)=ks.all id:=by rw [<-rM,JA,<-hlen]
 rw [e];refine ⟨.bl _,H,I.kept (t':=tk) (h':=h') λ b ob e=>k b ob ?_ (hpush _ b ob e),rfl,q⟩;intro hb;have:b=s.heap.objs.size:=by simpa using hb
 subst this;exact absurd (Heap.lt_size e) (La _)
end
end L2
namespace L2
open PySem PySem.Spec PyProof.Rows
inductive oG (K:Frag) (H:Hp):Nat->V->V->Bool->Prop
 | flat {n:Nat} {x y:V} (hx:flatV x=true) (hy:flatV y=true):oG K H n x y (eqV x y)
 | same {n:Nat} {a:Addr}:oG K H n (.ref a) (.ref a) true
 | len {n:Nat} {a b:Addr} {xs ys:List V} (ha:aJ K H a xs) (hb:aJ K H b ys) (hab:a≠b) (hl:xs.length≠ys.length):oG K H (n+1) (.ref a) (.ref b) false
 | lst {n:Nat} {a b:Addr} {xs ys:List V} {es:Nat->Bool} (ha:aJ K H a xs) (hb:aJ K H b ys) (hab:a≠b) (hl:xs.length=ys.length)
   (he:∀i x y,xs[i]? =some x->ys[i]? =some y->oG K H n x y (es i)):oG K H (n+1) (.ref a) (.ref b) ((List.range xs.length).all es)
 | tup {n:Nat} {a b:Addr} {xs ys:List V} {es:Nat->Bool} (ha:eE K H a xs) (hb:eE K H b ys) (hab:a≠b)
   (he:∀i x y,xs[i]? =some x->ys[i]? =some y->oG K H n x y (es i)):oG K H (n+1) (.ref a) (.ref b) ((List.range (min xs.length ys.length)).all es&&xs.length == ys.length)
 | nref {n:Nat} {x:V} {a:Addr} {xs:List V} (hx:flatV x=true) (ha:aJ K H a xs\/eE K H a xs):oG K H n x (.ref a) false
 | refn {n:Nat} {x:V} {a:Addr} {xs:List V} (hx:flatV x=true) (ha:aJ K H a xs\/eE K H a xs):oG K H n (.ref a) x false
section
variable {X:Cx}{pins:List (Addr×Obj)}{σ:St}{H:Hp}{s:Shared}
theorem dX {xs:List V}{its:List Value}(r:aU xs its) {j:Nat}(h:j<its.toArray.size):∃x,xs[j]? =some x/\aQ x its.toArray[j]:=by
 have hl:=r.length;have hj:j<its.length:=by simpa using h
 have hx:xs[j]? =some (xs[j]'(by omega)):=JB (by omega);obtain ⟨u,hu,ru⟩:=r.get hx;refine ⟨_,hx,?_⟩;have e:its.toArray[j]=u:=by rw [JB hj] at hu;simpa using Option.some.inj hu
 rw [e];exact ru
theorem mx (I:aD X pins σ H s):∀{n:Nat}{x y:V}{k:Bool},oG X.K H n x y k->∀(A:Around),A.units+n<cLine->∀{u v:Value},aQ x u->aQ y v->SeqAt.EqAt A s u v k:=by
 intro n x y k h
 induction h with
 | flat hx hy=>exact λ A _ u v ru rv=>vf ru rv hx hy
 | same=>
   intro A _ u v ru rv;cases ru;cases rv;exact SeqAt.EqAt.same _
 | len ha hb hab hl=>
   intro A hu u v ru rv;cases ru;cases rv;obtain ⟨its,r1,p1,_⟩:=I.list ha;obtain ⟨its2,r2,p2,_⟩:=I.list hb;have l1:=r1.length;have l2:=r2.length;refine .of_refs hab (.lists_lengths p1.isList p2.isList (by simp;omega) (by omega))
 | @lst n a b xs ys es ha hb hab hl he ih=>
   intro A hu u v ru rv;cases ru;cases rv;obtain ⟨its,r1,p1,_⟩:=I.list ha;obtain ⟨its2,r2,p2,_⟩:=I.list hb;have l1:=r1.length;have l2:=r2.length;have e:(List.range xs.length).all es=(List.range its.toArray.size).all es:=by rw [JA,l1]
   rw [e];refine .of_refs hab (.lists p1.isList p2.isList (by simp;omega) (by omega) λ j h1 h2=>?_);obtain ⟨x,hx,rx⟩:=dX r1 h1;obtain ⟨y,hy,ry⟩:=dX r2 h2;exact ih j x y hx hy A.in1 (by show A.units+1+n<cLine;omega) rx ry
 | @tup n a b xs ys es ha hb hab he ih=>
   intro A hu u v ru rv;cases ru;cases rv;obtain ⟨its,r1,p1,_⟩:=I.tuple ha;obtain ⟨its2,r2,p2,_⟩:=I.tuple hb;have l1:=r1.length;have l2:=r2.length;have e:((List.range (min xs.length ys.length)).all es&&xs.length == ys.length)=((List.range (min its.toArray.size its2.toArray.size)).all es&&its.toArray.size == its2.toArray.size):=by rw [JA,JA,l1,l2]
   rw [e];refine .of_refs hab (.tuples (show s.heap.IsTuple a its.toArray from p1) (show s.heap.IsTuple b its2.toArray from p2) (by omega) λ j h1 h2=>?_);obtain ⟨x,hx,rx⟩:=dX r1 h1;obtain ⟨y,hy,ry⟩:=dX r2 h2;exact ih j x y hx hy A.in1 (by show A.units+1+n<cLine;omega) rx ry
 | @nref n x a xs hx ha=>
   intro A hu u v ru rv;cases rv
   rcases ha with ha | ha
   ·obtain ⟨its,r1,p1,_⟩:=I.list ha;have hl:=p1.isList;cases x with
    | non=>cases ru;exact .none_list hl (by omega)
    | bl b=>cases ru;exact .bool_list b hl (by omega)
    | int b=>obtain ⟨t,rfl⟩:=ru;exact .int_list b t hl (by omega)
    | str b=>obtain ⟨t,rfl⟩:=ru;exact .str_list b t hl (by omega)
    | _=>simp [flatV] at hx
   ·obtain ⟨its,r1,p1,_⟩:=I.tuple ha;have hl:s.heap.IsTuple a its.toArray:=p1;cases x with
    | non=>cases ru;exact .none_tuple hl (by omega)
    | bl b=>cases ru;exact .bool_tuple b hl (by omega)
    | int b=>obtain ⟨t,rfl⟩:=ru;exact .int_tuple b t hl (by omega)
    | str b=>obtain ⟨t,rfl⟩:=ru;exact .str_tuple b t hl (by omega)
    | _=>simp [flatV] at hx
 | @refn n x a xs hx ha=>
   intro A hu u v ru rv;cases ru
   rcases ha with ha | ha
   ·obtain ⟨its,r1,p1,_⟩:=I.list ha;have hl:=p1.isList;cases x with
    | non=>cases rv;exact .list_none hl (by omega)
    | bl b=>cases rv;exact .list_bool b hl (by omega)
    | int b=>obtain ⟨t,rfl⟩:=rv;exact .list_int b t hl (by omega)
    | str b=>obtain ⟨t,rfl⟩:=rv;exact .list_str b t hl (by omega)
    | _=>simp [flatV] at hx
   ·obtain ⟨its,r1,p1,_⟩:=I.tuple ha;have hl:s.heap.IsTuple a its.toArray:=p1;cases x with
    | non=>cases rv;exact .tuple_none hl (by omega)
    | bl b=>cases rv;exact .tuple_bool b hl (by omega)
    | int b=>obtain ⟨t,rfl⟩:=rv;exact .tuple_int b t hl (by omega)
    | str b=>obtain ⟨t,rfl⟩:=rv;exact .tuple_str b t hl (by omega)
    | _=>simp [flatV] at hx
end
inductive mJ (K:Frag) (H:Hp):Nat->V->V->Bool->Prop
 | len {n:Nat} {a b:Addr} {xs ys:List V} (ha:aJ K H a xs) (hb:aJ K H b ys) (hl:xs.length≠ys.length):mJ K H (n+1) (.ref a) (.ref b) false
 | lst {n:Nat} {a b:Addr} {xs ys:List V} {es:Nat->Bool} (ha:aJ K H a xs) (hb:aJ K H b ys) (hl:xs.length=ys.length)
   (he:∀i x y,xs[i]? =some x->ys[i]? =some y->oG K H n x y (es i)):mJ K H (n+1) (.ref a) (.ref b) ((List.range xs.length).all es)
 | tup {n:Nat} {a b:Addr} {xs ys:List V} {es:Nat->Bool} (ha:eE K H a xs) (hb:eE K H b ys)
   (he:∀i x y,xs[i]? =some x->ys[i]? =some y->oG K H n x y (es i)):mJ K H (n+1) (.ref a) (.ref b) ((List.range (min xs.length ys.length)).all es&&xs.length == ys.length)
section
variable {X:Cx}
theorem BV {n:Nat}(hu:X.A.units+n<cLine):gK X (compareOp .Eq) (λ x y H Q=> ∃k,mJ X.K H n x y k/\Q (.bl k) H):=by
 intro pins s σ H x y v u Q I rx ry h;obtain ⟨k,h,q⟩:=h;cases h with
 | @len n a b xs ys ha hb hl=>
   cases rx;cases ry;obtain ⟨its,r1,p1,_⟩:=I.list ha;obtain ⟨its2,r2,p2,_⟩:=I.list hb;have l1:=r1.length;have l2:=r2.length;exact SeqAt.eq_list_lengthsAt p1.isList p2.isList (by simp;omega) (by omega) (fin_bl I q rfl)
 | @lst n a b xs ys es ha hb hl he=>
   cases rx;cases ry;obtain ⟨its,r1,p1,_⟩:=I.list ha;obtain ⟨its2,r2,p2,_⟩:=I.list hb;have l1:=r1.length;have l2:=r2.length;refine SeqAt.eq_listAt (e:=es) p1.isList p2.isList (by simp;omega) (by omega) (λ j h1 h2=>?_) (fin_bl I q (by rw [JA,l1]));obtain ⟨x,hx,rx⟩:=dX r1 h1;obtain ⟨y,hy,ry⟩:=dX r2 h2;exact mx I (he j x y hx hy) X.A.in1 (by show X.A.units+1+n<cLine;omega) rx ry
 | @tup n a b xs ys es ha hb he=>
   cases rx;cases ry;obtain ⟨its,r1,p1,_⟩:=I.tuple ha;obtain ⟨its2,r2,p2,_⟩:=I.tuple hb;have l1:=r1.length;have l2:=r2.length;refine SeqAt.eq_tupleAt (e:=es) (show s.heap.IsTuple a its.toArray from p1) (show s.heap.IsTuple b its2.toArray from p2) (by omega) (λ j h1 h2=>?_) (fin_bl I q (by rw [JA,JA,l1,l2]));obtain ⟨x,hx,rx⟩:=dX r1 h1;obtain ⟨y,hy,ry⟩:=dX r2 h2;exact mx I (he j x y hx hy) X.A.in1 (by show X.A.units+1+n<cLine;omega) rx ry
theorem BP {n:Nat}(hu:X.A.units+n<cLine):gK X (compareOp .NotEq) (λ x y H Q=> ∃k,mJ X.K H n x y k/\Q (.bl (!k)) H):=by
 intro pins s σ H x y v u Q I rx ry h;obtain ⟨k,h,q⟩:=h;cases h with
 | @len n a b xs ys ha hb hl=>
   cases rx;cases ry;obtain ⟨its,r1,p1,_⟩:=I.list ha;obtain ⟨its2,r2,p2,_⟩:=I.list hb;have l1:=r1.length;have l2:=r2.length;exact EqBoolInt.of_rcne (SeqAt.RcNeAt.lists_lengths p1.isList p2.isList (by simp;omega) (by omega)) (fin_bl I q rfl)
 | @lst n a b xs ys es ha hb hl he=>
   cases rx;cases ry;obtain ⟨its,r1,p1,_⟩:=I.list ha;obtain ⟨its2,r2,p2,_⟩:=I.list hb;have l1:=r1.length;have l2:=r2.length;refine EqBoolInt.of_rcne (SeqAt.RcNeAt.lists (e:=es) p1.isList p2.isList (by simp;omega) (by omega) (λ j h1 h2=>?_)) (fin_bl I q (by rw [JA,l1]));obtain ⟨x,hx,rx⟩:=dX r1 h1;obtain ⟨y,hy,ry⟩:=dX r2 h2;exact mx I (he j x y hx hy) X.A.in1 (by show X.A.units+1+n<cLine;omega) rx ry
 | @tup n a b xs ys es ha hb he=>
   cases rx;cases ry;obtain ⟨its,r1,p1,_⟩:=I.tuple ha;obtain ⟨its2,r2,p2,_⟩:=I.tuple hb;have l1:=r1.length;have l2:=r2.length;refine EqBoolInt.of_rcne (SeqAt.RcNeAt.tuples (e:=es) (show s.heap.IsTuple a its.toArray from p1) (show s.heap.IsTuple b its2.toArray from p2) (by omega) (λ j h1 h2=>?_)) (fin_bl I q (by rw [JA,JA,l1,l2]));obtain ⟨x,hx,rx⟩:=dX r1 h1;obtain ⟨y,hy,ry⟩:=dX r2 h2;exact mx I (he j x y hx hy) X.A.in1 (by show X.A.units+1+n<cLine;omega) rx ry
end
def iB (op:Operator) (x y:V) (H:Hp) (Q:VK):Prop:=match op,x,y with
 | .Add,.int i,.int j=>Q (.int (i+j)) H
 | .Add,.str i,.str j=>i.length+j.length<=sizeLine/\Q (.str (i++j)) H
 | .Add,.ref a,.ref b=>BI (.ref a) (.ref b) H Q
 | .Sub,.int i,.int j=>Q (.int (i - j)) H
 | .Mult,.int i,.int j=>sZ i j/\Q (.int (i*j)) H
 | .FloorDiv,.int i,.int j=>xa i j/\Q (.int (i / j)) H
 | .Mod,.int i,.int j=>0<j/\Q (.int (i % j)) H
 | .Pow,.int i,.int j=>CS i j/\Q (.int (i ^ j.toNat)) H
 | _,_,_=>False
section
variable {X:Cx}{a b c:Expr}{ta tb tc:TE}{pos:Pos}
theorem BX (op:Operator):gK X (binaryOp op) (iB op):=by
 intro pins s σ H x y v u Q I rx ry h;unfold iB at h;split at h
 ·exact BY pins s σ H _ _ v u Q I rx ry ⟨_,_,rfl,rfl,h⟩
 ·exact pp pins s σ H _ _ v u Q I rx ry ⟨_,_,rfl,rfl,h.1,h.2⟩
 ·exact BW pins s σ H _ _ v u Q I rx ry h
 ·exact BM pins s σ H _ _ v u Q I rx ry ⟨_,_,rfl,rfl,h⟩
 ·exact BQ pins s σ H _ _ v u Q I rx ry ⟨_,_,rfl,rfl,h.1,h.2⟩
 ·exact wu pins s σ H _ _ v u Q I rx ry ⟨_,_,rfl,rfl,h.1,h.2⟩
 ·exact BR pins s σ H _ _ v u Q I rx ry ⟨_,_,rfl,rfl,h.1,h.2⟩
 ·exact BO pins s σ H _ _ v u Q I rx ry ⟨_,_,rfl,rfl,h.1,h.2⟩
 ·exact h.elim
def eqB:V->V->Option Bool
 | .non,.non=>some true
 | .int i,.int j=>some (decide (i=j))
 | .bl i,.bl j=>some (decide (i=j))
 | .str i,.str j=>some (decide (i=j))
 | .non,.int _=>some false | .int _,.non=>some false | .non,.bl _=>some false | .bl _,.non=>some false | .non,.str _=>some false | .str _,.non=>some false
 | .int _,.str _=>some false | .str _,.int _=>some false | .bl _,.str _=>some false | .str _,.bl _=>some false
 | _,_=>none
theorem oj {x y:V}{k:Bool}(h:eqB x y=some k):scal x y=true/\decide (x=y)=k:=by
 cases x<;>cases y<;>simp [eqB,scal] at h ⊢ <;>first | exact h | (subst h;rfl)
def aY (K:Frag) (op:CmpOp) (x y:V) (H:Hp) (Q:VK):Prop:=match op,x,y with
 | .Eq,.ref a,.ref b=> ∃k,mJ K H 20 (.ref a) (.ref b) k/\Q (.bl k) H
 | .NotEq,.ref a,.ref b=> ∃k,mJ K H 20 (.ref a) (.ref b) k/\Q (.bl (!k)) H
 | .Eq,x,y=>match eqB x y with | some k=>Q (.bl k) H | none=>False
 | .NotEq,x,y=>match eqB x y with | some k=>Q (.bl (!k)) H | none=>False
 | .Lt,.int i,.int j=>Q (.bl (decide (i<j))) H
 | .LtE,.int i,.int j=>Q (.bl (decide (i<=j))) H
 | .Gt,.int i,.int j=>Q (.bl (decide (j<i))) H
 | .GtE,.int i,.int j=>Q (.bl (decide (j<=i))) H
 | .Lt,.str i,.str j=>Q (.bl (decide (i.cps.toList<j.cps.toList))) H
 | .LtE,.str i,.str j=>Q (.bl (!decide (j.cps.toList<i.cps.toList))) H
 | .In,.str i,.str j=>Q (.bl (!(Builtin.Str.occurrences j i 0 j.length 1).isEmpty)) H
 | .NotIn,.str i,.str j=>Q (.bl (!(!(Builtin.Str.occurrences j i 0 j.length 1).isEmpty))) H
 | .In,x,.ref p=>pe K false x (.ref p) H Q
 | .NotIn,x,.ref p=>pe K true x (.ref p) H Q
 | .Is,x,.non=>Q (.bl (decide (x=.non))) H
 | .IsNot,x,.non=>Q (.bl (!decide (x=.non))) H
 | _,_,_=>False
theorem lY (op:CmpOp) (hu:X.A.units+20<cLine):gK X (compareOp op) (aY X.K op):=by
 intro pins s σ H x y v u Q I rx ry h;unfold aY at h;split at h
 ·exact BV hu pins s σ H _ _ v u Q I rx ry h
 ·exact BP hu pins s σ H _ _ v u Q I rx ry h
 ·split at h
  ·rename_i k e;obtain ⟨h1,h2⟩:=oj e;exact GL pins s σ H _ _ v u Q I rx ry ⟨h1,by rw [h2];exact h⟩
  ·exact h.elim
 ·split at h
  ·rename_i k e;obtain ⟨h1,h2⟩:=oj e;exact GG pins s σ H _ _ v u Q I rx ry ⟨h1,by rw [h2];exact h⟩
  ·exact h.elim
 ·exact GH pins s σ H _ _ v u Q I rx ry ⟨_,_,rfl,rfl,h⟩
 ·exact GI pins s σ H _ _ v u Q I rx ry ⟨_,_,rfl,rfl,h⟩
 ·exact GJ pins s σ H _ _ v u Q I rx ry ⟨_,_,rfl,rfl,h⟩
 ·exact GK pins s σ H _ _ v u Q I rx ry ⟨_,_,rfl,rfl,h⟩
 ·exact rY pins s σ H _ _ v u Q I rx ry ⟨_,_,rfl,rfl,h⟩
 ·exact rZ pins s σ H _ _ v u Q I rx ry ⟨_,_,rfl,rfl,h⟩
 ·exact r6 pins s σ H _ _ v u Q I rx ry ⟨_,_,rfl,rfl,h⟩
 ·exact lW pins s σ H _ _ v u Q I rx ry ⟨_,_,rfl,rfl,h⟩
 ·exact sh pins s σ H _ _ v u Q I rx ry h
 ·exact lX pins s σ H _ _ v u Q I rx ry h
 ·exact BS pins s σ H _ _ v u Q I rx ry ⟨rfl,h⟩
 ·exact wn pins s σ H _ _ v u Q I rx ry ⟨rfl,h⟩
 ·exact h.elim
def bP (i:Nat):TE:=λ σ H Q=>match σ[i]? with | some (some v)=>Q v H | _=>False
theorem cv (i:Nat) {x:Str}{pos:Pos}(hN:X.N[i]? =some x:=by rfl) (hv:HB X.env.scope x:=by first | exact Or.inl rfl | exact Or.inr (Or.inl rfl) | exact Or.inr (Or.inr rfl)) (hd:(x == ("__debug__":Str))=false:=by decide)
  (hcd:(x == ("__classdict__":Str))=false:=by decide):PE X (.Name x pos) (bP i):=(BL hN hv hd hcd).imp λ σ H Q h=>by
 unfold bP at h;split at h
 ·rename_i v e;exact ⟨v,e,h⟩
 ·exact h.elim
def fU (op:Operator) (ta tb:TE):TE:=λ σ H Q=>ta σ H λ x H1=>tb σ H1 λ y H2=>iB op x y H2 Q
theorem al {op:Operator}(ha:PE X a ta) (hb:PE X b tb):PE X (.BinOp a op b pos) (fU op ta tb):=uy (BX op) ha hb
def eO (K:Frag) (op:CmpOp) (ta tb:TE):TE:=λ σ H Q=>ta σ H λ x H1=>tb σ H1 λ y H2=>aY K op x y H2 Q
def dU (Q:Bool->Hp->Prop):VK:=λ x H=>match x with | .bl k=>Q k H | _=>False
theorem fL {Q:Bool->Hp->Prop}{x:V}{H:Hp}(h:dU Q x H):∃k,x=.bl k/\Q k H:=by
 unfold dU at h;split at h
 ·exact ⟨_,rfl,h⟩
 ·exact h.elim
theorem Cz {op:CmpOp}(hu:X.A.units+20<cLine) (ha:PE X a ta) (hb:PE X b tb) (hm:behindInMarks op b=false:=by first | exact mn _ | with_unfolding_all rfl):PE X (.Compare a [op] [b] pos) (eO X.K op ta tb):=wg (lY op hu) ha hb hm
def gT (t:TE):TT:=λ σ H Q=>t σ H (dU Q)
theorem Cy {op:CmpOp}(hu:X.A.units+20<cLine) (ha:PE X a ta) (hb:PE X b tb) (hm:behindInMarks op b=false:=by first | exact mn _ | with_unfolding_all rfl):PT X (.Compare a [op] [b] pos) (gT (eO X.K op ta tb)):=by
 intro pins s σ H Q I h;refine wpAny_isTrue_Compare1 (cb (ha pins s σ H _ I h) λ v s1 ⟨x,H1,I1,r1,q1⟩=>cb (hb pins s1 σ H1 _ I1 q1) λ u s2 ⟨y,H2,I2,r2,q2⟩=>
  cb (lY op hu pins s2 σ H2 x y v u _ I2 r1 r2 q2) λ c s3 ⟨z,H3,I3,r3,q3⟩=>?_) hm
 obtain ⟨k,e,q3⟩:=fL q3;subst e;cases r3;exact wpAny_truthy_bool ⟨H3,I3,q3⟩
def iT (K:Frag) (op op':CmpOp) (ta tb tc:TE):TE:=λ σ H Q=>ta σ H λ x H1=>tb σ H1 λ y H2=>aY K op x y H2 (dU λ k H3=>if k=true then tc σ H3 λ w' H4=>aY K op' y w' H4 Q else Q (.bl false) H3)
theorem vv {op op':CmpOp}(hu:X.A.units+20<cLine) (ha:PE X a ta) (hb:PE X b tb) (hc:PE X c tc) (hm:lastMarks [op,op'] [b,c]=false:=by with_unfolding_all rfl):PE X (.Compare a [op,op'] [b,c] pos) (iT X.K op op' ta tb tc):=by
 intro pins s σ H Q I h;refine Compare_chain (cb (ha pins s σ H _ I h) λ v s1 ⟨x,H1,I1,r1,q1⟩=>chain_link (cb (hb pins s1 σ H1 _ I1 q1) λ u s2 ⟨y,H2,I2,r2,q2⟩=>
  cb (lY op hu pins s2 σ H2 x y v u _ I2 r1 r2 q2) λ d s3 ⟨z,H3,I3,r3,q3⟩=>?_)) hm
 obtain ⟨k,e,q3⟩:=fL q3;subst e;cases r3;refine wpAny_truthy_bool ?_;cases k with
 | false=>exact ite_ff ⟨.bl false,H3,I3,rfl,q3⟩
 | true=>exact ite_tt (chain_last (cb (hc pins s3 σ H3 _ I3 q3) λ w' s4 ⟨z',H4,I4,r4,q4⟩=>lY op' hu pins s4 σ H4 y z' u w' Q I4 r2 r4 q4))
def re (K:Frag) (op op':CmpOp) (ta tb tc:TE):TT:=λ σ H Q=>ta σ H λ x H1=>tb σ H1 λ y H2=>aY K op x y H2 (dU λ k H3=>if k=true then tc σ H3 λ w' H4=>aY K op' y w' H4 (dU Q) else Q false H3)
theorem bh {e:Expr}{t:TE}(h:PE X e t) (he:∀whole,isTrue e X.env whole=(do let v<-whole;standAt e.pos;holding [v] (truthy v)):=by intro _;rfl):PT X e (gT t):=by intro pins s σ H Q I hw;refine isTrue_plain (cb (h pins s σ H _ I hw) λ v s1 ⟨x,H1,I1,r1,q1⟩=>?_) (he _);obtain ⟨d,rfl,q⟩:=fL q1;cases r1;exact wpAny_truthy_bool ⟨H1,I1,q⟩
variable {rest:List Expr}
def oA (ta tb:TE):TE:=λ σ H Q=>ta σ H (dU λ c H1=>if c=true then tb σ H1 Q else Q (.bl false) H1)
def wU (ta tb:TE):TE:=λ σ H Q=>ta σ H (dU λ c H1=>if c=true then Q (.bl true) H1 else tb σ H1 Q)
def q9 (ta:TE):TE:=λ σ H Q=>ta σ H (dU λ c H1=>Q (.bl (!c)) H1)
theorem dZ (ha:PE X a ta) (hb:PE X (.BoolOp .And (b::rest) pos) tb):PE X (.BoolOp .And (a::b::rest) pos) (oA ta tb):=by
 intro pins s σ H Q I h;refine BoolOp_and (cb (ha pins s σ H _ I h) λ v s1 ⟨x,H1,I1,r1,q1⟩=>?_);obtain ⟨c,rfl,q1⟩:=fL q1;cases r1;refine wpAny_truthy_bool ?_;cases c with
 | true=>exact hb pins s1 σ H1 Q I1 q1
 | false=>exact ⟨.bl false,H1,I1,rfl,q1⟩
theorem Hn (ha:PE X a ta) (hb:PE X (.BoolOp .Or (b::rest) pos) tb):PE X (.BoolOp .Or (a::b::rest) pos) (wU ta tb):=by
 intro pins s σ H Q I h;refine BoolOp_or (cb (ha pins s σ H _ I h) λ v s1 ⟨x,H1,I1,r1,q1⟩=>?_);obtain ⟨c,rfl,q1⟩:=fL q1;cases r1;refine wpAny_truthy_bool ?_;cases c with
 | false=>exact hb pins s1 σ H1 Q I1 q1
 | true=>exact ⟨.bl true,H1,I1,rfl,q1⟩
theorem vp (ha:PE X a ta):PE X (.UnaryOp .Not a pos) (q9 ta):=by intro pins s σ H Q I h;refine UnaryOp_ (cb (ha pins s σ H _ I h) λ v s1 ⟨x,H1,I1,r1,q1⟩=>?_);obtain ⟨c,rfl,q1⟩:=fL q1;cases r1;exact not_of (wpAny_truthy_bool ⟨.bl (!c),H1,I1,rfl,q1⟩)
def wV (ta:TE):TE:=λ σ H Q=>ta σ H λ x H1=>match x with | .int i=>Q (.int (-i)) H1 | _=>False
theorem pT (ha:PE X a ta):PE X (.UnaryOp .USub a pos) (wV ta):=by
 intro pins s σ H Q I h;refine UnaryOp_ (cb (ha pins s σ H _ I h) λ v s1 ⟨x,H1,I1,r1,q1⟩=>?_);cases x with
 | int i=>exact Bq pins s1 σ H1 _ v Q I1 r1 ⟨i,rfl,q1⟩
 | _=>exact q1.elim
end
end L2
namespace L2
open PySem PySem.Spec PyProof.Rows
theorem ci:bootBuiltins "len"=some (.builtin "len"):=by decide+kernel
theorem vB:bootBuiltins "min"=some (.builtin "min"):=by decide+kernel
theorem mF:bootBuiltins "all"=some (.builtin "all"):=by decide+kernel
theorem CF:bootBuiltins "any"=some (.builtin "any"):=by decide+kernel
theorem bi:bootBuiltins "isinstance"=some (.builtin "isinstance"):=by decide+kernel
theorem sX:bootBuiltins "sorted"=some (.builtin "sorted"):=by decide+kernel
theorem mE:bootBuiltins "int"=some (.type "int"):=by decide+kernel
theorem wY:bootBuiltins "bool"=some (.type "bool"):=by decide+kernel
theorem vA:bootBuiltins "str"=some (.type "str"):=by decide+kernel
theorem eB:bootBuiltins "list"=some (.type "list"):=by decide+kernel
theorem gz:bootBuiltins "tuple"=some (.type "tuple"):=by decide+kernel
theorem wX:bootBuiltins "dict"=some (.type "dict"):=by decide+kernel
theorem pZ:bootBuiltins "set"=some (.type "set"):=by decide+kernel
theorem CD:bootBuiltins "zip"=some (.type "zip"):=by decide+kernel
inductive BT | int | bool | str | list | tuple | dict
 deriving DecidableEq
def BT.s:BT->String
 | .int=>"int" | .bool=>"bool" | .str=>"str" | .list=>"list" | .tuple=>"tuple" | .dict=>"dict"
def de:BT->BT->Bool
 | .bool,.int=>true
 | .int,.int=>true | .bool,.bool=>true | .str,.str=>true | .list,.list=>true | .tuple,.tuple=>true | .dict,.dict=>true
 | _,_=>false
theorem kit_bt (K:Frag) (a T:BT):LK K (.type a.s) (.type T.s)=some (de a T):=by cases a<;>cases T<;>kernel_rfl
theorem wC (K:Frag) (T:BT):LK K (.type "NoneType") (.type T.s)=some false:=by cases T<;>kernel_rfl
def qL (T:BT) (x:V) (H:Hp) (Q:VK):Prop:=match x with
 | .non=>Q (.bl false) H
 | .bl _=>Q (.bl (de .bool T)) H
 | .int _=>Q (.bl (de .int T)) H
 | .str _=>Q (.bl (de .str T)) H
 | .ref a=>match H a with
   | some (.lst _)=>Q (.bl (de .list T)) H
   | some (.frz _ (.lst _))=>Q (.bl (de .list T)) H
   | some (.tup _)=>Q (.bl (de .tuple T)) H
   | some (.dK _)=>Q (.bl (de .dict T)) H
   | _=>False
 | _=>False
section
variable {X:Cx}{a b c e o:Expr}{ta tb tc te to:TE}{p p2 pos:Pos}{es:List Expr}{t:TA}
theorem GY (T:BT) {pins:List (Addr×Obj)}{s:Shared}{σ:St}{H:Hp}{x:V}{u:Value}{Q:VK}(I:aD X pins σ H s) (rx:aQ x u) (h:qL T x H Q):wpAny (model X.prog X.w) X.A (call (.builtin "isinstance") [u,.type T.s]) (EP X pins σ Q) X.xe s:=by
 have fin:∀{k:Bool} {tv:Value},iU X.K H x tv->LK X.K tv (.type T.s)=some k->Q (.bl k) H->wpAny (model X.prog X.w) X.A (call (.builtin "isinstance") [u,.type T.s]) (EP X pins σ Q) X.xe s:=λ ty e q=>
  sI I rx ty e λ tk=>⟨.bl _,H,I.tok tk,rfl,q⟩
 unfold qL at h;cases x with
 | non=>exact fin .non (wC _ T) h
 | bl y=>exact fin (.bl y) (kit_bt _ .bool T) h
 | int y=>exact fin (.int y) (kit_bt _ .int T) h
 | str y=>exact fin (.str y) (kit_bt _ .str T) h
 | ref d=>
   dsimp only at h;split at h
   ·rename_i e;exact fin (.lst e) (kit_bt _ .list T) h
   ·rename_i e;exact fin (.frz e) (kit_bt _ .list T) h
   ·rename_i e;exact fin (.tup e) (kit_bt _ .tuple T) h
   ·rename_i e;exact fin (.dK e) (kit_bt _ .dict T) h
   ·exact h.elim
 | _=>exact h.elim
def CB (T:BT) (ta:TE):TE:=λ σ H Q=>ta σ H λ x H1=>qL T x H1 Q
theorem Hq (T:BT) {n:Str}(ha:PE X a ta) (hg:Gl X "isinstance") (hm:X.mg "isinstance"=none) (hgT:Gl X n) (hmT:X.mg n=none) (hv:bootBuiltins n=some (.type T.s)) (hn:n≠"__name__":=by decide) (hdb:(n == ("__debug__":Str))=false:=by decide)
  (he:starEach [a,.Name n p2] X.env=(false,eval a X.env)::starEach [.Name n p2] X.env:=by rfl) (he2:starEach [.Name n p2] X.env=(false,eval (.Name n p2) X.env)::starEach [] X.env:=by rfl) (hpl:(backTo pos (starEach [.Name n p2] X.env)).any (·.1)=false:=by rfl):
  PE X (.Call (.Name "isinstance" p) [a,.Name n p2] [] pos) (CB T ta):=by
 intro pins s σ H Q I h;refine wpAny_Call_Name_kw (iQ I hg hm bi ?_ (by decide) (by decide));have hA:PA X [a,.Name n p2] (aK ta (aK (tC (.ty T.s)) bK)):=pa_cons ha (pa_cons (qG hgT hmT hv rfl hn hdb) pa_nil he2) he;refine PyProof.Rows.callWith_builtin1 (cb (hA pos pins s σ H (λ vs H1=> ∃x,vs=[x,.ty T.s]/\qL T x H1 Q) I ?_) λ us s1 ⟨vs,H1,I1,r1,x,e,q1⟩=>?_) he hpl
 ·have mono:(λ (x:V) H1=>qL T x H1 Q)=λ x H1=>(aK (tC (.ty T.s)) bK) σ H1 λ xs H2=> ∃y,x::xs=[y,.ty T.s]/\qL T y H2 Q:=by
   funext x H1;apply propext
   constructor
   ·intro q;exact ⟨x,rfl,q⟩
   ·rintro ⟨y,e,q⟩;have:x=y:=by injection e
    subst this;exact q
  show ta σ H _;rw [<-mono];exact h
 ·subst e;obtain ⟨u,w',rfl,ru,rt⟩:=tE r1;cases rt;exact GY T I1 ru q1
theorem rf.imp {r r':R2}(h:rf X r) (i:∀x y H Q,r' x y H Q->r x y H Q):rf X r':=λ va sl pins s σ H x y v u Q I rx ry q hs=>h va sl pins s σ H x y v u Q I rx ry (i x y H Q q) hs
def Ce (K:Frag) (x y:V) (H:Hp) (Q:VK):Prop:=match x,y with
 | .str z,.int i=>z.length<=sizeLine/\∃c,atI z.cps.toList i=some c/\Q (.str ⟨#[c]⟩) H
 | .ref q,.int i=> ∃xs v,(aJ K H q xs\/eE K H q xs)/\atI xs i=some v/\Q v H
 | _,_=>False
theorem Jd:rf X (Ce X.K):=(Cd (X:=X)).imp λ x y H Q h=>by
 unfold Ce at h;split at h
 ·obtain ⟨h1,c,h2,q⟩:=h;exact .inr (.inr ⟨_,_,c,rfl,rfl,h1,h2,q⟩)
 ·obtain ⟨xs,v,h1,h2,q⟩:=h
  rcases h1 with h1 | h1
  ·exact .inl ⟨_,xs,_,v,rfl,rfl,h1,h2,q⟩
  ·exact .inr (.inl ⟨_,xs,_,v,rfl,rfl,h1,h2,q⟩)
 ·exact h.elim
def tj (K:Frag) (ta tb:TE):TE:=λ σ H Q=>ta σ H λ x H1=>tb σ H1 λ y H2=>Ce K x y H2 Q
theorem Ho (ha:PE X a ta) (hb:PE X b tb) (hs:mH b:=by exact λ _ _=>rfl):PE X (.Subscript a b pos) (tj X.K ta tb):=GE Jd ha hb hs
def gU (t:TE):TO:=λ σ H Q=>t σ H λ x H1=>match x with | .int i=>Q (some i) H1 | _=>False
theorem dH (h:PE X e te):PO X (some e) (gU te):=by
 intro pins s σ H Q I hw;rw [evalPart_some];refine cb (h pins s σ H _ I hw) λ u s1 ⟨x,H1,I1,r1,q1⟩=>?_;cases x with
 | int i=>
   obtain ⟨t,rfl⟩:=r1;exact ⟨some i,H1,I1,.int i t,q1⟩
 | _=>exact q1.elim
theorem tm.imp {r r':V->Option Int->Option Int->Hp->VK->Prop}(h:tm X r) (i:∀x lo hi H Q,r' x lo hi H Q->r x lo hi H Q):tm X r':=λ pins s σ H x v vl vu lo hi sl Q I rx hs pl pu q=>h pins s σ H x v vl vu lo hi sl Q I rx hs pl pu (i x lo hi H Q q)
def CV (K:Frag) (x:V) (lo hi:Option Int) (H:Hp) (Q:VK):Prop:=match x with
 | .str z=>z.length<=sizeLine/\Q (.str (kj z lo hi)) H
 | .ref d=> ∃xs,aJ K H d xs/\∀q,H q=none->Q (.ref q) (upd H q (.lst (iz xs lo hi)))
 | _=>False
theorem IT:tm X (CV X.K):=((Bx (X:=X)).or vV).imp λ x lo hi H Q h=>by
 unfold CV at h;split at h
 ·exact .inl ⟨_,rfl,h.1,h.2⟩
 ·obtain ⟨xs,h1,h2⟩:=h;exact .inr ⟨_,xs,rfl,h1,h2⟩
 ·exact h.elim
def vy (K:Frag) (te:TE) (tl th:TO):TE:=λ σ H Q=>te σ H λ x H1=>tl σ H1 λ l H2=>th σ H2 λ u H3=>CV K x l u H3 Q
theorem Hm {lo hi:Option Expr}{tl th:TO}(he:PE X e te) (hl:PO X lo tl) (hu:PO X hi th):PE X (.Subscript e (.Slice lo hi none p2) pos) (vy X.K te tl th):=ux IT he hl hu
def cB (r:List V->Hp->VK->Prop) (t:TA):TE:=λ σ H Q=>t σ H λ vs H1=>r vs H1 Q
def nR (K:Frag) (xs:List V) (H:Hp) (Q:VK):Prop:=match xs with
 | [.str z]=>z.length<=sizeLine/\Q (.int z.length) H
 | [.ref d]=> ∃ys,(aJ K H d ys\/eE K H d ys)/\Q (.int ys.length) H
 | _=>False
theorem sT:bd X (.builtin "len") (nR X.K):=((mD (X:=X)).or mB).imp λ xs H Q h=>by
 unfold nR at h;split at h
 ·exact .inr ⟨_,rfl,h.1,h.2⟩
 ·obtain ⟨ys,h1,h2⟩:=h;exact .inl ⟨_,ys,rfl,h1,h2⟩
 ·exact h.elim
def uD (xs:List V) (H:Hp) (Q:VK):Prop:=match xs with
 | [.int i,.int j]=>Q (.int (if j<i then j else i)) H
 | _=>False
theorem lb (hc:X.calm=true):bd X (.builtin "min") uD:=(sS hc).imp λ xs H Q h=>by
 unfold uD at h;split at h
 ·exact ⟨_,_,rfl,h⟩
 ·exact h.elim
def Gf (xs:List V) (H:Hp) (Q:VK):Prop:=match xs with
 | [.int i]=>i.natAbs.log2<1920/\Q (.str (toString i)) H
 | _=>False
def nX (xs:List V) (H:Hp) (Q:VK):Prop:=match xs with
 | [.str x]=> ∃n,PySem.intText? x=some n/\x.length<=640/\Q (.int n) H
 | [.bl k]=>Q (.int (if k then 1 else 0)) H
 | _=>False
theorem iS:bd X (.type "int") nX:=((kn (X:=X)).or sU).imp λ xs H Q h=>by
 unfold nX at h;split at h
 ·obtain ⟨n,h1,h2,q⟩:=h;exact .inl ⟨_,n,rfl,h1,h2,q⟩
 ·exact .inr (.inr ⟨_,rfl,h⟩)
 ·exact h.elim
def w9 (K:Frag) (xs:List V) (H:Hp) (Q:VK):Prop:=match xs with
 | [.ref d]=> ∃ks:List Bool,aJ K H d (ks.map V.bl)/\Q (.bl (ks.all id)) H
 | _=>False
theorem sW (hc:X.calm=true):bd X (.builtin "all") (w9 X.K):=(vw hc).imp λ xs H Q h=>by
 unfold w9 at h;split at h
 ·obtain ⟨ks,h1,q⟩:=h;exact ⟨_,ks,rfl,h1,q⟩
 ·exact h.elim
theorem Jj {id:String}{x:Str}{r:List V->Hp->VK->Prop}(hc:bd X (.builtin id) r) (hv:bootBuiltins x=some (.builtin id)) (hm:X.mg x=none) (ha:PA X (e::es) t) (hg:Gl X x:=by rfl) (hn:x≠"__name__":=by decide) (hdb:(x == ("__debug__":Str))=false:=by decide)
  (he:starEach (e::es) X.env=(false,eval e X.env)::starEach es X.env:=by rfl) (hpl:(backTo pos (starEach es X.env)).any (·.1)=false:=by rfl):PE X (.Call (.Name x p) (e::es) [] pos) (cB r t):=uA hc hg hm hv ha hn hdb he hpl
theorem Hr {T:String}{x:Str}{r:List V->Hp->VK->Prop}(hc:bd X (.type T) r) (hv:bootBuiltins x=some (.type T)) (hm:X.mg x=none) (ha:PA X (e::es) t) (hg:Gl X x:=by rfl) (hn:x≠"__name__":=by decide) (hdb:(x == ("__debug__":Str))=false:=by decide)
  (he:starEach (e::es) X.env=(false,eval e X.env)::starEach es X.env:=by rfl) (hpl:(backTo pos (starEach es X.env)).any (·.1)=false:=by rfl):PE X (.Call (.Name x p) (e::es) [] pos) (cB r t):=rW hc hg hm hv ha hn hdb he hpl
def cSM (r:V->List V->Hp->VK->Prop) (to:TE) (t:TA):TE:=λ σ H Q=>to σ H λ x H1=>match x with | .str z=>t σ H1 λ xs H2=>r (.str z) xs H2 Q | _=>False
def Hs (r:V->List V->Hp->VK->Prop) (to:TE):TE:=λ σ H Q=>to σ H λ x H1=>match x with | .str z=>r (.str z) [] H1 Q | _=>False
def swA (x:V) (vs:List V) (H:Hp) (Q:VK):Prop:=match x,vs with
 | .str a,[.str b]=>Q (.bl (b.cps.toList.isPrefixOf a.cps.toList)) H
 | _,_=>False
def GX (K:Frag) (x:V) (vs:List V) (H:Hp) (Q:VK):Prop:=match x,vs with
 | .str sep,[.ref d]=> ∃ys:List Str,aJ K H d (ys.map V.str)/\(ys.map (·.length)).sum+ys.length*sep.length<=16777216/\Q (.str (Txt.join sep ys)) H
 | _,_=>False
def upA (x:V) (vs:List V) (H:Hp) (Q:VK):Prop:=match x,vs with
 | .str a,[]=>a.length<=sizeLine/\(∀c∈a.cps.toList,c<128)/\Q (.str ⟨a.cps.map up1⟩) H
 | _,_=>False
def wW (to te:TE):TE:=λ σ H Q=>to σ H λ x H1=>match x with
 | .ref l=>(∃xs,H1 l=some (.lst xs))/\te σ H1 λ y H2=> ∃xs,H2 l=some (.lst xs)/\xs.length<sizeLine/\Q .non (upd H2 l (.lst (xs++[y])))
 | _=>False
theorem jS {apos cpos:Pos}(ho:PE X o to) (he:PE X e te) (hbase:attributeBase o "append" X.env (eval o X.env)=eval o X.env:=by rfl)
  (hfew:((backTo cpos (starEach [e] X.env)).all (λ x=> !x.1)&&(backToKw cpos (keywordEach [] X.env)).all (λ x=>x.1.isSome)
   &&decide ([e].length+([]:List Keyword).length+(if ([]:List Keyword).isEmpty then 0 else 1)<30))=true:=by rfl)
  (hline:(apos.endLine == cpos.line)=true:=by rfl) (hs:starEach [e] X.env=(false,eval e X.env)::starEach [] X.env:=by rfl) (hplain:(backTo cpos (starEach [] X.env)).any (·.1)=false:=by rfl):
  PE X (.Call (.Attribute o "append" apos) [e] [] cpos) (wW to te):=by
 intro pins s σ H Q I h;refine wpAny_Call_method_late hbase hfew hline rfl (cb (ho pins s σ H _ I h) λ v s1 ⟨x,H1,I1,r1,q1⟩=>?_);cases x with
 | ref l=>
   obtain ⟨⟨xs0,e0⟩,q1⟩:=q1;have ty:IQ X.K "list" (.ref l) H1:=.inl ⟨rfl,xs0,aJ.of e0⟩;obtain ⟨h1,h2⟩:=tI I1 r1 ty;refine ⟨"list","list.append",PySem.F.plainAttrs_list,PySem.F.slot_list_append,PySem.F.type_list_append,h1,h2,?_⟩;have hA:=(pa_cons he pa_nil hs:PA X [e] (aK te bK)) cpos pins s1 σ H1 (λ vs H2=> ∃y,vs=[y]/\∃xs,H2 l=some (.lst xs)/\xs.length<sizeLine/\Q .non (upd H2 l (.lst (xs++[y])))) I1 (by
    show te σ H1 λ y H2=> ∃y',[y]=[y']/\_;have:(λ (y:V) (H2:Hp)=> ∃xs,H2 l=some (.lst xs)/\xs.length<sizeLine/\Q .non (upd H2 l (.lst (xs++[y]))))=λ y H2=> ∃y',[y]=[y']/\∃xs,H2 l=some (.lst xs)/\xs.length<sizeLine/\Q .non (upd H2 l (.lst (xs++[y']))):=by
     funext y H2;apply propext
     constructor
     ·intro z;exact ⟨y,rfl,z⟩
     ·rintro ⟨y',e,z⟩;have:y=y':=by injection e
      subst this;exact z
    rw [<-this];exact q1)
   rw [hs] at hA ⊢;refine Calls.callWith_builtin (by show (false||(backTo cpos (starEach [] X.env)).any (·.1))=false;rw [hplain]<;>rfl) (Calls.evalArgs_plain ?_)
   exact cb hA λ us s2 ⟨vs,H2,I2,r2,y,e,xs,q3,q4,q5⟩=>si pins s2 σ H2 _ vs v us Q I2 r1 r2 ⟨l,xs,y,rfl,e,q3,q4,q5⟩
 | _=>exact q1.elim
structure fv (P:Program) (w:World) (K:Frag) (mg:Str->Option Value) (base:Heap) (name:Str) (ps:List Str) (k:Nat) (sp:Sp):Prop where
 ex:∃f fd,bz P w K mg base eP k f fd ps sp/\mg name=some (.ref f)/\LP K (.ref f)=true/\fg K fd ps []
def gw (sp:Sp) (t:TA):TE:=λ σ H Q=>t σ H λ vs H1=>sp vs H1 Q E0
theorem wQ {name:Str}{ps:List Str}{k j:Nat}{sp:Sp}(C:fv X.prog X.w X.K X.mg X.base name ps k sp) (hr:cz j X.A) (hkj:k<=j) (ha:PA X (e::es) t) (hg:Gl X name:=by rfl) (hdb:(name == ("__debug__":Str))=false:=by decide)
  (he:starEach (e::es) X.env=(false,eval e X.env)::starEach es X.env:=by rfl) (hpl:(backTo pos (starEach es X.env)).any (·.1)=false:=by rfl):PE X (.Call (.Name name p) (e::es) [] pos) (gw sp t):=by
 obtain ⟨f,fd,F,hm,hk,hb⟩:=C.ex;refine (wj F (hr.mono hkj) hg hm hk hb .nil uB ha hdb he hpl:PE X _ (tR sp [] E0 t)).imp λ σ H Q h=>?_;unfold tR;simp only [JR];exact h
end
end L2
namespace PySem
namespace F
end F
end PySem
namespace L2
open PySem PySem.Spec PyProof.Rows
section
variable {prog:Program}{w:World}{A:Around}{E:Value->Shared->Prop}{s:Shared}
end
section
variable {X:Cx}{o e:Expr}{to te:TE}
def cJR (K:Frag) (to te:TE):TE:=λ σ H Q=>to σ H λ x H1=>match x with
 | .str sep=>te σ H1 λ y H2=>match y with
   | .ref d=> ∃ys:List Str,aJ K H2 d (ys.map V.str)/\(ys.map (·.length)).sum+ys.length*sep.length<=16777216/\Q (.str (Txt.join sep ys.reverse)) H2
   | _=>False
 | _=>False
end
end L2
namespace L2
open PySem PySem.Spec PyProof.Rows
def HD (x:Str):It:=⟨λ i _=>i<x.length,λ i H v H'=>H'=H/\∃c,x.cps.toList[i]? =some c/\v=.str ⟨#[c]⟩,λ i _=>x.length<=i⟩
def AX (ty:String):Prop:=ty="str_ascii_iterator"\/ty="str_iterator"
theorem tM {P:Program}{w:World}{K:Frag}{tg:Expr}(it:Addr) {ty:String}(hty:AX ty) (x:Str) (t:Tok):vG P w K tg (HD x) [it] it (λ i h=>h.IsStrIter it ty x t i) where
 mem:=by simp
 obj:=λ i h st b hb=>by
  have e:b=it:=by simpa using hb
  subst e;obtain ⟨o,e,c,d⟩:=st;exact ⟨o,e,λ v z=>by rw [d] at z;cases z⟩
 keep:=λ i h h' st k=>by obtain ⟨o,e,r⟩:=st;exact ⟨o,k it (by simp) o e,r⟩
 item:=by
  intro X hP hw hK hc i pins s σ H E I hf st hg;subst hP hw hK;obtain ⟨f0,f1,f2,f3,f4,f5⟩:=hf it (by simp);have hi:i<x.cps.size:=hg;have hx:x.cps[i]? =some x.cps[i]:=Array.getElem?_eq_getElem hi;have hx':x.cps.toList[i]? =some x.cps[i]:=by simpa using hx
  have go:∀(h':Heap) (tk:Nat),h'.IsStrIter it ty x t (i+1)->Heap.SameBut it s.heap h'->∀u,(∃tt,u=Value.str ⟨#[x.cps[i]]⟩ tt)->wpAny (model X.prog X.w) X.A (letOwnedTupleGo tg (.ref it) u) (λ _ s2=> ∃x_1 H',aD X pins σ H' s2/\aQ x_1 u/\(HD x).yld i H x_1 H'/\s2.heap.IsStrIter it ty x t (i+1)/\∀b∈[it],H' b=none) E {s with heap:=h',toks:=tk}:=by
   intro h' tk st' sb u hu;have I1:aD X pins σ H {s with heap:=h',toks:=tk}:=I.turned (t':=tk) (λ b o hb e=>(sb.2 b hb).trans e) f0 f1 f3 f4 f5;obtain ⟨o,e,c,d⟩:=id st';refine qQ (s:={s with heap:=h',toks:=tk}) e c d (by rcases hty with z | z<;>(rw [z];decide)) ?_
   obtain ⟨tt,rfl⟩:=hu;exact ⟨.str ⟨#[x.cps[i]]⟩,H,I1,⟨tt,rfl⟩,⟨rfl,_,hx',rfl⟩,st',λ b hb=>(hf b hb).1⟩
  rcases hty with rfl | rfl
  ·exact wpAny_pyNext_ascii_item st hx λ h' st' sb=>⟨_,rfl,go h' _ st' sb _ ⟨_,rfl⟩⟩
  ·exact wpAny_pyNext_wide_item st hx λ h' st' sb=>⟨_,rfl,go h' _ st' sb _ ⟨_,rfl⟩⟩
 done:=by
   intro X hP hw hK hc i pins s σ H E I hf st hg;subst hP hw hK;obtain ⟨f0,f1,f2,f3,f4,f5⟩:=hf it (by simp);have hi:x.cps.size<=i:=hg;have hx:x.cps[i]? =none:=LC hi
   rcases hty with rfl | rfl
   ·exact wpAny_pyNext_ascii_end (I.ok.hd hc) st hx λ h' eb=>⟨rfl,I.turned (t':=s.toks) (λ b o hb e=>eb b o hb e) f0 f1 f3 f4 f5⟩
   ·exact wpAny_pyNext_wide_end (I.ok.hd hc) st hx λ h' eb=>⟨rfl,I.turned (t':=s.toks) (λ b o hb e=>eb b o hb e) f0 f1 f3 f4 f5⟩
 self:=λ _ _ _ _ _ st h=>by
  rcases hty with rfl | rfl
  ·exact wpAny_pyIter_striter_ascii st h
  ·exact wpAny_pyIter_striter_wide st h
section
variable {X:Cx}{tg:Expr}
def Cg (tl:TE):TI:=λ σ H R=>tl σ H λ v H1=>match v with | .str x=>R (HD x) H1 | _=>False
theorem pi {l:Expr}{tl:TE}(hl:PE X l tl):PI X tg l (Cg tl):=by
 intro pins s σ H R I h;refine cb (hl pins s σ H _ I h) λ v s1 ⟨x,H1,I1,r1,q1⟩=>?_;cases x with
 | str z=>
   obtain ⟨t,rfl⟩:=r1;refine wpAny_pyIter_strU ?_;have hty:AX (strIterType z):=by
    unfold strIterType;split
    ·exact .inl rfl
    ·exact .inr rfl
   refine ⟨s1.heap.objs.size,[s1.heap.objs.size],_,_,H1,rfl,I1.kept (t':=s1.toks) λ b o e=>Heap.get?_push_of_some _ e,tM _ hty z t,⟨_,Heap.get?_push_size _ rfl,rfl,rfl⟩,λ b hb=>?_,q1⟩;have e:b=s1.heap.objs.size:=by simpa using hb
   subst e;exact I1.fpOk (KW _) (I1.hok.fresh (KW _))
 | _=>exact q1.elim
end
end L2
namespace L2
open PySem PySem.Spec PyProof.Rows
section
variable {X:Cx}
theorem uz {x:Str}{v:V}{pos:Pos}(hg:Gl X x) (h:∃u,X.mg x=some u/\aQ v u) (hd:(x == ("__debug__":Str))=false:=by decide):PE X (.Name x pos) (tC v):=by obtain ⟨u,hm,r⟩:=h;exact we hg hm r hd
end
theorem cI {A:Around}{k:Nat}(hr:cz k A):A.units+20<cLine:=by have:=hr.units;omega
theorem ah.upd {H H':Hp}{d:Addr}{o:HO}(h:ah H H') (hd:H' d=none):ah H (upd H' d o):=λ b ob e=>by have e':=h b ob e;rw [au (aj e' hd)];exact e'
end L2
namespace L2
open PySem PySem.Spec PyProof.Rows
section
variable {X:Cx}{a b c e o:Expr}{ta tb tc te to:TE}{p p2 pos:Pos}{es:List Expr}{t:TA}
theorem hG (K:Frag) {op:CmpOp}(hu:X.A.units+20<cLine) (ha:PE X a ta) (hb:PE X b tb) (hm:behindInMarks op b=false:=by first | exact mn _ | with_unfolding_all rfl) (hK:X.K=K:=by rfl):PE X (.Compare a [op] [b] pos) (eO K op ta tb):=by subst hK;exact Cz hu ha hb hm
theorem bN (K:Frag) {op:CmpOp}(hu:X.A.units+20<cLine) (ha:PE X a ta) (hb:PE X b tb) (hm:behindInMarks op b=false:=by first | exact mn _ | with_unfolding_all rfl) (hK:X.K=K:=by rfl):PT X (.Compare a [op] [b] pos) (gT (eO K op ta tb)):=by subst hK;exact Cy hu ha hb hm
theorem pF (K:Frag) {op op':CmpOp}(hu:X.A.units+20<cLine) (ha:PE X a ta) (hb:PE X b tb) (hc:PE X c tc) (hm:lastMarks [op,op'] [b,c]=false:=by with_unfolding_all rfl) (hK:X.K=K:=by rfl):PE X (.Compare a [op,op'] [b,c] pos) (iT K op op' ta tb tc):=by subst hK;exact vv hu ha hb hc hm
theorem cO (K:Frag) (ha:PE X a ta) (hb:PE X b tb) (hs:mH b:=by exact λ _ _=>rfl) (hK:X.K=K:=by rfl):PE X (.Subscript a b pos) (tj K ta tb):=by subst hK;exact Ho ha hb hs
theorem vO (K:Frag) {lo hi:Option Expr}{tl th:TO}(he:PE X e te) (hl:PO X lo tl) (hu:PO X hi th) (hK:X.K=K:=by rfl):PE X (.Subscript e (.Slice lo hi none p2) pos) (vy K te tl th):=by subst hK;exact Hm he hl hu
theorem gM (K:Frag) (hK:X.K=K:=by rfl):bd X (.builtin "len") (nR K):=by subst hK;exact sT
theorem wD (K:Frag) (hc:X.calm=true:=by rfl) (hK:X.K=K:=by rfl):bd X (.builtin "all") (w9 K):=by subst hK;exact sW hc
theorem sA (K:Frag) {tg l:Expr}{tl:TE}(hl:PE X l tl) (hK:X.K=K:=by rfl):PI X tg l (kP K tl):=by subst hK;exact v9 hl
theorem kgt (K:Frag) {n:Nat}{k:Nat}{t:vQ}(h:CO X es t) (hc:X.calm=true:=by rfl) (hn:(assignEach es X.env).length=n:=by rfl) (hst:List.findIdx? (λ x=>x.1) (assignEach es X.env)=none:=by rfl) (hK:X.K=K:=by rfl):PG X (.Tuple es k pos) (Cn K n t):=by subst hK;exact BK hc h hn hst
theorem kg {x:Str}{v:V}(h:∃u,X.mg x=some u/\aQ v u) (hg:Gl X x:=by rfl) (hd:(x == ("__debug__":Str))=false:=by decide):PE X (.Name x pos) (tC v):=uz hg h hd
theorem Bg (T:BT) {n:Str}(hm:X.mg "isinstance"=none) (hmT:X.mg n=none) (hv:bootBuiltins n=some (.type T.s)) (ha:PE X a ta) (hg:Gl X "isinstance":=by rfl) (hgT:Gl X n:=by rfl) (hn:n≠"__name__":=by decide) (hdb:(n == ("__debug__":Str))=false:=by decide)
  (he:starEach [a,.Name n p2] X.env=(false,eval a X.env)::starEach [.Name n p2] X.env:=by rfl) (he2:starEach [.Name n p2] X.env=(false,eval (.Name n p2) X.env)::starEach [] X.env:=by rfl) (hpl:(backTo pos (starEach [.Name n p2] X.env)).any (·.1)=false:=by rfl):
  PE X (.Call (.Name "isinstance" p) [a,.Name n p2] [] pos) (CB T ta):=Hq T ha hg hm hgT hmT hv hn hdb he he2 hpl
theorem B4 {tg:Expr}{ta:TA}(hm:X.mg "range"=none) (ha:PA X [a] ta) (hg:Gl X "range":=by rfl) (hs:starEach [a] X.env=[(false,eval a X.env)]:=by rfl):PI X tg (.Call (.Name "range" p) [a] [] pos) (kO ta):=rV hg hm ha hs
theorem cn {N:List Str}{src:List (Option Nat)}{scope:Scope}(dsc:Scope) (XN:List Str) (h:pQ dsc XN N src scope=true:=by decide+kernel) (he:X.env.scope=dsc:=by rfl) (hN:X.N=XN:=by rfl):bZ X N src scope:=bZ.of he hN h
theorem bw {i:Nat}{x:Str}(N:List Str) (hN:N.Nodup:=by decide+kernel) (hi:X.N[i]? =some x:=by rfl) (hx:C2 X.env.scope x:=by first | exact Or.inl rfl | exact Or.inr rfl) (hf:X.fn x=true\/X.env.scope.names.lookup x=some .local:=by first | exact .inl rfl | exact .inr rfl) (hNX:X.N=N:=by rfl):PG X (.Name x pos) (gName i):=
 cE (hNX▸hN) hi hx hf
theorem en {N:List Str}{src:List (Option Nat)}{scope:Scope}{tg iter:Expr}{ifs:List Expr}{wi:TI}{g:TG}{tt:TT}(S:bZ X N src scope) (hi:PI X tg iter wi) (hg:∀s H ex,PG (cxC X scope N s H ex) tg g) (ht:∀s H ex,oE (cxC X scope N s H ex) ifs tt) (he:∀s H ex,PE (cxC X scope N s H ex) e te)
  (hc:X.calm=true:=by rfl) (hs:∀x,foldedSetIterable iter X.env x=pure x:=by intro _;rfl):PE X (.ListComp e [⟨tg,iter,ifs,0⟩] scope pos) (tComp wi g tt te src):=wf hc S hi hg ht he hs
end
end L2
namespace L2
open PySem PySem.Spec PyProof.Rows
theorem uq {K:Frag}{i j:Int}{H:Hp}{Q:VK}:(aY K .Eq (.int i) (.int j) H Q)=(Q (.bl (decide (i=j))) H):=rfl
theorem uc {K:Frag}{i j:Int}{H:Hp}{Q:VK}:(aY K .NotEq (.int i) (.int j) H Q)=(Q (.bl (!decide (i=j))) H):=rfl
theorem uo {K:Frag}{i j:Str}{H:Hp}{Q:VK}:(aY K .Eq (.str i) (.str j) H Q)=(Q (.bl (decide (i=j))) H):=rfl
theorem ub {K:Frag}{i j:Str}{H:Hp}{Q:VK}:(aY K .NotEq (.str i) (.str j) H Q)=(Q (.bl (!decide (i=j))) H):=rfl
theorem v5 {K:Frag}{i j:Bool}{H:Hp}{Q:VK}:(aY K .Eq (.bl i) (.bl j) H Q)=(Q (.bl (decide (i=j))) H):=rfl
theorem v2 {K:Frag}{i j:Bool}{H:Hp}{Q:VK}:(aY K .NotEq (.bl i) (.bl j) H Q)=(Q (.bl (!decide (i=j))) H):=rfl
theorem v4 {K:Frag}{H:Hp}{Q:VK}:(aY K .Eq .non .non H Q)=(Q (.bl true) H):=rfl
theorem v1 {K:Frag}{H:Hp}{Q:VK}:(aY K .NotEq .non .non H Q)=(Q (.bl (!true)) H):=rfl
theorem lR {K:Frag}{i:Int}{j:Str}{H:Hp}{Q:VK}:(aY K .Eq (.int i) (.str j) H Q)=(Q (.bl false) H):=rfl
theorem lI {K:Frag}{i:Int}{j:Str}{H:Hp}{Q:VK}:(aY K .NotEq (.int i) (.str j) H Q)=(Q (.bl (!false)) H):=rfl
theorem lS {K:Frag}{i:Int}{H:Hp}{Q:VK}:(aY K .Eq (.int i) .non H Q)=(Q (.bl false) H):=rfl
theorem lJ {K:Frag}{i:Int}{H:Hp}{Q:VK}:(aY K .NotEq (.int i) .non H Q)=(Q (.bl (!false)) H):=rfl
theorem lO {K:Frag}{i:Str}{j:Int}{H:Hp}{Q:VK}:(aY K .Eq (.str i) (.int j) H Q)=(Q (.bl false) H):=rfl
theorem lF {K:Frag}{i:Str}{j:Int}{H:Hp}{Q:VK}:(aY K .NotEq (.str i) (.int j) H Q)=(Q (.bl (!false)) H):=rfl
theorem nu {K:Frag}{i:Str}{j:Bool}{H:Hp}{Q:VK}:(aY K .Eq (.str i) (.bl j) H Q)=(Q (.bl false) H):=rfl
theorem m6 {K:Frag}{i:Str}{j:Bool}{H:Hp}{Q:VK}:(aY K .NotEq (.str i) (.bl j) H Q)=(Q (.bl (!false)) H):=rfl
theorem lN {K:Frag}{i:Str}{H:Hp}{Q:VK}:(aY K .Eq (.str i) .non H Q)=(Q (.bl false) H):=rfl
theorem lE {K:Frag}{i:Str}{H:Hp}{Q:VK}:(aY K .NotEq (.str i) .non H Q)=(Q (.bl (!false)) H):=rfl
theorem nw {K:Frag}{i:Bool}{j:Str}{H:Hp}{Q:VK}:(aY K .Eq (.bl i) (.str j) H Q)=(Q (.bl false) H):=rfl
theorem m8 {K:Frag}{i:Bool}{j:Str}{H:Hp}{Q:VK}:(aY K .NotEq (.bl i) (.str j) H Q)=(Q (.bl (!false)) H):=rfl
theorem ny {K:Frag}{i:Bool}{H:Hp}{Q:VK}:(aY K .Eq (.bl i) .non H Q)=(Q (.bl false) H):=rfl
theorem na {K:Frag}{i:Bool}{H:Hp}{Q:VK}:(aY K .NotEq (.bl i) .non H Q)=(Q (.bl (!false)) H):=rfl
theorem lQ {K:Frag}{j:Int}{H:Hp}{Q:VK}:(aY K .Eq .non (.int j) H Q)=(Q (.bl false) H):=rfl
theorem lH {K:Frag}{j:Int}{H:Hp}{Q:VK}:(aY K .NotEq .non (.int j) H Q)=(Q (.bl (!false)) H):=rfl
theorem lP {K:Frag}{j:Str}{H:Hp}{Q:VK}:(aY K .Eq .non (.str j) H Q)=(Q (.bl false) H):=rfl
theorem lG {K:Frag}{j:Str}{H:Hp}{Q:VK}:(aY K .NotEq .non (.str j) H Q)=(Q (.bl (!false)) H):=rfl
theorem nv {K:Frag}{j:Bool}{H:Hp}{Q:VK}:(aY K .Eq .non (.bl j) H Q)=(Q (.bl false) H):=rfl
theorem m7 {K:Frag}{j:Bool}{H:Hp}{Q:VK}:(aY K .NotEq .non (.bl j) H Q)=(Q (.bl (!false)) H):=rfl
theorem qx {K:Frag}{a b:Addr}{H:Hp}{Q:VK}:(aY K .Eq (.ref a) (.ref b) H Q)=(∃k,mJ K H 20 (.ref a) (.ref b) k/\Q (.bl k) H):=rfl
theorem vZ {K:Frag}{a b:Addr}{H:Hp}{Q:VK}:(aY K .NotEq (.ref a) (.ref b) H Q)=(∃k,mJ K H 20 (.ref a) (.ref b) k/\Q (.bl (!k)) H):=rfl
theorem ue {K:Frag}{i j:Int}{H:Hp}{Q:VK}:(aY K .Lt (.int i) (.int j) H Q)=(Q (.bl (decide (i<j))) H):=rfl
theorem kG {K:Frag}{i j:Int}{H:Hp}{Q:VK}:(aY K .LtE (.int i) (.int j) H Q)=(Q (.bl (decide (i<=j))) H):=rfl
theorem um {K:Frag}{i j:Int}{H:Hp}{Q:VK}:(aY K .Gt (.int i) (.int j) H Q)=(Q (.bl (decide (j<i))) H):=rfl
theorem rQ {K:Frag}{i j:Int}{H:Hp}{Q:VK}:(aY K .GtE (.int i) (.int j) H Q)=(Q (.bl (decide (j<=i))) H):=rfl
theorem ud {K:Frag}{i j:Str}{H:Hp}{Q:VK}:(aY K .Lt (.str i) (.str j) H Q)=(Q (.bl (decide (i.cps.toList<j.cps.toList))) H):=rfl
theorem kF {K:Frag}{i j:Str}{H:Hp}{Q:VK}:(aY K .LtE (.str i) (.str j) H Q)=(Q (.bl (!decide (j.cps.toList<i.cps.toList))) H):=rfl
theorem uk {K:Frag}{i j:Str}{H:Hp}{Q:VK}:(aY K .In (.str i) (.str j) H Q)=(Q (.bl (!(Builtin.Str.occurrences j i 0 j.length 1).isEmpty)) H):=rfl
theorem m5 {K:Frag}{i j:Str}{H:Hp}{Q:VK}:(aY K .NotIn (.str i) (.str j) H Q)=(Q (.bl (!(!(Builtin.Str.occurrences j i 0 j.length 1).isEmpty))) H):=rfl
theorem lM {K:Frag}{i:Int}{d:Addr}{H:Hp}{Q:VK}:(aY K .In (.int i) (.ref d) H Q)=(pe K false (.int i) (.ref d) H Q):=rfl
theorem gb {K:Frag}{i:Int}{d:Addr}{H:Hp}{Q:VK}:(aY K .NotIn (.int i) (.ref d) H Q)=(pe K true (.int i) (.ref d) H Q):=rfl
theorem uj {K:Frag}{i:Int}{H:Hp}{Q:VK}:(aY K .Is (.int i) .non H Q)=(Q (.bl false) H):=rfl
theorem nn {K:Frag}{i:Int}{H:Hp}{Q:VK}:(aY K .IsNot (.int i) .non H Q)=(Q (.bl true) H):=rfl
theorem im {K:Frag}{i:Str}{d:Addr}{H:Hp}{Q:VK}:(aY K .In (.str i) (.ref d) H Q)=(pe K false (.str i) (.ref d) H Q):=rfl
theorem fY {K:Frag}{i:Str}{d:Addr}{H:Hp}{Q:VK}:(aY K .NotIn (.str i) (.ref d) H Q)=(pe K true (.str i) (.ref d) H Q):=rfl
theorem ug {K:Frag}{i:Str}{H:Hp}{Q:VK}:(aY K .Is (.str i) .non H Q)=(Q (.bl false) H):=rfl
theorem ng {K:Frag}{i:Str}{H:Hp}{Q:VK}:(aY K .IsNot (.str i) .non H Q)=(Q (.bl true) H):=rfl
theorem nq {K:Frag}{i:Bool}{d:Addr}{H:Hp}{Q:VK}:(aY K .In (.bl i) (.ref d) H Q)=(pe K false (.bl i) (.ref d) H Q):=rfl
theorem jz {K:Frag}{i:Bool}{d:Addr}{H:Hp}{Q:VK}:(aY K .NotIn (.bl i) (.ref d) H Q)=(pe K true (.bl i) (.ref d) H Q):=rfl
theorem v3 {K:Frag}{i:Bool}{H:Hp}{Q:VK}:(aY K .Is (.bl i) .non H Q)=(Q (.bl false) H):=rfl
theorem pd {K:Frag}{i:Bool}{H:Hp}{Q:VK}:(aY K .IsNot (.bl i) .non H Q)=(Q (.bl true) H):=rfl
theorem lL {K:Frag}{d:Addr}{H:Hp}{Q:VK}:(aY K .In .non (.ref d) H Q)=(pe K false .non (.ref d) H Q):=rfl
theorem fZ {K:Frag}{d:Addr}{H:Hp}{Q:VK}:(aY K .NotIn .non (.ref d) H Q)=(pe K true .non (.ref d) H Q):=rfl
theorem ui {K:Frag}{H:Hp}{Q:VK}:(aY K .Is .non .non H Q)=(Q (.bl true) H):=rfl
theorem nj {K:Frag}{H:Hp}{Q:VK}:(aY K .IsNot .non .non H Q)=(Q (.bl false) H):=rfl
theorem lK {K:Frag}{i:Addr}{d:Addr}{H:Hp}{Q:VK}:(aY K .In (.ref i) (.ref d) H Q)=(pe K false (.ref i) (.ref d) H Q):=rfl
theorem je {K:Frag}{i:Addr}{d:Addr}{H:Hp}{Q:VK}:(aY K .NotIn (.ref i) (.ref d) H Q)=(pe K true (.ref i) (.ref d) H Q):=rfl
theorem uh {K:Frag}{i:Addr}{H:Hp}{Q:VK}:(aY K .Is (.ref i) .non H Q)=(Q (.bl false) H):=rfl
theorem nh {K:Frag}{i:Addr}{H:Hp}{Q:VK}:(aY K .IsNot (.ref i) .non H Q)=(Q (.bl true) H):=rfl
theorem Gw {i j:Int}{H:Hp}{Q:VK}:(iB .Add (.int i) (.int j) H Q)=(Q (.int (i+j)) H):=rfl
theorem BH {i j:Str}{H:Hp}{Q:VK}:(iB .Add (.str i) (.str j) H Q)=(i.length+j.length<=sizeLine/\Q (.str (i++j)) H):=rfl
theorem ur {a b:Addr}{H:Hp}{Q:VK}:(iB .Add (.ref a) (.ref b) H Q)=(BI (.ref a) (.ref b) H Q):=rfl
theorem Gj {i j:Int}{H:Hp}{Q:VK}:(iB .Sub (.int i) (.int j) H Q)=(Q (.int (i - j)) H):=rfl
theorem Gp {i j:Int}{H:Hp}{Q:VK}:(iB .Mult (.int i) (.int j) H Q)=(sZ i j/\Q (.int (i*j)) H):=rfl
theorem BG {i j:Int}{H:Hp}{Q:VK}:(iB .FloorDiv (.int i) (.int j) H Q)=(xa i j/\Q (.int (i / j)) H):=rfl
theorem Gq {i j:Int}{H:Hp}{Q:VK}:(iB .Mod (.int i) (.int j) H Q)=(0<j/\Q (.int (i % j)) H):=rfl
theorem Go {i j:Int}{H:Hp}{Q:VK}:(iB .Pow (.int i) (.int j) H Q)=(CS i j/\Q (.int (i ^ j.toNat)) H):=rfl
theorem Gs {K:Frag}{z:Str}{i:Int}{H:Hp}{Q:VK}:(Ce K (.str z) (.int i) H Q)=(z.length<=sizeLine/\∃c,atI z.cps.toList i=some c/\Q (.str ⟨#[c]⟩) H):=rfl
theorem Gu {K:Frag}{d:Addr}{i:Int}{H:Hp}{Q:VK}:(Ce K (.ref d) (.int i) H Q)=(∃xs v,(aJ K H d xs\/eE K H d xs)/\atI xs i=some v/\Q v H):=rfl
theorem Gm {K:Frag}{z:Str}{lo hi:Option Int}{H:Hp}{Q:VK}:(CV K (.str z) lo hi H Q)=(z.length<=sizeLine/\Q (.str (kj z lo hi)) H):=rfl
theorem Gn {K:Frag}{d:Addr}{lo hi:Option Int}{H:Hp}{Q:VK}:(CV K (.ref d) lo hi H Q)=(∃xs,aJ K H d xs/\∀q,H q=none->Q (.ref q) (upd H q (.lst (iz xs lo hi)))):=rfl
theorem BA {K:Frag}{z:Str}{H:Hp}{Q:VK}:(nR K [.str z] H Q)=(z.length<=sizeLine/\Q (.int z.length) H):=rfl
theorem BB {K:Frag}{d:Addr}{H:Hp}{Q:VK}:(nR K [.ref d] H Q)=(∃ys,(aJ K H d ys\/eE K H d ys)/\Q (.int ys.length) H):=rfl
theorem Gr {i j:Int}{H:Hp}{Q:VK}:(uD [.int i,.int j] H Q)=(Q (.int (if j<i then j else i)) H):=rfl
theorem Gk {i:Int}{H:Hp}{Q:VK}:(Gf [.int i] H Q)=(i.natAbs.log2<1920/\Q (.str (toString i)) H):=rfl
theorem BE {z:Str}{H:Hp}{Q:VK}:(nX [.str z] H Q)=(∃n,PySem.intText? z=some n/\z.length<=640/\Q (.int n) H):=rfl
theorem BF {k:Bool}{H:Hp}{Q:VK}:(nX [.bl k] H Q)=(Q (.int (if k then 1 else 0)) H):=rfl
theorem Gv {K:Frag}{d:Addr}{H:Hp}{Q:VK}:(w9 K [.ref d] H Q)=(∃ks:List Bool,aJ K H d (ks.map V.bl)/\Q (.bl (ks.all id)) H):=rfl
theorem IV {a b:Str}{H:Hp}{Q:VK}:(swA (.str a) [.str b] H Q)=(Q (.bl (b.cps.toList.isPrefixOf a.cps.toList)) H):=rfl
theorem BD {K:Frag}{a:Str}{d:Addr}{H:Hp}{Q:VK}:(GX K (.str a) [.ref d] H Q)=(∃ys:List Str,aJ K H d (ys.map V.str)/\(ys.map (·.length)).sum+ys.length*a.length<=16777216/\Q (.str (Txt.join a ys)) H):=rfl
theorem IU {a:Str}{H:Hp}{Q:VK}:(upA (.str a) [] H Q)=(a.length<=sizeLine/\(∀c∈a.cps.toList,c<128)/\Q (.str ⟨a.cps.map up1⟩) H):=rfl
theorem rO {T:BT}{H:Hp}{Q:VK}:(qL T .non H Q)=(Q (.bl false) H):=rfl
theorem uf {T:BT}{b:Bool}{H:Hp}{Q:VK}:(qL T (.bl b) H Q)=(Q (.bl (de .bool T)) H):=rfl
theorem rP {T:BT}{b:Int}{H:Hp}{Q:VK}:(qL T (.int b) H Q)=(Q (.bl (de .int T)) H):=rfl
theorem rN {T:BT}{b:Str}{H:Hp}{Q:VK}:(qL T (.str b) H Q)=(Q (.bl (de .str T)) H):=rfl
theorem r_b {k:Bool}{Q:Bool->Hp->Prop}{H:Hp}:dU Q (.bl k) H=Q k H:=rfl
end L2
namespace L2
open PySem PySem.Spec PyProof.Rows
def fi:Expr->Bool
 | .Starred _ _=>false
 | _=>true
theorem ez {e:Expr}{es:List Expr}{env:Env}(h:fi e=true):starEach (e::es) env=(false,eval e env)::starEach es env:=by
 cases e<;>first | rfl | cases h
theorem e8 {pos:Pos}{env:Env}:∀{es:List Expr},es.all fi=true->(backTo pos (starEach es env)).any (·.1)=false
 | [],_=>rfl
 | e::es,h=>by
   rw [JP,Lr] at h;rw [ez h.1];show (false||(backTo pos (starEach es env)).any (·.1))=false
   rw [e8 h.2];rfl
section
variable {X:Cx}{a b c e o:Expr}{ta tb tc te to:TE}{p p2 pos:Pos}{es:List Expr}{t:TA}
theorem aq (ha:PE X e te) (hr:PA X es t) (h:fi e=true:=by rfl):PA X (e::es) (aK te t):=pa_cons ha hr (ez h)
theorem aL {name:Str}{ps:List Str}{k j:Nat}{sp:Sp}(C:fv X.prog X.w X.K X.mg X.base name ps k sp) (hr:cz j X.A) (ha:PA X (e::es) t) (hkj:k<=j:=by decide) (hp:(e::es).all fi=true:=by rfl) (hg:Gl X name:=by rfl) (hdb:(name == ("__debug__":Str))=false:=by decide):PE X (.Call (.Name name p) (e::es) [] pos) (gw sp t):=by have hp':=hp;rw [JP,Lr] at hp';exact wQ C hr hkj ha hg hdb (ez hp'.1) (e8 hp'.2)
theorem kB {id:String}{x:Str}{r:List V->Hp->VK->Prop}(hc:bd X (.builtin id) r) (hv:bootBuiltins x=some (.builtin id)) (hm:X.mg x=none) (ha:PA X (e::es) t) (hp:(e::es).all fi=true:=by rfl) (hg:Gl X x:=by rfl) (hn:x≠"__name__":=by decide) (hdb:(x == ("__debug__":Str))=false:=by decide):PE X (.Call (.Name x p) (e::es) [] pos) (cB r t):=by have hp':=hp;rw [JP,Lr] at hp';exact Jj hc hv hm ha hg hn hdb (ez hp'.1) (e8 hp'.2)
theorem nV {T:String}{x:Str}{r:List V->Hp->VK->Prop}(hc:bd X (.type T) r) (hv:bootBuiltins x=some (.type T)) (hm:X.mg x=none) (ha:PA X (e::es) t) (hp:(e::es).all fi=true:=by rfl) (hg:Gl X x:=by rfl) (hn:x≠"__name__":=by decide) (hdb:(x == ("__debug__":Str))=false:=by decide):PE X (.Call (.Name x p) (e::es) [] pos) (cB r t):=by have hp':=hp;rw [JP,Lr] at hp';exact Hr hc hv hm ha hg hn hdb (ez hp'.1) (e8 hp'.2)
end
end L2
namespace L2
open PySem
theorem eW {t u:TS}{D:cQ}{σ:St}{H:Hp}(P:St->Hp->Prop) (h:∀K:St->Hp->Prop,(∀σ' H',P σ' H'->K σ' H')->t {D with nx:=K} σ H) (h2:∀σ' H',P σ' H'->u D σ' H'):bu t u D σ H:=h (u D) h2
theorem bj {te:TE}{i:Nat}{u:TS}{D:cQ}{σ:St}{H:Hp}(P:V->Hp->Prop) (h:∀Q:VK,(∀v H',P v H'->Q v H')->te σ H Q) (h2:∀v H',P v H'->u D (σ.set i (some v)) H'):bu (tAsg te (gName i)) u D σ H:=h _ h2
theorem bX {c:TT}{t u:TS}{D:cQ}{σ:St}{H:Hp}(P:Bool->Hp->Prop) (hc:∀Q:Bool->Hp->Prop,(∀b H',P b H'->Q b H')->c σ H Q) (h1:∀H',P true H'->t {D with nx:=u D} σ H') (h2:∀H',P false H'->u D σ H'):bu (jX c t iZ) u D σ H:=by
 refine hc _ λ b H' p=>?_;cases b with
 | true=>exact jf (h1 H' p)
 | false=>exact jK (h2 H' p)
end L2
namespace L2
open PySem
def gJ:List Expr->Option (List V)
 | []=>some []
 | .Constant (.int i) _ _::r=>(gJ r).map (V.int i:: ·)
 | .Constant (.str x) _ _::r=>(gJ r).map (V.str x:: ·)
 | .Constant (.bool b) _ _::r=>(gJ r).map (V.bl b:: ·)
 | .Constant .none _ _::r=>(gJ r).map (V.non:: ·)
 | _=>none
def Jk (vs:List V):TA:=λ _ H Q=>Q vs H
theorem dy {X:Cx}:∀{es:List Expr}{vs:List V},gJ es=some vs->PA X es (Jk vs):=by
 intro es
 induction es with
 | nil=>intro vs h;cases h;exact pa_nil
 | cons e r ih=>
   intro vs h;unfold gJ at h;split at h
   ·rename_i e1;cases e1
   ·rename_i e1;cases e1;obtain ⟨ws,h1,h2⟩:=LD.mp h;subst h2;exact aq ag (ih h1)
   ·rename_i e1;cases e1;obtain ⟨ws,h1,h2⟩:=LD.mp h;subst h2;exact aq aI (ih h1)
   ·rename_i e1;cases e1;obtain ⟨ws,h1,h2⟩:=LD.mp h;subst h2;exact aq db (ih h1)
   ·rename_i e1;cases e1;obtain ⟨ws,h1,h2⟩:=LD.mp h;subst h2;exact aq fj (ih h1)
   ·cases h
end L2
namespace L2
open PySem
theorem jP {g:TG}{tt:TT}{te:TE}{src:List (Option Nat)}{σ:St}{Q:VK}{J:It}{H1:Hp}(n:Nat) (N:Nat->List V->St->Hp->Prop) (hn:n<=sizeLine) (hlen:∀i ys σ H,N i ys σ H->ys.length<=i)
  (hgo:∀i ys σ H,N i ys σ H->i<n->J.go i H) (hstop:∀ys σ H,N n ys σ H->J.stop n H) (h0:N 0 [] (eX src σ) H1)
  (hturn:∀i ys σ' H' x H2,i<n->N i ys σ' H'->J.yld i H' x H2->∀(Kt:V->St->Hp->Prop) (Kf:St->Hp->Prop),(∀v σ3 H5,N (i+1) (ys++[v]) σ3 H5->Kt v σ3 H5)->(∀σ3 H4,N (i+1) ys σ3 H4->Kf σ3 H4)->
   g x σ' H2 λ σ3 H3=>tt σ3 H3 λ b H4=>if b=true then te σ3 H4 λ v H5=>Kt v σ3 H5 else Kf σ3 H4)
  (hQ:∀ys σ' H' d,N n ys σ' H'->H' d=none->Q (.ref d) (upd H' d (.lst ys))):fK g tt te src σ Q J H1:=by
 refine ⟨λ i m ys σ' H'=>m=n - i/\i<=n/\N i ys σ' H',⟨n,by simp,K7 _,h0⟩,?_⟩;rintro i m ys σ' H' ⟨rfl,hi,hN⟩
 by_cases hlt:i<n
 ·refine .inr ⟨hgo i ys σ' H' hN hlt,?_,λ x H2 y=>?_⟩
  ·have:=hlen i ys σ' H' hN;omega
  ·exact hturn i ys σ' H' x H2 hlt hN y _ _ (λ v σ3 H5 h=>⟨n - (i+1),by omega,rfl,hlt,h⟩) (λ σ3 H4 h=>⟨n - (i+1),by omega,rfl,hlt,h⟩)
 ·have e:i=n:=by omega
  subst e;exact .inl ⟨hstop ys σ' H' hN,λ d hd=>hQ ys σ' H' d hN hd⟩
end L2
namespace L2
open PySem
theorem nZ {ta:TA}{g:TG}{tb:TS}{D:cQ}{σ:St}{H:Hp}(n:Int) (hta:∀Q:List V->Hp->Prop,Q [.int n] H->ta σ H Q) (h0: -(2 ^ 62)<=n) (h1:n<2 ^ 62) (Pv:Nat->St->Hp->Prop) (hp0:Pv 0 σ H)
  (hs:∀i σ H,i<n.toNat->Pv i σ H->g (.int (0+i)) σ H λ σ2 H2=>tb {D with nx:=Pv (i+1),ct:=Pv (i+1),bk:=D.nx} σ2 H2) (hd:∀σ H,Pv n.toNat σ H->D.nx σ H):tFor (kO ta) g tb D σ H:=
 hta _ ⟨n,rfl,h0,h1,kQ Pv hp0 hs hd⟩
theorem oa {K:Frag}{tl:TE}{g:TG}{tb:TS}{D:cQ}{σ:St}{H:Hp}(P:V->Hp->Prop) (htl:∀Q:VK,(∀v H',P v H'->Q v H')->tl σ H Q)
  (h:∀v H',P v H'->∃d xs,v=.ref d/\aJ K H' d xs/\∃Pv:Nat->St->Hp->Prop,Pv 0 σ H'/\(∀i σ H,i<=xs.length->Pv i σ H->aJ K H d xs)/\
   (∀(i:Nat) x σ H,xs[i]? =some x->Pv i σ H->g x σ H λ σ2 H2=>tb {D with nx:=Pv (i+1),ct:=Pv (i+1),bk:=D.nx} σ2 H2)/\(∀σ H,Pv xs.length σ H->D.nx σ H)):tFor (kP K tl) g tb D σ H:=
 htl _ λ v H' p=>by obtain ⟨d,xs,rfl,hq,Pv,a,b,c,e⟩:=h v H' p;exact ⟨d,rfl,⟨xs,hq⟩,uW Pv a b c e⟩
end L2
namespace L2
open PySem PySem.Spec PyProof.Rows
def rp (ns:List Int):List Int:=firstMet (λ i=>ns.getD i 0) ns.length
theorem pb (ns:List Int):(List.range ns.length).map (λ i=>ns.getD i 0)=ns:=by
 apply KL;intro i;rw [JO]
 by_cases h:i<ns.length
 ·rw [Ky h,JB h];show some (ns.getD i 0)=_;rw [JM,JB h];rfl
 ·rw [Kn (by rw [J7];omega),Kn (by omega)];rfl
theorem gt (val:Nat->Int):∀i,(firstMet val i).length=i<->((List.range i).map val).Nodup
 | 0=>by simp [firstMet_zero]
 | i+1=>by
   have ih:=gt val i;have hle:=firstMet_length_le val i;have ha:=firstMet_any val i (val i);rw [firstMet_succ,Kz,JN,Kd];unfold step_dedup
   by_cases h:(firstMet val i).any (· == val i)=true
   ·rw [if_pos h]
    constructor
    ·intro e;omega
    ·intro e;rw [ha,JU] at h;obtain ⟨x,hx,e2⟩:=h;have:x=val i:=beq_iff_eq.mp e2;exact absurd this (e.2.2 x hx (val i) (by simp))
   ·rw [if_neg h,JD,Kw]
    constructor
    ·intro e;refine ⟨ih.mp (by omega),by simp,λ x hx y hy=>?_⟩;have hy':y=val i:=by simpa using hy
     subst hy';intro e3;apply h;rw [ha,JU];exact ⟨x,hx,beq_iff_eq.mpr e3⟩
    ·intro e;rw [ih.mpr e.1]
theorem tH (ns:List Int):(rp ns).length=ns.length<->ns.Nodup:=by unfold rp;rw [gt,pb]
section
variable {X:Cx}
def By (K:Frag) (xs:List V) (H:Hp) (Q:VK):Prop:=match xs with
 | [.ref d]=> ∃ns:List Int,aJ K H d (ns.map V.int)/\ns.length+1<scanBound/\∀q,H q=none->Q (.ref q) (upd H q (.set (λ k=>(rp ns).any (· == k)) (rp ns).length))
 | _=>False
theorem sR (hh:X.A.handled=none):bd X (.type "set") (By X.K):=by
 intro pins s σ H xs us Q I r h;unfold By at h;split at h
 ·rename_i d;obtain ⟨ns,hq,hb,q⟩:=h;obtain ⟨u,rfl,rx⟩:=eS r;cases rx;obtain ⟨its,r',pl,hz⟩:=I.list hq;have hlen:=r'.length;rw [Jx] at hlen;have hi:IntsAre its.toArray.toList ns:=jM r';have hs:its.toArray.size=ns.length:=by rw [JA,<-hlen]
  refine call_set_list hh pl.isList hi (by rw [hs];exact hb) λ h' tk hS kp=>?_;rw [hs] at hS;have k2:∀b u,s.heap.get? b=some u->h'.get? b=some u:=λ b u e=>kp b u (Heap.lt_size e) e;exact ⟨.ref s.heap.objs.size,_,I.laid (t':=tk) k2 (KW _) (show bD X.prog X.w _ h' _ (.set _ _) from hS),rfl,q _ (I.hok.fresh (KW _))⟩
 ·exact h.elim
def Be (xs:List V) (H:Hp) (Q:VK):Prop:=match xs with
 | [.ref d]=> ∃S n,H d=some (.set S n)/\Q (.int n) H
 | _=>False
theorem pX:bd X (.builtin "len") Be:=by
 intro pins s σ H xs us Q I r h;unfold Be at h;split at h
 ·rename_i d;obtain ⟨S,n,hd,q⟩:=h;obtain ⟨u,rfl,rx⟩:=eS r;cases rx;obtain ⟨o,es,ep,t,h1,h2,h3,_,_,h6,h7,h8⟩:=(show bD X.prog X.w H s.heap d (.set S n) from I.hok d _ hd);subst h8;have hb:es.size<4096:=h6;exact PySem.call_len_set h1 h2 h3 h7 (by omega) ⟨.int es.size,H,I.tok _,⟨_,rfl⟩,q⟩
 ·exact h.elim
def tW (K:Frag) (xs:List V) (H:Hp) (Q:VK):Prop:=match xs with
 | [.ref d]=> ∃ns:List Int,aJ K H d (ns.map V.int)/\ns.length<64/\∀(ns':List Int) q,ns'.Perm ns->ns'.Pairwise (·<=·)->H q=none->Q (.ref q) (upd H q (.lst (ns'.map V.int)))
 | _=>False
theorem pU:bd X (.builtin "sorted") (tW X.K):=by
 intro pins s σ H xs us Q I r h;unfold tW at h;split at h
 ·rename_i d;obtain ⟨ns,hq,hb,q⟩:=h;obtain ⟨u,rfl,rx⟩:=eS r;cases rx;obtain ⟨its,r',pl,hz⟩:=I.list hq;have hlen:=r'.length;rw [Jx] at hlen;refine sorted_ints pl.isList (jM r') (by omega) λ out ns' a1 a2 a3=>?_;obtain ⟨e,he⟩:=sortedAll_at s.heap its out;have hl:=a2.length_eq;have hz':(ns'.map V.int).length<=sizeLine:=by rw [Jx,hl,sizeLine_eq];omega
  exact ⟨.ref (s.heap.objs.size+1),_,I.laid (t':=s.toks) (λ _ _=>sortedAll_old) (Lc _) (show bD X.prog X.w _ _ _ (.lst (ns'.map V.int)) from ⟨hz',out.toList,e,iG a1,by simpa [seqObj] using he⟩),rfl,q ns' _ a2 a3 (I.hok.fresh (Lc _))⟩
 ·exact h.elim
def jG (K:Frag) (xs:List V) (H:Hp) (Q:VK):Prop:=match xs with
 | [.ref d]=> ∃ys,(aJ K H d ys\/eE K H d ys)/\∀l,H l=none->Q (.ref l) (upd H l (.lst ys))
 | _=>False
theorem pW:bd X (.type "list") (jG X.K):=(mz (X:=X)).imp λ xs H Q h=>by
 unfold jG at h;split at h
 ·obtain ⟨ys,h1,q⟩:=h;exact ⟨_,ys,rfl,h1,q⟩
 ·exact h.elim
def jr (K:Frag) (xs:List V) (H:Hp) (Q:VK):Prop:=match xs with
 | [.ref d]=> ∃ys,(aJ K H d ys/\∀l,H l=none->Q (.ref l) (upd H l (.tup ys)))\/(eE K H d ys/\Q (.ref d) H)
 | _=>False
theorem oy:bd X (.type "tuple") (jr X.K):=(km (X:=X)).imp λ xs H Q h=>by
 unfold jr at h;split at h
 ·obtain ⟨ys,h1⟩:=h;exact ⟨_,ys,rfl,h1⟩
 ·exact h.elim
theorem Ja (K:Frag) {j:Nat}(hr:cz j X.A) (hK:X.K=K:=by rfl):bd X (.type "set") (By K):=by subst hK;exact sR hr.hd
theorem GT (K:Frag) (hK:X.K=K:=by rfl):bd X (.builtin "sorted") (tW K):=by subst hK;exact pU
theorem kL (K:Frag) (hK:X.K=K:=by rfl):bd X (.type "list") (jG K):=by subst hK;exact pW
theorem mr (K:Frag) (hK:X.K=K:=by rfl):bd X (.type "tuple") (jr K):=by subst hK;exact oy
theorem vY {K:Frag}{d:Addr}{H:Hp}{Q:VK}:(jr K [.ref d] H Q)=(∃ys,(aJ K H d ys/\∀l,H l=none->Q (.ref l) (upd H l (.tup ys)))\/(eE K H d ys/\Q (.ref d) H)):=rfl
theorem qK {T:BT}{a:Addr}{xs:List V}{H:Hp}{Q:VK}(h:H a=some (.lst xs)) (q:Q (.bl (de .list T)) H):qL T (.ref a) H Q:=by simp only [qL,h];exact q
end
theorem og {x:V}(h:flatV x=true):eqV x x=true:=by cases x<;>simp_all [flatV,eqV]
theorem ve {K:Frag}{H:Hp}{n:Nat}{a b:Addr}{xs:List V}(ha:aJ K H a xs) (hb:aJ K H b xs) (hf:xs.all flatV=true):mJ K H (n+1) (.ref a) (.ref b) true:=by
 have h:mJ K H (n+1) (.ref a) (.ref b) ((List.range xs.length).all λ _=>true):=.lst ha hb rfl λ i x y hx hy=>by
  rw [hx] at hy;cases hy;have hfx:=JL.mp hf x (JT hx);have:=oG.flat (K:=K) (H:=H) (n:=n) hfx hfx
  rwa [og hfx] at this
 have e:((List.range xs.length).all λ _=>true)=true:=JL.mpr λ _ _=>rfl
 rwa [e] at h
theorem sO (zs:List Int):(zs.map V.int).all flatV=true:=JL.mpr λ x hx=>by obtain ⟨z,_,rfl⟩:=Jz.mp hx;rfl
def Fl (K:Frag) (H:Hp) (p:Addr) (f:Str) (v:V):Prop:= ∃C dx fs,H p=some (.ins C dx fs)/\oH K C/\bY K C f/\fs.lookup f=some v
def Jh (K:Frag) (x:V) (f:Str) (H:Hp) (Q:VK):Prop:=match x with
 | .ref a=> ∃v,Fl K H a f v/\Q v H
 | _=>False
def CC (K:Frag) (to:TE) (f:Str):TE:=λ σ H Q=>to σ H λ x H1=>Jh K x f H1 Q
def vI (C:Addr) (m:Str) (H:Hp) (a:Addr):Prop:= ∃dx fs,H a=some (.ins C dx fs)/\fs.lookup m=none
structure vH (P:Program) (w:World) (K:Frag) (mg:Str->Option Value) (base:Heap) (C:Addr) (m:Str) (ps:List Str) (k:Nat) (sp:Sp):Prop where
 ex:∃f fd,bz P w K mg base eP k f fd ps sp/\Hu K C m f/\fg K fd ps []
 cl:oH K C
structure oF (P:Program) (w:World) (K:Frag) (mg:Str->Option Value) (base:Heap) (name:Str) (C:Addr) (ps:List Str) (k:Nat) (sp:Sp):Prop where
 ex:∃f fd,Mk K C f/\bz P w K mg base eP k f fd ps sp/\mg name=some (.ref C)/\fg K fd ps []
def GO (C:Addr) (m:Str) (x:V) (H:Hp) (R:Addr->Prop):Prop:=match x with
 | .ref a=>vI C m H a/\R a
 | _=>False
def Bk (C:Addr) (m:Str) (sp:Sp) (to:TE) (t:TA):TE:=λ σ H Q=>to σ H λ x H1=>GO C m x H1 λ a=>t σ H1 λ vs H2=>sp (.ref a::vs) H2 Q E0
def Bl (C:Addr) (sp:Sp) (t:TA):TE:=λ σ H Q=>t σ H λ vs H1=> ∀x dx,H1 x=none->H1 dx=none->dx≠x->sp (.ref x::vs) (upd (upd H1 dx (.own x)) x (.ins C dx [])) (λ v H2=>v=.non/\Q (.ref x) H2) E0
section
variable {X:Cx}{e o value:Expr}{te to tv:TE}{p pos pos' apos:Pos}{es:List Expr}{t:TA}{f m:Str}
theorem gq (K:Frag) (ho:PE X o to) (hb:attributeBase o f X.env (eval o X.env)=eval o X.env:=by rfl) (hK:X.K=K:=by rfl):PE X (.Attribute o f pos) (CC K to f):=by
 subst hK;intro pins s σ H Q I h;refine w5 hb (cb (ho pins s σ H _ I h) λ u s1 ⟨x,H1,I1,rx,q1⟩=>?_);cases x with
 | ref a=>
   obtain ⟨v,⟨C,dx,fs,ea,c,n,l⟩,q⟩:=q1;obtain rfl:u=Value.ref a:=rx;exact pH I1 ea c n l λ u' s2 I2 ru=>⟨v,H1,I2,ru,q⟩
 | _=>exact q1.elim
theorem gR (K:Frag) (ho:PE X o to) (hv:PE X value tv) (hs:swapsWith value (some (.Attribute o f pos')) pos.line X.env=pure false:=by rfl) (hK:X.K=K:=by rfl):PS X (.Assign [.Attribute o f pos'] value pos) (rG K to tv f):=by subst hK;exact BJ ho hv hs
theorem qI {C:Addr}{ps:List Str}{k j:Nat}{sp:Sp}{pl:Sem Bool}(M:vH X.prog X.w X.K X.mg X.base C m ps k sp) (hr:cz j X.A) (ho:PE X o to) (ha:PA X (e::es) t) (hkj:k<=j:=by decide) (hp:(e::es).all fi=true:=by rfl)
  (ht:eval (.Call (.Attribute o m apos) (e::es) [] pos) X.env=(do
   let ov<-eval o X.env
   standAt apos.atName
   let (f,first)<-holding [ov] (getMethod ov m pl)
   callWith pos f first (backTo pos (starEach (e::es) X.env)) (backToKw pos (keywordEach [] X.env))):=by rfl):PE X (.Call (.Attribute o m apos) (e::es) [] pos) (Bk C m sp to t):=by
 obtain ⟨f,fd,F,hm,hb⟩:=M.ex;have hp':=hp;rw [JP,Lr] at hp';intro pins s σ H Q I h;refine PySem.W.methodCall_KW (pl:=pl) (cb (ho pins s σ H _ I h) λ u s1 ⟨x,H1,I1,rx,q⟩=>?_) ht;cases x with
 | ref a=>
   obtain ⟨⟨dx,fs,ea,l⟩,q⟩:=q;obtain rfl:u=Value.ref a:=rx;refine pG I1 ea M.cl hm l ?_;refine LZ (first:=[.ref a]) (h₀:=X.base) I.ok.mod.kin hm.kp (cb (ha pos pins s1 σ H1 _ I1 q) λ us s2 ⟨vs,H2,I2,r,q2⟩=>⟨I2.kIn,?_⟩) (ez hp'.1) (e8 hp'.2);refine t5 (us:=.ref a::us) (vs:=.ref a::vs) (dvs:=[]) (ds:=[]) F (hr.mono hkj) hb .nil uB I2 (.cons rfl r) ?_;rw [JR];exact q2
 | _=>exact q.elim
theorem uI {name:Str}{C:Addr}{ps:List Str}{k j:Nat}{sp:Sp}(M:oF X.prog X.w X.K X.mg X.base name C ps k sp) (hr:cz j X.A) (ha:PA X (e::es) t) (hkj:k+1<=j:=by decide) (hp:(e::es).all fi=true:=by rfl) (hg:Gl X name:=by rfl) (hdb:(name == ("__debug__":Str))=false:=by decide):
  PE X (.Call (.Name name p) (e::es) [] pos) (Bl C sp t):=by
 obtain ⟨f,fd,MK,F,hm,hb⟩:=M.ex;have hp':=hp;rw [JP,Lr] at hp';refine (wc MK F (hr.mono hkj) hg hm hb .nil uB ha hdb (ez hp'.1) (e8 hp'.2):PE X _ (tQ C sp [] E0 t)).imp λ σ H Q h=>?_;unfold tQ;simp only [JR];exact h
end
def SameBut (k:Addr) (H H':Hp):Prop:= ∀b o,H b=some o->b≠k->H' b=some o
theorem ah.but {k:Addr}{H H':Hp}(h:ah H H'):SameBut k H H':=λ b o e _=>h b o e
theorem SameBut.self {k:Addr}{H H':Hp}{o:HO}(a:SameBut k H H'):SameBut k H (upd H' k o):=λ c ob e n=>by rw [au n];exact a c ob e n
theorem SameBut.new {k d:Addr}{H H':Hp}{o:HO}(a:SameBut k H H') (hd:H d=none):SameBut k H (upd H' d o):=λ c ob e n=>by rw [au (aj e hd)];exact a c ob e n
theorem ah.put {d:Addr}{H H':Hp}{o:HO}(a:ah H H') (hd:H d=none):ah H (L2.upd H' d o):=λ c ob e=>by rw [au (aj e hd)];exact a c ob e
theorem eF {H:Hp}{a b:Addr}{o o':HO}(ha:H a=some o) (hb:H b=some o') (h:o≠o'):a≠b:=λ e=>by subst e;rw [ha] at hb;exact h (Option.some.inj hb)
theorem vU {to tv:TE}{f:Str}{K:Frag}{u:TS}{D:cQ}{σ:St}{H:Hp}(P:V->Hp->Prop) (h:∀Q:VK,(∀v H',P v H'->Q v H')->tv σ H Q) (p C dx:Addr) (hto:∀H' (Q:VK),Q (.ref p) H'->to σ H' Q) (hc:oH K C) (hn:bY K C f)
  (h2:∀v H',P v H'->∃fs,H' p=some (.ins C dx fs)/\fs.length<1000/\u D σ (upd H' p (.ins C dx (putF f v fs)))):bu (rG K to tv f) u D σ H:=
 h _ λ v H' q=>by obtain ⟨fs,e,l,r⟩:=h2 v H' q;exact hto _ _ ⟨p,C,dx,fs,rfl,e,hc,hn,l,r⟩
theorem qg {to tv:TE}{f:Str}{K:Frag}{D:cQ}{σ:St}{H:Hp}(P:V->Hp->Prop) (h:∀Q:VK,(∀v H',P v H'->Q v H')->tv σ H Q) (p C dx:Addr) (hto:∀H' (Q:VK),Q (.ref p) H'->to σ H' Q) (hc:oH K C) (hn:bY K C f)
  (h2:∀v H',P v H'->∃fs,H' p=some (.ins C dx fs)/\fs.length<1000/\D.nx σ (upd H' p (.ins C dx (putF f v fs)))):rG K to tv f D σ H:=
 h _ λ v H' q=>by obtain ⟨fs,e,l,r⟩:=h2 v H' q;exact hto _ _ ⟨p,C,dx,fs,rfl,e,hc,hn,l,r⟩
end L2
namespace L2
open PySem PySem.Spec PyProof.Rows
def Ev (t:TE) (σ:St) (H:Hp) (v:V):Prop:= ∀Q:VK,Q v H->t σ H Q
def Tv (t:TT) (σ:St) (H:Hp) (b:Bool):Prop:= ∀Q:Bool->Hp->Prop,Q b H->t σ H Q
def Av (t:TA) (σ:St) (H:Hp) (vs:List V):Prop:= ∀Q:List V->Hp->Prop,Q vs H->t σ H Q
section
variable {K:Frag}{σ:St}{H:Hp}{ta tb tc te to:TE}{t u:TT}{x y:V}{i j k:Int}{a b:Bool}{z z':Str}
theorem ao:Ev (tC x) σ H x:=λ Q q=>q
theorem aa {n:Nat}(h:σ[n]? =some (some x)):Ev (bP n) σ H x:=λ Q q=>by unfold bP;rw [h];exact q
theorem cg (ha:Ev ta σ H (.int i)) (hb:Ev tb σ H (.int j)):Ev (fU .Add ta tb) σ H (.int (i+j)):=λ Q q=>ha _ (hb _ q)
theorem hJ (ha:Ev ta σ H (.int i)) (hb:Ev tb σ H (.int j)):Ev (fU .Sub ta tb) σ H (.int (i - j)):=λ Q q=>ha _ (hb _ q)
theorem fT (ha:Ev ta σ H (.int i)) (hb:Ev tb σ H (.int j)) (h:sZ i j):Ev (fU .Mult ta tb) σ H (.int (i*j)):=λ Q q=>ha _ (hb _ ⟨h,q⟩)
theorem bA (ha:Ev ta σ H (.int i)) (hb:Ev tb σ H (.int j)) (h:xa i j):Ev (fU .FloorDiv ta tb) σ H (.int (i / j)):=λ Q q=>ha _ (hb _ ⟨h,q⟩)
theorem aX (ha:Ev ta σ H (.int i)) (hb:Ev tb σ H (.int j)) (h:0<j):Ev (fU .Mod ta tb) σ H (.int (i % j)):=λ Q q=>ha _ (hb _ ⟨h,q⟩)
theorem pK (ha:Ev ta σ H (.int i)):Ev (wV ta) σ H (.int (-i)):=λ Q q=>ha _ q
theorem mw (ha:Ev ta σ H (.str z)) (hb:Ev tb σ H (.str z')) (h:z.length+z'.length<=sizeLine):Ev (fU .Add ta tb) σ H (.str (z++z')):=λ Q q=>ha _ (hb _ ⟨h,q⟩)
theorem cV {p:Addr}{f:Str}(ho:Ev to σ H (.ref p)) (h:Fl K H p f x):Ev (CC K to f) σ H x:=λ Q q=>ho _ ⟨x,h,q⟩
theorem bg {p:Addr}{xs:List V}(ho:Ev to σ H (.ref p)) (hi:Ev ta σ H (.int i)) (h:aJ K H p xs\/eE K H p xs) (e:atI xs i=some x):Ev (tj K to ta) σ H x:=λ Q q=>ho _ (hi _ ⟨xs,x,h,e,q⟩)
theorem Cq {c:Nat}(ho:Ev to σ H (.str z)) (hi:Ev ta σ H (.int i)) (h:z.length<=sizeLine) (e:atI z.cps.toList i=some c):Ev (tj K to ta) σ H (.str ⟨#[c]⟩):=λ Q q=>ho _ (hi _ ⟨h,c,e,q⟩)
theorem dY {p:Addr}{xs:List V}(ho:Ev to σ H (.ref p)) (h:aJ K H p xs\/eE K H p xs):Ev (cB (nR K) (aK to bK)) σ H (.int xs.length):=λ Q q=>ho _ ⟨xs,h,q⟩
theorem wM (ho:Ev to σ H (.str z)) (h:z.length<=sizeLine):Ev (cB (nR K) (aK to bK)) σ H (.int z.length):=λ Q q=>ho _ ⟨h,q⟩
theorem u9 (ha:Ev ta σ H (.int i)) (hb:Ev tb σ H (.int j)):Ev (cB uD (aK ta (aK tb bK))) σ H (.int (if j<i then j else i)):=λ Q q=>ha _ (hb _ q)
theorem Cr {p:Addr}{xs:List V}{T:BT}(ho:Ev to σ H (.ref p)) (h:H p=some (.lst xs)):Ev (CB T to) σ H (.bl (de .list T)):=λ Q q=>ho _ (qK h q)
theorem uY (ha:Ev ta σ H (.bl a)):Ev (q9 ta) σ H (.bl (!a)):=λ Q q=>ha _ q
theorem cw (ha:Ev ta σ H (.bl a)) (hb:a=true->Ev tb σ H (.bl b)):Ev (oA ta tb) σ H (.bl (a&&b)):=λ Q q=>ha _ (by
 cases a with
 | true=>exact hb rfl Q q
 | false=>exact q)
theorem Hg (ha:Ev ta σ H (.bl a)) (hb:a=false->Ev tb σ H (.bl b)):Ev (wU ta tb) σ H (.bl (a||b)):=λ Q q=>ha _ (by
 cases a with
 | true=>exact q
 | false=>exact hb rfl Q q)
theorem Hh (ht:Tv t σ H b) (h1:b=true->Ev ta σ H x) (h2:b=false->Ev tb σ H y):Ev (Gc t ta tb) σ H (if b=true then x else y):=λ Q q=>ht _ (by
 cases b with
 | true=>exact jf (h1 rfl _ q)
 | false=>exact jK (h2 rfl _ q))
theorem gv (ha:Ev ta σ H (.int i)) (hb:Ev tb σ H (.int j)):Ev (eO K .Eq ta tb) σ H (.bl (decide (i=j))):=λ Q q=>ha _ (hb _ q)
theorem Bj (ha:Ev ta σ H (.int i)) (hb:Ev tb σ H (.int j)):Ev (eO K .NotEq ta tb) σ H (.bl (!decide (i=j))):=λ Q q=>ha _ (hb _ q)
theorem Hi (ha:Ev ta σ H (.int i)) (hb:Ev tb σ H (.int j)):Ev (eO K .Gt ta tb) σ H (.bl (decide (j<i))):=λ Q q=>ha _ (hb _ q)
theorem Hj (ha:Ev ta σ H (.int i)) (hb:Ev tb σ H (.int j)):Ev (eO K .GtE ta tb) σ H (.bl (decide (j<=i))):=λ Q q=>ha _ (hb _ q)
theorem hU (ha:Ev ta σ H (.str z)) (hb:Ev tb σ H (.str z')):Ev (eO K .Eq ta tb) σ H (.bl (decide (z=z'))):=λ Q q=>ha _ (hb _ q)
theorem u7 (ha:Ev ta σ H (.str z)) (hb:Ev tb σ H (.str z')):Ev (eO K .NotEq ta tb) σ H (.bl (!decide (z=z'))):=λ Q q=>ha _ (hb _ q)
theorem Ct {p q:Addr}(ha:Ev ta σ H (.ref p)) (hb:Ev tb σ H (.ref q)) (h:mJ K H 20 (.ref p) (.ref q) a):Ev (eO K .Eq ta tb) σ H (.bl a):=λ Q k=>ha _ (hb _ ⟨a,h,k⟩)
theorem Co {p q:Addr}(ha:Ev ta σ H (.ref p)) (hb:Ev tb σ H (.ref q)) (h:mJ K H 20 (.ref p) (.ref q) a):Ev (eO K .NotEq ta tb) σ H (.bl (!a)):=λ Q k=>ha _ (hb _ ⟨a,h,k⟩)
theorem uM (i:Int) (ns:List Int):Cf (.int i) (ns.map V.int)=decide (i∈ns):=by
 unfold Cf;rw [KA]
 by_cases h:i∈ns
 ·rw [decide_eq_true h];exact JU.mpr ⟨i,h,by simp [eqV]⟩
 ·rw [decide_eq_false h];apply Kb.mpr;intro y hy;have:y≠i:=λ e=>h (e▸hy);simp [eqV,this]
theorem uZ {p:Addr}{ns:List Int}(ha:Ev ta σ H (.int i)) (hb:Ev tb σ H (.ref p)) (h:aJ K H p (ns.map V.int)\/eE K H p (ns.map V.int)):Ev (eO K .NotIn ta tb) σ H (.bl (!decide (i∈ns))):=λ Q q=>ha _ (hb _ (by
 rw [gb];refine ⟨p,_,rfl,h,rfl,sO ns,?_⟩;rw [uM];exact q))
theorem qY (ha:Ev ta σ H (.int i)) (hb:Ev tb σ H (.int j)) (hc:i<=j->Ev tc σ H (.int k)):Ev (iT K .LtE .LtE ta tb tc) σ H (.bl (decide (i<=j/\j<=k))):=λ Q q=>ha _ (hb _ (by
 rw [kG]
 by_cases h:i<=j
 ·rw [decide_eq_true h];refine hc h _ ?_;have e:decide (i<=j/\j<=k)=decide (j<=k):=by simp [h]
  rw [e] at q;exact q
 ·rw [decide_eq_false h];have e:decide (i<=j/\j<=k)=false:=by simp [h]
  rw [e] at q;exact q))
theorem aP {sp:Sp}{t:TA}{vs:List V}(ht:Av t σ H vs) (h:∀Q:VK,Q x H->sp vs H Q E0):Ev (gw sp t) σ H x:=λ Q q=>ht _ (h Q q)
theorem ay:Av bK σ H []:=λ Q q=>q
theorem ac {t:TA}{vs:List V}(ha:Ev ta σ H x) (ht:Av t σ H vs):Av (aK ta t) σ H (x::vs):=λ Q q=>ha _ (ht _ q)
theorem jc {vs:List V}:Av (Jk vs) σ H vs:=λ Q q=>q
theorem bW (h:Ev te σ H (.bl b)):Tv (gT te) σ H b:=λ Q q=>h _ q
theorem cF (h:Tv t σ H b):Tv (rC t) σ H (!b):=λ Q q=>h _ q
theorem tK (ha:Tv t σ H a) (hb:a=true->Tv u σ H b):Tv (vS t u) σ H (a&&b):=λ Q q=>ha _ (by
 cases a with
 | true=>exact jf (hb rfl _ q)
 | false=>exact jK q)
theorem jp (ha:Tv t σ H a) (hb:a=false->Tv u σ H b):Tv (CU t u) σ H (a||b):=λ Q q=>ha _ (by
 cases a with
 | true=>exact jf q
 | false=>exact jK (hb rfl _ q))
end
section
variable {te:TE}{c:TT}{t u:TS}{D:cQ}{σ:St}{H:Hp}{v:V}{b:Bool}
theorem bx {i:Nat}(h:Ev te σ H v) (h2:u D (σ.set i (some v)) H):bu (tAsg te (gName i)) u D σ H:=h _ h2
theorem gD {i:Nat}(h:Ev te σ H v) (h2:D.nx (σ.set i (some v)) H):tAsg te (gName i) D σ H:=h _ h2
theorem bf (h:Ev te σ H v) (h2:D.rt v H):dw te D σ H:=h _ h2
theorem bQ (hc:Tv c σ H b) (h1:b=true->t {D with nx:=u D} σ H) (h2:b=false->u D σ H):bu (jX c t iZ) u D σ H:=hc _ (by
 cases b with
 | true=>exact jf (h1 rfl)
 | false=>exact jK (h2 rfl))
theorem lm (hc:Tv c σ H b) (h1:b=true->t D σ H) (h2:b=false->D.nx σ H):jX c t iZ D σ H:=hc _ (by
 cases b with
 | true=>exact jf (h1 rfl)
 | false=>exact jK (h2 rfl))
end
section
variable {K:Frag}{σ rest:St}{H:Hp}{tl te:TE}{tt:TT}{src:List (Option Nat)}{Q:VK}
theorem eU:Tv ky σ H true:=λ Q q=>q
theorem ou {J:It}{xs:List V}(hz:xs.length<=sizeLine) (hs:eX src σ=none::rest) (p:V->Bool) (f:V->V) (hgo:∀i,i<xs.length->J.go i H) (hstop:J.stop xs.length H) (hyld:∀i v H',i<xs.length->J.yld i H v H'->H'=H/\xs[i]? =some v)
  (ht:∀x∈xs,Tv tt (some x::rest) H (p x)) (he:∀x∈xs,p x=true->Ev te (some x::rest) H (f x)) (q:∀d',H d'=none->Q (.ref d') (upd H d' (.lst ((xs.filter p).map f)))):fK (gName 0) tt te src σ Q J H:=by
 refine ⟨λ i m ys σ' H'=>m=xs.length - i/\i<=xs.length/\ys=((xs.take i).filter p).map f/\(∃o,σ'=o::rest)/\H'=H,⟨xs.length,by simp,K7 _,by simp,⟨none,hs⟩,rfl⟩,?_⟩;rintro i m ys σ' H' ⟨rfl,hi,rfl,⟨o,rfl⟩,rfl⟩
 by_cases hlt:i<xs.length
 ·refine .inr ⟨hgo i hlt,?_,λ x H2 y=>?_⟩
  ·rw [Jx];have h1:=Ka p (xs.take i);rw [JS] at h1;omega
  ·obtain ⟨rfl,hx⟩:=hyld i x H2 hlt y;have tk:(xs.take (i+1)).filter p=(xs.take i).filter p++(if p x then [x] else []):=take_succ_filter p xs i x hx;have hm:x∈xs:=JT hx;show tt (some x::rest) H2 _;refine ht x hm _ ?_;cases hp:p x with
   | true=>
     refine jf (he x hm hp _ ?_);refine ⟨xs.length - (i+1),by omega,rfl,hlt,?_,⟨_,rfl⟩,rfl⟩;rw [tk,hp,if_pos rfl,JN];rfl
   | false=>
     refine jK ?_;refine ⟨xs.length - (i+1),by omega,rfl,hlt,?_,⟨_,rfl⟩,rfl⟩;rw [tk,hp,if_neg (by simp),JR]
 ·have e:i=xs.length:=by omega
  subst e;refine .inl ⟨hstop,λ d hd=>?_⟩;rw [List.take_length];exact q d hd
theorem dG {d:Addr}{xs:List V}(hl:Ev tl σ H (.ref d)) (hx:aJ K H d xs) (hz:xs.length<=sizeLine) (hs:eX src σ=none::rest) (p:V->Bool) (f:V->V)
  (ht:∀x∈xs,Tv tt (some x::rest) H (p x)) (he:∀x∈xs,p x=true->Ev te (some x::rest) H (f x)) (q:∀d',H d'=none->Q (.ref d') (upd H d' (.lst ((xs.filter p).map f)))):tComp (kP K tl) (gName 0) tt te src σ H Q:=
 hl _ ⟨d,rfl,⟨xs,hx⟩,ou hz hs p f (λ i hi=>⟨xs,xs[i],hx,JB hi⟩) ⟨xs,hx,KW _⟩ (λ i v H' _ y=>⟨y.1,y.2 xs hx⟩) ht he q⟩
theorem oo {ta:TA}{n:Int}(hl:Av ta σ H [.int n]) (h0:0<=n) (hz:n.toNat<=sizeLine) (h1:n<2 ^ 62) (hs:eX src σ=none::rest) (p:V->Bool) (f:V->V)
  (ht:∀i:Nat,i<n.toNat->Tv tt (some (.int (0+(i:Int)))::rest) H (p (.int (0+(i:Int))))) (he:∀i:Nat,i<n.toNat->p (.int (0+(i:Int)))=true->Ev te (some (.int (0+(i:Int)))::rest) H (f (.int (0+(i:Int)))))
  (q:∀d',H d'=none->Q (.ref d') (upd H d' (.lst ((((List.range n.toNat).map λ (i:Nat)=>V.int (0+(i:Int))).filter p).map f)))):tComp (kO ta) (gName 0) tt te src σ H Q:=by
 have hin:∀x∈(List.range n.toNat).map λ (i:Nat)=>V.int (0+(i:Int)),∃i:Nat,i<n.toNat/\x=.int (0+(i:Int)):=λ x hx=>by obtain ⟨i,hi,rfl⟩:=Jz.mp hx;exact ⟨i,J3.mp hi,rfl⟩
 have hlen:((List.range n.toNat).map λ (i:Nat)=>V.int (0+(i:Int))).length=n.toNat:=by simp
 refine hl _ ⟨n,rfl,by omega,h1,ou (xs:=(List.range n.toNat).map λ (i:Nat)=>V.int (0+(i:Int))) (by rw [hlen];exact hz) hs p f (λ i hi=>by rw [hlen] at hi;exact hi) (by rw [hlen];exact KW _) (λ i v H' hi y=>⟨y.1,?_⟩) (λ x hx=>?_) (λ x hx hp=>?_) q⟩
 ·rw [hlen] at hi;rw [JO,Ky hi,y.2];rfl
 ·obtain ⟨i,hi,rfl⟩:=hin x hx;exact ht i hi
 ·obtain ⟨i,hi,rfl⟩:=hin x hx;exact he i hi hp
end
section
variable {K:Frag}{te to tv:TE}{t:TA}{c:TT}{u:TS}{D:cQ}{σ:St}{H:Hp}{v x y:V}
theorem Bv {l:Addr}{xs:List V}(ho:Ev to σ H (.ref l)) (he:Ev te σ H y) (hl:H l=some (.lst xs)) (hz:xs.length<sizeLine) (h2:u D σ (upd H l (.lst (xs++[y])))):bu (kA (wW to te)) u D σ H:=ho _ ⟨⟨xs,hl⟩,he _ ⟨xs,hl,hz,h2⟩⟩
theorem ig {l:Addr}{xs:List V}(ho:Ev to σ H (.ref l)) (he:Ev te σ H y) (hl:H l=some (.lst xs)) (hz:xs.length<sizeLine) (h2:D.nx σ (upd H l (.lst (xs++[y])))):kA (wW to te) D σ H:=ho _ ⟨⟨xs,hl⟩,he _ ⟨xs,hl,hz,h2⟩⟩
theorem oU {f:Str}{p C dx:Addr}{fs:List (Str×V)}(h:Ev tv σ H v) (ho:Ev to σ H (.ref p)) (hp:H p=some (.ins C dx fs)) (hc:oH K C) (hn:bY K C f) (hl:fs.length<1000) (h2:u D σ (upd H p (.ins C dx (putF f v fs)))):bu (rG K to tv f) u D σ H:=h _ (ho _ ⟨p,C,dx,fs,rfl,hp,hc,hn,hl,h2⟩)
theorem oS {i:Nat}(h2:∀q,H q=none->u D (σ.set i (some (.ref q))) (upd H q (.lst []))):bu (tAsg (iH bK) (gName i)) u D σ H:=⟨K7 _,λ q hq=>h2 q hq⟩
end
section
variable {K:Frag}{te to ta tb ti:TE}{t:TA}{c:TT}{σ:St}{H:Hp}{Q:VK}{R:Bool->Hp->Prop}{v x y:V}{vs:List V}{sp:Sp}
theorem CZ (h:Ev te σ H v) (q:Q v H):te σ H Q:=h Q q
theorem e6 (h:Av t σ H vs) (q:sp vs H Q E0):gw sp t σ H Q:=h _ q
theorem cy (h:Av t σ H vs) (q:sp vs H (dU λ c H1=>R (!c) H1) E0):rC (gT (gw sp t)) σ H R:=h _ q
theorem Ht {r:List V->Hp->VK->Prop}(h:Ev to σ H v) (q:r [v] H Q):cB r (aK to bK) σ H Q:=h _ q
theorem gf (ha:Ev ta σ H x) (hb:Ev tb σ H y) (q:∀p,H p=none->Q (.ref p) (upd H p (.tup [x,y]))):mP (aK ta (aK tb bK)) σ H Q:=ha _ (hb _ ⟨by show 2<=sizeLine;decide,q⟩)
theorem ir {i:Int}(h:Av t σ H vs) (hz:vs.length<=1000) (hi:∀H',Ev ti σ H' (.int i)) (e:atI vs i=some v) (q:∀H',ah H H'->Q v H'):tj K (iH t) ti σ H Q:=h _ ⟨KZ hz (by decide),λ p hp=>hi _ _ ⟨vs,v,.inl (aJ.of ae),e,q _ ((ah.refl H).upd hp)⟩⟩
end
section
variable {K:Frag}{te to ta tb:TE}{D:cQ}{σ:St}{H:Hp}{Q:VK}{x y:V}
theorem Bm {l:Addr}(ho:Ev to σ H (.ref l)) (hl:∃xs,H l=some (.lst xs)) (q:te σ H λ y H2=> ∃xs,H2 l=some (.lst xs)/\xs.length<sizeLine/\D.nx σ (upd H2 l (.lst (xs++[y])))):kA (wW to te) D σ H:=ho _ ⟨hl,q⟩
theorem Br {d:Addr}{ys:List V}(ha:Ev ta σ H x) (hb:Ev tb σ H (.ref d)) (hd:aJ K H d ys\/eE K H d ys) (q:∀c,H c=none->∀t,(upd H c (.lst ys)) t=none->Q (.ref t) (upd (upd H c (.lst ys)) t (.tup [x,.ref c]))):mP (aK ta (aK (cB (jG K) (aK tb bK)) bK)) σ H Q:=
 ha _ (hb _ ⟨ys,hd,λ c hc=>⟨by show 2<=sizeLine;decide,λ t ht=>q c hc t ht⟩⟩)
end
end L2
namespace L2
open PySem PySem.Spec PyProof.Rows
structure tf (K:Frag) (C:Addr):Prop where
 cl:oH K C
 wide:bY K C "wide"
 high:bY K C "high"
 holes:bY K C "holes"
 firm:bY K C "firm"
def jU (wi hi:Int) (ph pf:Addr):List (Str×V):=putF "firm" (.ref pf) (putF "holes" (.ref ph) (putF "high" (.int hi) (putF "wide" (.int wi) [])))
theorem wZ (wi hi:Int) (ph pf:Addr):(jU wi hi ph pf).lookup ("wide":Str)=some (.int wi):=by unfold jU;rw [aw,if_neg (by decide+kernel),aw,if_neg (by decide+kernel),aw,if_neg (by decide+kernel),aw,if_pos rfl]
theorem w4 (wi hi:Int) (ph pf:Addr):(jU wi hi ph pf).lookup ("high":Str)=some (.int hi):=by unfold jU;rw [aw,if_neg (by decide+kernel),aw,if_neg (by decide+kernel),aw,if_pos rfl]
theorem vC (wi hi:Int) (ph pf:Addr):(jU wi hi ph pf).lookup ("holes":Str)=some (.ref ph):=by unfold jU;rw [aw,if_neg (by decide+kernel),aw,if_pos rfl]
def qT (wi hi:Int) (hs:List Int):List Bool:=(List.range (wi*hi).toNat).map λ (s:Nat)=> !decide ((s:Int)∈hs)
structure ge (K:Frag) (C:Addr) (H:Hp) (p:Addr) (wi hi:Int) (hs:List Int):Prop where
 ex:∃dx ph pf,H p=some (.ins C dx (jU wi hi ph pf))/\H ph=some (.lst (hs.map V.int))/\H pf=some (.lst ((qT wi hi hs).map V.bl))
 w1:1<=wi
 w8:wi<=8
 h1:1<=hi
 h8:hi<=8
 good:∀h∈hs,0<=h/\h<wi*hi
 srt:hs.Pairwise (·<=·)
 nd:hs.Nodup
section
variable {K:Frag}{C:Addr}{H H':Hp}{p:Addr}{wi hi:Int}{hs:List Int}
theorem ge.same (B:ge K C H p wi hi hs) (s:ah H H'):ge K C H' p wi hi hs:=by obtain ⟨⟨dx,ph,pf,a,b,c⟩,w1,w8,h1,h8,g,sr,nd⟩:=B;exact ⟨⟨dx,ph,pf,s _ _ a,s _ _ b,s _ _ c⟩,w1,w8,h1,h8,g,sr,nd⟩
theorem ge.wide (B:ge K C H p wi hi hs) (D:tf K C):Fl K H p "wide" (.int wi):=by obtain ⟨dx,ph,pf,a,_,_⟩:=B.ex;exact ⟨C,dx,_,a,D.cl,D.wide,wZ _ _ _ _⟩
theorem ge.high (B:ge K C H p wi hi hs) (D:tf K C):Fl K H p "high" (.int hi):=by obtain ⟨dx,ph,pf,a,_,_⟩:=B.ex;exact ⟨C,dx,_,a,D.cl,D.high,w4 _ _ _ _⟩
theorem ge.holes (B:ge K C H p wi hi hs) (D:tf K C):∃ph,Fl K H p "holes" (.ref ph)/\H ph=some (.lst (hs.map V.int)):=by obtain ⟨dx,ph,pf,a,b,c⟩:=B.ex;exact ⟨ph,⟨C,dx,_,a,D.cl,D.holes,vC _ _ _ _⟩,b⟩
end
def sqK (wi s ax up:Int) (k:Nat):Int:=(s / wi+k*up)*wi+(s % wi+k*ax)
def okK (wi hi:Int) (hs:List Int) (s ax up:Int) (k:Nat):Prop:=0<=s % wi+k*ax/\s % wi+k*ax<wi/\0<=s / wi+k*up/\s / wi+k*up<hi/\¬sqK wi s ax up k∈hs
instance {wi hi:Int} {hs:List Int} {s ax up:Int} {k:Nat}:Decidable (okK wi hi hs s ax up k):=by unfold okK;infer_instance
def A9:Sp:=λ vs H Q _=> ∃t a b:Int,vs=[.int t,.int a,.int b]/\Q (.bl (decide (a<=t/\t<=b))) H
def mW:Sp:=λ vs H Q _=> ∃(d:Addr) (m:Int) (hs:List Int),vs=[.ref d,.int m]/\H d=some (.lst (hs.map V.int))/\(∀h∈hs,0<=h/\h<m)/\hs.Nodup/\(hs.length:Int)<m/\m<=64/\∀H',ah H H'->Q (.bl true) H'
def qu (K:Frag) (C:Addr):Sp:=λ vs H Q _=> ∃(p d dx:Addr) (wi hi:Int) (hs:List Int),vs=[.ref p,.int wi,.int hi,.ref d]/\H p=some (.ins C dx [])/\H d=some (.lst (hs.map V.int))/\1<=wi/\wi<=8/\1<=hi/\hi<=8/\(∀h∈hs,0<=h/\h<wi*hi)/\hs.Nodup/\(hs.length:Int)<wi*hi/\
 ∀(hs':List Int) H',hs'.Perm hs->ge K C H' p wi hi hs'->SameBut p H H'->Q .non H'
structure CA (P:Program) (w:World) (K:Frag) (mg:Str->Option Value) (base:Heap):Prop where
 is_among:fv P w K mg base "is_among" ["thing","least","most"] 2 A9
structure CB2 (P:Program) (w:World) (K:Frag) (mg:Str->Option Value) (base:Heap):Prop extends CA P w K mg base where
 are_holes:fv P w K mg base "are_holes" ["thing","many"] 3 mW
end L2
namespace L2
open PySem PySem.Spec PyProof.Rows
section
variable {X:Cx}{pins:List (Addr×Obj)}{σ:St}{H:Hp}{s:Shared}{h':Heap}
end
end L2
namespace L2
open PySem PySem.Spec PyProof.Rows
section
variable {X:Cx}{p pos pos2:Pos}{a:Expr}{elts:List Expr}{k0:Nat}{ta:TE}
end
end L2
namespace L2
open PySem PySem.Spec PyProof.Rows
section
variable {X:Cx}
end
end L2
namespace L2
open PySem PySem.Spec PyProof.Rows
abbrev one (c:Nat):Str:=⟨#[c]⟩
def C1 (c:Nat):Prop:=97<=c/\c<=122
theorem iD:("abcdefghijklmnopqrstuvwxyz":Str).cps.toList=[97,98,99,100,101,102,103,104,105,106,107,108,109,110,111,112,113,114,115,116,117,118,119,120,121,122]:=by decide+kernel
theorem CM {i:Int}(h0:0<=i) (h1:i<26):atI ("abcdefghijklmnopqrstuvwxyz":Str).cps.toList i=some (97+i.toNat):=by
 have e:i=((i.toNat:Nat):Int):=by omega
 have hx:∀k<26,("abcdefghijklmnopqrstuvwxyz":Str).cps.toList[k]? =some (97+k):=by rw [iD];decide
 have q:=bJ (hx i.toNat (by omega));rw [<-e] at q;exact q
section
variable {K:Frag}{σ rest:St}{H:Hp}{te ta tb tl:TE}{tt:TT}{R:Bool->Hp->Prop}{Q:VK}{c:Nat}{z:Str}{src:List (Option Nat)}
theorem qB:∀Q:Option Int->Hp->Prop,Q none H->dB σ H Q:=λ Q q=>q
theorem qC {i:Int}(h:Ev te σ H (.int i)):∀Q:Option Int->Hp->Prop,Q (some i) H->gU te σ H Q:=λ Q q=>h _ q
end
section
variable {K:Frag}{σ:St}{H:Hp}{tb:TE}{t:TA}{op:CmpOp}{R:Bool->Hp->Prop}{vs:List V}{sp:Sp}
end
end L2
namespace L2
open PySem PySem.Spec PyProof.Rows
section
variable {K:Frag}{σ rest:St}{H:Hp}{te to ta tb tl:TE}{t:TA}{tt u:TT}{src:List (Option Nat)}{Q:VK}{R:Bool->Hp->Prop}{D:cQ}{g:TG}{tB:TS}{v x y:V}{vs:List V}{sp:Sp}
theorem qX {b:Bool}(h:Ev te σ H (.bl b)):Ev (cB nX (aK te bK)) σ H (.int (if b then 1 else 0)):=λ Q q=>h _ q
theorem sN {ta:TA}(n:Int) (hta:∀Q:List V->Hp->Prop,(∀H',ah H H'->Q [.int n] H')->ta σ H Q) (h0: -(2 ^ 62)<=n) (h1:n<2 ^ 62) (Pv:Nat->St->Hp->Prop) (hp0:∀H',ah H H'->Pv 0 σ H')
  (hs:∀i σ H,i<n.toNat->Pv i σ H->g (.int (0+i)) σ H λ σ2 H2=>tB {D with nx:=Pv (i+1),ct:=Pv (i+1),bk:=D.nx} σ2 H2) (hd:∀σ H,Pv n.toNat σ H->D.nx σ H):tFor (kO ta) g tB D σ H:=
 hta _ λ H' s=>⟨n,rfl,h0,h1,kQ Pv (hp0 H' s) hs hd⟩
theorem Gg {i:Int}{Q:List V->Hp->Prop}(h:Av t σ H vs) (hz:vs.length<=1000) (hi:∀H',Ev te σ H' (.int i)) (e:atI vs i=some v) (q:∀H',ah H H'->Q [v] H'):aK (tj K (iH t) te) bK σ H Q:=ir (K:=K) (Q:=λ x H1=>Q [x] H1) h hz hi e q
theorem Ga (h:Tv tt σ H false) (q:u σ H R):CU tt u σ H R:=h _ (jK q)
theorem mZ {d:Addr}{xs:List V}{lo hi:Option Int}{tl' th:TO}(ha:Ev ta σ H (.ref d)) (hl:∀Q:Option Int->Hp->Prop,Q lo H->tl' σ H Q) (hh:∀Q:Option Int->Hp->Prop,Q hi H->th σ H Q) (hx:aJ K H d xs) (q:∀p,H p=none->Q (.ref p) (upd H p (.lst (iz xs lo hi)))):vy K ta tl' th σ H Q:=ha _ (hl _ (hh _ ⟨xs,hx,q⟩))
theorem nA {ns:List Int}{i:Int}(h0:0<=i) (h1:i<ns.length):∃n:Int,atI (ns.map V.int) i=some (.int n)/\n∈ns:=by
 have hlt:i.toNat<ns.length:=by omega
 have e:(ns.map V.int)[i.toNat]? =some (.int ns[i.toNat]):=by rw [JO,JB hlt];rfl
 have q:=bJ e;have ei:((i.toNat:Nat):Int)=i:=by omega
 rw [ei] at q;exact ⟨_,q,J9 hlt⟩
theorem jA {xs:List V}{i:Int}(h0:0<=i) (h1:i<xs.length):∃v,atI xs i=some v/\v∈xs:=by
 have hlt:i.toNat<xs.length:=by omega
 have q:=bJ (JB hlt);have ei:((i.toNat:Nat):Int)=i:=by omega
 rw [ei] at q;exact ⟨_,q,J9 hlt⟩
theorem Hd {i j:Nat}{d:Addr}{a b:V}{R:St->Hp->Prop}(h:H d=some (.tup [a,b])) (q:R ((σ.set i (some a)).set j (some b)) H):Cn K 2 (jN (gName i) (jN (gName j) wK)) (.ref d) σ H R:=⟨d,_,rfl,eE.of h,rfl,_,_,rfl,_,_,rfl,rfl,q⟩
end
def strV (c:Nat):V:=.str (one c)
end L2
namespace L2
open PySem PySem.Spec PyProof.Rows
section
variable {κ:Type} [DecidableEq κ]
def vg (l:List κ) (x:κ):List κ:=if x∈l then l else l++[x]
def cT (val:Nat->κ):Nat->List κ
 | 0=>[]
 | i+1=>vg (cT val i) (val i)
theorem jm (val:Nat->κ):∀i,(cT val i).length<=i
 | 0=>KW 0
 | i+1=>by
   have ih:=jm val i;show (vg (cT val i) (val i)).length<=i+1;unfold vg
   by_cases h:val i∈cT val i
   ·rw [if_pos h];omega
   ·rw [if_neg h,JD];show _+1<=_;omega
theorem nN (val:Nat->κ) (x:κ):∀i,x∈cT val i<->x∈(List.range i).map val
 | 0=>by simp [cT]
 | i+1=>by
   have ih:=nN val x i;show x∈vg (cT val i) (val i)<->_;rw [Kz,JN,JG,<-ih];unfold vg
   by_cases h:val i∈cT val i
   ·rw [if_pos h]
    constructor
    ·exact λ z=>.inl z
    ·rintro (z | z)
     ·exact z
     ·have:x=val i:=by simpa using z
      rw [this];exact h
   ·rw [if_neg h,JG];simp
theorem jF (val:Nat->κ):∀i,(cT val i).length=i<->((List.range i).map val).Nodup
 | 0=>by simp [cT]
 | i+1=>by
   have ih:=jF val i;have hle:=jm val i;have hm:=nN val (val i) i;show (vg (cT val i) (val i)).length=i+1<->_;rw [Kz,JN,Kd];unfold vg
   by_cases h:val i∈cT val i
   ·rw [if_pos h]
    constructor
    ·intro z;omega
    ·intro z;exact absurd rfl (z.2.2 (val i) (hm.mp h) (val i) (by simp))
   ·rw [if_neg h,JD]
    constructor
    ·intro z;have z:(cT val i).length+1=i+1:=z;refine ⟨ih.mp (by omega),by simp,λ a ha b hb e=>h (hm.mpr ?_)⟩;have:b=val i:=by simpa using hb
     rw [<-this,<-e];exact ha
    ·intro z;rw [ih.mpr z.1];rfl
end
section
variable {prog:Program}{w:World}{A:Around}{R:Result->Shared->Prop}{I:Addr}{fp wr:List Addr}{G:Array GenState->Array GenState->Prop}{n:Nat}{Pt:Nat->Value->Prop}{St:Nat->Shared->Prop}{κ:Type} [DecidableEq κ] {knd:KeyKind prog w κ}
theorem tY (W:WalksS prog w A.in1 I fp wr G n Pt St) (D:Addr) (hD:D∉fp) (val:Nat->κ) (hv:∀i v,Pt i v->knd.is (val i) v=true/\v.scannable=true) (hb:n+1<scanBound):
  ∀(k i:Nat) (s:Shared),n - i=k->i<=n->St i s->s.heap.SetOf knd D (λ x=>decide (x∈cT val i)) (cT val i).length->
   (∀s2,Moved (D::wr) G s s2->s2.heap.SetOf knd D (λ x=>decide (x∈cT val n)) (cT val n).length->R (.ok (.ret .none)) s2)->codeAny (model prog w) A (.builtin "set.update.loop" ⟨[.ref D,.ref I],[]⟩) R s:=by
 have nW:D∉wr:=λ z=>hD (W.sub _ z);have up:∀b∈wr,b∈D::wr:=λ b z=>JJ _ z;have mv:∀{s s2:Shared} {S:κ->Bool} {m:Nat},Moved wr G s s2->s.heap.SetOf knd D S m->s2.heap.SetOf knd D S m:=λ {s s2 S m} hm ⟨o,es,ep,t,ho,r⟩=>⟨o,es,ep,t,hm.heap D _ nW ho,r⟩;intro k
 induction k with
 | zero=>
   intro i s e1 e2 st hS hR;have e3:i=n:=by omega
   subst e3;refine codeAny_builtin F.entry_set_update_loop ?_;rw [Around.under_plainId F.plain_set_update_loop _];show wpAny _ A.in1 (pyNext (.ref I) >>= _) _ _ s;refine wpAny_bind (W.done s _ _ st λ s2 hm=>?_);show wpAny _ A.in1 (ret Value.none) _ _ s2;exact wpAny_pure (hR s2 (hm.mono up) (mv hm hS))
 | succ k ih=>
   intro i s e1 e2 st hS hR;have e3:i<n:=by omega
   refine codeAny_builtin F.entry_set_update_loop ?_;rw [Around.under_plainId F.plain_set_update_loop _];show wpAny _ A.in1 (pyNext (.ref I) >>= _) _ _ s;refine wpAny_bind (W.item i s _ _ e3 st λ v s2 hp st2 hm=>?_);obtain ⟨kv,sv⟩:=hv i v hp;have hS2:=mv hm hS;show wpAny _ A.in1 (holding [v] (setAdd D v) >>= _) _ _ s2;refine wpAny_bind (wpAny_holding ?_);unfold setAdd;refine wpAny_holding (wpAny_bind (knd.pyHash (k:=val i) kv ?_));have room:(cT val i).length+1<scanBound:=by have:=jm val i;omega
   refine wpAny_setAddHashed_of (knd:=knd) (s:={s2 with toks:=s2.toks+1}) kv sv hS2 room λ h2 sb hS3=>?_;have hS4:h2.SetOf knd D (λ x=>decide (x∈cT val (i+1))) (cT val (i+1)).length:=by
    refine SetOf_congr hS3 (λ x=>?_) ?_
    ·show (decide (x∈cT val i)||decide (x=val i))=decide (x∈vg (cT val i) (val i))
     unfold vg
     by_cases m:val i∈cT val i
     ·rw [if_pos m]
      by_cases e:x=val i
      ·subst e;rw [decide_eq_true m];simp
      ·rw [decide_eq_false e,Bool.or_false]
     ·rw [if_neg m,Ls];simp
    ·show (if decide (val i∈cT val i)=true then _ else _)=(vg (cT val i) (val i)).length;unfold vg
     by_cases m:val i∈cT val i
     ·rw [if_pos (decide_eq_true m),if_pos m]
     ·rw [if_neg (by rw [decide_eq_false m];decide),if_neg m,JD];rfl
   refine wpAny_pure ⟨plainId_quiet F.plain_set_update_loop _,ih (i+1) _ (by omega) e3 (W.frame _ s2 _ _ st2 (Lc _) λ b hb o e=>?_) hS4 λ s3 hm3 hS5=>?_⟩
   ·exact (sb.2 b (λ z:b=D=>hD (z▸hb))).trans e
   ·refine hR s3 (Moved.trans W.gtrans ((hm.mono up).then_heap (Lc _) λ b o hb e=>?_) hm3) hS5;exact (sb.2 b (λ z:b=D=>hb (by rw [z];exact JI))).trans e
end
section
variable {prog:Program}{w:World}{A:Around}{E:Value->Shared->Prop}{s:Shared}{κ:Type} [DecidableEq κ] {knd:KeyKind prog w κ}
abbrev fP (led:Bool):Obj:={cls:=.type "set",dict:=none,data:=.set #[] 0 (.fresh 0 0 led)}
theorem tX {l:Addr}{its:Array Value}{Q:Value->Shared->Prop}(val:Nat->κ) (hh:A.handled=none) (hl:s.heap.IsList l its) (hv:∀i v,its[i]? =some v->knd.is (val i) v=true/\v.scannable=true) (hb:its.size+1<scanBound)
  (k:∀(h2:Heap) (tk:Nat),h2.SetOf knd s.heap.objs.size (λ x=>decide (x∈cT val its.size)) (cT val its.size).length->(∀b o,b<s.heap.objs.size->s.heap.get? b=some o->h2.get? b=some o)->Q (.ref s.heap.objs.size) {s with heap:=h2,toks:=tk}):
  wpAny (model prog w) A (call (.type "set") [.ref l]) Q E s:=by
 obtain ⟨c0,tl0,hmro⟩:=F.called_set.mro;have hmade:=F.called_set.made;have hsub:=F.called_set.sub;have n1:=F.called_set.notType;have n2:=F.called_set.canCreate;have n3:=F.typeCall_set_1 (.ref l);refine wpAny_call (codeAny_of_tree ?_);show wpAny _ _ (callAny (.type "set") _) _ _ _;refine wpAny_pure ⟨Code.quiet_builtin _ (by decide+kernel),codeAny_builtin F.entry_type_call ?_⟩;rw [Around.under_plain (weight_type_call_type "set" [.ref l] []) rfl]
 repeat (any_goals (first | assumption | wp_step))
 refine codeAny_mono (code_set_new_1 (.ref l) (E:=E) (Q₁:=λ o s1=> ∃led:Bool,o=.ref s.heap.objs.size/\s1={s with heap:=s.heap.push (fP led)}) λ led=>⟨led,rfl,rfl⟩) λ r s1 hr=>?_;cases r with
 | error e=>exact hr
 | ok fl=>
   cases fl with
   | ret ob=>
     obtain ⟨led,rfl,rfl⟩:=hr;have g0:(s.heap.push (fP led)).get? s.heap.objs.size=some (fP led):=Heap.get?_push_size _ rfl;have ty:Shared.TypeIs {s with heap:=s.heap.push (fP led)} (.ref s.heap.objs.size) "set":=⟨_,g0,rfl⟩;have m1:=F.called_set.init.lookup;have m2:=F.called_set.init.bind (.ref s.heap.objs.size)
     repeat (any_goals (first | assumption | wp_step))
     refine codeAny_mono (codeAny_call_builtin (R:=wants (λ r s2=>r=.none/\∃h2 tk,s2={s with heap:=h2,toks:=tk}/\h2.SetOf knd s.heap.objs.size (λ x=>decide (x∈cT val its.size)) (cT val its.size).length/\
       (∀b o,b<s.heap.objs.size->s.heap.get? b=some o->h2.get? b=some o)) E) F.called_set.init.plain F.entry_set_init (check_set_init_1 ty ?_)) λ r2 s2 hr2=>?_
     ·obtain ⟨⟨oc,od,oda,osl⟩,ho,hc,nl,hd⟩:=hl;simp only at hc hd;subst hc;subst hd;have hol:(s.heap.push (fP led)).get? l=some {cls:=.type "list",dict:=od,data:=.seq its nl,slots:=osl}:=Heap.get?_push_of_some _ ho;have b1:=F.sub_list_set;have b2:=F.sub_list_frozenset;have b3:(Value.type "list" == Value.type "dict")=false:=by decide
      have hl1:(s.heap.push (fP led)).IsList l its:=⟨_,hol,rfl,nl,rfl⟩;unfold Builtin.«set.__init__» noKeywords Builtin.Frozenset.updateFrom;generalize hPI:pyIter=PI
      wp_walk
      subst hPI;refine wpAny_pyIter_list hl1 (wpAny_bind (wpAny_runValue ?_));have hlt:l<s.heap.objs.size:=Heap.lt_size ho;have h3:A.in1.in1.in1.handled=none:=by simp [hh]
      have sz:(s.heap.push (fP led)).objs.size=s.heap.objs.size+1:=Heap.size_push ..;have ne1:l≠(s.heap.push (fP led)).objs.size:=by rw [sz];exact KY (Li hlt)
      have ne2:s.heap.objs.size∉[(s.heap.push (fP led)).objs.size,l]:=by
       rw [sz];intro z
       rcases Jy.mp z with z | z
       ·exact Nat.succ_ne_self _ z.symm
       ·exact Lb hlt (JE.mp z)
      refine tY (knd:=knd) ((Walks.list h3 _ l ne1 its).toS) s.heap.objs.size ne2 val hv hb (its.size - 0) 0 _ (by omega) (K7 _) ⟨⟨_,Heap.get?_push_size _ rfl,rfl,rfl⟩,(hl1.push _)⟩ ?_ (λ s3 hm hS3=>?_)
      ·refine SetOf_congr ((setObjOf_fresh (knd:=knd) led).setOf (Heap.get?_push_of_some _ g0) (by unfold scanBound;omega)) (λ x=>?_) rfl;show false=decide (x∈([]:List κ));simp
      ·obtain ⟨hh3,gg3,dd3,tk3,os3⟩:=s3;obtain rfl:gg3=s.gens:=hm.gens;obtain rfl:dd3=s.drawn:=hm.drawn;obtain rfl:os3=s.os:=hm.os;show wpAny _ _ _ _ _ _;refine wpAny_pure ?_;show wpAny _ _ (ret Value.none) _ _ _;refine wpAny_pure ⟨rfl,hh3,tk3,rfl,hS3,λ b o hb2 e=>?_⟩;refine hm.heap b o ?_ (Heap.get?_push_of_some _ (Heap.get?_push_of_some _ e));rw [sz];intro z
       rcases Jy.mp z with z | z
       ·exact KY hb2 z
       ·exact KY (Li hb2) (JE.mp z)
     ·cases r2 with
      | error e=>exact hr2
      | ok fl2=>
        cases fl2 with
        | ret r3=>
          obtain ⟨rfl,h2,tk,rfl,hS2,kp⟩:=hr2
          repeat (any_goals (first | assumption | wp_step))
          exact k _ _ hS2 kp
        | _=>exact hr2.elim
   | _=>exact hr.elim
end
def iX (ss:List Str):List Str:=cT (λ i=>ss.getD i Str.empty) ss.length
theorem gC (ss:List Str):(iX ss).length=ss.length<->ss.Nodup:=by
 unfold iX;rw [jF];have e:(List.range ss.length).map (λ i=>ss.getD i Str.empty)=ss:=by
  apply KL;intro i;rw [JO]
  by_cases h:i<ss.length
  ·rw [Ky h,JB h];show some (ss.getD i Str.empty)=_;rw [JM,JB h];rfl
  ·rw [Kn (by rw [J7];omega),Kn (by omega)];rfl
 rw [e]
section
variable {X:Cx}
def qv (K:Frag) (xs:List V) (H:Hp) (Q:VK):Prop:=match xs with
 | [.ref d]=> ∃ss:List Str,aJ K H d (ss.map V.str)/\ss.length+1<scanBound/\∀q φ,H q=none->(∀h:Heap,φ h->∃(o:Obj) (es:Array (Int×Value)) (ep:Nat) (t:SetTable),h.get? q=some o/\o.ExactSet/\o.data=.set es ep t/\t.fits es.size=true/\es.size=(iX ss).length)->Q (.ref q) (upd H q (.ext φ))
 | _=>False
theorem pV (hh:X.A.handled=none):bd X (.type "set") (qv X.K):=by
 intro pins s σ H xs us Q I r h;unfold qv at h;split at h
 ·rename_i d;obtain ⟨ss,hq,hb,q⟩:=h;obtain ⟨u,rfl,rx⟩:=eS r;cases rx;obtain ⟨its,r',pl,hz⟩:=I.list hq;have hlen:=r'.length;rw [Jx] at hlen;have hs:its.toArray.size=ss.length:=by rw [JA,<-hlen]
  refine tX (knd:=PySem.strKind X.prog X.w) (λ i=>ss.getD i Str.empty) hh pl.isList (λ i v hv=>?_) (by rw [hs];exact hb) λ h2 tk hS kp=>?_
  ·rw [List.getElem?_toArray] at hv;have hi:i<its.length:=(JQ.mp hv).1;have hx:(ss.map V.str)[i]? =some (.str (ss.getD i Str.empty)):=by rw [JO,JM,JB (by omega)];rfl
   obtain ⟨u,hu,ru⟩:=r'.get hx;rw [hv] at hu;cases hu;obtain ⟨t,rfl⟩:=ru;exact ⟨by simp [PySem.strKind,Value.isStrOf],rfl⟩
  ·rw [hs] at hS;have k2:∀b u,s.heap.get? b=some u->h2.get? b=some u:=λ b u e=>kp b u (Heap.lt_size e) e;obtain ⟨o,es,ep,t,h1,h2',h3,_,_,h6,h7,h8⟩:=hS;refine ⟨.ref s.heap.objs.size,upd H s.heap.objs.size (.ext λ h=>h.get? s.heap.objs.size=some o),I.laid (t':=tk) k2 (KW _) ?_,rfl,q _ _ (I.hok.fresh (KW _)) λ h e=>⟨o,es,ep,t,e,h2',h3,h7,h8⟩⟩;exact ⟨h1,⟨o,h1⟩,λ h1 h2 e k=>k o e⟩
 ·exact h.elim
def uE (xs:List V) (H:Hp) (Q:VK):Prop:=match xs with
 | [.ref d]=> ∃(φ:Heap->Prop) (n:Nat),H d=some (.ext φ)/\n<=1000/\(∀h:Heap,φ h->∃(o:Obj) (es:Array (Int×Value)) (ep:Nat) (t:SetTable),h.get? d=some o/\o.ExactSet/\o.data=.set es ep t/\t.fits es.size=true/\es.size=n)/\Q (.int n) H
 | _=>False
theorem jT:bd X (.builtin "len") uE:=by
 intro pins s σ H xs us Q I r h;unfold uE at h;split at h
 ·rename_i d;obtain ⟨φ,n,hd,hn,hφ,q⟩:=h;obtain ⟨u,rfl,rx⟩:=eS r;cases rx;obtain ⟨p,_,_⟩:=(show bD X.prog X.w H s.heap d (.ext φ) from I.hok d _ hd);obtain ⟨o,es,ep,t,h1,h2,h3,h4,h5⟩:=hφ _ p;subst h5;exact PySem.call_len_set h1 h2 h3 h4 (by omega) ⟨.int es.size,H,I.tok _,⟨_,rfl⟩,q⟩
 ·exact h.elim
theorem Bf (K:Frag) {j:Nat}(hr:cz j X.A) (hK:X.K=K:=by rfl):bd X (.type "set") (qv K):=by subst hK;exact pV hr.hd
end
theorem nP {K:Frag}{σ:St}{H:Hp}{Q:VK}{te:TE}{d:Addr}{ss:List Str}(h:Ev te σ H (.ref d)) (hd:aJ K H d (ss.map V.str)) (hl:ss.length<=1000) (q:∀H',ah H H'->Q (.int (iX ss).length) H'):cB uE (aK (cB (qv K) (aK te bK)) bK) σ H Q:=
 h _ ⟨ss,hd,by show ss.length+1<4096;omega,λ p φ hp hφ=>⟨φ,_,ae,KZ (jm _ _) hl,hφ,q _ ((ah.refl H).upd hp)⟩⟩
end L2
namespace L2
open PySem PySem.Spec PyProof.Rows
section
variable {X:Cx}
theorem rL (ks:List Bool):(List.range ks.length).any (λ i=>ks.getD i false)=ks.any id:=by
 rw [Ls,JU,JU]
 constructor
 ·rintro ⟨i,hi,e⟩;have hi:=J3.mp hi;rw [JM,JB hi] at e;exact ⟨_,J9 hi,e⟩
 ·rintro ⟨b,hb,e⟩;obtain ⟨i,hi,e2⟩:=KJ.mp hb;refine ⟨i,J3.mpr hi,?_⟩;rw [JM,JB hi,e2];exact e
def CI (K:Frag) (xs:List V) (H:Hp) (Q:VK):Prop:=match xs with
 | [.ref d]=> ∃ks:List Bool,aJ K H d (ks.map V.bl)/\Q (.bl (ks.any id)) H
 | _=>False
theorem sV (hc:X.calm=true):bd X (.builtin "any") (CI X.K):=by
 intro pins s σ H xs us Q I r h;unfold CI at h;split at h
 ·rename_i p;obtain ⟨ks,hp,q⟩:=h;obtain ⟨u,rfl,ru⟩:=eS r;cases ru;obtain ⟨its,rv,pl,hl⟩:=I.list hp;have hlen:=rv.length;rw [Jx] at hlen;refine call_any_walk (wpAny_pyIter_list pl.isList ?_);have hne:p≠s.heap.objs.size:=by obtain ⟨o,ho,_⟩:=pl.isList;exact KY (Heap.lt_size ho)
  have W:=Walks.list (prog:=X.prog) (w:=X.w) (A:=X.A.in1) (show X.A.in1.handled=none from I.ok.hd hc) s.heap.objs.size p hne its.toArray;have hpush:∀o b ob,s.heap.get? b=some ob->(s.heap.push o).get? b=some ob:=λ o b ob e=>Heap.get?_push_of_some _ e;refine ⟨_,_,_,_,_,_,λ i=>ks.getD i false,rfl,W,⟨⟨_,Heap.get?_push_size _ rfl,rfl,rfl⟩,pl.isList.at λ o e=>hpush _ _ o e⟩,mO rv,λ h' tk k=>?_⟩;have e:(List.range its.toArray.size).any (λ i=>ks.getD i false)=ks.any id:=by rw [<-rL,JA,<-hlen]
  rw [e];refine ⟨.bl _,H,I.kept (t':=tk) (h':=h') λ b ob e=>k b ob ?_ (hpush _ b ob e),rfl,q⟩;intro hb;have:b=s.heap.objs.size:=by simpa using hb
  subst this;exact absurd (Heap.lt_size e) (La _)
 ·exact h.elim
theorem Jc (K:Frag) (hc:X.calm=true:=by rfl) (hK:X.K=K:=by rfl):bd X (.builtin "any") (CI K):=by subst hK;exact sV hc
end
def Thg (H:Hp):V->Prop
 | .non=>True
 | .bl _=>True
 | .int _=>True
 | .str z=>z.length<=1000
 | .ref a=>(∃xs,H a=some (.lst xs))\/(∃xs,H a=some (.tup xs))\/(∃kvs,H a=some (.dK kvs))
 | _=>False
def jL (T:BT) (H:Hp):V->Bool
 | .bl _=>de .bool T
 | .int _=>de .int T
 | .str _=>de .str T
 | .ref a=>match H a with
   | some (.lst _)=>de .list T
   | some (.tup _)=>de .tuple T
   | some (.dK _)=>de .dict T
   | _=>false
 | _=>false
def tupOf (H:Hp):V->Option (List V)
 | .ref a=>match H a with
   | some (.tup xs)=>some xs
   | _=>none
 | _=>none
def lstOf (H:Hp):V->Option (List V)
 | .ref a=>match H a with
   | some (.lst xs)=>some xs
   | _=>none
 | _=>none
def bc (H:Hp):Nat->V->Prop
 | 0,v=>Thg H v
 | n+1,v=>Thg H v/\∀xs,(tupOf H v=some xs\/lstOf H v=some xs)->∀x∈xs,bc H n x
theorem bc.thg {H:Hp}{n:Nat}{v:V}(h:bc H n v):Thg H v:=by
 cases n with
 | zero=>exact h
 | succ n=>exact h.1
def tw:V->Bool
 | .int _=>true
 | _=>false
def amongB (v:V) (a b:Int):Bool:=match v with
 | .int i=>decide (a<=i/\i<=b)
 | _=>false
def wordB (v:V) (ws:List Str):Bool:=match v with
 | .str z=>decide (z∈ws)
 | _=>false
section
variable {K:Frag}{σ:St}{H H':Hp}{te ta tb:TE}{v:V}{T:BT}{ws:List Str}
theorem Thg.same (h:Thg H v) (s:ah H H'):Thg H' v:=by
 cases v with
 | ref a=>
   rcases h with ⟨xs,e⟩ | ⟨xs,e⟩ | ⟨xs,e⟩
   ·exact .inl ⟨xs,s _ _ e⟩
   ·exact .inr (.inl ⟨xs,s _ _ e⟩)
   ·exact .inr (.inr ⟨xs,s _ _ e⟩)
 | _=>exact h
theorem dv (h:Thg H v) (s:ah H H'):tupOf H' v=tupOf H v:=by
 cases v with
 | ref a=>
   rcases h with ⟨xs,e⟩ | ⟨xs,e⟩ | ⟨xs,e⟩<;>simp only [tupOf,e,s _ _ e]
 | _=>rfl
theorem cU (h:Thg H v) (s:ah H H'):lstOf H' v=lstOf H v:=by
 cases v with
 | ref a=>
   rcases h with ⟨xs,e⟩ | ⟨xs,e⟩ | ⟨xs,e⟩<;>simp only [lstOf,e,s _ _ e]
 | _=>rfl
theorem bc.same {n:Nat}:∀{v:V},bc H n v->ah H H'->bc H' n v:=by
 induction n with
 | zero=>intro v h s;exact Thg.same h s
 | succ n ih=>
   intro v h s;refine ⟨h.1.same s,λ xs hx x hm=>ih (h.2 xs ?_ x hm) s⟩;rw [dv h.1 s,cU h.1 s] at hx;exact hx
theorem fN {xs:List V}(h:tupOf H v=some xs):∃a,v=.ref a/\H a=some (.tup xs):=by
 cases v with
 | ref a=>
   simp only [tupOf] at h;split at h
   ·rename_i e;cases h;exact ⟨a,rfl,e⟩
   ·cases h
 | _=>cases h
theorem dA {xs:List V}(h:lstOf H v=some xs):∃a,v=.ref a/\H a=some (.lst xs):=by
 cases v with
 | ref a=>
   simp only [lstOf] at h;split at h
   ·rename_i e;cases h;exact ⟨a,rfl,e⟩
   ·cases h
 | _=>cases h
theorem kU (h:Ev te σ H v) (t:Thg H v):Ev (CB T te) σ H (.bl (jL T H v)):=λ Q q=>h _ (by
 cases v with
 | ref a=>
   rcases t with ⟨xs,e⟩ | ⟨xs,e⟩ | ⟨xs,e⟩<;>(simp only [qL,e];simp only [jL,e] at q;exact q)
 | non=>exact q
 | bl b=>exact q
 | int b=>exact q
 | str b=>exact q
 | _=>exact t.elim)
theorem tu (t:Thg H v):(jL .int H v&& !jL .bool H v)=tw v:=by
 cases v with
 | ref a=>rcases t with ⟨xs,e⟩ | ⟨xs,e⟩ | ⟨xs,e⟩<;>(simp only [jL,e];rfl)
 | non=>rfl
 | bl b=>rfl
 | int b=>rfl
 | str b=>rfl
 | _=>exact t.elim
theorem tS (t:Thg H v):jL .str H v=(match v with | .str _=>true | _=>false):=by
 cases v with
 | ref a=>rcases t with ⟨xs,e⟩ | ⟨xs,e⟩ | ⟨xs,e⟩<;>(simp only [jL,e];rfl)
 | non=>rfl
 | bl b=>rfl
 | int b=>rfl
 | str b=>rfl
 | _=>exact t.elim
theorem Bs (t:Thg H v):jL .tuple H v=(tupOf H v).isSome:=by
 cases v with
 | ref a=>rcases t with ⟨xs,e⟩ | ⟨xs,e⟩ | ⟨xs,e⟩<;>(simp only [jL,tupOf,e];rfl)
 | non=>rfl
 | bl b=>rfl
 | int b=>rfl
 | str b=>rfl
 | _=>exact t.elim
theorem B3 (t:Thg H v):jL .list H v=(lstOf H v).isSome:=by
 cases v with
 | ref a=>rcases t with ⟨xs,e⟩ | ⟨xs,e⟩ | ⟨xs,e⟩<;>(simp only [jL,lstOf,e];rfl)
 | non=>rfl
 | bl b=>rfl
 | int b=>rfl
 | str b=>rfl
 | _=>exact t.elim
theorem nY (z:Str) (ws:List Str):Cf (.str z) (ws.map V.str)=decide (z∈ws):=by
 unfold Cf;rw [KA]
 by_cases h:z∈ws
 ·rw [decide_eq_true h];exact JU.mpr ⟨z,h,by simp [eqV]⟩
 ·rw [decide_eq_false h];apply Kb.mpr;intro y hy;have:y≠z:=λ e=>h (e▸hy);simp [eqV,this]
theorem kS (ss:List Str):(ss.map V.str).all flatV=true:=JL.mpr λ x hx=>by obtain ⟨z,_,rfl⟩:=Jz.mp hx;rfl
theorem vc {z:Str}{p:Addr}(ha:Ev ta σ H (.str z)) (hb:Ev tb σ H (.ref p)) (h:aJ K H p (ws.map V.str)\/eE K H p (ws.map V.str)):Ev (eO K .In ta tb) σ H (.bl (decide (z∈ws))):=λ Q q=>ha _ (hb _ (by
 show aY K .In (.str z) (.ref p) H Q;rw [im];refine ⟨p,_,rfl,h,rfl,kS ws,?_⟩;rw [nY];exact q))
end
def sortsL:List Str:=["leap","slide","jump"]
def aimsL:List Str:=["go","hit","any"]
def endsL:List Str:=["without","home"]
def dg:List Str:=["lost","even","won"]
def tupB (H:Hp) (v:V) (n:Int):Bool:=match tupOf H v with
 | some xs=>decide ((xs.length:Int)=n)
 | none=>false
def iP (H:Hp) (v:V) (a b:Int):Bool:=match lstOf H v with
 | some xs=>decide (a<=(xs.length:Int)/\(xs.length:Int)<=b)
 | none=>false
def limS (so:Str):Int:=if so="leap" then 3 else 1
def gN (so:Str) (x y:V):Bool:=amongB x (-limS so) (limS so)&&amongB y (-limS so) (limS so)&& !(decide (x=.int 0)&&decide (y=.int 0))
def gk (xs:List V) (ws:List Str):Bool:=match xs with
 | [k,.str so,.str ai,x,y]=>wordB k ws&&decide (so∈sortsL)&&decide (ai∈aimsL)&& !(decide (so="jump")&& !decide (ai="hit"))&&gN so x y
 | _=>false
def bV (H:Hp) (v:V) (ws:List Str):Bool:=match tupOf H v with
 | some xs=>gk xs ws
 | none=>false
def nF (xs:List V) (A B:List Str):Bool:=match xs with
 | [a,b]=>wordB a A&&wordB b B
 | _=>false
def cp (H:Hp) (v:V) (A B:List Str):Bool:=match tupOf H v with
 | some xs=>nF xs A B
 | none=>false
def pairsB (H:Hp) (v:V) (A B:List Str):Bool:=match lstOf H v with
 | some vs=>decide (vs.length<=6)&&vs.all (λ x=>cp H x A B)
 | none=>false
def bE (H:Hp) (v:V):Str:=match tupOf H v with
 | some (.str a::_)=>a
 | _=>Str.empty
def df (H:Hp) (v:V):Str:=match tupOf H v with
 | some (_:: .str b::_)=>b
 | _=>Str.empty
def turnsB (H:Hp) (v:V) (ws:List Str):Bool:=pairsB H v ws ws&&match lstOf H v with
 | some vs=> !(vs.any λ x=>decide (df H x∈vs.map (bE H)))&&decide ((vs.map (bE H)).Nodup)
 | none=>false
def jt:Sp:=λ vs H Q _=> ∃v,vs=[v]/\Thg H v/\Q (.bl (tw v)) H
def jv:Sp:=λ vs H Q _=> ∃v a b,vs=[v,.int a,.int b]/\Thg H v/\Q (.bl (amongB v a b)) H
def eC (K:Frag) (H:Hp) (d:Addr) (ws:List Str):Prop:=aJ K H d (ws.map V.str)\/eE K H d (ws.map V.str)
def gE (K:Frag):Sp:=λ vs H Q _=> ∃v d ws,vs=[v,.ref d]/\Thg H v/\eC K H d ws/\Q (.bl (wordB v ws)) H
def iI:Sp:=λ vs H Q _=> ∃v n,vs=[v,.int n]/\Thg H v/\Q (.bl (tupB H v n)) H
def lq:Sp:=λ vs H Q _=> ∃v a b,vs=[v,.int a,.int b]/\Thg H v/\Q (.bl (iP H v a b)) H
def qi:Sp:=λ vs H Q _=> ∃so x y,vs=[.str so,x,y]/\Thg H x/\Thg H y/\Q (.bl (gN so x y)) H
def qk (K:Frag):Sp:=λ vs H Q _=> ∃v d ws,vs=[v,.ref d]/\bc H 1 v/\eC K H d ws/\Q (.bl (bV H v ws)) H
def qm (K:Frag):Sp:=λ vs H Q _=> ∃v d e A B,vs=[v,.ref d,.ref e]/\bc H 1 v/\eC K H d A/\eC K H e B/\Q (.bl (cp H v A B)) H
def mT (K:Frag):Sp:=λ vs H Q _=> ∃v d e A B,vs=[v,.ref d,.ref e]/\bc H 2 v/\eC K H d A/\eC K H e B/\∀H',ah H H'->Q (.bl (pairsB H v A B)) H'
def mQ (K:Frag):Sp:=λ vs H Q _=> ∃v d ws,vs=[v,.ref d]/\bc H 2 v/\eC K H d ws/\∀H',ah H H'->Q (.bl (turnsB H v ws)) H'
def qr (K:Frag):Sp:=λ vs H Q _=> ∃v d ws,vs=[v,.ref d]/\bc H 2 v/\eC K H d ws/\∀H',ah H H'->Q (.bl (pairsB H v endsL ws)) H'
theorem vF {σ:St}{H:Hp}{Q:VK}{ta tb:TE}{a:Bool}(ha:Ev ta σ H (.bl a)) (h1:a=true->tb σ H Q) (h2:a=false->Q (.bl false) H):oA ta tb σ H Q:=ha _ (by
 cases a with
 | true=>exact h1 rfl
 | false=>exact h2 rfl)
theorem vo {K:Frag}{σ:St}{H:Hp}{Q:VK}{ta tb:TE}{op:CmpOp}(h:ta σ H λ x H1=>tb σ H1 λ y H2=>aY K op x y H2 Q):eO K op ta tb σ H Q:=h
theorem rX {H:Hp}{v:V}{A B:List Str}(h:pairsB H v A B=true):∃xs,lstOf H v=some xs/\xs.length<=6/\∀x∈xs,∃c f1 f2,x=.ref c/\H c=some (.tup [.str f1,.str f2]):=by
 unfold pairsB at h;cases e1:lstOf H v with
 | none=>rw [e1] at h;cases h
 | some xs=>
   rw [e1] at h;have h:(decide (xs.length<=6)&&xs.all (λ x=>cp H x A B))=true:=h;rw [Lr] at h;refine ⟨xs,rfl,of_decide_eq_true h.1,λ x hx=>?_⟩;have hp:=JL.mp h.2 x hx;unfold cp at hp;cases e2:tupOf H x with
   | none=>rw [e2] at hp;cases hp
   | some ys=>
     rw [e2] at hp;obtain ⟨c,rfl,hc⟩:=fN e2;have hp:nF ys A B=true:=hp
     match ys,hp,hc with
     | [a,b],hp,hc=>
       have hp:(wordB a A&&wordB b B)=true:=hp;rw [Lr] at hp;cases a with
       | str f1=>
         cases b with
         | str f2=>exact ⟨c,f1,f2,rfl,hc⟩
         | _=>cases hp.2
       | _=>cases hp.1
     | [],hp,_=>cases hp
     | [_],hp,_=>cases hp
     | _::_::_::_,hp,_=>cases hp
structure RG0 (P:Program) (w:World) (K:Frag) (mg:Str->Option Value) (base:Heap):Prop where
 is_whole:fv P w K mg base "is_whole" ["thing"] 1 jt
structure RG1 (P:Program) (w:World) (K:Frag) (mg:Str->Option Value) (base:Heap):Prop where
 is_among:fv P w K mg base "is_among" ["thing","least","most"] 2 jv
structure RG2 (P:Program) (w:World) (K:Frag) (mg:Str->Option Value) (base:Heap):Prop where
 is_word:fv P w K mg base "is_word" ["thing","words"] 1 (gE K)
 is_tuple_of:fv P w K mg base "is_tuple_of" ["thing","many"] 1 iI
structure RG3 (P:Program) (w:World) (K:Frag) (mg:Str->Option Value) (base:Heap):Prop extends RG2 P w K mg base where
 is_step:fv P w K mg base "is_step" ["sort","across","up"] 3 qi
structure RG4 (P:Program) (w:World) (K:Frag) (mg:Str->Option Value) (base:Heap):Prop where
 is_list_of:fv P w K mg base "is_list_of" ["thing","least","most"] 1 lq
 is_pair:fv P w K mg base "is_pair" ["thing","firsts","seconds"] 2 (qm K)
structure RG5 (P:Program) (w:World) (K:Frag) (mg:Str->Option Value) (base:Heap):Prop where
 are_pairs:fv P w K mg base "are_pairs" ["thing","firsts","seconds"] 3 (mT K)
end L2
namespace L2
open PySem PySem.Spec PyProof.Rows
def letB:V->Bool
 | .str z=>match z.cps.toList with
   | [c]=>decide (97<=c/\c<=122)
   | _=>false
 | _=>false
def dJ:V->Str
 | .str z=>z
 | _=>Str.empty
def kindsB (H:Hp) (v:V):Bool:=match lstOf H v with
 | some xs=>decide (1<=xs.length/\xs.length<=6)&&xs.all letB&&decide ((xs.map dJ).Nodup)
 | none=>false
def rulesB (H:Hp) (v:V) (ws:List Str):Bool:=match lstOf H v with
 | some xs=>decide (xs.length<=24)&&xs.all (λ x=>bV H x ws)
 | none=>false
theorem AW:("a":Str).cps.toList=[97]:=by decide+kernel
theorem Ge:("z":Str).cps.toList=[122]:=by decide+kernel
theorem B2 {c d:Nat}:([c]<[d])<->c<d:=by
 constructor
 ·intro h;cases h with
  | rel h=>exact h
  | cons h=>cases h
 ·intro h;exact List.Lex.rel h
theorem wN {K:Frag}{σ:St}{H:Hp}{ta tb tc:TE}{x y z:Str}(ha:Ev ta σ H (.str x)) (hb:Ev tb σ H (.str y)) (hc:Ev tc σ H (.str z)):Ev (iT K .LtE .LtE ta tb tc) σ H (.bl (!decide (y.cps.toList<x.cps.toList)&& !decide (z.cps.toList<y.cps.toList))):=λ Q q=>ha _ (hb _ (by
 show aY K .LtE (.str x) (.str y) H _;rw [kF,r_b];cases h: !decide (y.cps.toList<x.cps.toList) with
 | true=>
   rw [h] at q;exact hc _ q
 | false=>
   rw [h] at q;exact q))
def kE:Sp:=λ vs H Q _=> ∃v,vs=[v]/\Thg H v/\Q (.bl (letB v)) H
def mV:Sp:=λ vs H Q _=> ∃v,vs=[v]/\bc H 1 v/\∀H',ah H H'->Q (.bl (kindsB H v)) H'
def mS (K:Frag):Sp:=λ vs H Q _=> ∃v d ws,vs=[v,.ref d]/\bc H 2 v/\eC K H d ws/\∀H',ah H H'->Q (.bl (rulesB H v ws)) H'
theorem jI {v:V}(h:letB v=true):∃c,v=.str (one c)/\C1 c:=by
 cases v with
 | str z=>
   match e:z.cps.toList with
   | [c]=>
     simp only [letB,e] at h;exact ⟨c,by rw [qe (x:=z) (y:=one c) (by rw [e])],of_decide_eq_true (p:=97<=c/\c<=122) h⟩
   | []=>simp only [letB,e] at h;cases h
   | _::_::_=>simp only [letB,e] at h;cases h
 | _=>cases h
structure vK (K:Frag) (C:Addr):Prop where
 cl:oH K C
 board:bY K C "board"
 kinds:bY K C "kinds"
 rules:bY K C "rules"
 turns:bY K C "turns"
 ends:bY K C "ends"
 stuck:bY K C "stuck"
def gf1 (b:Addr):List (Str×V):=putF "board" (.ref b) []
def gf2 (b k:Addr):List (Str×V):=putF "kinds" (.ref k) (gf1 b)
def gf3 (b k r:Addr):List (Str×V):=putF "rules" (.ref r) (gf2 b k)
def gf4 (b k r t:Addr):List (Str×V):=putF "turns" (.ref t) (gf3 b k r)
def vP (b k r t e:Addr):List (Str×V):=putF "ends" (.ref e) (gf4 b k r t)
def dS (b k r t e:Addr) (st:Str):List (Str×V):=putF "stuck" (.str st) (vP b k r t e)
section
variable {b k r t e:Addr}{st:Str}
theorem uS:(dS b k r t e st).lookup ("board":Str)=some (.ref b):=by unfold dS vP gf4 gf3 gf2 gf1;rw [aw,if_neg (by decide+kernel),aw,if_neg (by decide+kernel),aw,if_neg (by decide+kernel),aw,if_neg (by decide+kernel),aw,if_neg (by decide+kernel),aw,if_pos rfl]
theorem uR:(dS b k r t e st).lookup ("kinds":Str)=some (.ref k):=by unfold dS vP gf4 gf3 gf2;rw [aw,if_neg (by decide+kernel),aw,if_neg (by decide+kernel),aw,if_neg (by decide+kernel),aw,if_neg (by decide+kernel),aw,if_pos rfl]
theorem uQ:(dS b k r t e st).lookup ("rules":Str)=some (.ref r):=by unfold dS vP gf4 gf3;rw [aw,if_neg (by decide+kernel),aw,if_neg (by decide+kernel),aw,if_neg (by decide+kernel),aw,if_pos rfl]
theorem uO:(dS b k r t e st).lookup ("turns":Str)=some (.ref t):=by unfold dS vP gf4;rw [aw,if_neg (by decide+kernel),aw,if_neg (by decide+kernel),aw,if_pos rfl]
theorem wI:(dS b k r t e st).lookup ("ends":Str)=some (.ref e):=by unfold dS vP;rw [aw,if_neg (by decide+kernel),aw,if_pos rfl]
theorem uP:(dS b k r t e st).lookup ("stuck":Str)=some (.str st):=by unfold dS;rw [aw,if_pos rfl]
theorem He {m:Str}(h1:¬m="board") (h2:¬m="kinds") (h3:¬m="rules") (h4:¬m="turns") (h5:¬m="ends") (h6:¬m="stuck"):(dS b k r t e st).lookup m=none:=by unfold dS vP gf4 gf3 gf2 gf1;rw [aw,if_neg h6,aw,if_neg h5,aw,if_neg h4,aw,if_neg h3,aw,if_neg h2,aw,if_neg h1];rfl
theorem Ck:(gf1 b).length<=1/\(gf2 b k).length<=2/\(gf3 b k r).length<=3/\(gf4 b k r t).length<=4/\(vP b k r t e).length<=5:=by have a1:(gf1 b).length<=1:=bG "board" (.ref b) [];have a2:(gf2 b k).length<=(gf1 b).length+1:=bG "kinds" (.ref k) (gf1 b);have a3:(gf3 b k r).length<=(gf2 b k).length+1:=bG "rules" (.ref r) (gf2 b k);have a4:(gf4 b k r t).length<=(gf3 b k r).length+1:=bG "turns" (.ref t) (gf3 b k r);have a5:(vP b k r t e).length<=(gf4 b k r t).length+1:=bG "ends" (.ref e) (gf4 b k r t);omega
end
structure eQ (C:Addr) (H:Hp) (p b:Addr) (ks rs ts es:List V) (st:Str):Prop where
 ex:∃dx kq rq tq eq,H p=some (.ins C dx (dS b kq rq tq eq st))/\H kq=some (.lst ks)/\H rq=some (.lst rs)/\H tq=some (.lst ts)/\H eq=some (.lst es)
section
variable {K:Frag}{C:Addr}{H H':Hp}{p b:Addr}{ks rs ts es:List V}{st:Str}
theorem eQ.same (G:eQ C H p b ks rs ts es st) (s:ah H H'):eQ C H' p b ks rs ts es st:=by obtain ⟨dx,kq,rq,tq,eq,a,c,d,e,f⟩:=G.ex;exact ⟨dx,kq,rq,tq,eq,s _ _ a,s _ _ c,s _ _ d,s _ _ e,s _ _ f⟩
theorem eQ.board (G:eQ C H p b ks rs ts es st) (D:vK K C):Fl K H p "board" (.ref b):=by obtain ⟨dx,kq,rq,tq,eq,a,_⟩:=G.ex;exact ⟨C,dx,_,a,D.cl,D.board,uS⟩
theorem eQ.kinds (G:eQ C H p b ks rs ts es st) (D:vK K C):∃q,Fl K H p "kinds" (.ref q)/\H q=some (.lst ks):=by obtain ⟨dx,kq,rq,tq,eq,a,c,d,e,f⟩:=G.ex;exact ⟨kq,⟨C,dx,_,a,D.cl,D.kinds,uR⟩,c⟩
theorem eQ.rules (G:eQ C H p b ks rs ts es st) (D:vK K C):∃q,Fl K H p "rules" (.ref q)/\H q=some (.lst rs):=by obtain ⟨dx,kq,rq,tq,eq,a,c,d,e,f⟩:=G.ex;exact ⟨rq,⟨C,dx,_,a,D.cl,D.rules,uQ⟩,d⟩
theorem eQ.turns (G:eQ C H p b ks rs ts es st) (D:vK K C):∃q,Fl K H p "turns" (.ref q)/\H q=some (.lst ts):=by obtain ⟨dx,kq,rq,tq,eq,a,c,d,e,f⟩:=G.ex;exact ⟨tq,⟨C,dx,_,a,D.cl,D.turns,uO⟩,e⟩
theorem eQ.ends (G:eQ C H p b ks rs ts es st) (D:vK K C):∃q,Fl K H p "ends" (.ref q)/\H q=some (.lst es):=by obtain ⟨dx,kq,rq,tq,eq,a,c,d,e,f⟩:=G.ex;exact ⟨eq,⟨C,dx,_,a,D.cl,D.ends,wI⟩,f⟩
theorem eQ.stuck (G:eQ C H p b ks rs ts es st) (D:vK K C):Fl K H p "stuck" (.str st):=by obtain ⟨dx,kq,rq,tq,eq,a,_⟩:=G.ex;exact ⟨C,dx,_,a,D.cl,D.stuck,uP⟩
theorem eQ.no (G:eQ C H p b ks rs ts es st) {m:Str}(h1:¬m="board":=by decide+kernel) (h2:¬m="kinds":=by decide+kernel) (h3:¬m="rules":=by decide+kernel) (h4:¬m="turns":=by decide+kernel) (h5:¬m="ends":=by decide+kernel) (h6:¬m="stuck":=by decide+kernel):vI C m H p:=by obtain ⟨dx,kq,rq,tq,eq,a,_⟩:=G.ex;exact ⟨dx,_,a,He h1 h2 h3 h4 h5 h6⟩
end
section
variable {H H':Hp}{v:V}{A B ws:List Str}
theorem pk (t:Thg H v) (s:ah H H'):cp H' v A B=cp H v A B:=by unfold cp;rw [dv t s]
theorem gZ (t:Thg H v) (s:ah H H'):bV H' v ws=bV H v ws:=by unfold bV;rw [dv t s]
theorem sM (t:Thg H v) (s:ah H H'):bE H' v=bE H v:=by unfold bE;rw [dv t s]
theorem rD (t:Thg H v) (s:ah H H'):df H' v=df H v:=by unfold df;rw [dv t s]
theorem oC {f g:V->Bool}{xs:List V}(h:∀x∈xs,f x=g x):xs.all f=xs.all g:=by
 induction xs with
 | nil=>rfl
 | cons a r ih=>rw [JP,JP,h a (by simp),ih λ x hx=>h x (by simp [hx])]
theorem vE {f g:V->Bool}{xs:List V}(h:∀x∈xs,f x=g x):xs.any f=xs.any g:=by
 induction xs with
 | nil=>rfl
 | cons a r ih=>rw [J6,J6,h a (by simp),ih λ x hx=>h x (by simp [hx])]
theorem dc (t:bc H 2 v) (s:ah H H'):pairsB H' v A B=pairsB H v A B:=by
 unfold pairsB;rw [cU t.1 s];cases e:lstOf H v with
 | none=>rfl
 | some xs=>
   show (_&&xs.all _)=(_&&xs.all _);rw [oC (g:=λ x=>cp H x A B) λ x hx=>pk (t.2 xs (.inr e) x hx).thg s]
theorem da (t:bc H 2 v) (s:ah H H'):rulesB H' v ws=rulesB H v ws:=by
 unfold rulesB;rw [cU t.1 s];cases e:lstOf H v with
 | none=>rfl
 | some xs=>
   show (_&&xs.all _)=(_&&xs.all _);rw [oC (g:=λ x=>bV H x ws) λ x hx=>gZ (t.2 xs (.inr e) x hx).thg s]
theorem dI (t:bc H 2 v) (s:ah H H'):turnsB H' v ws=turnsB H v ws:=by
 unfold turnsB;rw [dc t s,cU t.1 s];cases e:lstOf H v with
 | none=>rfl
 | some xs=>
   have tx:∀x∈xs,Thg H x:=λ x hx=>(t.2 xs (.inr e) x hx).thg;have em:xs.map (bE H')=xs.map (bE H):=J2 λ x hx=>sM (tx x hx) s;show (_&&((!xs.any λ x=>decide (df H' x∈xs.map (bE H')))&&decide ((xs.map (bE H')).Nodup)))=(_&&((!xs.any λ x=>decide (df H x∈xs.map (bE H)))&&decide ((xs.map (bE H)).Nodup)));rw [em,vE (g:=λ x=>decide (df H x∈xs.map (bE H))) λ x hx=>by rw [rD (tx x hx) s]]
end
structure Ju (P:Program) (w:World) (K:Frag) (mg:Str->Option Value) (base:Heap):Prop where
 is_list_of:fv P w K mg base "is_list_of" ["thing","least","most"] 1 lq
 is_letter:fv P w K mg base "is_letter" ["thing"] 1 kE
 is_rule:fv P w K mg base "is_rule" ["thing","kinds"] 4 (qk K)
structure Jt (P:Program) (w:World) (K:Frag) (mg:Str->Option Value) (base:Heap):Prop where
 are_kinds:fv P w K mg base "are_kinds" ["thing"] 2 mV
 are_rules:fv P w K mg base "are_rules" ["thing","kinds"] 5 (mS K)
 is_turns:fv P w K mg base "is_turns" ["thing","kinds"] 4 (mQ K)
 is_ends:fv P w K mg base "is_ends" ["thing","kinds"] 4 (qr K)
 is_word:fv P w K mg base "is_word" ["thing","words"] 1 (gE K)
theorem jk {K:Frag}{σ:St}{H:Hp}{to te:TE}{u:TS}{D:cQ}{f:Str}{p C dx d:Addr}{fs:List (Str×V)}{xs:List V}(he:Ev te σ H (.ref d)) (hd:H d=some (.lst xs)) (ho:∀H',Ev to σ H' (.ref p)) (hp:H p=some (.ins C dx fs)) (hc:oH K C) (hn:bY K C f) (hl:fs.length<1000)
  (h2:∀q,H q=none->u D σ (upd (upd H q (.lst xs)) p (.ins C dx (putF f (.ref q) fs)))):bu (rG K to (cB (jG K) (aK te bK)) f) u D σ H:=
 he _ ⟨xs,.inl (aJ.of hd),λ q hq=>ho _ _ ⟨p,C,dx,fs,rfl,by rw [au (aj hp hq)];exact hp,hc,hn,hl,h2 q hq⟩⟩
end L2
namespace L2
open PySem
theorem gr {N P:List Str}{sc:Scope}(a:sc.kind=.function:=by rfl) (b:sc.isCoroutine=false:=by rfl) (c:sc.isGenerator=false:=by rfl) (d:N.Nodup:=by decide+kernel) (e:N.take P.length=P:=by rfl) (f:∀x∈P,sc.names.lookup x=some .local\/sc.names.lookup x=some .cell:=by decide+kernel) (g:∀y∈sc.names,y.2≠.free:=by decide+kernel):aH N P sc:=⟨a,b,c,d,e,f,g⟩
end L2
namespace L2
open PySem PySem.Spec PyProof.Rows
def sY (H:Hp):V->Prop
 | .non=>True
 | .bl _=>True
 | .int _=>True
 | .str z=>z.length<=1000
 | .ref a=>(∃xs,H a=some (.lst xs))\/(∃xs,H a=some (.tup xs))
 | _=>False
def iV (H:Hp):Nat->V->Prop
 | 0,v=>sY H v
 | n+1,v=>sY H v/\∀xs,(tupOf H v=some xs\/lstOf H v=some xs)->∀x∈xs,iV H n x
theorem sY.thg {H:Hp}{v:V}(h:sY H v):Thg H v:=by
 cases v with
 | ref a=>
   rcases h with h | h
   ·exact .inl h
   ·exact .inr (.inl h)
 | _=>exact h
theorem iV.n {H:Hp}:∀{n:Nat}{v:V},iV H n v->bc H n v
 | 0,v,h=>sY.thg h
 | n+1,v,h=>⟨h.1.thg,λ xs hx x hm=>(h.2 xs hx x hm).n⟩
theorem iV.flat {H:Hp}{n:Nat}{v:V}(h:sY H v) (f:flatV v=true):iV H n v:=by
 cases n with
 | zero=>exact h
 | succ n=>
   refine ⟨h,λ xs hx=>?_⟩;cases v with
   | ref a=>cases f
   | _=>rcases hx with z | z<;>cases z
theorem iV.lst {H:Hp}{n:Nat}{a:Addr}{xs:List V}(h:H a=some (.lst xs)) (hx:∀x∈xs,iV H n x):iV H (n+1) (.ref a):=⟨.inl ⟨xs,h⟩,λ ys hy=>by
 rcases hy with z | z
 ·simp only [tupOf,h] at z;cases z
 ·simp only [lstOf,h] at z;cases z;exact hx⟩
theorem iV.tup {H:Hp}{n:Nat}{a:Addr}{xs:List V}(h:H a=some (.tup xs)) (hx:∀x∈xs,iV H n x):iV H (n+1) (.ref a):=⟨.inr ⟨xs,h⟩,λ ys hy=>by
 rcases hy with z | z
 ·simp only [tupOf,h] at z;cases z;exact hx
 ·simp only [lstOf,h] at z;cases z⟩
section
variable {X:Cx}{a b:Expr}{ta tb:TE}{pos:Pos}
end
section
variable {K:Frag}{σ:St}{H:Hp}{ta tb te:TE}{v:V}{z:Str}{d:Addr}{ws:List Str}{i j:Int}
end
end L2
namespace L2
open PySem PySem.Spec PyProof.Rows
def isRef:V->Bool
 | .ref _=>true
 | _=>false
theorem jO {K:Frag}{H:Hp}{n:Nat}{x:V}(h:(flatV x||isRef x)=true):oG K H n x x true:=by
 cases hf:flatV x with
 | true=>
   have:=oG.flat (K:=K) (H:=H) (n:=n) hf hf;rw [og hf] at this;exact this
 | false=>
   cases x with
   | ref a=>exact .same
   | _=>first | (cases hf;done) | (rw [hf] at h;cases h)
theorem oh {K:Frag}{H:Hp}{n:Nat}{a b:Addr}{xs:List V}(ha:aJ K H a xs) (hb:aJ K H b xs) (hf:∀x∈xs,(flatV x||isRef x)=true):mJ K H (n+1) (.ref a) (.ref b) true:=by
 have h:=mJ.lst (es:=λ _=>true) (n:=n) ha hb rfl (λ i x y hx hy=>by
  rw [hx] at hy;cases hy;exact jO (hf x (JT hx)))
 rw [show ((List.range xs.length).all λ _=>true)=true from JL.mpr λ _ _=>rfl] at h;exact h
section
variable {X:Cx}{a b:Expr}{ta tb:TE}{pos:Pos}
end
section
variable {X:Cx}{a b e o:Expr}{ta tb te to:TE}{pos p2:Pos}
theorem GU (ha:PE X a ta) (hb:PE X b tb):PE X (.BinOp a .Mult b pos) (tO ut ta tb):=uy BN ha hb
end
section
variable {K:Frag}{te to ta tb ti:TE}{u:TS}{D:cQ}{σ:St}{H:Hp}{Q:VK}{v:V}
end
end L2
namespace L2
open PySem PySem.Spec PyProof.Rows
section
variable {prog:Program}{w:World}{A:Around}{E:Value->Shared->Prop}{s:Shared}{z TI TO i1 i2:Addr}{n1 n2 i:Nat}{P1 P2:Nat->Value->Prop}{S1 S2:Nat->Heap->Prop}{a b:Value}
end
section
variable {prog:Program}{w:World}{A:Around}{E:Value->Shared->Prop}{s:Shared}
end
end L2
namespace L2
open PySem PySem.Spec PyProof.Rows
section
variable {X:Cx}{pins:List (Addr×Obj)}{σ:St}{H:Hp}{s:Shared}{h':Heap}
theorem aD.turnedN {t':Nat}{fp:List Addr}(I:aD X pins σ H s) (k:∀b ob,b∉fp->s.heap.get? b=some ob->h'.get? b=some ob) (hf:∀b∈fp,hZ X pins H b):aD X pins σ H {s with heap:=h',toks:=t'}:=by
 have nf:∀b u,H b=some u->b∉fp:=λ b u q z=>by rw [(hf b z).1] at q;cases q
 have nl:X.env.locals∉fp:=λ z=>(hf _ z).2.1 rfl;refine I.step (g':=s.gens) (d':=s.drawn) (ch:=fp) (λ b hb=>⟨(hf b hb).2.2.2.1,(hf b hb).2.1,(hf b hb).2.2.2.2.1,(hf b hb).2.2.2.2.2⟩) (λ b ob _ _ hc q _=>k b ob hc q) (λ b ob _ _ hc q _=>⟨ob.slots,k b ob hc q⟩)
  (λ _ _ _ _ n=>n) (λ b ob hc q=>⟨ob,k b ob hc q⟩) (λ _ _ q=>q) (λ _ _ _ q=>q) (λ b ps q=>⟨#[],by rw [q];simp⟩) (λ m hm=>?_) (λ b u q=>?_) I.bare
 ·obtain ⟨ob,es,ep,ho,r⟩:=hm;exact ⟨ob,es,ep,k _ ob nl ho,r⟩
 ·refine (I.hok b u q).stay (λ c v hc z=>k c v ?_ z) (λ c z=>z) λ c xs z=>z
  rcases hc with z | z
  ·rw [z];exact nf b u q
  ·exact nf c _ z
theorem aD.turned_laidN {t':Nat}{fp:List Addr}{a:Addr}{o:HO}(I:aD X pins σ H s) (k:∀b ob,b∉fp->s.heap.get? b=some ob->h'.get? b=some ob) (hf:∀b∈fp,hZ X pins H b) (hp:s.heap.objs.size<=a) (new:bD X.prog X.w (upd H a o) h' a o):
  aD X pins σ (upd H a o) {s with heap:=h',toks:=t'}:=by
 have hn:H a=none:=I.hok.fresh hp;have nf:∀b u,H b=some u->b∉fp:=λ b u q z=>by rw [(hf b z).1] at q;cases q
 have nl:X.env.locals∉fp:=λ z=>(hf _ z).2.1 rfl;refine I.step (g':=s.gens) (d':=s.drawn) (ch:=fp) (λ b hb=>⟨(hf b hb).2.2.2.1,(hf b hb).2.1,(hf b hb).2.2.2.2.1,(hf b hb).2.2.2.2.2⟩) (λ b ob _ _ hc q _=>k b ob hc q) (λ b ob _ _ hc q _=>⟨ob.slots,k b ob hc q⟩)
  (λ b ob hc q n=>by rw [au (KY (K0 (Heap.lt_size q) hp))];exact n) (λ b ob hc q=>⟨ob,k b ob hc q⟩) (λ b xs q=>by rw [au (aj q hn)];exact q) (λ b ob u q=>by rw [au (aj q hn)];exact q)
  (λ b ps q=>⟨#[],by rw [au (aj q hn),q];simp⟩) (λ m hm=>?_) (λ b u q=>?_) I.bare
 ·obtain ⟨ob,es,ep,ho,r⟩:=hm;exact ⟨ob,es,ep,k _ ob nl ho,r⟩
 ·by_cases hb:b=a
  ·subst hb;rw [ae] at q;cases q;exact new
  ·rw [au hb] at q;refine (I.hok b u q).stay (λ c v hc z=>k c v ?_ z) (λ c z=>by rw [au (aj z hn)];exact z) λ c xs z=>by rw [au (aj z hn)];exact z
   rcases hc with z | z
   ·rw [z];exact nf b u q
   ·exact nf c _ z
end
section
variable {X:Cx}{p pos pos2:Pos}{a b:Expr}{elts:List Expr}{k0:Nat}{ta tb:TE}
end
section
variable {K:Frag}{σ rest:St}{H:Hp}{t:TA}{te:TE}{src:List (Option Nat)}{Q:VK}{x y:Str}
end
section
variable {K:Frag}{te ta tb:TE}{t ta':TA}{c:TT}{u e t1:TS}{D:cQ}{σ:St}{H:Hp}{Q:VK}{R:List V->Hp->Prop}{v:V}
theorem ie (P:St->Hp->Prop) (hu:∀σ' H',P σ' H'->u D σ' H') (h:(∀σ' H',P σ' H'->u D σ' H')->bu (jX c t1 e) u D σ H):bu (jX c t1 e) u D σ H:=h hu
theorem GP {d:Addr}{ys:List V}(h:Ev te σ H (.ref d)) (hd:aJ K H d ys\/eE K H d ys) (q:∀l,H l=none->Q (.ref l) (upd H l (.lst ys))):cB (jG K) (aK te bK) σ H Q:=h _ ⟨ys,hd,q⟩
theorem vD {i:Nat}(h:te σ H (λ v H'=>D.nx (σ.set i (some v)) H')):tAsg te (gName i) D σ H:=h
theorem ak (h:Ev te σ H v) (q:ta' σ H (λ xs H2=>R (v::xs) H2)):aK te ta' σ H R:=h _ q
theorem aV (h:te σ H (λ x H1=>ta' σ H1 (λ xs H2=>R (x::xs) H2))):aK te ta' σ H R:=h
theorem aR (q:R [] H):bK σ H R:=q
theorem bB (q:t σ H (λ vs H2=>vs.length<=sizeLine/\∀p,H2 p=none->Q (.ref p) (upd H2 p (.lst vs)))):iH t σ H Q:=q
theorem jb (h:ta σ H λ x H1=>tb σ H1 λ y H2=>iB .Add x y H2 Q):fU .Add ta tb σ H Q:=h
theorem eZ {a b:Addr}{xs ys:List V}(ha:H a=some (.lst xs)) (hb:H b=some (.lst ys)) (hz:xs.length+ys.length<=1000) (q:∀p,H p=none->Q (.ref p) (upd H p (.lst (xs++ys)))):iB .Add (.ref a) (.ref b) H Q:=by rw [ur];exact ⟨a,b,xs,ys,rfl,rfl,ha,hb,KZ hz (by decide),q⟩
end
theorem BZ {a b:Nat}:(one a=one b)<->a=b:=by
 constructor
 ·intro h;have h:(one a).cps.toList=(one b).cps.toList:=by rw [h]
  have h:[a]=[b]:=h;injection h
 ·intro h;rw [h]
end L2
namespace L2
open PySem PySem.Spec PyProof.Rows
section
variable {X:Cx}
end
end L2
namespace L2
open PySem PySem.Spec PyProof.Rows
section
variable {X:Cx}{a e:Expr}{ta te tb:TE}{p p2 pos:Pos}
end
section
variable {K:Frag}{σ:St}{H:Hp}{ta tb te to:TE}{Q:VK}{i j:Int}
end
section
variable {K:Frag}{σ:St}{H:Hp}{ta tb te to:TE}{Q:VK}{c:TT}{t e:TS}{D:cQ}
end
section
variable {K:Frag}{ta:TA}{te tl:TE}{src:List (Option Nat)}{σ rest:St}{H:Hp}{Q:VK}
end
end L2
namespace L2
open PySem PySem.Spec PyProof.Rows
theorem wL {K:Frag}{h:Heap}{C:Addr}{bmB:List Value}{newId:String}(X:K.In h) (q:L4 K C bmB newId=true):
  ∃bm N nm qn bs hdct sn sub ab col dd k0 k1 k2 k3 k5 mN,h.get? C=some (excClassObj nm qn C N bs bm hdct sn sub ab col dd k0 k1 k2 k3 k5 newId)/\h.Ns N mN/\mN "__init__"=none/\OwnTail h bmB bm:=by
 unfold L4 at q;split at q
 ·rename_i dd cd sl ho;split at q
  ·rename_i C' bm k0 k1 k2 k3 n k5 hm hs;simp only [Lr,beq_iff_eq,Ly] at q;obtain ⟨⟨⟨⟨⟨rfl,rfl⟩,hdel⟩,ht⟩,hok⟩,hni⟩:=q;obtain ⟨nm,bs,mro,ns,qn,hd,sn,sub,ab,col,del⟩:=cd;dsimp only at hm hdel hok hni;subst hm hdel;have hsl:sl= #[k0,k1,k2,k3,some (.builtin n),k5]:=by obtain ⟨l⟩:=sl;simp only at hs;rw [hs]
   subst hsl;exact ⟨bm,ns,nm,qn,bs,hd,sn,sub,ab,col,dd,k0,k1,k2,k3,k5,_,X _ _ ho,.of_isNs (PySem.W.isNs_of_in X hok),PySem.W.nsMap_none_of_in X hok hni,PySem.W.tail_of_in X ht⟩
  ·cases q
 ·cases q
def Bu (ta:TA) (G:Hp->Prop):TS:=λ _ σ H=>ta σ H λ vs H1=>vs.length<=sizeLine/\G H1
theorem gn {X:Cx}{x:Str}{C:Addr}{e₀:Expr}{rest:List Expr}{np cpos pos:Pos}{ta:TA}{G:Hp->Prop}{bmB:List Value}{B newId initId:String}(FB:ExcBaseFacts B newId initId bmB) (hc:X.calm=true) (hg:Gl X x) (hm:X.mg x=some (.ref C))
  (q:L4 X.K C bmB newId=true) (ha:PA X (e₀::rest) ta)
  (hx:∀pins σ H s h' e vs,aD X pins σ H s->Heap.MadeExcOf s.heap h' e (.ref C) vs->G H->X.xe (.ref e) {s with heap:=h'})
  (he:starEach (e₀::rest) X.env=(false,eval e₀ X.env)::starEach rest X.env:=by rfl) (hpl:(backTo cpos (starEach rest X.env)).any (·.1)=false:=by rfl) (hdb:(x == ("__debug__":Str))=false:=by decide):
  PS X (.Raise (some (.Call (.Name x np) (e₀::rest) [] cpos)) none pos) (Bu ta G):=by
 intro pins s σ H D I h;obtain ⟨tl,N,nm,qn,bs,hdct,sn,sub,ab,col,dd,k0,k1,k2,k3,k5,mN,hC,hN,hni,T⟩:=wL I.ok.mod.kin q;refine wpAny_Raise_call_subT (C:=C) (nm:=nm) (q:=qn) (N:=N) (bs:=bs) (bm:=tl) (hdct:=hdct) (sn:=sn) (sub:=sub) (ab:=ab) (col:=col) (dd:=dd) (k0:=k0) (k1:=k1) (k2:=k2) (k3:=k3) (k5:=k5)
  FB (mN:=mN) (T.hasType FB.hasBase) (I.ok.hd hc) (by rw [he];show (false||(backTo cpos (starEach rest X.env)).any (·.1))=false;rw [hpl];rfl) hni (fS I hg hm ⟨rfl,?_⟩ hdb)
 have h2:=ha cpos pins s σ H _ I h;rw [he] at h2 ⊢;refine Calls.evalArgs_plain (cb h2 λ us s2 ⟨vs,H1,I1,r,z,g⟩=>?_);exact ⟨rfl,by rw [<-r.length];exact z,I1.bk _ _ hC,hN.keeps I1.bk,T.keeps I1.bk,λ h' e hm=>hx pins σ H1 s2 h' e us I1 hm g⟩
theorem bD.obj {P:Program}{w:World}{H:Hp}{h:Heap}{a:Addr}{o:HO}(x:bD P w H h a o):∃u,h.get? a=some u:=by
 cases o with
 | lst xs=>obtain ⟨_,_,_,_,e⟩:=x;exact ⟨_,e⟩
 | tup xs=>obtain ⟨_,_,_,o,e,_⟩:=x;exact ⟨o,e⟩
 | dK kvs=>obtain ⟨_,_,_,_,o,_,_,e,_⟩:=x;exact ⟨o,e⟩
 | dT kvs=>obtain ⟨_,_,_,_,o,_,_,e,_⟩:=x;exact ⟨o,e⟩
 | set S n=>obtain ⟨o,_,_,_,e,_⟩:=x;exact ⟨o,e⟩
 | ins C dx fs=>obtain ⟨_,_,_,e,_⟩:=x;exact ⟨_,e⟩
 | own y=>exact x
 | xd fs=>obtain ⟨_,⟨o,_,_,e,_⟩,_⟩:=x;exact ⟨o,e⟩
 | rng lo hi=>obtain ⟨_,_,_,e⟩:=x;exact ⟨_,e⟩
 | frz ob u=>obtain ⟨e,_⟩:=x;exact ⟨_,e⟩
 | tbl ps=>exact ⟨_,(show h.get? a=some _ from x)⟩
 | met f y=>exact ⟨_,(show h.get? a=some _ from x)⟩
 | ext φ=>obtain ⟨_,e,_⟩:=x;exact e
def HE (P:Program) (w:World):rj:=λ outer H s E e s'=> ∃(a:Addr) (cls a0:Value) (B:Heap) (H':Hp),e=.ref a/\s'.os=s.os/\AllBare s'.gens/\s.heap.get? a=none/\H' a=none/\
 Heap.FlyingW B outer a cls a0 s'.heap/\ib P w H' B/\Un (ia outer) [] H H' s.heap s'.heap/\(∀b o,s.heap.get? b=some o->H b=none->b∉ia outer->B.get? b=some o)/\
 (∀b o,s.heap.get? b=some o->b∉ia outer->∃o',B.get? b=some o')/\E cls none H'
theorem nS {P:Program}{w:World}{K:Frag}{mg:Str->Option Value}{base:Heap}{N:List Str}{qual:Str}{scope:Scope}{f:Addr}{cd:Value}{A:Around}{outer:List Env}{s:Shared}{H:Hp}{E:XK}{C:Addr}:
  ∀pins σ H1 s1 h' e vs,aD (iy (HE P w) P w K mg base N qual scope f cd A outer s H E) pins σ H1 s1->Heap.MadeExcOf s1.heap h' e (.ref C) vs->E (.ref C) none H1->
   (iy (HE P w) P w K mg base N qual scope f cd A outer s H E).xe (.ref e) {s1 with heap:=h'}:=by
 intro pins σ H1 s1 h' e vs I hm hE;have fr:(A.deeper (envOfC qual scope s.heap.objs.size f cd)).frames=some (envOfC qual scope s.heap.objs.size f cd::outer):=I.ok.frames;have ST:s1.heap.FunFrames base (envOfC qual scope s.heap.objs.size f cd::outer):=I.stack;have BU:Un (ia outer) [] H H1 s.heap s1.heap:=I.base;have hin:∀env∈(envOfC qual scope s.heap.objs.size f cd::outer),∀b,env.frame=some b->b∈ia (envOfC qual scope s.heap.objs.size f cd::outer):=λ env he b hb=>JY.mpr ⟨env,he,hb⟩;have sub:∀b,b∈ia outer->b∈ia (envOfC qual scope s.heap.objs.size f cd::outer):=λ b hb=>by obtain ⟨env,he,hf⟩:=JY.mp hb;exact JY.mpr ⟨env,JJ _ he,hf⟩
 have notin:∀b o,s.heap.get? b=some o->b∉ia outer->b∉ia (envOfC qual scope s.heap.objs.size f cd::outer):=λ b o q nb hb=>by
  obtain ⟨env,he,hf⟩:=JY.mp hb
  rcases Jy.mp he with rfl | he
  ·have:s.heap.objs.size=b:=Option.some.inj hf;rw [<-this] at q;exact absurd (Heap.lt_size q) (La _)
  ·exact nb (JY.mpr ⟨env,he,hf⟩)
 show wpAny _ _ (leaving _ _) _ _ _;refine wpAny_leaves_madeW (base:=Mi s1.heap (ia (envOfC qual scope s.heap.objs.size f cd::outer))) fr rfl (λ b o q=>Mj _ q) (PySem.W.funFrames_hide ST hin) hm λ h2 t x1 x2 x3 x4=>?_;have data:∀b o,s1.heap.get? b=some o->b∈ia outer->∃sl,h2.get? b=some {o with slots:=sl}:=λ b o q hb=>by obtain ⟨_,o',q',nd⟩:=ST.mem (sub b hb);rw [q] at q';cases q';exact x4 b o (hm.keeps b o q) nd
 refine ⟨e,_,_,_,H1,rfl,I.os,I.bare,?_,?_,x1,?_,⟨λ b o q n hb hx=>?_,λ b o q n hb hx=>?_,BU.free,λ b o q hx=>?_,BU.tups,BU.frzs,BU.tbls⟩,λ b o q n hb=>?_,λ b o q hb=>?_,hE⟩
 ·cases q:s.heap.get? e with
  | none=>rfl
  | some o=>
    obtain ⟨o',q'⟩:=BU.there e o q (by simp);rw [hm.new] at q';cases q'
 ·cases q:H1 e with
  | none=>rfl
  | some o=>
    obtain ⟨o',q'⟩:=(I.hok e o q).obj;rw [hm.new] at q';cases q'
 ·intro b o q;refine (I.hok b o q).stay (λ c v hc z=>LV _ z λ hb=>?_) (λ _ z=>z) λ _ _ z=>z;have fz:=I.stkFree c hb
  rcases hc with rfl | hc
  ·rw [q] at fz;cases fz
  ·rw [hc] at fz;cases fz
 ·exact x1.1 b o (LV _ (BU.keep b o q n hb hx) (notin b o q hb))
 ·obtain ⟨sl,q1⟩:=BU.slot b o q n hb hx;obtain ⟨sl',q2⟩:=data b _ q1 hb;exact ⟨sl',q2⟩
 ·obtain ⟨o',q1⟩:=BU.there b o q hx
  by_cases hb:b∈ia outer
  ·obtain ⟨sl,q2⟩:=data b _ q1 hb;exact ⟨_,q2⟩
  ·exact ⟨o',x1.1 b o' (LV _ q1 (notin b o q hb))⟩
 ·exact LV _ (BU.keep b o q n hb (by simp)) (notin b o q hb)
 ·obtain ⟨o',q1⟩:=BU.there b o q (by simp);exact ⟨o',LV _ q1 (notin b o q hb)⟩
section
variable {X:Cx}{pins:List (Addr×Obj)}{σ:St}{H H':Hp}{s s':Shared}
abbrev Cx.hand (X:Cx) (e:Addr):Cx:={X with A:=X.A.mark (some (.ref e)),calm:=false}
theorem aD.hand (I:aD X pins σ H s) (e:Addr):aD (X.hand e) pins σ H s:=
 ⟨⟨I.ok.mod,I.ok.kind,I.ok.glob,I.ok.blt,I.ok.above,I.ok.inj,I.ok.has,I.ok.cab,λ z=>(Bool.noConfusion z),I.ok.frames,I.ok.stk,I.ok.exf,I.ok.bs,I.ok.bsz,I.ok.noex,I.ok.exfs,I.ok.funs,I.ok.frf⟩,I.os,I.bare,I.base,I.loc,I.cell,I.free,I.freeC,I.pin,I.hok,I.len⟩
theorem aD.unhand {e:Addr}(ok:X.Ok) (I:aD (X.hand e) pins σ H s):aD X pins σ H s:=⟨ok,I.os,I.bare,I.base,I.loc,I.cell,I.free,I.freeC,I.pin,I.hok,I.len⟩
theorem aD.flown {a:Addr}{cls a0:Value}{B h5:Heap}(I:aD X pins σ H s) (os:s'.os=s.os) (bare:AllBare s'.gens) (ff:s'.heap.FunFrames B X.stack) (fl:B.StaysIn h5) (hok:ib X.prog X.w H' B) (un:Un (ia X.stack) [] H H' s.heap s'.heap) (u:s'.heap.UpToSlots h5)
  (c1:∀b o,s.heap.get? b=some o->H b=none->b∉ia X.stack->B.get? b=some o) (c2:∀b o,s.heap.get? b=some o->b∉ia X.stack->∃o',B.get? b=some o'):aD X pins σ H' {s' with heap:=h5}:=by
 refine I.call' (s':={s' with heap:=h5}) (ch:=[]) os ⟨λ b o q n hb _=>fl b o (c1 b o q n hb),λ b o q n hb hx=>?_,un.free,λ b o q hx=>?_,un.tups,un.frzs,un.tbls⟩ (hok.kept fl) bare (λ b z=>absurd z (by simp))
 ·obtain ⟨sl,q1⟩:=un.slot b o q n hb hx;obtain ⟨_,o',q',nd⟩:=ff.mem hb;rw [q1] at q';cases q';obtain ⟨sl',q2⟩:=u b _ q1 nd;exact ⟨sl',q2⟩
 ·by_cases hb:b∈ia X.stack
  ·obtain ⟨_,o',q',nd⟩:=ff.mem hb;obtain ⟨sl',q2⟩:=u b _ q' nd;exact ⟨_,q2⟩
  ·obtain ⟨o',q'⟩:=c2 b o q hb;exact ⟨o',fl b o' q'⟩
theorem aD.forget {h':Heap}{m':Str->Option Value}{t':Nat}(I:aD X pins σ H s) (hn':h'.Ns X.env.locals m') (hs:Heap.SameBut X.env.locals s.heap h'):aD X pins (List.replicate X.N.length none) H {s with heap:=h',toks:=t'}:=by
 obtain ⟨m,hn,_⟩:=id I.loc;obtain ⟨oL,_,_,hoL,_⟩:=id hn;have old:∀b o,X.s₀.heap.get? b=some o->h'.get? b=s.heap.get? b:=λ b o e=>hs.2 b (KY (K0 (Heap.lt_size e) I.ok.above));refine ⟨I.ok,I.os,I.bare,⟨λ b o e n hb hx=>?_,λ b o e n hb hx=>?_,I.base.free,λ b o e hx=>?_,I.base.tups,I.base.frzs,I.base.tbls⟩,⟨_,hn',λ j y v e1 e2 e3=>?_⟩,λ y c e=>?_,I.free,I.freeC,λ p hp=>?_,λ b ob e=>?_,by simp⟩
 ·exact (old b o e).trans (I.base.keep b o e n hb hx)
 ·obtain ⟨sl,e1⟩:=I.base.slot b o e n hb hx;exact ⟨sl,(old b o e).trans e1⟩
 ·obtain ⟨o',e1⟩:=I.base.there b o e hx;exact ⟨o',(old b o e).trans e1⟩
 ·rw [KI] at e2;split at e2<;>cases e2
 ·obtain ⟨w',z⟩:=I.cell y c e;exact ⟨w',z.sameBut hs (I.cne y c e)⟩
 ·obtain ⟨e,n,ne,nf,d⟩:=I.pin p hp;exact ⟨(hs.2 p.1 ne).trans e,n,ne,nf,d⟩
 ·refine (I.hok b ob e).stay (λ c w' hc q=>(hs.2 c ?_).trans q) (λ _ q=>q) λ _ _ q=>q;rintro rfl;have fz:=I.free
  rcases hc with z | hc
  ·rw [z,e] at fz;cases fz
  ·rw [hc] at fz;cases fz
end
section
variable {X:Cx}{e:Expr}{es:List Expr}{ta:TA}{ts:TS}{p pos bpos np hpos tpos:Pos}{sp:Sp}{k j i:Nat}{name xc n:Str}{ps:List Str}{C0:Addr}{b₀:Stmt}{suite:List Stmt}
end
end L2
namespace PySem.W
open PySem PySem.Spec PySem.Calls PyProof.Rows Builtin Builtin.ObjectAttr Builtin.Getset_descriptor
structure ExcC (K:Frag) (D:Addr):Prop where
 ga:findIn K (.ref D) "__getattribute__"=some (some (.builtin "BaseException.__getattribute__"))
 gh:findIn K (.ref D) "__getattr__"=some none
 ha:findIn K (.ref D) "__class__"=some (some (.builtin "object.__class__"))
 hn:specialIn K (.builtin "object.__class__") "__get__"=some (some (.builtin "getset_descriptor.__get__"))
 htk:takesIn K (.builtin "object.__class__")=some true
 hm:mroIn K D (.type "object")=some true
 hb:mroIn K D (.type "BaseException")=some true
 hc:(clsIn K D).isSome=true
section
variable {prog:Program}{w:World}{A:Around}{E:Value->Shared->Prop}{s:Shared}{K:Frag}{x D:Addr}{o:Obj}
theorem Hx {M:Model}{h:Heap}(ho:h.get? x=some o) (hc:o.cls=.ref D):Looks M h (typeOf (.ref x)) (.ref D):=hc▸(Looks.ld ho).andThen .now
theorem F0 {M:Model}{h:Heap}(F:ExcC K D) (X:K.In h):Looks M h (find (.ref x) (.ref D) "__class__") (.bind (.builtin "getset_descriptor.__get__") (.builtin "object.__class__")):=
 (looks_findIn X F.ha).andThen ((show Looks M h (getOf (some (.builtin "object.__class__"))) (some (.builtin "getset_descriptor.__get__")) from looks_specialIn X F.hn).andThen
  ((show Looks M h (dataDescriptor? (some (.builtin "object.__class__")) (some (.builtin "getset_descriptor.__get__"))) (some (.builtin "getset_descriptor.__get__",.builtin "object.__class__")) from (looks_takesIn X F.htk).andThen .now).andThen (Looks.tag .now)))
theorem ro {R:Result->Shared->Prop}{tp:Value}(F:ExcC K D) (X:K.In s.heap) (ho:s.heap.get? x=some o) (hc:o.cls=.ref D) (h:R (.ok (.ret (.ref D))) s):
  codeAny (model prog w) A (.call (.builtin "getset_descriptor.__get__") ⟨[.builtin "object.__class__",.ref x,tp],[]⟩) R s:=by
 obtain ⟨hh,g,dr,t,os⟩:=s;have L0:=Hx (M:=model prog w) ho hc;have L1:=looks_mroIn (M:=model prog w) X F.hm;refine codeAny_call_builtin KF.slot_gs.plain KF.entry_gs (KF.slot_gs.check _ _ _ _ _ _ _ _ KF.type_class (KF.args_gs _ _ _) ?_);unfold Builtin.«getset_descriptor.__get__» descrGet;rw [dga_obj];refine wpAny_bind (wpAny_pure ?_);unfold descrGetter descrCheckInstance descrNameAndClass isInstance;simp only [KF.owner_class]
 repeat lk
 refine ⟨Code.quiet_builtin _ (by decide+kernel),codeAny_builtin KF.entry_class ?_⟩;unfold Builtin.«object.__class__» shownTypeOf
 repeat lk
 first | exact h | (rw [hc];exact h) | skip
theorem Bo {M:Model}{nameV:Value}{Q:Unit->Shared->Prop}(F:ExcC K D) (X:K.In s.heap) (ho:s.heap.get? x=some o) (hc:o.cls=.ref D) (hq:Q () s):wpAny M A (checkBuiltinCall "BaseException.__getattribute__" ⟨[.ref x,nameV],[]⟩) Q E s:=by
 obtain ⟨hh,g,dr,t,os⟩:=s;have L0:=Hx (M:=M) ho hc;have L1:=looks_mroIn (M:=M) X F.hb;have LI:Looks M hh (isInstance (.ref x) (.type "BaseException")) true:=L0.andThen L1;have hk:builtinKind "BaseException.__getattribute__"=some .slot:=by decide+kernel
 have hsplit:splitId "BaseException.__getattribute__"=some ("BaseException","__getattribute__"):=by decide+kernel
 have ha:=PySem.F.args_bexc_ga (.ref x) nameV;simp only [checkBuiltinCall,hk,hsplit];refine wpAny_bind (LI.at ?_)
 repeat (any_goals (first | assumption | wp_step))
theorem Bn {Q:Option Value->Shared->Prop}(F:ExcC K D) (X:K.In s.heap) (ho:s.heap.get? x=some o) (hc:o.cls=.ref D) (h:Q (some (.ref D)) {s with toks:=s.toks+1}):wpAny (model prog w) A (getAttr? (.ref x) "__class__") Q E s:=by obtain ⟨hh,g,d,t,os⟩:=s;have L0:=Hx (M:=model prog w) ho hc;have L1:=looks_findIn (M:=model prog w) X F.ga;have L2:=looks_findIn (M:=model prog w) X F.gh;have L3:=F0 (M:=model prog w) (x:=x) F X;unfold getAttr? getAttrBy? getAttrBy;refine wpAny_bind (wpAny_mkText (wpAny_bind (wpAny_attempt (wpAny_holding (wpAny_bind (L0.at (wpAny_bind (L1.at ?_))))))));dsimp only;rw [if_neg (λ z:(onTheHeap (Value.ref D)&&(Value.builtin "BaseException.__getattribute__" == Value.builtin "object.__getattribute__"))=true=>absurd (Lz.mp z).2 (by decide+kernel))];unfold getAttrByItsOwn hookBefore;rw [if_pos (show onTheHeap (Value.ref D)=true from rfl)];refine wpAny_bind (L2.at ?_);refine wpAny_bind (wpAny_attempt (wpAny_holding ?_));unfold callGetattribute;rw [if_neg (by decide)];unfold boundAndCalled;refine wpAny_bind (wpAny_of_eq (PySem.F.attr_ValueError.ga.bind (.ref x)) ?_);refine wpAny_call (codeAny_call_builtin PySem.F.attr_ValueError.ga.plain PySem.F.entry_bexc_ga (Bo F X ho hc ?_));unfold Builtin.«object.__getattribute__»;refine wpAny_bind (wpAny_pure ?_);refine wpAny_bind (wpAny_pure ?_);refine wpAny_bind (L0.at ?_);refine wpAny_bind (L3.at ?_);show wpAny _ _ (holding [_] (call (.builtin "getset_descriptor.__get__") [.builtin "object.__class__",.ref x,.ref D]) >>= ret) _ _ _;refine wpAny_bind (wpAny_holding (wpAny_call (ro (s:=⟨hh,g,d,t+1,os⟩) F X ho hc ?_)));refine wpAny_pure ?_;exact handed_on rfl (wpAny_pure h)
theorem kitx_exc (F:ExcC K D):KitX K (.ref x) (.ref D) (λ h=> ∃o,h.get? x=some o/\o.cls=.ref D) where
 ty:=λ _ _ _ ⟨o,ho,hc⟩=>Hx ho hc
 it:=λ _ _ X _=>by
  obtain ⟨cdD,hcD⟩:=LF.mp F.hc;unfold clsIn at hcD;split at hcD
  ·rename_i c' d' cd' sl' ho;intro A' Q' E' s' k q;unfold isType loadHead;exact wpAny_bind (wpAny_loadPart (k _ _ (X _ _ ho)) (wpAny_pure q))
  ·cases hcD
 ne:=λ h tp dd its n sl X htp=>by
  obtain ⟨cdD,hcD⟩:=LF.mp F.hc;refine Bool.eq_false_iff.mpr λ q=>?_;have e:D=tp:=Value.ref.inj (beq_iff_eq.mp q);subst e;unfold clsIn at hcD;split at hcD
  ·rename_i c' d' cd' sl' ho;have z:=(X _ _ ho).symm.trans htp;cases z
  ·cases hcD
 ca:=λ X ⟨o,ho,hc⟩ k=>Bn F X ho hc k
end
end PySem.W
namespace L2
open PySem PySem.Spec PyProof.Rows
section
variable {X:Cx}{a b e o:Expr}{ta tb te to:TE}{p pos:Pos}{es:List Expr}{t:TA}
structure jd (k:Nat) (A:Around):Prop where
 dp:A.depth+3*k+5<recursionLimit
 un:A.units+16*k+200<cLine
theorem cz.n {k:Nat}{A:Around}(r:cz k A) (v:Option Value):jd k (A.mark v):=⟨r.dp,r.un⟩
abbrev Cx.uncalm (X:Cx) (A:Around):Cx:={X with A:=A,calm:=false}
theorem aD.uncalm {X:Cx}{pins:List (Addr×Obj)}{σ:St}{H:Hp}{s:Shared}(I:aD X pins σ H s) {A:Around}(hA:A.frames=some X.stack):aD (X.uncalm A) pins σ H s:=
 ⟨⟨I.ok.mod,I.ok.kind,I.ok.glob,I.ok.blt,I.ok.above,I.ok.inj,I.ok.has,I.ok.cab,λ z=>(Bool.noConfusion z),hA,I.ok.stk,I.ok.exf,I.ok.bs,I.ok.bsz,I.ok.noex,I.ok.exfs,I.ok.funs,I.ok.frf⟩,I.os,I.bare,I.base,I.loc,I.cell,I.free,I.freeC,I.pin,I.hok,I.len⟩
abbrev Ji (P:Program) (w:World) (K:Frag) (mg:Str->Option Value) (base:Heap) (N:List Str) (qual:Str) (scope:Scope) (f:Addr) (cd:Value) (A:Around) (outer:List Env) (s:Shared) (H:Hp):Cx:=
 ((iy eP P w K mg base N qual scope f cd {A with handled:=none} outer s H E0).uncalm (A.deeper (envOfC qual scope s.heap.objs.size f cd))).nox
end
end L2
namespace L2
open PySem
def cq (e:Addr) (h:Heap):Prop:= ∃oe vs,h.get? e=some oe/\oe.data=.fields vs/\vs[2]? =some .none
section
variable {M:Model}{A:Around}{E:Value->Shared->Prop}{s:Shared}{base:Heap}{env:Env}{outer:List Env}{L e:Addr}{Q:Unit->Shared->Prop}
theorem cq.set1 {h:Heap}{v:Value}(c:cq e h):cq e (h.update e (Obj.mapFields (·.setIfInBounds 1 v))):=by obtain ⟨oe,vs,he,hd,h2⟩:=c;have hd3:=Obj.data_mapFields hd (·.setIfInBounds 1 v);exact ⟨_,_,Heap.get?_update_self (Obj.mapFields (·.setIfInBounds 1 v)) he (Obj.isFreed_of_fields hd3),hd3,by rw [Array.getElem?_setIfInBounds_ne (by decide)];exact h2⟩
theorem cq.other {h:Heap}{T:Addr}{f:Obj->Obj}(c:cq e h) (hn:T≠e):cq e (h.update T f):=by obtain ⟨oe,vs,he,hd,h2⟩:=c;exact ⟨oe,vs,by rw [Heap.get?_update_other _ _ hn];exact he,hd,h2⟩
theorem cq.push {h:Heap}{o:Obj}(c:cq e h):cq e (h.push o):=by obtain ⟨oe,vs,he,hd,h2⟩:=c;exact ⟨oe,vs,Heap.get?_push_of_some _ he,hd,h2⟩
theorem kY {oe:Obj}{vs:Array Value}{head:Value}{hadNext:Bool}(hfr:A.frames=some (env::outer)) (hl:s.heap.FunFrames base (env::outer)) (hf:env.frame=some L)
  (he:s.heap.get? e=some oe) (hd:oe.data=.fields vs) (h2:vs[2]? =some .none)
  (h:∀h',cq e h'->(∀b,b≠e->b∉(env::outer).filterMap (·.frame)->s.heap.get? b≠none->h'.get? b=s.heap.get? b)->(∃T oT ts oe' vs',T≠e/\h'.get? e=some oe'/\oe'.data=.fields vs'/\vs'[1]? =some (.ref T)/\h'.get? T=some oT/\oT.data=.fields ts/\3<ts.size)->Q () {s with heap:=h'}):
  wpAny M A (do let a<-frameOf env;let pl<-entryPlaceOf L hadNext;let b<-EntryCells.newEntry head a .none (rawInt L) .none pl;setField (.ref e) 1 b) Q E s:=by
 have hene:e∉(env::outer).filterMap (·.frame):=λ hm=>by obtain ⟨_,o,ho,hnf⟩:=hl.mem hm;rw [he] at ho;injection ho with ho;subst ho;exact hnf vs hd
 refine wpAny_bind (wpAny_frameOf_fun hfr hl hf λ h₁ hs₁=>?_);refine wpAny_bind (wpAny_entryPlaceOf λ pl hpl=>?_);unfold EntryCells.newEntry newFields;refine wpAny_bind (wpAny_newObj_type ?_ (hpl.sizeOk5 _ _ _ _ _));have he₁:h₁.get? e=some oe:=(hs₁.2.1 e hene).trans he;have c1:cq e h₁:=⟨oe,vs,he₁,hd,h2⟩;have hsz:2<vs.size:=(LA.mp h2).1;have hTe:h₁.objs.size≠e:=Lb (Heap.lt_size he₁);refine wpAny_setField (Heap.get?_push_of_some _ he₁) hd (by omega) (h _ c1.push.set1 (λ b hb hnb hx=>?_) ?_)
 ·rw [Heap.get?_update_other _ _ (Ne.symm hb)];cases q:s.heap.get? b with
  | none=>exact absurd q hx
  | some o=>exact Heap.get?_push_of_some _ ((hs₁.2.1 b hnb).trans q)
 ·have hd3:=Obj.data_mapFields hd (·.setIfInBounds 1 (Value.ref h₁.objs.size));have hsz1:1<vs.size:=by omega
  have g3:=(Heap.get?_update_other (h₁.push {cls:=.type "traceback",dict:=none,data:=.fields ([head,.ref L,.none,rawInt L,.none]++(if pl.isEmpty then List.replicate 6 Value.none else pl)).toArray}) (Obj.mapFields (·.setIfInBounds 1 (Value.ref h₁.objs.size))) (Ne.symm hTe)).trans (Heap.get?_push_size h₁ rfl);refine ⟨h₁.objs.size,_,_,_,_,hTe,Heap.get?_update_self (Obj.mapFields (·.setIfInBounds 1 (Value.ref h₁.objs.size))) (Heap.get?_push_of_some _ he₁) (Obj.isFreed_of_fields hd3),hd3,?_,g3,rfl,?_⟩
  ·simp [hsz1]
  ·simp only [JA,JD,JK,Kl]<;>omega
theorem hV {oe:Obj}{vs:Array Value}{T:Addr}{oT:Obj}{ts:Array Value}{fl:Option Addr}(c:cq e s.heap) (he:s.heap.get? e=some oe) (hd:oe.data=.fields vs) (h1:vs[1]? =some (.ref T)) (hTe:T≠e) (hT:s.heap.get? T=some oT) (hdT:oT.data=.fields ts) (h3:3<ts.size)
  (h:∀h',cq e h'->Q () {s with heap:=h'}):wpAny M A (setFlight (.ref e) fl) Q E s:=by
 unfold setFlight;refine wpAny_bind (wpAny_field he hd h1 ?_);rw [if_pos (show (Value.ref T != Value.none)=true from by simp)];exact wpAny_setField hT hdT h3 (h _ (c.other hTe))
theorem sQ {oe:Obj}{vs:Array Value}(hfr:A.frames=some (env::outer)) (hl:s.heap.FunFrames base (env::outer)) (hf:env.frame=some L) (he:s.heap.get? e=some oe) (hd:oe.data=.fields vs) (h1:vs[1]? =some .none) (h2:vs[2]? =some .none)
  (h:∀h',cq e h'->Q () {s with heap:=h'}):wpAny M A (leaving env (.ref e)) Q E s:=by
 unfold leaving noteFrame;simp only [hf];refine wpAny_bind (wpAny_bind (wpAny_field he hd h1 ?_));rw [if_neg (by decide)];refine kY hfr hl hf he hd h2 λ h' c k ⟨T,oT,ts,oe',vs',hTe,g1,g2,g3,g4,g5,g6⟩=>?_;exact hV (s:={s with heap:=h'}) c g1 g2 g3 hTe g4 g5 g6 h
theorem vj {T:Addr}{oe oT:Obj}{vs ts:Array Value}(hfr:A.frames=some (env::outer)) (hl:s.heap.FunFrames base (env::outer)) (hf:env.frame=some L) (he:s.heap.get? e=some oe) (hd:oe.data=.fields vs) (h1:vs[1]? =some (.ref T)) (h2:vs[2]? =some .none) (hTe:T≠e) (hT:s.heap.get? T=some oT) (hdT:oT.data=.fields ts) (h3:ts[3]? =some .none)
  (h:∀h',cq e h'->Q () {s with heap:=h'}):wpAny M A (noteFrame (.ref e) env) Q E s:=by
 unfold noteFrame;simp only [hf];refine wpAny_bind (wpAny_field he hd h1 ?_);rw [if_pos (show (Value.ref T != Value.none)=true from by simp)];refine wpAny_bind (wpAny_field hT hdT h3 ?_);rw [if_neg (show¬((Value.none == rawInt L)=true) from by simp [rawInt])];refine wpAny_bind (wpAny_setField hT hdT (LA.mp h3).1 ?_);have other:∀b,b≠T->(s.heap.update T (Obj.mapFields (·.setIfInBounds 3 Value.none))).get? b=s.heap.get? b:=λ b hb=>Heap.get?_update_other _ _ (Ne.symm hb);have noRecord:∀b o,s.heap.get? b=some o->(∀vs,o.data≠.fields vs)->b≠T:=λ b o hb hnf q=>by rw [q,hT] at hb;injection hb with hb;subst hb;exact hnf ts hdT
 exact kY (s:={s with heap:=s.heap.update T (Obj.mapFields (·.setIfInBounds 3 Value.none))}) hfr (hl.of_keeps λ b o hb hnf=>⟨o,(other b (noRecord b o hb hnf)).trans hb,rfl⟩) hf ((other e (Ne.symm hTe)).trans he) hd h2 λ h' c _ _=>h h' c
end
theorem ki:entryFor table "proto.unchain"=some Builtin.«proto.unchain» :=entryFor_of_tree (by kernel_rfl)
theorem j2:plainId "proto.unchain"=true:=by decide+kernel
section
variable {prog:Program}{w:World}{A:Around}{E:Value->Shared->Prop}{s:Shared}
theorem gP {α:Type}{a e:Addr}{o:Obj}{vs:Array Value}{Q:α->Shared->Prop}(hh:A.handled=some (.ref e)) (hc:cq e s.heap) (ho:s.heap.get? a=some o) (hd:o.data=.fields vs) (hz:2<vs.size) (hne:e≠a)
  (h:E (.ref a) {s with heap:=s.heap.update a (Obj.mapFields (·.setIfInBounds 2 (.ref e)))}):wpAny (model prog w) A (raiseNew (.ref a):Sem α) Q E s:=by
 obtain ⟨oe,ws,he,hde,h2⟩:=hc;simp only [raiseNew];refine wpAny_bind (wpAny_handled ?_);rw [hh];have hn:(Value.ref e != Value.ref a)=true:=by simp only [bne_iff_ne,ne_eq];intro z;exact hne (Value.ref.inj z)
 dsimp only;rw [if_pos hn];refine wpAny_bind (wpAny_holding (wpAny_runValue (codeAny_builtin ki ?_)));rw [Around.under_plainId j2 _];unfold Builtin.«proto.unchain»;dsimp only;refine wpAny_bind (wpAny_field he hde h2 ?_);rw [if_pos (show (Value.none == Value.none)=true from rfl)];refine wpAny_bind (wpAny_pure ?_);refine wpAny_pure ?_;simp only [updateField];refine wpAny_bind (wpAny_bind (wpAny_load ho ?_));rw [hd];dsimp only;rw [if_pos hz];exact wpAny_update ho (wpAny_throw h)
theorem jE {e it l:Addr}{i:Nat}{items:Array Value}{Q:Option Value->Shared->Prop}(hh:A.handled=some (.ref e)) (hc:cq e s.heap) (hne:it≠e)
  (hit:s.heap.IsListIter it l i) (hl:s.heap.IsList l items) (hx:items[i]? =none)
  (hQ:∀h',Heap.ExtBut it s.heap h'->Q none {s with heap:=h'}):wpAny (model prog w) A (pyNext (.ref it)) Q E s:=by
 obtain ⟨o,ho,hc',hd⟩:=id hit;obtain ⟨ol,hol,_,nl,hdl⟩:=hl;unfold pyNext;refine wpAny_bind (wpAny_attempt (wpAny_callSpecial?_slot (name:=Str.ofString "__next__") hit.typeIs slot_listiter_next
  (wpAny_call_entry slot_listiter_next hit.typeIs entry_listiter_next ?_ (args_listiter_next _))))
 show wpAny _ _ (field (.ref it) 0 >>= _) _ _ s;refine wpAny_bind (wpAny_field ho hd (x:=.ref l) rfl ?_);show wpAny _ _ (if (Value.ref l == Value.none)=true then _ else _) _ _ s;rw [if_neg (show¬((Value.ref l == Value.none)=true) from Lq)];show wpAny _ _ (field (.ref it) 1 >>= _) _ _ s;refine wpAny_bind (wpAny_field ho hd (x:=.int i 0) rfl ?_);show wpAny _ _ (seqItems? (.ref l) >>= _) _ _ s;refine wpAny_bind (wpAny_seqItems hol hdl ?_);simp only [Ln,hx];refine wpAny_bind (wpAny_rule (wpAny_bind (wpAny_setField ho hd (by simp) ?_)));show wpAny _ _ (newExc (.type "StopIteration") [] >>= _) _ _ _;refine wpAny_bind ?_;simp only [newExc,newTuple];refine wpAny_bind (wpAny_newObj_type ?_ (by size_fits));refine wpAny_bind (m:=firstArgMember _ _) (wpAny_of_eq (a:=Value.none) (by first | rfl | (simp only [firstArgMember];rfl)) ?_)
 refine wpAny_newObj_type ?_ (by size_fits);have c3:cq e ((s.heap.update it (Obj.mapFields λ x=>x.setIfInBounds 0 Value.none)).push {cls:=.type "tuple",data:=.seq #[]}):=(hc.other hne).push;have ne:e≠((s.heap.update it (Obj.mapFields λ x=>x.setIfInBounds 0 Value.none)).push {cls:=.type "tuple",data:=.seq #[]}).objs.size:=by obtain ⟨oe,_,he,_⟩:=c3;exact KY (Heap.lt_size he)
 refine gP (e:=e) (show A.in1.handled=some (.ref e) from hh) c3.push (Heap.get?_push_size _ rfl) rfl (by simp;omega) ne ?_;refine wpAny_bind (wpAny_isInstance (T:="StopIteration") (b:=true) ⟨_,Heap.get?_update_self _ (Heap.get?_push_size _ rfl) (Obj.isFreed_of_fields (Obj.data_mapFields (by rfl) _)),Obj.cls_mapFields _ _⟩ isSubtype_stop ?_);refine wpAny_pure (hQ _ λ b ob hb q=>?_);have q2:((s.heap.update it (Obj.mapFields λ x=>x.setIfInBounds 0 Value.none)).push {cls:=.type "tuple",data:=.seq #[]}).get? b=some ob:=Heap.get?_push_of_some _ (by rw [Heap.get?_update_other _ _ (Ne.symm hb)];exact q);rw [Heap.get?_update_other _ _ (λ z=>absurd (Heap.lt_size q2) (by rw [<-z];exact La _))];exact Heap.get?_push_of_some _ q2
theorem kh {e it l:Addr}{i:Nat}{items:Array Value}{Q:Option Value->Shared->Prop}(hh:A.handled=some (.ref e)) (hc:cq e s.heap) (hne:it≠e)
  (hit:s.heap.IsTupleIter it l i) (hl:s.heap.IsTuple l items) (hx:items[i]? =none)
  (hQ:∀h',Heap.ExtBut it s.heap h'->Q none {s with heap:=h'}):wpAny (model prog w) A (pyNext (.ref it)) Q E s:=by
 obtain ⟨o,ho,hc',hd⟩:=id hit;obtain ⟨ol,hol,_,nl,hdl⟩:=hl;unfold pyNext;refine wpAny_bind (wpAny_attempt (wpAny_callSpecial?_slot (name:=Str.ofString "__next__") hit.typeIs F.slot_tuple_iterator_next
  (wpAny_call_entry F.slot_tuple_iterator_next hit.typeIs F.entry_tuple_iterator_next ?_ (F.args_tuple_iterator_next_1 _))))
 show wpAny _ _ (field (.ref it) 0 >>= _) _ _ s;refine wpAny_bind (wpAny_field ho hd (x:=.ref l) rfl ?_);show wpAny _ _ (if (Value.ref l == Value.none)=true then _ else _) _ _ s;rw [if_neg (show¬((Value.ref l == Value.none)=true) from Lq)];show wpAny _ _ (field (.ref it) 1 >>= _) _ _ s;refine wpAny_bind (wpAny_field ho hd (x:=.int i 0) rfl ?_);show wpAny _ _ (seqItems? (.ref l) >>= _) _ _ s;refine wpAny_bind (wpAny_seqItems hol hdl ?_);simp only [Ln,hx];refine wpAny_bind (wpAny_rule (wpAny_bind (wpAny_setField ho hd (by simp) ?_)));show wpAny _ _ (newExc (.type "StopIteration") [] >>= _) _ _ _;refine wpAny_bind ?_;simp only [newExc,newTuple];refine wpAny_bind (wpAny_newObj_type ?_ (by size_fits));refine wpAny_bind (m:=firstArgMember _ _) (wpAny_of_eq (a:=Value.none) (by first | rfl | (simp only [firstArgMember];rfl)) ?_)
 refine wpAny_newObj_type ?_ (by size_fits);have c3:cq e ((s.heap.update it (Obj.mapFields λ x=>x.setIfInBounds 0 Value.none)).push {cls:=.type "tuple",data:=.seq #[]}):=(hc.other hne).push;have ne:e≠((s.heap.update it (Obj.mapFields λ x=>x.setIfInBounds 0 Value.none)).push {cls:=.type "tuple",data:=.seq #[]}).objs.size:=by obtain ⟨oe,_,he,_⟩:=c3;exact KY (Heap.lt_size he)
 refine gP (e:=e) (show A.in1.handled=some (.ref e) from hh) c3.push (Heap.get?_push_size _ rfl) rfl (by simp;omega) ne ?_;refine wpAny_bind (wpAny_isInstance (T:="StopIteration") (b:=true) ⟨_,Heap.get?_update_self _ (Heap.get?_push_size _ rfl) (Obj.isFreed_of_fields (Obj.data_mapFields (by rfl) _)),Obj.cls_mapFields _ _⟩ isSubtype_stop ?_);refine wpAny_pure (hQ _ λ b ob hb q=>?_);have q2:((s.heap.update it (Obj.mapFields λ x=>x.setIfInBounds 0 Value.none)).push {cls:=.type "tuple",data:=.seq #[]}).get? b=some ob:=Heap.get?_push_of_some _ (by rw [Heap.get?_update_other _ _ (Ne.symm hb)];exact q);rw [Heap.get?_update_other _ _ (λ z=>absurd (Heap.lt_size q2) (by rw [<-z];exact La _))];exact Heap.get?_push_of_some _ q2
end
end L2
namespace PySem
theorem Runs.det {M:Model}{Γ:Ctx}{p:Pos}{t:Sem Fin}{fs:List Frame}{s s':Shared}{e:End}(h:Runs M Γ p t fs s e s'):∀{e2:End}{s2:Shared},Runs M Γ p t fs s e2 s2->e=e2/\s'=s2:=by
 induction h with
 | done=>intro e2 s2 h2;cases h2;exact ⟨rfl,rfl⟩
 | raise=>intro e2 s2 h2;cases h2;exact ⟨rfl,rfl⟩
 | again _ _ ih=>intro e2 s2 h2;cases h2;rename_i h2;exact ih h2
 | rule _ ih=>intro e2 s2 h2;cases h2;rename_i h2;exact ih h2
 | «at» _ ih=>intro e2 s2 h2;cases h2;rename_i h2;exact ih h2
 | load hg _ ih=>intro e2 s2 h2;cases h2;rename_i hg2 h2;rw [hg] at hg2;cases hg2;exact ih h2
 | update _ _ ih=>intro e2 s2 h2;cases h2;rename_i h2;exact ih h2
 | loadIfAlive _ ih=>intro e2 s2 h2;cases h2;rename_i h2;exact ih h2
 | point _ ih=>intro e2 s2 h2;cases h2;rename_i h2;exact ih h2
 | alloc _ ih=>intro e2 s2 h2;cases h2;rename_i h2;exact ih h2
 | fresh _ ih=>intro e2 s2 h2;cases h2;rename_i h2;exact ih h2
 | ask _ ih=>intro e2 s2 h2;cases h2;rename_i h2;exact ih h2
 | choose _ _ ih=>intro e2 s2 h2;cases h2;rename_i h2;exact ih h2
 | os _ ih=>intro e2 s2 h2;cases h2;rename_i h2;exact ih h2
 | handled _ ih=>intro e2 s2 h2;cases h2;rename_i h2;exact ih h2
 | genState hg _ ih=>intro e2 s2 h2;cases h2;rename_i hg2 h2;rw [hg] at hg2;cases hg2;exact ih h2
 | stack _ ih=>intro e2 s2 h2;cases h2;rename_i h2;exact ih h2
 | thread _ ih=>intro e2 s2 h2;cases h2;rename_i h2;exact ih h2
 | newGen _ ih=>intro e2 s2 h2;cases h2;rename_i h2;exact ih h2
 | call _ _ ih1 ih2=>
   intro e2 s2 h2;cases h2 with
   | call a b=>obtain ⟨x,rfl⟩:=ih1 a;cases x;exact ih2 b
   | callSusp a=>obtain ⟨x,_⟩:=ih1 a;cases x
 | callSusp _ ih=>
   intro e2 s2 h2;cases h2 with
   | call a b=>obtain ⟨x,_⟩:=ih a;cases x
   | callSusp a=>obtain ⟨x,rfl⟩:=ih a;cases x;exact ⟨rfl,rfl⟩
 | yield=>intro e2 s2 h2;cases h2;exact ⟨rfl,rfl⟩
 | resumeFresh hg _ _ _ ih1 ih2=>
   intro e2 s2 h2;cases h2 with
   | resumeFresh hg2 a _ b=>rw [hg] at hg2;cases hg2;obtain ⟨rfl,rfl⟩:=ih1 a;exact ih2 b
   | resumeSuspended hg2=>rw [hg] at hg2;cases hg2
   | resumeJustStarted hg2 hv=>exact absurd rfl hv
   | resumeRunning hg2=>rw [hg] at hg2;cases hg2
   | resumeFinished hg2=>rw [hg] at hg2;cases hg2
 | resumeSuspended hg _ _ _ ih1 ih2=>
   intro e2 s2 h2;cases h2 with
   | resumeFresh hg2=>rw [hg] at hg2;cases hg2
   | resumeSuspended hg2 a _ b=>rw [hg] at hg2;cases hg2;obtain ⟨rfl,rfl⟩:=ih1 a;exact ih2 b
   | resumeJustStarted hg2=>rw [hg] at hg2;cases hg2
   | resumeThrowFresh hg2=>rw [hg] at hg2;cases hg2
   | resumeRunning hg2=>rw [hg] at hg2;cases hg2
   | resumeFinished hg2=>rw [hg] at hg2;cases hg2
 | resumeJustStarted hg hv _ ih=>
   intro e2 s2 h2;cases h2 with
   | resumeFresh hg2=>exact absurd rfl hv
   | resumeSuspended hg2=>rw [hg] at hg2;cases hg2
   | resumeJustStarted _ _ a=>exact ih a
   | resumeRunning hg2=>rw [hg] at hg2;cases hg2
   | resumeFinished hg2=>rw [hg] at hg2;cases hg2
 | resumeThrowFresh hg _ ih=>
   intro e2 s2 h2;cases h2 with
   | resumeSuspended hg2=>rw [hg] at hg2;cases hg2
   | resumeThrowFresh _ a=>exact ih a
   | resumeRunning hg2=>rw [hg] at hg2;cases hg2
   | resumeFinished hg2=>rw [hg] at hg2;cases hg2
 | resumeRunning hg _ ih=>
   intro e2 s2 h2;cases h2 with
   | resumeFresh hg2=>rw [hg] at hg2;cases hg2
   | resumeSuspended hg2=>rw [hg] at hg2;cases hg2
   | resumeJustStarted hg2=>rw [hg] at hg2;cases hg2
   | resumeThrowFresh hg2=>rw [hg] at hg2;cases hg2
   | resumeRunning _ a=>exact ih a
   | resumeFinished hg2=>rw [hg] at hg2;cases hg2
 | resumeFinished hg _ ih=>
   intro e2 s2 h2;cases h2 with
   | resumeFresh hg2=>rw [hg] at hg2;cases hg2
   | resumeSuspended hg2=>rw [hg] at hg2;cases hg2
   | resumeJustStarted hg2=>rw [hg] at hg2;cases hg2
   | resumeThrowFresh hg2=>rw [hg] at hg2;cases hg2
   | resumeRunning hg2=>rw [hg] at hg2;cases hg2
   | resumeFinished _ a=>exact ih a
 | segRet _ _ ih1 ih2=>
   intro e2 s2 h2;cases h2 with
   | segRet a b=>obtain ⟨x,rfl⟩:=ih1 a;cases x;exact ih2 b
   | segSuspOut _ a=>obtain ⟨x,_⟩:=ih1 a;cases x
   | segSuspGen _ a=>obtain ⟨x,_⟩:=ih1 a;cases x
 | segGen _ _ ih1 ih2=>
   intro e2 s2 h2;cases h2 with
   | segGen a b=>obtain ⟨x,rfl⟩:=ih1 a;cases x;exact ih2 b
   | segSuspOut _ a=>obtain ⟨x,_⟩:=ih1 a;cases x
   | segSuspGen _ a=>obtain ⟨x,_⟩:=ih1 a;cases x
 | segSuspOut hs _ ih=>
   intro e2 s2 h2;cases h2 with
   | segRet a b=>obtain ⟨x,_⟩:=ih a;cases x
   | segGen a b=>obtain ⟨x,_⟩:=ih a;cases x
   | segSuspOut _ a=>obtain ⟨x,rfl⟩:=ih a;cases x;exact ⟨rfl,rfl⟩
   | segSuspGen hs2=>rw [hs] at hs2;cases hs2
 | segSuspGen hs _ _ _ ih1 ih2=>
   intro e2 s2 h2;cases h2 with
   | segRet a b=>obtain ⟨x,_⟩:=ih1 a;cases x
   | segGen a b=>obtain ⟨x,_⟩:=ih1 a;cases x
   | segSuspOut hs2=>rw [hs] at hs2;cases hs2
   | segSuspGen hs2 a _ b=>rw [hs] at hs2;cases hs2;obtain ⟨x,rfl⟩:=ih1 a;cases x;exact ih2 b
theorem Sem.wp_and {α:Type}(M:Model) (Γ:Ctx) (t:Sem α):∀(Q Q':α->Pos->Shared->Prop) (E E':Value->Pos->Shared->Prop) (p:Pos) (s:Shared),wp M Γ t Q E p s->wp M Γ t Q' E' p s->
  wp M Γ t (λ a p' s'=>Q a p' s'/\Q' a p' s') (λ e p' s'=>E e p' s'/\E' e p' s') p s:=by
 induction t with
 | pure a=>intro Q Q' E E' p s h h';exact ⟨h,h'⟩
 | raise e=>intro Q Q' E E' p s h h';exact ⟨h,h'⟩
 | unsupported _=>intro Q Q' E E' p s h h';exact h
 | finish _=>intro Q Q' E E' p s h h';exact h
 | rule _ k ih=>intro Q Q' E E' p s h h';exact ih () Q Q' E E' p s h h'
 | «at» p' k ih=>intro Q Q' E E' p s h h';exact ih () Q Q' E E' p' s h h'
 | load a _ k ih=>intro Q Q' E E' p s h h';obtain ⟨o,ho,h⟩:=h;obtain ⟨o',ho',h'⟩:=h';rw [ho] at ho';cases ho';exact ⟨o,ho,ih o Q Q' E E' p s h h'⟩
 | update a _ f k ih=>intro Q Q' E E' p s h h';exact ⟨h.1,ih () Q Q' E E' p _ h.2 h'.2⟩
 | loadIfAlive a k ih=>intro Q Q' E E' p s h h';exact ih _ Q Q' E E' p s h h'
 | point _ k ih=>intro Q Q' E E' p s h h';exact ih () Q Q' E E' p s h h'
 | register _ _=>intro Q Q' E E' p s h h';exact h
 | alloc o k ih=>intro Q Q' E E' p s h h';exact ih _ Q Q' E E' p _ h h'
 | fresh k ih=>intro Q Q' E E' p s h h';exact ih _ Q Q' E E' p _ h h'
 | ask k ih=>intro Q Q' E E' p s h h';exact ih _ Q Q' E E' p s h h'
 | choose src m k ih=>intro Q Q' E E' p s h h';exact ⟨h.1,ih _ Q Q' E E' p _ h.2 h'.2⟩
 | os q _ k ih=>intro Q Q' E E' p s h h';exact ih _ Q Q' E E' p _ h h'
 | call c hd _ _ k ih=>
   intro Q Q' E E' p s h h';obtain ⟨r,s',hr,h⟩:=h;obtain ⟨r2,s2,hr2,h'⟩:=h';obtain ⟨x,rfl⟩:=Runs.det hr hr2;cases x;exact ⟨r,s',hr,ih r Q Q' E E' p s' h h'⟩
 | handled own k ih=>intro Q Q' E E' p s h h';exact ih _ Q Q' E E' p s h h'
 | genState g k ih=>intro Q Q' E E' p s h h';obtain ⟨st,hs,h⟩:=h;obtain ⟨st',hs',h'⟩:=h';rw [hs] at hs';cases hs';exact ⟨st,hs,ih _ Q Q' E E' p s h h'⟩
 | newGen c k ih=>intro Q Q' E E' p s h h';exact ih _ Q Q' E E' p _ h h'
 | resume g r _ k ih=>
   intro Q Q' E E' p s h h';obtain ⟨res,s',hw,h⟩:=h;obtain ⟨res2,s2,hw2,h'⟩:=h';have e:res=res2/\s'=s2:=by
    unfold Wakes at hw hw2;split at hw
    ·exact hw.elim
    ·split at hw
     ·rename_i e0 _;rw [e0] at hw2;obtain ⟨e1,s1,a,_,rfl,rfl⟩:=hw;obtain ⟨e1',s1',a',_,rfl,rfl⟩:=hw2;obtain ⟨rfl,rfl⟩:=Runs.det a a';exact ⟨rfl,rfl⟩
     ·rename_i e0 _ v hv;rw [e0] at hw2;cases v with
      | none=>exact absurd rfl hv
      | _=>exact ⟨hw.1.trans hw2.1.symm,hw.2.trans hw2.2.symm⟩
     ·rename_i e0 _ _;rw [e0] at hw2;exact ⟨hw.1.trans hw2.1.symm,hw.2.trans hw2.2.symm⟩
    ·rename_i e0;rw [e0] at hw2;obtain ⟨e1,s1,a,_,rfl,rfl⟩:=hw;obtain ⟨e1',s1',a',_,rfl,rfl⟩:=hw2;obtain ⟨rfl,rfl⟩:=Runs.det a a';exact ⟨rfl,rfl⟩
    ·rename_i e0;rw [e0] at hw2;exact ⟨hw.1.trans hw2.1.symm,hw.2.trans hw2.2.symm⟩
    ·rename_i e0;rw [e0] at hw2;exact ⟨hw.1.trans hw2.1.symm,hw.2.trans hw2.2.symm⟩
   obtain ⟨rfl,rfl⟩:=e;exact ⟨res,s',hw,ih res Q Q' E E' p s' h h'⟩
 | yield _ _ _ _=>intro Q Q' E E' p s h h';exact h
 | stack k ih=>intro Q Q' E E' p s h h';exact ih _ Q Q' E E' p s h h'
 | fork _ _=>intro Q Q' E E' p s h h';exact h
 | thread k ih=>intro Q Q' E E' p s h h';exact ih _ Q Q' E E' p s h h'
 | await _ _ _ _ _=>intro Q Q' E E' p s h h';exact h
theorem gB {α:Type}{M:Model}{A:Around}{s:Shared}{t:Sem α}{Q Q':α->Shared->Prop}{E E':Value->Shared->Prop}(h:wpAny M A t Q E s) (h':wpAny M A t Q' E' s):
  wpAny M A t (λ a s'=>Q a s'/\Q' a s') (λ e s'=>E e s'/\E' e s') s:=λ Γ p hΓ=>Sem.wp_and M Γ t _ _ _ _ p s (h Γ p hΓ) (h' Γ p hΓ)
end PySem
namespace L2
open PySem PySem.Spec PyProof.Rows
section
variable {prog:Program}{w:World}{A:Around}{E:Value->Shared->Prop}{s:Shared}
theorem lj {e t:Addr}{items:Array Value}{Q:List Value->Shared->Prop}(hh:A.handled=some (.ref e)) (hc:cq e s.heap) (ht:IsTup s.heap t items)
  (hQ:∀h',Heap.ExtBut s.heap.objs.size s.heap h'->Q items.toList {s with heap:=h'}):wpAny (model prog w) A (unpackItems (.ref t) items.size none) Q E s:=by
 have hlt:t≠s.heap.objs.size:=by obtain ⟨o,ho,_⟩:=ht;exact KY (Heap.lt_size ho)
 have hle:s.heap.objs.size≠e:=by obtain ⟨o,_,ho,_⟩:=hc;exact Lb (Heap.lt_size ho)
 unfold unpackItems;refine wpAny_bind ?_;unfold notIterableAtAll;refine wpAny_bind (wpAny_specialOf ht.typeIs slot_tuple_iter.lookup ?_);refine wpAny_pure ?_;simp only [Lw,if_false];refine wpAny_bind (wpAny_holding (iter_tuple ht ?_));refine wpAny_bind (wpAny_holding (draw_tuple hlt items.size 0 _ _ ⟨_,Heap.get?_push_size _ rfl,rfl,rfl⟩ (ht.push _) (by omega) λ h₁ hit₁ hs₁=>?_));have hall:List.take items.size (List.drop 0 items.toList)=items.toList:=by rw [Kx];exact Km (by simp)
 rw [hall,if_neg (by simp)];have ht₁:IsTup h₁ t items:=(ht.push _).extBut hs₁.extBut hlt;have hc₁:cq e h₁:=by obtain ⟨o,vs,h1,h2,h3⟩:=hc;exact ⟨o,vs,hs₁.extBut e o (Ne.symm hle) (Heap.get?_push_of_some _ h1),h2,h3⟩
 refine wpAny_bind (wpAny_holding (kh (items:=items) hh hc₁ hle hit₁ ht₁ (by simp) λ h₂ he₂=>?_));simp only [Option.isSome_none,Lw,if_false];refine wpAny_pure (hQ h₂ λ b o hb q=>he₂ b o hb (hs₁.extBut b o hb (Heap.get?_push_of_some _ q)))
theorem oB {e:Addr}{env:Env}{elts:List Expr}{x1}{pos:Pos}{t:Addr}{items:Array Value}{Q:Unit->Shared->Prop}(hh:A.handled=some (.ref e)) (hc:cq e s.heap) (ht:IsTup s.heap t items)
  (hn:(assignEach elts env).length=items.size) (hstar:(assignEach elts env).findIdx? (·.1)=none)
  (h:∀h',Heap.ExtBut s.heap.objs.size s.heap h'->wpAny (model prog w) A (assignInOrder ((assignEach elts env).map (·.2)) items.toList) Q E {s with heap:=h'}):
  wpAny (model prog w) A (assign (.Tuple elts x1 pos) env (.ref t)) Q E s:=by
 rw [assign_Tuple];refine wpAny_bind (wpAny_standAt ?_);unfold unpack;rw [hn,hstar];exact wpAny_bind (wpAny_holding (lj hh hc ht h))
end
def iE (cls:Value) (a:Addr):HO:=.ext λ h=> ∃o vs,h.get? a=some o/\o.cls=cls/\o.data=.fields vs/\vs[2]? =some .none
theorem iE.ctx {P:Program}{w:World}{H:Hp}{h:Heap}{cls:Value}{a:Addr}(x:bD P w H h a (iE cls a)):cq a h:=by obtain ⟨⟨o,vs,h1,_,h2,h3⟩,_⟩:=(show bD P w H h a (.ext _) from x);exact ⟨o,vs,h1,h2,h3⟩
theorem Cw {a:Addr}{cls:Value}{h:Heap}(x:∃o,h.get? a=some o/\o.cls=cls) (c:cq a h):∃o vs,h.get? a=some o/\o.cls=cls/\o.data=.fields vs/\vs[2]? =some .none:=by obtain ⟨o,h1,h2⟩:=x;obtain ⟨o',vs,g1,g2,g3⟩:=c;rw [h1] at g1;cases g1;exact ⟨o,vs,h1,h2,g2,g3⟩
section
variable {M:Model}{A:Around}{E:Value->Shared->Prop}{s:Shared}{base:Heap}{env:Env}{outer:List Env}{L e:Addr}{cls a0:Value}{Q:Unit->Shared->Prop}
theorem su (hfr:A.frames=some (env::outer)) (hf:env.frame=some L) (hfl:Heap.FlyingW base (env::outer) e cls a0 s.heap) (c:cq e s.heap)
  (hQ:∀h',Heap.HeldW base (env::outer) e cls a0 L h'->s.heap.UpToSlots h'->cq e h'->Q () {s with heap:=h'}):wpAny M A (noteFrame (.ref e) env) Q E s:=by
 obtain ⟨_,_,f3,oe,vs,T,oT,ts,he,_,hd,h1,_,hTe,hT,hdT,h3⟩:=id hfl;obtain ⟨oe',vs',g1,g2,g3⟩:=c;rw [he] at g1;cases g1;rw [hd] at g2;cases g2;have x1:wpAny M A (noteFrame (.ref e) env) (λ _ s2=> ∃h',s2={s with heap:=h'}/\Heap.HeldW base (env::outer) e cls a0 L h'/\s.heap.UpToSlots h') E s:=wpAny_looks_onW hfr hf hfl λ h' a b=>⟨h',rfl,a,b⟩;have x2:wpAny M A (noteFrame (.ref e) env) (λ _ s2=>cq e s2.heap) E s:=vj hfr f3 hf he hd h1 g3 hTe hT hdT h3 λ h' c=>c;exact wpAny_mono (gB x1 x2) (λ _ s2 ⟨⟨h',e2,a,b⟩,c⟩=>by subst e2;exact hQ h' a b c) λ _ _ z=>z.1
theorem pC {l:List Env}(hh:Heap.HeldW base l e cls a0 L s.heap) (c:cq e s.heap)
  (hQ:∀h',Heap.FlyingW base l e cls a0 h'->s.heap.UpToSlots h'->cq e h'->Q () {s with heap:=h'}):wpAny M A (setFlight (.ref e) none) Q E s:=by
 obtain ⟨_,_,_,oe,vs,T,oT,ts,he,_,hd,h1,_,hTe,hT,hdT,h3⟩:=id hh;have x1:wpAny M A (setFlight (.ref e) none) (λ _ s2=> ∃h',s2={s with heap:=h'}/\Heap.FlyingW base l e cls a0 h'/\s.heap.UpToSlots h') E s:=wpAny_landsW hh λ h' a b=>⟨h',rfl,a,b⟩;have x2:wpAny M A (setFlight (.ref e) none) (λ _ s2=>cq e s2.heap) E s:=hV c he hd h1 hTe hT hdT (LA.mp h3).1 λ h' c=>c;exact wpAny_mono (gB x1 x2) (λ _ s2 ⟨⟨h',e2,a,b⟩,c⟩=>by subst e2;exact hQ h' a b c) λ _ _ z=>z.1
theorem qa {l:List Env}(hh:Heap.FlyingW base l e cls a0 s.heap) (c:cq e s.heap)
  (hQ:∀h',Heap.FlyingW base l e cls a0 h'->s.heap.UpToSlots h'->cq e h'->Q () {s with heap:=h'}):wpAny M A (setFlight (.ref e) none) Q E s:=by
 obtain ⟨_,_,_,oe,vs,T,oT,ts,he,_,hd,h1,_,hTe,hT,hdT,h3⟩:=id hh;have x1:wpAny M A (setFlight (.ref e) none) (λ _ s2=> ∃h',s2={s with heap:=h'}/\Heap.FlyingW base l e cls a0 h'/\s.heap.UpToSlots h') E s:=lands_againW hh λ h' a b=>⟨h',rfl,a,b⟩;have x2:wpAny M A (setFlight (.ref e) none) (λ _ s2=>cq e s2.heap) E s:=hV c he hd h1 hTe hT hdT (LA.mp h3).1 λ h' c=>c;exact wpAny_mono (gB x1 x2) (λ _ s2 ⟨⟨h',e2,a,b⟩,c⟩=>by subst e2;exact hQ h' a b c) λ _ _ z=>z.1
end
def mL (P:Program) (w:World):rj:=λ outer H s E e s'=>HE P w outer H s E e s'/\∃a,e=.ref a/\cq a s'.heap
theorem dq {P:Program}{w:World}{K:Frag}{mg:Str->Option Value}{base:Heap}{N:List Str}{qual:Str}{scope:Scope}{f:Addr}{cd:Value}{A:Around}{outer:List Env}{s:Shared}{H:Hp}{E:XK}{C:Addr}:
  ∀pins σ H1 s1 h' e vs,aD (iy (mL P w) P w K mg base N qual scope f cd A outer s H E) pins σ H1 s1->Heap.MadeExcOf s1.heap h' e (.ref C) vs->E (.ref C) none H1->
   (iy (mL P w) P w K mg base N qual scope f cd A outer s H E).xe (.ref e) {s1 with heap:=h'}:=by
 intro pins σ H1 s1 h' e vs I hm hE;have I':aD (iy (HE P w) P w K mg base N qual scope f cd A outer s H E) pins σ H1 s1:=I.wish _;have x1:=nS pins σ H1 s1 h' e vs I' hm hE;have fr:(A.deeper (envOfC qual scope s.heap.objs.size f cd)).frames=some (envOfC qual scope s.heap.objs.size f cd::outer):=I.ok.frames;have ST:s1.heap.FunFrames base (envOfC qual scope s.heap.objs.size f cd::outer):=I.stack;obtain ⟨t,he,_,_⟩:=hm.there;have x2:wpAny (model P w) (A.deeper (envOfC qual scope s.heap.objs.size f cd)) (leaving (envOfC qual scope s.heap.objs.size f cd) (.ref e)) (λ _ s2=>cq e s2.heap) (λ _ _=>False) {s1 with heap:=h'}:=
  sQ (s:={s1 with heap:=h'}) fr (ST.of_keeps λ b o hb _=>⟨o,hm.keeps b o hb,rfl⟩) rfl he rfl rfl rfl λ h2 c=>c
 exact wpAny_mono (gB x1 x2) (λ _ s2 ⟨a,b⟩=>⟨a,e,rfl,b⟩) λ _ _ z=>z.2.elim
theorem ce.okX2 {P:Program}{w:World}{K:Frag}{mg:Str->Option Value}{base:Heap}{x qual:Str}{st:Stmt}{f:Addr}{fd:FuncData}{N ps:List Str}{k:Nat}{sp:Sp}(F:ce K x qual st f fd) (S:aH N ps (am st)) (len:∀vs H Q E,sp vs H Q E->vs.length=ps.length)
  (hbody:∀(cdv:Value) (A:Around) (outer:List Env) (s:Shared) (H:Hp) (vs:List V) (Q:VK) (E:XK),cz k (A.deeper (envOfC qual (am st) s.heap.objs.size f cdv))->sp vs H Q E->
   ∃t,mI (iy (mL P w) P w K mg base N qual (am st) f cdv A outer s H E) (dt st) t/\t {nx:=λ _ H'=>Q .non H',rt:=Q} (fA N vs) H):bz P w K mg base (mL P w) (k+1) f fd ps sp:=by
 obtain ⟨oc,od,kV,doc,pm,an,cdv,ct,osl,rfl,lk,hcd⟩:=F.ex;exact Bi lk hcd S len λ A outer s H vs Q E hr hsp=>hbody cdv A outer s H vs Q E hr hsp
section
variable {X:Cx}{pins:List (Addr×Obj)}{σ:St}{H H':Hp}{s s':Shared}
theorem aD.track2 {a:Addr}{cls:Value}{s1:Shared}{H1:Hp}(I:aD X pins σ H s) (ho:∃o vs,s.heap.get? a=some o/\o.cls=cls/\o.data=.fields vs/\vs[2]? =some .none) (hn:H a=none) (I1:aD X pins σ H1 s1) (new:s1.heap.get? a=none):aD X pins σ (upd H a (iE cls a)) s:=by
 have neq:∀b u,s1.heap.get? b=some u->b≠a:=λ b u q z=>by rw [z,new] at q;cases q
 have neH:∀b u,H b=some u->b≠a:=λ b u q z=>by rw [z,hn] at q;cases q
 refine ⟨I.ok,I.os,I.bare,⟨I.base.keep,I.base.slot,λ b o q n hx=>?_,I.base.there,λ b xs q=>?_,λ b o u q=>?_,λ b ps q=>?_⟩,I.loc,I.cell,?_,λ x c q=>?_,λ p hp=>?_,λ b u q=>?_,I.len⟩
 ·obtain ⟨o',q'⟩:=I1.base.there b o q hx;rw [au (neq b o' q')];exact I.base.free b o q n hx
 ·rw [au (neH b _ (I.base.tups b xs q))];exact I.base.tups b xs q
 ·rw [au (neH b _ (I.base.frzs b o u q))];exact I.base.frzs b o u q
 ·obtain ⟨m,z⟩:=I.base.tbls b ps q;exact ⟨m,by rw [au (neH b _ z)];exact z⟩
 ·obtain ⟨m,⟨o,_,_,q,_⟩,_⟩:=I1.loc;rw [au (neq _ o q)];exact I.free
 ·obtain ⟨v,o,z,_⟩:=I1.cell x c q;rw [au (neq c o z)];exact I.freeC x c q
 ·obtain ⟨e,n,ne,nf,d⟩:=I.pin p hp;exact ⟨e,by rw [au (neq _ _ (I1.pin p hp).1)];exact n,ne,nf,d⟩
 ·by_cases hb:b=a
  ·subst hb;rw [ae] at q;cases q;obtain ⟨o,vs,h1,h2⟩:=ho;exact ⟨⟨o,vs,h1,h2⟩,⟨o,h1⟩,λ g1 g2 ⟨o',vs',y1,y2⟩ k=>⟨o',vs',k o' y1,y2⟩⟩
  ·rw [au hb] at q;exact (I.hok b u q).stay (λ _ _ _ z=>z) (λ c z=>by rw [au (neH c _ z)];exact z) λ c xs z=>by rw [au (neH c _ z)];exact z
end
section
variable {X:Cx}{e:Expr}{es:List Expr}{ta:TA}{ts:Addr->TS}{p pos bpos np hpos tpos:Pos}{sp:Sp}{k j i:Nat}{name xc n:Str}{ps:List Str}{C0:Addr}{b₀:Stmt}{suite:List Stmt}
theorem GR {pins:List (Addr×Obj)}{σ:St}{H1:Hp}{s1 s':Shared}{D:cQ}{e:Value}{E:XK}(I1:aD X pins σ H1 s1) (hn:∀e s,X.xe e s->False) (hstk:X.stack=X.env::X.outer) (hfr:X.env.frame=some X.env.locals) (hgc:Gl X xc) (hmc:X.mg xc=some (.ref C0)) (hN:X.N.Nodup) (hi:X.N[i]? =some n) (hx:X.env.scope.names.lookup n=some .local)
  (hs:∀a,mI (X.hand a) (b₀::suite) (ts a)) (z:mL X.prog X.w X.stack H1 s1 E e s')
  (hE:∀cls d H2,E cls d H2->L5 X.K cls (.ref C0)=some true/\∀a,H2 a=none->ts a {nx:=λ _ _=>False,rt:=D.rt} (σ.set i (some (.ref a))) (upd H2 a (iE cls a)))
  (hdb:(xc == ("__debug__":Str))=false):
  wpAny (model X.prog X.w) X.A (noteFrame e X.env) (λ _ s₂=>wpAny (model X.prog X.w) X.A (setFlight e none) (λ _ s₃=>wpAny (model X.prog X.w) X.A (handleBy e X.env [.ExceptHandler (some (.Name xc np)) (some n) (b₀::suite) hpos]) (SP X pins D) X.xe s₃) X.xe s₂) X.xe s':=by
 obtain ⟨⟨a,cls,a0,B,H',rfl,os,bare,new,ha,fl,hok,un,c1,c2,hE'⟩,a',ea,cx⟩:=z;cases ea;obtain ⟨hit,hts⟩:=hE _ _ _ hE';have ff:=fl.2.2.1;rw [hstk] at fl;refine su (I1.ok.frames.trans (by rw [hstk])) hfr fl cx λ h4 hl4 u4 cx4=>?_;refine pC (s:={s' with heap:=h4}) hl4 cx4 λ h5 fl5 u5 cx5=>?_;have I5:aD X pins σ H' {s' with heap:=h5}:=I1.flown (a:=a) (cls:=cls) (a0:=a0) os bare ff fl5.1 hok un (u4.trans u5) c1 c2;have J5:=I5.hand a;refine wpAny_handleBy_cons (codeAny_handlers_test (fS (X:=X.hand a) J5 hgc hmc ?_ hdb)) (by intro q;cases q);have LT:PySem.W.Looks (model X.prog X.w) h5 (typeOf (.ref a)) cls:=by obtain ⟨ob,hob,hc⟩:=fl5.there;subst hc;exact (PySem.W.Looks.ld hob).andThen .now
 refine (PySem.W.exm_one (h:=h5) I5.kIn LT hit).here ?_;refine codeAny_handlers_suite_as ?_;refine qa (s:={s' with heap:=h5}) fl5 cx5 λ h6 fl6 u6 cx6=>?_;have I6:aD X pins σ H' {s' with heap:=h6}:=I1.flown (a:=a) (cls:=cls) (a0:=a0) os bare ff fl6.1 hok un ((u4.trans u5).trans u6) c1 c2;have I7:=I6.track2 (cls:=cls) (Cw fl6.there cx6) ha I1 new;refine js (X:=X.hand a) (v:=.ref a) (I7.hand a) hN hi (.inl hx) rfl (λ s7 I8=>?_) (.inr hx);refine wpAny_mono (hs a pins s7 _ _ _ I8 (hts a ha)) (λ f s8 q=>?_) λ _ _ q=>(hn _ _ q).elim;cases f with
 | next=>obtain ⟨_,_,_,q⟩:=q;exact q.elim
 | brk=>obtain ⟨_,_,_,q⟩:=q;exact q.elim
 | cont=>obtain ⟨_,_,_,q⟩:=q;exact q.elim
 | ret u=>
   obtain ⟨v,σ',H8,J8,rv,q⟩:=q;have K8:=J8.unhand I1.ok;obtain ⟨m,hm,_⟩:=K8.loc;refine wpAny_nameGoes hx hm (by rw [K8.ok.kind];rfl) λ h9 m9 hm9 sb=>?_;exact ⟨v,_,H8,K8.forget hm9 sb,rv,q⟩
end
end L2
namespace L2
open PySem PySem.Spec PyProof.Rows
structure Jw (P:Program) (w:World) (K:Frag) (mg:Str->Option Value) (base:Heap) (k:Nat) (f:Addr) (fd:FuncData) (ps:List Str) (sp:Sp):Prop where
 len:∀vs H Q E,sp vs H Q E->vs.length=ps.length
 run:∀(A:Around) (outer:List Env) (s:Shared) (H:Hp) (args:Args) (us:List Value) (vs:List V) (Q:VK) (e:Addr),A.handled=some (.ref e)->vs[0]? =some (.ref e)->jd k A->mK P w K mg base A outer s H->BindsTo s fd args (ps.zip us)->aU vs us->sp vs H Q E0->
  codeAny (model P w) A (.call (.ref f) args) (CR eP outer P w H s Q E0) s
section
variable {X:Cx}{a b e o:Expr}{ta tb te to:TE}{p pos:Pos}{es:List Expr}{t:TA}
theorem ce.okH {P:Program}{w:World}{K:Frag}{mg:Str->Option Value}{base:Heap}{x qual:Str}{st:Stmt}{f:Addr}{fd:FuncData}{N ps:List Str}{k:Nat}{sp:Sp}(F:ce K x qual st f fd) (S:aH N ps (am st)) (len:∀vs H Q E,sp vs H Q E->vs.length=ps.length)
  (hbody:∀(cdv:Value) (A:Around) (outer:List Env) (s:Shared) (H:Hp) (vs:List V) (Q:VK) (e:Addr),(A.deeper (envOfC qual (am st) s.heap.objs.size f cdv)).handled=some (.ref e)->vs[0]? =some (.ref e)->jd k (A.deeper (envOfC qual (am st) s.heap.objs.size f cdv))->sp vs H Q E0->
   ∃t,mI (Ji P w K mg base N qual (am st) f cdv A outer s H) (dt st) t/\t {nx:=λ _ H'=>Q .non H',rt:=Q} (fA N vs) H):Jw P w K mg base (k+1) f fd ps sp:=by
 obtain ⟨oc,od,kV,doc,pm,an,cdv,ct,osl,rfl,lk,hcd⟩:=F.ex;refine ⟨len,λ A outer s H args us vs Q ee hh hv hr e0 hb r hsp=>?_⟩;have hl:=len _ _ _ _ hsp;have KX:K.In s.heap:=e0.mod.kin.keeps λ b o e=>(e0.bs b o e).1;have lim:s.heap.NoLimit:=e0.mod.nolimit.keeps λ b o e=>(e0.bs b o e).1;have hkind:∀y∈ps.zip us,(am st).names.lookup y.1=some .local\/((am st).names.lookup y.1=some .cell/\((cellsFrom (s.heap.objs.size+1) (am st).names []).lookup y.1).isSome=true):=λ ⟨n,v⟩ hy=>by
  rcases S.par n (Ki hy).1 with q | q
  ·exact .inl q
  ·exact .inr ⟨q,Mg _ _ _ (.inl q)⟩
 have hdp:A.depth<recursionLimit:=by have:=hr.dp;omega
 refine codeAny_call_function hdp (KX _ _ lk) rfl S.co S.gen rfl (Mq KX hcd) (hb _ _ _ _ ?_);refine wpAny_newFunctionEnv_cells S.kind hkind λ env he s1 x=>?_;subst he;refine ⟨lim.keeps x.toInCall.keep,codeAny_func ?_⟩;have hr':jd k (A.deeper (envOfC qual (am st) s.heap.objs.size f cdv)):=⟨by have:=hr.dp;show A.depth+1+3*k+5<_;omega,by have:=hr.un;show A.units+3+16*k+200<_;omega⟩;obtain ⟨t,ht,hq⟩:=hbody cdv A outer s H vs Q ee hh hv hr' hsp;have e0':mK P w K mg base {A with handled:=none} outer s H:=⟨e0.frames,e0.mod,e0.bs,e0.bsz,e0.funs,e0.frf,e0.hok,e0.bare⟩;have I0:aD (iy eP P w K mg base N qual (am st) f cdv {A with handled:=none} outer s H E0) [] (fA N vs) H s1:=kN S rfl e0' hl r x;have I:aD (Ji P w K mg base N qual (am st) f cdv A outer s H) [] (fA N vs) H s1:=(I0.uncalm (Around.frames_deeper e0.frames)).wish _;refine wpAny_mono (ht [] s1 (fA N vs) H _ I hq) (λ fl s' hs=>?_) λ e s' hs=>hs.elim;have fin:∀{σ':St} {H':Hp} {v:V} {u:Value},aD (Ji P w K mg base N qual (am st) f cdv A outer s H) [] σ' H' s'->aQ v u->Q v H'->CE outer P w H s Q u s':=
  λ {σ' H' v u} J rv q=>⟨v,H',J.os,J.bare,J.base,J.hok,rv,q⟩
 cases fl with
 | ret u=>
   obtain ⟨v,σ',H',J,rv,q⟩:=hs;exact fin J rv q
 | next=>
   obtain ⟨σ',H',J,q⟩:=hs;exact fin (v:=V.non) (u:=Value.none) J rfl q
 | brk=>
   obtain ⟨_,_,_,q⟩:=hs;exact False.elim q
 | cont=>
   obtain ⟨_,_,_,q⟩:=hs;exact False.elim q
def vz (ea:Addr) (sp:Sp) (t:TA):TE:=λ σ H Q=>t σ H λ vs H1=>vs[0]? =some (.ref ea)/\sp vs H1 Q E0
structure CQ (P:Program) (w:World) (K:Frag) (mg:Str->Option Value) (base:Heap) (name:Str) (ps:List Str) (k:Nat) (sp:Sp):Prop where
 ex:∃f fd,Jw P w K mg base k f fd ps sp/\mg name=some (.ref f)/\LP K (.ref f)=true/\fg K fd ps []
theorem Ca {name:Str}{ps:List Str}{k j:Nat}{sp:Sp}(C:CQ X.prog X.w X.K X.mg X.base name ps k sp) {ea:Addr}(hh:X.A.handled=some (.ref ea)) (hr:jd j X.A) (ha:PA X (e::es) t) (hkj:k<=j:=by decide) (hp:(e::es).all fi=true:=by rfl) (hg:Gl X name:=by rfl) (hdb:(name == ("__debug__":Str))=false:=by decide):PE X (.Call (.Name name p) (e::es) [] pos) (vz ea sp t):=by
 obtain ⟨f,fd,F,hm,hk,hb⟩:=C.ex;have hp':=hp;rw [JP,Lr] at hp';intro pins s σ H Q I h;refine wpAny_Call_Name_kw (fS I hg hm ?_ hdb);refine LZ (h₀:=X.base) I.ok.mod.kin hk (cb (ha pos pins s σ H _ I h) λ us s1 ⟨vs,H1,I1,r,hv,q⟩=>⟨I1.kIn,?_⟩) (ez hp'.1) (e8 hp'.2);have hl:(us++[]).length=ps.length:=by rw [JR,<-r.length];exact F.len _ _ _ _ q
 have hb':=hb s1 us I1.kIn hl;rw [JR] at hb';have hrk:jd k X.A:=⟨by have:=hr.dp;omega,by have:=hr.un;omega⟩;refine wpAny_call (codeAny_mono (F.run X.A X.stack s1 H1 ⟨us,[]⟩ us vs Q ea hh hv hrk I1.env0 hb' r q) λ r s' hq=>?_);cases r with
 | error e=>exact False.elim hq
 | ok fl=>
   cases fl with
   | ret u=>exact I1.after hq
   | next=>exact False.elim hq
   | brk=>exact False.elim hq
   | cont=>exact False.elim hq
def vL (K:Frag) (ea:Addr) (g:TG) (tb:TS) (D:cQ) (σ:St) (x:V) (H1:Hp):Prop:= ∃(a:Addr) (xs:List V) (cls:Value) (Pv:Nat->St->Hp->Prop),x=.ref a/\aJ K H1 a xs/\Pv 0 σ H1/\(∀i σ H,i<=xs.length->Pv i σ H->aJ K H a xs/\H ea=some (iE cls ea))/\
 (∀(i:Nat) x σ H,xs[i]? =some x->Pv i σ H->g x σ H λ σ2 H2=>tb {D with nx:=Pv (i+1),ct:=Pv (i+1),bk:=D.nx} σ2 H2)/\∀σ H,Pv xs.length σ H->D.nx σ H
def tForN (K:Frag) (ea:Addr) (tl:TE) (g:TG) (tb:TS):TS:=λ D σ H=>tl σ H λ x H1=>vL K ea g tb D σ x H1
theorem pJ {K:Frag}{ea:Addr}{tl:TE}{g:TG}{tb u:TS}{D:cQ}{σ:St}{H:Hp}(h:tl σ H λ x H1=>vL K ea g tb {D with nx:=u D} σ x H1):bu (tForN K ea tl g tb) u D σ H:=h
theorem lT {ea:Addr}{tg l:Expr}{body:List Stmt}{tl:TE}{g:TG}{tb:TS}(hp:PassesOwn (model X.prog X.w) X.A X.env X.xe) (hh:X.A.handled=some (.ref ea)) (hl:PE X l tl) (hg:PG X tg g) (hb:mI X body tb)
  (hs:∀x,foldedSetIterable l X.env x=pure x:=by intro _;rfl):PS X (.For tg l body [] pos) (tForN X.K ea tl g tb):=by
 intro pins s σ H D I h;refine wpAny_For (cb (hl pins s σ H _ I h) λ v s1 ⟨x,H1,I1,r1,a,xs,cls,Pv,ex,hq,p0,hk,hs',hd⟩=>?_) hs;subst ex;cases r1;obtain ⟨its,rv,p,hz⟩:=I1.list hq;refine wpAny_pyIter_list p.isList ?_;have fp0:hZ X pins H1 s1.heap.objs.size:=I1.fpOk (KW _) (I1.hok.fresh (KW _));have stat:∀{H':Hp},H' s1.heap.objs.size=none->hZ X pins H' s1.heap.objs.size:=λ hn=>⟨hn,fp0.2⟩;refine codeAny_forLoop_any (λ n s'=> ∃i σ' H',aD X pins σ' H' s'/\s'.heap.IsListIter s1.heap.objs.size a i/\H' s1.heap.objs.size=none/\n=xs.length - i/\i<=xs.length/\Pv i σ' H') ?_ xs.length ⟨0,σ,H1,I1.kept (t':=s1.toks) λ b o e=>Heap.get?_push_of_some _ e,⟨_,Heap.get?_push_size _ rfl,rfl,rfl⟩,fp0.1,by simp,K7 _,p0⟩;rintro n s3 ⟨i,σ3,H3,I3,st3,fr3,rfl,hi,p3⟩;obtain ⟨hq3,he3⟩:=hk i σ3 H3 hi p3;obtain ⟨its3,rv3,pl3,_⟩:=I3.list hq3;have hlen:=rv3.length;obtain ⟨f0,f1,f2,f3,f4,f5⟩:=stat fr3
 by_cases hlt:i<xs.length
 ·have hx:xs[i]? =some xs[i]:=JB hlt;obtain ⟨u,hu,ru⟩:=rv3.get hx;refine wpAny_passesOwn hp (wpAny_pyNext_list_item st3 pl3.isList (x:=u) (by simpa using hu) λ h' st' sb=>?_);have I4:aD X pins σ3 H3 {s3 with heap:=h'}:=I3.turned (t':=s3.toks) (λ b o hb e=>(sb.2 b hb).trans e) f0 f1 f3 f4 f5;obtain ⟨o,eo,c,d⟩:=id st';refine wpAny_passesOwn hp (qQ (s:={s3 with heap:=h'}) eo c d (by decide) ?_);have ob:∀b∈[s1.heap.objs.size],∃o,h'.get? b=some o/\∀v,o.data≠.cell v:=λ b hb=>by rw [JE.mp hb];exact ⟨o,eo,λ v z=>by rw [d] at z;cases z⟩
  have I5:=I4.pinned (fp:=[s1.heap.objs.size]) (λ b hb=>by rw [JE.mp hb];exact stat fr3) ob;refine wpAny_passesOwn hp (cb (hg _ _ σ3 H3 xs[i] u _ I5 ru (hs' i _ σ3 H3 hx p3)) λ _ s6 ⟨σ6,H6,I6,q6⟩=>?_);refine wpAny_passesOwn hp (cb (hb _ s6 σ6 H6 _ I6 q6) λ f s7 q7=>?_);have again:∀{σ7:St} {H7:Hp},aD X (pins++fR [s1.heap.objs.size] h') σ7 H7 s7->Pv (i+1) σ7 H7->∃m,m<xs.length - i/\∃i σ' H',aD X pins σ' H' s7/\s7.heap.IsListIter s1.heap.objs.size a i/\H' s1.heap.objs.size=none/\m=xs.length - i/\i<=xs.length/\Pv i σ' H':=λ {σ7 H7} I7 n7=>by have pn:=I7.pin (s1.heap.objs.size,o) (JF _ (JF _ (eN JI eo)));exact ⟨xs.length - (i+1),by omega,i+1,σ7,H7,I7.unpinned,⟨o,pn.1,c,d⟩,pn.2.1,rfl,hlt,n7⟩
  cases f with
  | next=>obtain ⟨σ7,H7,I7,n7⟩:=q7;exact again I7 n7
  | cont=>obtain ⟨σ7,H7,I7,n7⟩:=q7;exact again I7 n7
  | brk=>obtain ⟨σ7,H7,I7,q7⟩:=q7;exact ⟨σ7,H7,I7.unpinned,q7⟩
  | ret v=>obtain ⟨x7,σ7,H7,I7,r7,q7⟩:=q7;exact ⟨x7,σ7,H7,I7.unpinned,r7,q7⟩
 ·have e:i=xs.length:=by omega
  subst e;have cx:=iE.ctx (I3.hok ea _ he3);have ne:s1.heap.objs.size≠ea:=λ z=>by rw [z,he3] at fr3;cases fr3
  refine wpAny_passesOwn hp (jE hh cx ne st3 pl3.isList (by simp;omega) λ h' eb=>?_);exact wpAny_execs_nil ⟨σ3,H3,I3.turned (t':=s3.toks) (λ b o hb e=>eb b o hb e) f0 f1 f3 f4 f5,hd σ3 H3 p3⟩
def uU (K:Frag) (ea:Addr) (n:Nat) (t:vQ):TG:=λ v σ H Q=> ∃a xs cls,v=.ref a/\eE K H a xs/\xs.length=n/\H ea=some (iE cls ea)/\t xs σ H Q
theorem qF {ea:Addr}{k:Nat}{t:vQ}{n:Nat}(hh:X.A.handled=some (.ref ea)) (h:CO X es t)
  (hn:(assignEach es X.env).length=n:=by rfl) (hst:(assignEach es X.env).findIdx? (·.1)=none:=by rfl):PG X (.Tuple es k pos) (uU X.K ea n t):=by
 intro pins s σ H v u Q I r hw;obtain ⟨a,xs,cls,e1,hq,hl,he,hw⟩:=hw;subst e1;cases r;obtain ⟨its,rv,ht,hz⟩:=I.tuple hq;refine oB hh (iE.ctx (I.hok ea _ he)) ht (by simp [hn,<-hl,rv.length]) hst λ h' hx=>?_;have I1:aD X pins σ H {s with heap:=h'}:=I.kept (t':=s.toks) λ b o e=>hx b o (KY (Heap.lt_size e)) e;exact h pins _ σ H xs _ Q I1 (by simpa using rv) hw
end
structure Jr (P:Program) (w:World) (K:Frag) (mg:Str->Option Value) (base:Heap) (name:Str) (C:Addr) (ps:List Str) (k:Nat) (sp:Sp):Prop where
 ex:∃f fd,Mk K C f/\bz P w K mg base (mL P w) k f fd ps sp/\mg name=some (.ref C)/\fg K fd ps []
def AV (K:Frag) (C C0:Addr) (sp:Sp) (i:Nat) (ta:TA) (ts:Addr->TS):TS:=λ D σ H=>ta σ H λ vs H1=> ∀x dx,H1 x=none->H1 dx=none->dx≠x->sp (.ref x::vs) (upd (upd H1 dx (.own x)) x (.ins C dx [])) (λ v H2=>v=.non/\D.nx σ H2) λ cls _ H2=>L5 K cls (.ref C0)=some true/\
 ∀a,H2 a=none->ts a {nx:=λ _ _=>False,rt:=D.rt} (σ.set i (some (.ref a))) (upd H2 a (iE cls a))
section
variable {X:Cx}{e:Expr}{es:List Expr}{ta:TA}{ts:Addr->TS}{p pos bpos np hpos tpos:Pos}{sp:Sp}{k j i:Nat}{name xc n:Str}{ps:List Str}{C C0:Addr}{b₀:Stmt}{suite:List Stmt}
theorem sj {f:Addr}{fd:FuncData}{pins:List (Addr×Obj)}{σ:St}{H:Hp}{s:Shared}{Q:VK}{us:List Value}{vs:List V}{E:XK}{E':Value->Shared->Prop}(M:Mk X.K C f) (F:bz X.prog X.w X.K X.mg X.base (mL X.prog X.w) k f fd ps sp) (hr:cz (k+1) X.A) (hb:fg X.K fd ps [])
  (I:aD X pins σ H s) (r:aU vs us)
  (h:∀x dx,H x=none->H dx=none->dx≠x->sp (.ref x::vs) (upd (upd H dx (.own x)) x (.ins C dx [])) (λ v H2=>v=.non/\Q (.ref x) H2) E)
  (hx:∀H1 s1 e s',aD X pins σ H1 s1->mL X.prog X.w X.stack H1 s1 E e s'->E' e s'):wpAny (model X.prog X.w) X.A (call (.ref C) us) (EP X pins σ Q) E' s:=by
 have hq:=h (s.heap.objs.size+1) s.heap.objs.size (I.hok.fresh (Lc _)) (I.hok.fresh (KW _)) (KY (Lg _));have I2:=aD.made (C:=C) I;have r2:aU (V.ref (s.heap.objs.size+1)::vs) (Value.ref (s.heap.objs.size+1)::us):=.cons rfl r;have hl:(Value.ref (s.heap.objs.size+1)::us++[]).length=ps.length:=by have e:=r2.length;rw [F.len _ _ _ _ hq] at e;rw [JR];exact e.symm
 have hb':=hb _ (Value.ref (s.heap.objs.size+1)::us) I2.kIn hl;rw [JR] at hb';refine wpAny_call (nO (f:=f) I.kIn M.makes M.init (beq_iff_eq.mp M.fn) (codeAny_mono (F.run _ X.stack _ _ ⟨Value.ref (s.heap.objs.size+1)::us,[]⟩ (Value.ref (s.heap.objs.size+1)::us) _ _ E (hr.make C us [])
  (I2.env0.make C us []) hb' r2 hq) λ r s' hq'=>?_))
 cases r with
 | error e=>exact hx _ _ e s' I2 hq'
 | ok fl=>
   cases fl with
   | ret u=>
     obtain ⟨v,H',I3,rv,ev,q3⟩:=I2.after hq';subst ev;exact ⟨rv,⟨V.ref (s.heap.objs.size+1),H',I3,rfl,q3⟩⟩
   | next=>exact False.elim hq'
   | brk=>exact False.elim hq'
   | cont=>exact False.elim hq'
theorem v8 (M:Jr X.prog X.w X.K X.mg X.base name C ps k sp) (hr:cz j X.A) (hn:∀e s,X.xe e s->False) (ha:PA X (e::es) ta) (hmc:X.mg xc=some (.ref C0)) (hN:X.N.Nodup) (hi:X.N[i]? =some n) (hs:∀a,mI (X.hand a) (b₀::suite) (ts a))
  (hkj:k+1<=j:=by decide) (hstk:X.stack=X.env::X.outer:=by rfl) (hfr:X.env.frame=some X.env.locals:=by rfl) (hx:X.env.scope.names.lookup n=some .local:=by rfl) (hgc:Gl X xc:=by rfl) (hg:Gl X name:=by rfl)
  (hdb:(name == ("__debug__":Str))=false:=by decide) (hdc:(xc == ("__debug__":Str))=false:=by decide) (hp:(e::es).all fi=true:=by rfl) (hsw:swapsWith (.Call (.Name name p) (e::es) [] pos) none bpos.line X.env=pure false:=by rfl):
  PS X (.Try [.Expr (.Call (.Name name p) (e::es) [] pos) bpos] [.ExceptHandler (some (.Name xc np)) (some n) (b₀::suite) hpos] [] [] tpos) (AV X.K C C0 sp i ta ts):=by
 intro pins s σ H D I h;obtain ⟨f,fd,MK,F,hm,hb⟩:=M.ex;have hp':=hp;rw [JP,Lr] at hp';refine wpAny_Try_except (wpAny_execs_cons (wpAny_Expr_any ?_ I.quiet hsw));refine wpAny_Call_Name_kw (fS I hg hm ?_ hdb);refine LZ (h₀:=X.base) I.ok.mod.kin MK.kp (wpAny_mono (ha pos pins s σ H _ I h) (λ us s1 ⟨vs,H1,I1,r,q⟩=>⟨I1.kIn,?_⟩) λ _ _ z=>(hn _ _ z).elim) (ez hp'.1) (e8 hp'.2);refine wpAny_mono (sj (Q:=λ _ H2=>D.nx σ H2) MK F (hr.mono hkj) hb I1 r q λ H2 s2 e s' I2 z=>?_) (λ v s2 ⟨_,H2,I2,_,z⟩=>wpAny_execs_nil (wpAny_execs_nil ⟨σ,H2,I2,z⟩)) λ _ _ z=>z;exact GR I2 hn hstk hfr hgc hmc hN hi hx hs z (λ _ _ _ z=>z) hdc
end
section
variable {K:Frag}{C C0 ea:Addr}{sp:Sp}{i:Nat}{ta t:TA}{ts:Addr->TS}{u:TS}{D:cQ}{σ:St}{H:Hp}{Q:VK}{vs:List V}
theorem Bt (h:Av ta σ H vs) (q:∀x dx,H x=none->H dx=none->dx≠x->sp (.ref x::vs) (upd (upd H dx (.own x)) x (.ins C dx [])) (λ v H2=>v=.non/\u D σ H2) λ cls _ H2=>L5 K cls (.ref C0)=some true/\
  ∀a,H2 a=none->ts a {nx:=λ _ _=>False,rt:=D.rt} (σ.set i (some (.ref a))) (upd H2 a (iE cls a))):bu (AV K C C0 sp i ta ts) u D σ H:=h _ q
theorem wR (h:Av t σ H vs) (e:vs[0]? =some (.ref ea)) (q:sp vs H Q E0):vz ea sp t σ H Q:=h _ ⟨e,q⟩
end
end L2
namespace L2
open PySem PySem.Spec PyProof.Rows
theorem gH:plainId "dict.update.loop"=true:=by decide+kernel
theorem kW:entryFor table "dict.update.loop"=some Builtin.«dict.update.loop» :=entryFor_of_fast (by kernel_rfl)
theorem mo:typeLookup (.type "list") "keys"=pure none:=by rw [typeLookup_type,builtinLookup_eq_fast];kernel_rfl
section
variable {prog:Program}{w:World}{A:Around}{E:Value->Shared->Prop}{s:Shared}
theorem wz {a:Addr}{o:Obj}{xs:Array Value}{k:Nat}{Q:Option Value->Shared->Prop}(hx:s.heap.get? a=some o) (hc:o.cls=.type "list") (hdat:o.data=.seq xs k) (hd:o.dict=none) (hA:A.handled=none)
  (h:∀h' tk,(∀b ob,s.heap.get? b=some ob->h'.get? b=some ob)->Q none {s with heap:=h',toks:=tk}):wpAny (model prog w) A (getAttr? (.ref a) "keys") Q E s:=by
 obtain ⟨c,dct,dat,sl⟩:=o;simp only at hc hdat hd;subst hc hdat hd;obtain ⟨hp,g,d,tk,os⟩:=s;have hT:∀tk',(⟨hp,g,d,tk',os⟩:Shared).TypeIs (.ref a) "list":=λ _=>⟨_,hx,rfl⟩;have f1:=sub_AttributeError;have f3:=PySem.F.slot_list_getattribute.lookup;have f4:=PySem.F.slot_list_getattribute.bind (.ref a);have f5:=am_list_getattr_none;unfold getAttr? getAttrBy? getAttrBy
 repeat (any_goals (first | assumption | exact hT _ | ((with_reducible show wpAny _ _ (call (Value.builtin "list.__getattribute__") _ _) _ _ _);refine call_meets PySem.F.slot_list_getattribute (hT _) am_entry_list_getattribute (PySem.F.args_list_getattribute_2 _ _) (meets_getattribute_miss_list a xs k sl "keys" _ mo (by decide+kernel) (by decide)) ⟨hx,hA,λ h' tk' e hx'=>?_⟩) | wp_step))
 obtain ⟨t',u',he⟩:=hx'.there;have hTe:∀tk'',(⟨h',g,d,tk'',os⟩:Shared).TypeIs (.ref e) "AttributeError":=λ _=>⟨_,he,rfl⟩;show wpAny _ _ (getattributeRaised _ _ _ _ _ _ _) _ _ _;unfold getattributeRaised
 repeat (any_goals (first | assumption | exact hTe _ | wp_step))
 exact h h' tk' hx'.keeps
variable {K:Type} [DecidableEq K] {knd:KeyKind prog w K}
def fw (kvs:List (K×Value)):List (K×Value)->List (K×Value)
 | []=>kvs
 | p::ps=>fw (stored kvs p.1 p.2) ps
theorem oQ {kvs:List (K×Value)}{k:K}{v:Value}:(stored kvs k v).length<=kvs.length+1:=by
 unfold stored;split
 ·rw [Jx];omega
 ·rw [JD];exact KW _
theorem vm {d it l:Addr}{items:Array Value}{R:Result->Shared->Prop}(hA:A.handled=none) (hdi:d≠it) (hdl:d≠l) (hil:it≠l):
  ∀(rest:List (K×Value)) (i:Nat) (s:Shared) (kvs:List (K×Value)) (tk:Tok),i+rest.length=items.size->s.heap.IsListIter it l i->s.heap.IsList l items->s.heap.DictOf knd d kvs->
  (∀j p,rest[j]? =some p->∃t key,items[i+j]? =some (.ref t)/\s.heap.IsTuple t #[key,p.2]/\knd.is p.1 key=true/\t≠d/\t≠it)->kvs.length+rest.length<=sizeLine->
  (∀s',s'.heap.DictOf knd d (fw kvs rest)->(∀b o,b≠d->b≠it->s.heap.get? b=some o->s'.heap.get? b=some o)->s'.gens=s.gens->s'.drawn=s.drawn->s'.os=s.os->s.toks<=s'.toks->R (.ok (.ret .none)) s')->
  codeAny (model prog w) A (.builtin "dict.update.loop" ⟨[.ref d,.ref it,.int i tk,.none],[]⟩) R s:=by
 intro rest
 induction rest with
 | nil=>
   intro i s kvs tk hi hit hl hd hp hz hR;refine codeAny_builtin kW ?_;rw [Around.under_plainId gH _];show wpAny _ A.in1 (pyNext (.ref it) >>= _) _ _ s;refine wpAny_bind (wpAny_pyNext_list_end (show A.in1.handled=none from hA) hit hl (by rw [LC];simp at hi;omega) λ h' ext=>?_);show wpAny _ _ (Builtin.Dict.addKeywords d [] >>= _) _ _ _;exact wpAny_bind (wpAny_pure (wpAny_pure (hR _ (hd.extBut ext hdi) (λ b o _ hb e=>ext b o hb e) rfl rfl rfl (KW _))))
 | cons p rest ih=>
   intro i s kvs tk hi hit hl hd hp hz hR;obtain ⟨t,key,hx,ht,hk,htd,hti⟩:=hp 0 p rfl;refine codeAny_builtin kW ?_;rw [Around.under_plainId gH _];show wpAny _ A.in1 (pyNext (.ref it) >>= _) _ _ s;refine wpAny_bind (wpAny_pyNext_list_item hit hl hx λ h1 hit1 sb1=>?_);obtain ⟨ot,hot,hct,nt,hdt⟩:=ht;have hot1:h1.get? t=some ot:=(sb1.2 t hti).trans hot;have hT:(⟨h1,s.gens,s.drawn,s.toks,s.os⟩:Shared).TypeIs (.ref t) "tuple":=⟨_,hot1,hct⟩;refine wpAny_bind (wpAny_holding (wpAny_bind (wpAny_tryCatch ?_)));unfold Builtin.Dict.pairItems;refine wpAny_bind (wpAny_typeOf hT ?_);show wpAny _ _ (if _ then _ else _) _ _ _;rw [if_pos (by decide)];refine wpAny_bind (wpAny_seqItems hot1 hdt (wpAny_pure ?_));show wpAny _ _ (holding [key,p.2] (dictSet d key p.2)) _ _ _;have hd1:h1.DictOf knd d kvs:=hd.extBut (λ b o hb e=>(sb1.2 b hb).trans e) hdi;refine wpAny_holding (wpAny_dictSet_pairs hk hd1 (λ h2 hd2 sb2=>?_) (by simp at hz;omega));refine wpAny_pure ⟨plainId_quiet gH _,?_⟩;have hb2:∀b o,b≠d->b≠it->s.heap.get? b=some o->h2.get? b=some o:=λ b o nd ni e=>(sb2.2 b nd).trans ((sb1.2 b ni).trans e);have sl:=oQ (kvs:=kvs) (k:=p.1) (v:=p.2);rw [JK] at hi hz;refine ih (i+1) ⟨h2,s.gens,s.drawn,s.toks+1,s.os⟩ (stored kvs p.1 p.2) _ (by omega) ?_ ?_ hd2 (λ j q hq=>?_) (by omega) (λ s' a1 a2 a3 a4 a5 a6=>?_)
   ·obtain ⟨oi,e1,e2,e3⟩:=hit1;exact ⟨oi,(sb2.2 it (Ne.symm hdi)).trans e1,e2,e3⟩
   ·obtain ⟨ol,e1,e2⟩:=hl;exact ⟨ol,hb2 l ol (Ne.symm hdl) (Ne.symm hil) e1,e2⟩
   ·obtain ⟨t',key',b1,⟨o',c1,c2⟩,b3,b4,b5⟩:=hp (j+1) q (by simpa using hq);exact ⟨t',key',by rw [show i+1+j=i+(j+1) by omega];exact b1,⟨o',hb2 t' o' b4 b5 c1,c2⟩,b3,b4,b5⟩
   ·exact hR s' a1 (λ b o nd ni e=>a2 b o nd ni (hb2 b o nd ni e)) a3 a4 a5 (KZ (Lc _) a6)
theorem ji {l:Addr}{o:Obj}{items:Array Value}{n:Nat}{Q:Value->Shared->Prop}(hA:A.handled=none) (ho:s.heap.get? l=some o) (hc:o.cls=.type "list") (hdat:o.data=.seq items n) (hdd:o.dict=none) (ps:List (K×Value)) (hlen:ps.length=items.size) (hsz:ps.length<=sizeLine)
  (hp:∀(j:Nat) (p:K×Value),ps[j]? =some p->∃t key,items[j]? =some (Value.ref t)/\s.heap.IsTuple t #[key,p.2]/\knd.is p.1 key=true)
  (h:∀s',s'.heap.DictOf knd s.heap.objs.size (fw [] ps)->(∀b o,s.heap.get? b=some o->s'.heap.get? b=some o)->s'.gens=s.gens->s'.drawn=s.drawn->s'.os=s.os->Q (.ref s.heap.objs.size) s'):
  wpAny (model prog w) A (call (.type "dict") [.ref l]) Q E s:=by
 refine callType_codes (Q₁:=λ obj s₁=>obj=.ref s.heap.objs.size/\s₁={s with heap:=s.heap.push {cls:=.type "dict",data:=.dict #[]}}) F.kt_called_dict (F.kt_typeCall_dict_1 _) F.entry_dict_init (kt_code_dict_new _ ⟨rfl,rfl⟩) ?_;rintro obj s₁ ⟨rfl,rfl⟩;have hnew:(s.heap.push {cls:=.type "dict",data:=.dict #[]}).DictOf knd s.heap.objs.size []:=Heap.DictOf.new s.heap;have ho':(s.heap.push {cls:=.type "dict",data:=.dict #[]}).get? l=some o:=Heap.get?_push_of_some _ ho;refine ⟨hnew.typeIs,F.args_dict_init_2 _ _,?_⟩;unfold Builtin.«dict.__init__»;refine wpAny_bind ?_;unfold Builtin.Dict.selfAndRest;refine wpAny_bind (wpAny_notOrdered_dict hnew.typeIs ?_);show wpAny _ _ (pure (s.heap.objs.size,[Value.ref l])) _ _ _;refine wpAny_pure ?_;show wpAny _ _ (Builtin.Dict.updateFrom "dict.__init__" s.heap.objs.size (.ref l) [] .none) _ _ _;unfold Builtin.Dict.updateFrom;refine wpAny_bind (wpAny_typeOf (show Shared.TypeIs {s with heap:=s.heap.push {cls:=.type "dict",data:=.dict #[]}} (.ref l) "list" from ⟨_,ho',hc⟩) ?_);rw [if_pos (by decide)];refine wpAny_bind (wz ho' hc hdat hdd (show A.in1.in1.handled=none from hA) λ h1 tk1 k1=>?_);rw [if_pos (by rfl)];have hl1:h1.IsList l items:=⟨o,k1 _ _ ho',hc,n,hdat⟩;have hd1:h1.DictOf knd s.heap.objs.size []:=by obtain ⟨o',es,ep,e1,r⟩:=hnew;exact ⟨o',es,ep,k1 _ _ e1,r⟩
 have ls:l<s.heap.objs.size:=Heap.lt_size ho;have dlt:s.heap.objs.size<h1.objs.size:=by obtain ⟨o',es,ep,e1,r⟩:=hd1;exact Heap.lt_size e1
 refine wpAny_bind (wpAny_rule ?_);refine wpAny_bind (wpAny_pyIter_list hl1 ?_);refine wpAny_pure ⟨plainId_quiet gH _,?_⟩;refine vm (A:=A.in1) hA (KY dlt) (Lb ls) (Lb (Lh ls dlt)) ps 0 _ [] _ (by omega) ⟨_,Heap.get?_push_size _ rfl,rfl,rfl⟩ (hl1.push _) (hd1.push _) (λ j p hj=>?_) (by simpa using hsz) (λ s' a1 a2 a3 a4 a5 a6=>?_)
 ·obtain ⟨t,key,b1,⟨ot,c1,c2⟩,b3⟩:=hp j p hj;have tl:=Heap.lt_size c1;exact ⟨t,key,by rw [Lj];exact b1,⟨ot,Heap.get?_push_of_some _ (k1 _ _ (Heap.get?_push_of_some _ c1)),c2⟩,b3,KY tl,KY (Lh tl dlt)⟩
 ·refine ⟨rfl,h s' a1 (λ b o e=>?_) a3 a4 a5⟩;have bl:=Heap.lt_size e;exact a2 b o (KY bl) (KY (Lh bl dlt)) (Heap.get?_push_of_some _ (k1 _ _ (Heap.get?_push_of_some _ e)))
end
end L2
namespace L2
open PySem
def Ris (xs:Array Nat):Prop:= ∀i j,i<j->j<xs.size->xs.getD i 0<xs.getD j 0
end L2
namespace L2
open PySem
def it5 (M:Nat):Nat->Nat->Nat
 | 0,i=>i
 | n+1,i=>it5 M n ((i*5+1) % M)
def orb (M:Nat):Nat->Nat->List Nat
 | 0,_=>[]
 | n+1,i=>i::orb M n ((i*5+1) % M)
def Jv (M:Nat):Prop:=(∀e,e<M->e∈orb M M 0)/\it5 M M 0=0
def lp (mask:Nat) (h:Int):Nat->Nat×Nat
 | 0=>(SetTable.bits h % (mask+1),SetTable.bits h)
 | n+1=>SetTable.leap mask (lp mask h n).1 (lp mask h n).2
end L2
namespace L2
open PySem
def sl (mask:Nat) (h:Int) (n c:Nat):Nat:=(lp mask h n).1+c
def Lt2 (n c n' c':Nat):Prop:=n<n'\/(n=n'/\c<c')
def Ok2 (mask:Nat) (h:Int) (n c:Nat):Prop:=c<=SetTable.runEnd mask (lp mask h n).1 - (lp mask h n).1
end L2
namespace L2
open PySem
def CN (t:SetTable) (h:Int) (j:Nat):Prop:= ∃n c,Ok2 t.mask h n c/\sl t.mask h n c=j/\∀a b,Ok2 t.mask h a b->Lt2 a b n c->¬t.slot (sl t.mask h a b)=.empty
structure TGb (es:Array (Int×Value)) (t:SetTable):Prop where
 ps:t.place.size=es.size
 ris:Ris t.place
 nd:t.dummies= #[]
 full:Jv (t.mask+1)
 odd:t.mask % 2=1
 fit:t.place.size<=t.mask
 pl:∀i,i<es.size->CN t (es.getD i (0,.none)).1 (t.place.getD i 0)
end L2
namespace L2
open PySem
end L2
namespace L2
open PySem
end L2
namespace L2
open PySem
section
variable {M:Model}{prog:Program}{w:World}{A:Around}{E:Value->Shared->Prop}{s:Shared}
end
section
variable {prog:Program}{w:World}{A:Around}{E:Value->Shared->Prop}{s:Shared}
end
end L2
namespace L2
open PySem
section
variable {prog:Program}{w:World}{A:Around}{E:Value->Shared->Prop}{s:Shared}
end
end L2
namespace L2
open PySem
section
variable {prog:Program}{w:World}
end
section
variable {prog:Program}{w:World}{A:Around}{E:Value->Shared->Prop}
end
section
variable {prog:Program}{w:World}{A:Around}{E:Value->Shared->Prop}{s:Shared}
end
end L2
namespace L2
open PySem
section
variable {prog:Program}{w:World}{A:Around}{E:Value->Shared->Prop}{s:Shared}
end
section
variable {prog:Program}{w:World}{κ:Type} [DecidableEq κ] {knd:KeyKind prog w κ}{A:Around}{E:Value->Shared->Prop}{s:Shared}
end
end L2
namespace L2
open PySem
section
variable {prog:Program}{w:World}{A:Around}{E:Value->Shared->Prop}{s:Shared}
def El (prog:Program) (w:World) (m:Addr->Prop) (h:Heap) (k:List Int) (e:Int×Value):Prop:= ∃a,m a/\e=(tupleKeyHash (intKind prog w) k,.ref a)/\IsTupleKey (intKind prog w) h k a
end
end L2
namespace L2
open PySem
section
variable {prog:Program}{w:World}{A:Around}{E:Value->Shared->Prop}{s:Shared}
def Rm (mask n:Nat):Prop:=(mask=7\/mask=31\/mask=127\/mask=511)/\n*5<mask*3
structure ST (prog:Program) (w:World) (m:Addr->Prop) (h:Heap) (es:Array (Int×Value)) (t:SetTable):Prop where
 el:∀e∈es.toList,∃k,El prog w m h k e
 nd:es.toList.Pairwise λ e e'=> ∀k,El prog w m h k e->¬El prog w m h k e'
 tg:TGb es t
 led:t.led= !w.params.followText "set-order"
 rm:Rm t.mask es.size
end
end L2
namespace L2
open PySem PySem.Spec PyProof.Rows
section
variable {prog:Program}{w:World}{A:Around}{R:Result->Shared->Prop}{I:Addr}{fp wr:List Addr}{G:Array GenState->Array GenState->Prop}{n:Nat}{Pt:Nat->Value->Prop}{St:Nat->Shared->Prop}{κ:Type} [DecidableEq κ] {knd:KeyKind prog w κ}
end
section
variable {prog:Program}{w:World}{A:Around}{E:Value->Shared->Prop}{s:Shared}{κ:Type} [DecidableEq κ] {knd:KeyKind prog w κ}
end
end L2
namespace L2
open PySem PySem.Spec PyProof.Rows
section
variable {prog:Program}{w:World}{A:Around}{R:Result->Shared->Prop}{I:Addr}{fp wr:List Addr}{G:Array GenState->Array GenState->Prop}{n:Nat}{Pt:Nat->Value->Prop}{St:Nat->Shared->Prop}
end
section
variable {prog:Program}{w:World}{A:Around}{E:Value->Shared->Prop}{s:Shared}
end
end L2
namespace L2
open PySem PySem.W PyProof.Rows
structure Jo (n:Nat) (lt:Nat->Nat->Bool):Prop where
 tr:∀a b c,a<n->b<n->c<n->lt a b=true->lt b c=true->lt a c=true
 as:∀a b,a<n->b<n->lt a b=true->lt b a=false
 tt:∀a b,a<n->b<n->a≠b->lt a b=false->lt b a=true
section
variable {n:Nat}{lt:Nat->Nat->Bool}{s:Shared}{cmp:Nat->Nat->(Bool->Shared->Prop)->Shared->Prop}(O:Jo n lt) (hc:∀i j (C:Bool->Shared->Prop),i<n->j<n->C (lt i j) s->cmp i j C s)
include O hc
omit O hc in
theorem IY {p q:Array Nat}{n:Nat}(h:p.toList.Perm (List.range n)) (e:q.Perm p):q.toList.Perm (List.range n):=(Array.perm_iff_toList_perm.mp e).trans h
end
end L2
namespace L2
open PySem PySem.W PySem.Calls PyProof.Rows
section
variable {prog:Program}{w:World}{A:Around}{E:Value->Shared->Prop}{s:Shared}
end
end L2
namespace L2
open PySem PySem.Spec PyProof.Rows
section
variable {prog:Program}{w:World}{A:Around}{E:Value->Shared->Prop}{s:Shared}
end
end L2
namespace L2
open PySem PySem.Spec PyProof.Rows
section
variable {X:Cx}
end
section
variable {P:Program}{w:World}{K:Frag}{σ:St}{H:Hp}{Q:VK}{te:TE}
end
end L2
namespace L2
open PySem PySem.Spec PyProof.Rows
section
variable {X:Cx}{a b:Expr}{ta tb:TE}{pos:Pos}
end
section
variable {K:Frag}{σ:St}{H:Hp}{ta tb:TE}{x y:V}{k:Bool}{Q:VK}
end
section
variable {K:Frag}{σ:St}{H:Hp}{Q:VK}
end
end L2
namespace L2
open PySem PySem.W PySem.Calls PySem.Spec PyProof.Rows
section
variable {prog:Program}{w:World}{A:Around}{E:Value->Shared->Prop}{s:Shared}
end
end L2
namespace L2
open PySem PySem.W PySem.Calls PySem.Spec PyProof.Rows
section
variable {prog:Program}{w:World}{A:Around}{E:Value->Shared->Prop}{s:Shared}
end
end L2
namespace L2
open PySem PySem.W PySem.Calls PySem.Spec PyProof.Rows
section
variable {X:Cx}
end
end L2
namespace L2
open PySem PySem.Spec PyProof.Rows
section
variable {X:Cx}{a b c e o:Expr}{ta tb tc te to:TE}{p p2 pos:Pos}{es:List Expr}{t:TA}
end
section
variable {P:Program}{w:World}{K:Frag}{σ:St}{H:Hp}{Q:VK}{te to:TE}{D:cQ}{u:TS}
end
end L2
namespace L2
open PySem PySem.Spec PyProof.Rows
section
variable {K:Frag}{c:Nat}{H:Hp}{Q:VK}
end
theorem Gb {t:TT}{ta tb:TE}{σ:St}{H:Hp}{Q:VK}{b:Bool}(hc:Tv t σ H b) (h1:b=true->ta σ H Q) (h2:b=false->tb σ H Q):Gc t ta tb σ H Q:=hc _ (by
 cases b with
 | true=>exact jf (h1 rfl)
 | false=>exact jK (h2 rfl))
structure bC where
 kd:Str
 so:Str
 ai:Str
 ax:Int
 up:Int
abbrev bC.vs (r:bC):List V:=[.str r.kd,.str r.so,.str r.ai,.int r.ax,.int r.up]
end L2
namespace L2
open PySem PySem.Spec PyProof.Rows
def gc (H:Hp) (us:List (bC×Addr)):Prop:= ∀z∈us,H z.2=some (.tup z.1.vs)
theorem gc.same {H H':Hp}{us:List (bC×Addr)}(h:gc H us) (s:ah H H'):gc H' us:=λ z hz=>s _ _ (h z hz)
abbrev rRefs (us:List (bC×Addr)):List V:=us.map λ z=>V.ref z.2
def ofKind (us:List (bC×Addr)) (kd:Str):List (bC×Addr):=us.filter λ z=>decide (z.1.kd=kd)
def GW (us:List (bC×Addr)) (kd:Str) (v:V):Bool:=us.any λ z=>decide (V.ref z.2=v/\z.1.kd=kd)
theorem pE {H:Hp}{us:List (bC×Addr)}(h:gc H us) {kd:Str}{z:bC×Addr}(hz:z∈us):GW us kd (.ref z.2)=decide (z.1.kd=kd):=by
 unfold GW
 by_cases e:z.1.kd=kd
 ·rw [decide_eq_true e,JU];exact ⟨z,hz,decide_eq_true ⟨rfl,e⟩⟩
 ·rw [decide_eq_false e,Kb];intro y hy w;obtain ⟨e1,e2⟩:=of_decide_eq_true w;have e1:y.2=z.2:=by injection e1
  have a:=h y hy;rw [e1,h z hz] at a;injection a with a;injection a with a;injection a with a _;injection a with a;exact e (a.trans e2)
theorem jJ {H:Hp}{us:List (bC×Addr)}(h:gc H us) {kd:Str}:(rRefs us).filter (GW us kd)=rRefs (ofKind us kd):=by unfold rRefs ofKind;rw [List.filter_map];congr 1;refine KB λ z hz=>?_;exact pE h hz
def kD (cG:Addr):Sp:=λ vs H Q _=> ∃(g b:Addr) (kd:Str) (ks ts es:List V) (st:Str) (us:List (bC×Addr)),vs=[.ref g,.str kd]/\eQ cG H g b ks (rRefs us) ts es st/\gc H us/\us.length<=24/\
 ∀(q:Addr) (H':Hp),H q=none->H' q=some (.lst (rRefs (ofKind us kd)))->ah H H'->Q (.ref q) H'
end L2
namespace L2
open PySem PySem.Spec PyProof.Rows
structure fM (H:Hp) (d:Addr) (ks:List Nat):Prop where
 at_:H d=some (.lst (ks.map strV))
 ltr:∀k∈ks,C1 k
 l1:1<=ks.length
 l6:ks.length<=6
 nd:ks.Nodup
theorem fM.same {H H':Hp}{d:Addr}{ks:List Nat}(h:fM H d ks) (s:ah H H'):fM H' d ks:=⟨s _ _ h.at_,h.ltr,h.l1,h.l6,h.nd⟩
theorem qE {ss:List Str}{i:Int}(h0:0<=i) (h1:i<ss.length):∃s,atI (ss.map V.str) i=some (.str s)/\s∈ss:=by obtain ⟨v,e1,e2⟩:=jA (xs:=ss.map V.str) h0 (by rw [Jx];exact h1);obtain ⟨s,hs,rfl⟩:=Jz.mp e2;exact ⟨s,e1,hs⟩
theorem fM.pick {H:Hp}{d:Addr}{ks:List Nat}(h:fM H d ks) (i:Int):∃k∈ks,atI (ks.map strV) (i % ((ks.map strV).length:Int))=some (strV k):=by
 have hl:(0:Int)<((ks.map strV).length:Int):=by rw [Jx];have:=h.l1;omega
 obtain ⟨v,e1,e2⟩:=jA (xs:=ks.map strV) (Ll i (by omega)) (Lm i hl);obtain ⟨k,hk,rfl⟩:=Jz.mp e2;exact ⟨k,hk,e1⟩
theorem mM {t:TA}{σ:St}{H:Hp}{Q:VK}(q:t σ H (λ vs H2=>vs.length<=sizeLine/\∀p,H2 p=none->Q (.ref p) (upd H2 p (.tup vs)))):mP t σ H Q:=q
structure gA (ks:List Nat) (u:bC):Prop where
 kd:∃c∈ks,u.kd=one c
 so:u.so∈sortsL
 ai:u.ai∈aimsL
 jh:u.so="jump"->u.ai="hit"
 ax: -(if u.so="leap" then 3 else 1)<=u.ax/\u.ax<=(if u.so="leap" then 3 else 1)
 up: -(if u.so="leap" then 3 else 1)<=u.up/\u.up<=(if u.so="leap" then 3 else 1)
 n0:¬(u.ax=0/\u.up=0)
def qq:Sp:=λ vs H Q _=> ∃(c:Int) (d:Addr) (ks:List Nat),vs=[.int c,.ref d]/\fM H d ks/\∀(t:Addr) (u:bC) (H':Hp),gA ks u->H t=none->H' t=some (.tup u.vs)->ah H H'->Q (.ref t) H'
theorem k4 {ta:TA}{te:TE}{src:List (Option Nat)}{σ rest:St}{H:Hp}{Q:VK}{n:Int}(hl:∀Q':List V->Hp->Prop,(∀H',ah H H'->Q' [.int n] H')->ta σ H Q') (h0:0<=n) (h1:n<=1000) (hs:eX src σ=none::rest) (R:Nat->Hp->V->Prop) (hR:∀i H H' v,R i H v->ah H H'->R i H' v)
  (he:∀(i:Nat) H',i<n.toNat->ah H H'->∀Q:VK,(∀v H2,R i H2 v->ah H' H2->Q v H2)->te (some (.int (0+(i:Int)))::rest) H' Q)
  (q:∀d H' ys,ah H H'->H' d=none->ys.length=n.toNat->(∀i y,ys[i]? =some y->R i H' y)->Q (.ref d) (upd H' d (.lst ys))):tComp (kO ta) (gName 0) ky te src σ H Q:=by
 refine hl _ λ H0 s0=>⟨n,rfl,by omega,by omega,?_⟩;refine jP n.toNat (λ i ys σ' H'=>ah H H'/\(∃v,σ'=v::rest)/\ys.length=i/\∀j y,ys[j]? =some y->R j H' y) (by rw [sizeLine_eq];omega)
  (λ i ys σ H h=>Ld h.2.2.1) (λ i ys σ H _ hi=>hi) (λ ys σ H _=>KW _) ⟨s0,⟨none,hs⟩,rfl,λ j y hy=>by simp at hy⟩ ?_ ?_
 ·rintro i ys _ H1 x H2 hi ⟨s1,⟨v0,rfl⟩,hl,hy⟩ ⟨rfl,rfl⟩ Kt Kf ht hf;simp only [gName,ky,Ko,if_true];exact (he i _ hi s1 _ λ v H2 rv s2=>ht _ _ _ ⟨s1.trans s2,⟨_,rfl⟩,by rw [JD,hl];rfl,λ j y hm=>by
   by_cases hj:j<ys.length
   ·rw [Ku hj] at hm;exact hR _ _ _ _ (hy j y hm) s2
   ·rw [Ks (by omega)] at hm;have e0:j - ys.length=0:=by have:=(JQ.mp hm).1;simp at this;exact this
    rw [e0] at hm;have:v=y:=by simpa using hm
    subst this;have:j=i:=by omega
    subst this;exact rv⟩)
 ·rintro ys _ H1 dd ⟨s1,_,hl,hy⟩ hd;exact q dd H1 ys s1 hd hl hy
def fV (H:Hp) (zs:List ((Str×Str)×Addr)):Prop:= ∀z∈zs,H z.2=some (.tup [.str z.1.1,.str z.1.2])
theorem fV.same {H H':Hp}{zs:List ((Str×Str)×Addr)}(h:fV H zs) (s:ah H H'):fV H' zs:=λ z hz=>s _ _ (h z hz)
abbrev pRefs (zs:List ((Str×Str)×Addr)):List V:=zs.map λ z=>V.ref z.2
structure rh (ks:List Nat) (zs:List ((Str×Str)×Addr)):Prop where
 len:zs.length<=6
 kd:∀z∈zs,(∃a∈ks,z.1.1=one a)/\∃b∈ks,z.1.2=one b
 nd:(zs.map λ z=>z.1.1).Nodup
 ap:∀z∈zs,∀y∈zs,¬z.1.2=y.1.1
theorem lZ {a b:Nat}(h:one a=one b):a=b:=by unfold one at h;simp only [Str.mk.injEq] at h;have:=congrArg Array.toList h;simpa using this
theorem qA {H:Hp}(F:Nat->Str×Str):∀(ys:List V) (o:Nat),(∀i y,ys[i]? =some y->∃a,y=.ref a/\H a=some (.tup [.str (F (o+i)).1,.str (F (o+i)).2]))->∃zs:List ((Str×Str)×Addr),ys=pRefs zs/\fV H zs/\zs.length=ys.length/\∀i z,zs[i]? =some z->z.1=F (o+i)
 | [],o,_=>⟨[],rfl,λ _ z=>(nomatch z),rfl,λ i z h=>by simp at h⟩
 | y::ys,o,h=>by
   obtain ⟨a,rfl,ha⟩:=h 0 y rfl;obtain ⟨zs,rfl,h1,h2,h3⟩:=qA F ys (o+1) λ i y hy=>by obtain ⟨a,e1,e2⟩:=h (i+1) y (by simpa using hy);exact ⟨a,e1,by rw [show o+1+i=o+(i+1) by omega];exact e2⟩
   refine ⟨(F o,a)::zs,rfl,λ z hz=>?_,by simp,λ i z hz=>?_⟩
   ·rcases Jy.mp hz with rfl | hz
    ·exact ha
    ·exact h1 z hz
   ·cases i with
    | zero=>
      have:(F o,a)=z:=by simpa using hz
      rw [<-this];rfl
    | succ i=>
      rw [h3 i z (by simpa using hz),show o+1+i=o+(i+1) by omega]
end L2
namespace L2
open PySem PySem.W PySem.Calls PySem.Spec PyProof.Rows
def gQ (kvs:List (Key×V)):List (Str×Str)->List (Key×V)
 | []=>kvs
 | p::ps=>gQ (j1 kvs (.inr p.1) (.str p.2)) ps
theorem kK:∀(ps:List (Str×Str)) (kvs:List (Key×V)),(gQ kvs ps).length<=kvs.length+ps.length
 | [],kvs=>KW _
 | p::ps,kvs=>by have a:=kK ps (j1 kvs (.inr p.1) (.str p.2));have b:=nQ kvs (.inr p.1) (.str p.2);show (gQ (j1 kvs (.inr p.1) (.str p.2)) ps).length<=_;rw [JK];omega
theorem Bp {a b:Str}{us:List Value}(r:aU [.str a,.str b] us):∃t1 t2,us=[.str a t1,.str b t2]:=by
 cases r with
 | cons r0 r1=>
 cases r1 with
 | cons r2 r3=>
 cases r3;obtain ⟨t1,rfl⟩:=(show∃t,_=Value.str a t from r0);obtain ⟨t2,rfl⟩:=(show∃t,_=Value.str b t from r2);exact ⟨t1,t2,rfl⟩
theorem uv {h:Heap}:∀(zs:List ((Str×Str)×Addr)),(∀z∈zs,∃t1 t2,h.IsTuple z.2 #[.str z.1.1 t1,.str z.1.2 t2])->∃ps:List (Key×Value),ps.length=zs.length/\(∀(j:Nat) (p:Key×Value),ps[j]? =some p->∃z key,zs[j]? =some z/\h.IsTuple z.2 #[key,p.2]/\aQ (kV p.1) key)/\∀(kvs:List (Key×V)) (vs:List (Key×Value)),KV kvs vs->KV (gQ kvs (zs.map (·.1))) (fw vs ps)
 | [],_=>⟨[],rfl,λ j p e=>by simp at e,λ kvs vs r=>r⟩
 | z::zs,hz=>by
   obtain ⟨t1,t2,ht⟩:=hz z JI;obtain ⟨ps,p1,p2,p3⟩:=uv zs λ y hy=>hz y (JJ _ hy);refine ⟨(.inr z.1.1,.str z.1.2 t2)::ps,by simp [p1],λ j p e=>?_,λ kvs vs r=>p3 _ _ (r.put _ ⟨t2,rfl⟩)⟩;cases j with
   | zero=>
     have e:(Sum.inr z.1.1,Value.str z.1.2 t2)=p:=by simpa using e
     subst e;exact ⟨z,_,rfl,ht,t1,rfl⟩
   | succ j=>
     obtain ⟨y,key,a,b⟩:=p2 j p (by simpa using e);exact ⟨y,key,by simpa using a,b⟩
section
variable {X:Cx}
def pM (K:Frag) (xs:List V) (H:Hp) (Q:VK):Prop:= ∃(d:Addr) (zs:List ((Str×Str)×Addr)),xs=[.ref d]/\aJ K H d (pRefs zs)/\(∀z∈zs,eE K H z.2 [.str z.1.1,.str z.1.2])/\zs.length<=1000/\∀q,H q=none->Q (.ref q) (upd H q (.dK (gQ [] (zs.map (·.1)))))
theorem oz (hA:X.A.handled=none):bd X (.type "dict") (pM X.K):=by
 intro pins s σ H xs us Q I rv h;obtain ⟨d,zs,rfl,hd,hp,hz,q⟩:=h;cases rv with
 | cons r0 rn=>
 cases rn;cases r0;obtain ⟨its,r,⟨o,n,e,hc,hdd,hdat⟩,_⟩:=I.list hd;have rl:=r.length;rw [Jx] at rl;obtain ⟨ps,p1,p2,p3⟩:=uv (h:=s.heap) zs λ z hz'=>by obtain ⟨it2,r2,tp,_⟩:=I.tuple (hp z hz');obtain ⟨t1,t2,rfl⟩:=Bp r2;exact ⟨t1,t2,tp⟩
 refine ji (knd:=dn X.prog X.w) hA e hc hdat hdd ps (by rw [p1,JA];exact rl) (by rw [p1,sizeLine_eq];omega) (λ j p hj=>?_) (λ s' a1 a2 a3 a4 a5=>?_)
 ·obtain ⟨z,key,b1,b2,b3⟩:=p2 j p hj;refine ⟨z.2,key,?_,b2,Bh b3⟩;obtain ⟨u,hu,ru⟩:=r.get (show (pRefs zs)[j]? =some (V.ref z.2) by rw [JO,b1];rfl);cases ru;simpa using hu
 ·have kl:=kK (zs.map (·.1)) [];rw [Jx] at kl;have hq:H s.heap.objs.size=none:=I.hok.fresh (KW _);obtain ⟨h',g',d',t',os'⟩:=s';obtain rfl:g'=s.gens:=a3;obtain rfl:d'=s.drawn:=a4;obtain rfl:os'=s.os:=a5;have k2:∀b o,s.heap.get? b=some o->h'.get? b=some o:=a2;have dd:h'.DictOf (dn X.prog X.w) s.heap.objs.size (fw [] ps):=a1;have kz:(gQ [] (zs.map (·.1))).length<=sizeLine:=by rw [sizeLine_eq];have:([]:List (Key×V)).length=0:=rfl;omega
  exact ⟨.ref s.heap.objs.size,upd H s.heap.objs.size (.dK (gQ [] (zs.map (·.1)))),I.laid (t':=t') k2 (KW _) (Cu kz (beq_eq_false_iff_ne.mpr (Ne.symm (KY I.big))) (p3 [] [] .nil) dd),rfl,q _ hq⟩
theorem B9 (K:Frag) {j:Nat}(hr:cz j X.A) (hK:X.K=K:=by rfl):bd X (.type "dict") (pM K):=by subst hK;exact oz hr.hd
end
end L2
namespace L2
open PySem PySem.W PySem.Calls PySem.Spec PyProof.Rows
def Cm (x:V) (xs:List V) (H:Hp) (Q:VK):Prop:= ∃a kvs k y,x=.ref a/\xs=[kV k,y]/\H a=some (.dK kvs)/\Q ((jW kvs k).getD y) H
theorem wA {X:Cx}:Jq X "dict.get" Cm:=by
 intro pins s σ H x xs v us Q I rx rv h;obtain ⟨a,kvs,k,y,rfl,rfl,e,q⟩:=h;cases rx;cases rv with
 | cons r1 rn=>
 cases rn with
 | cons r2 rn2=>
 cases rn2;obtain ⟨z,hd,vs,rel,dd⟩:=Hl I.hok e;refine call_meetsIn PySem.F.slot_dict_get dd.typeIs PySem.F.entry_dict_get (PySem.F.args_dict_get_3 _ _ _) (meets_dict_get_default (dn X.prog X.w) a (Bh r1) hd _) ⟨_,dd.mapOf,?_⟩;exact ⟨(jW kvs k).getD y,H,I.tok _,(rel.val k).getD r2,q⟩
theorem GV {X:Cx}{o e e2:Expr}{to:TE}{t:TA}{apos cpos:Pos}(K:Frag) (ho:PE X o to) (ha:PA X [e,e2] t) (hbase:attributeBase o "get" X.env (eval o X.env)=eval o X.env:=by rfl)
  (hfew:((backTo cpos (starEach [e,e2] X.env)).all (λ x=> !x.1)&&(backToKw cpos (keywordEach [] X.env)).all (λ x=>x.1.isSome)
   &&decide ([e,e2].length+([]:List Keyword).length+(if ([]:List Keyword).isEmpty then 0 else 1)<30))=true:=by rfl)
  (hline:(apos.endLine == cpos.line)=true:=by rfl) (hs:starEach [e,e2] X.env=(false,eval e X.env)::starEach [e2] X.env:=by rfl) (hplain:(backTo cpos (starEach [e2] X.env)).any (·.1)=false:=by rfl) (hK:X.K=K:=by rfl):
  PE X (.Call (.Attribute o "get" apos) [e,e2] [] cpos) (IS K "dict" Cm to t):=by
 subst hK;exact GF PySem.F.plainAttrs_dict PySem.F.slot_dict_get PySem.F.type_dict_get wA ho ha hbase hfew hline hs hplain
end L2
namespace L2
open PySem PySem.Spec PyProof.Rows
theorem iO {H H1 H':Hp}{x dx:Addr}{o1 o2:HO}(s:ah H H1) (nx:H1 x=none) (nd:H1 dx=none) (sb:SameBut x (upd (upd H1 dx o1) x o2) H'):ah H H':=λ b o e=>by have e1:=s b o e;have nbx:=aj e1 nx;have nbd:=aj e1 nd;exact sb b o (by rw [au nbx,au nbd];exact e1) nbx
theorem sF {H:Hp}{q:Addr}{ks:List Nat}(h:H q=some (.lst (ks.map strV))) (hl:∀k∈ks,C1 k) (nd:ks.Nodup) (k1:1<=ks.length) (k6:ks.length<=6):kindsB H (.ref q)=true:=by
 have e:lstOf H (.ref q)=some (ks.map strV):=by simp only [lstOf,h]
 unfold kindsB;rw [e];dsimp only;rw [Jx,decide_eq_true ⟨k1,k6⟩,Lv,Lr];refine ⟨JL.mpr λ x hx=>?_,decide_eq_true ?_⟩
 ·obtain ⟨k,hk,rfl⟩:=Jz.mp hx;exact decide_eq_true (p:=97<=k/\k<=122) (hl k hk)
 ·rw [JH];exact Kp.mpr (nd.imp λ hab e=>hab (BZ.mp e))
theorem fv.imp {P:Program}{w:World}{K:Frag}{mg:Str->Option Value}{base:Heap}{name:Str}{ps:List Str}{k:Nat}{sp sp':Sp}(C:fv P w K mg base name ps k sp) (h:∀vs H Q E,sp' vs H Q E->sp vs H Q E):fv P w K mg base name ps k sp':=by obtain ⟨f,fd,F,a,b,c⟩:=C.ex;exact ⟨f,fd,F.imp h,a,b,c⟩
theorem CJ {P:Program}{w:World}{K:Frag}{mg:Str->Option Value}{base:Heap}(C:fv P w K mg base "is_among" ["thing","least","most"] 2 jv):fv P w K mg base "is_among" ["thing","least","most"] 2 A9:=fv.imp C λ vs H Q E h=>by obtain ⟨t,a,b,rfl,q⟩:=h;exact ⟨.int t,a,b,rfl,trivial,q⟩
theorem wH {ks:List Nat}{u:bC}(g:gA ks u):gk u.vs (ks.map one)=true:=by
 obtain ⟨c,hc,e⟩:=g.kd;show (wordB (.str u.kd) (ks.map one)&&decide (u.so∈sortsL)&&decide (u.ai∈aimsL)&& !(decide (u.so="jump")&& !decide (u.ai="hit"))&&gN u.so (.int u.ax) (.int u.up))=true;have h1:wordB (.str u.kd) (ks.map one)=true:=decide_eq_true (Jz.mpr ⟨c,hc,e.symm⟩);have h2:(!(decide (u.so="jump")&& !decide (u.ai="hit")))=true:=by
  by_cases z:u.so="jump"
  ·rw [g.jh z];simp
  ·simp [z]
 have h3:gN u.so (.int u.ax) (.int u.up)=true:=by
  have a:=g.ax;have b:=g.up;have n:=g.n0;unfold gN amongB limS;have e1:decide (-(if u.so="leap" then (3:Int) else 1)<=u.ax/\u.ax<=if u.so="leap" then 3 else 1)=true:=decide_eq_true a;have e2:decide (-(if u.so="leap" then (3:Int) else 1)<=u.up/\u.up<=if u.so="leap" then 3 else 1)=true:=decide_eq_true b;dsimp only;rw [e1,e2]
  by_cases z:u.ax=0
  ·have z2:¬u.up=0:=λ w=>n ⟨z,w⟩;simp [z,z2]
  ·simp [z]
 rw [h1,decide_eq_true g.so,decide_eq_true g.ai,h2,h3];rfl
theorem dz {H:Hp}{a:Addr}{xs:List V}(h:H a=some (.lst xs)):lstOf H (.ref a)=some xs:=by simp only [lstOf,h]
theorem dW {H:Hp}{a:Addr}{xs:List V}(h:H a=some (.tup xs)):tupOf H (.ref a)=some xs:=by simp only [tupOf,h]
theorem rK {H:Hp}{d:Addr}{us:List (bC×Addr)}{ks:List Nat}(h:H d=some (.lst (rRefs us))) (R:gc H us) (g:∀z∈us,gA ks z.1) (h24:us.length<=24):rulesB H (.ref d) (ks.map one)=true:=by unfold rulesB;rw [dz h];show (decide ((rRefs us).length<=24)&&(rRefs us).all λ x=>bV H x (ks.map one))=true;rw [Jx,decide_eq_true h24,Lv,JL];intro x hx;obtain ⟨z,hz,rfl⟩:=Jz.mp hx;unfold bV;rw [dW (R z hz)];exact wH (g z hz)
theorem kI {H:Hp}{d:Addr}{zs:List ((Str×Str)×Addr)}{A B:List Str}(h:H d=some (.lst (pRefs zs))) (R:fV H zs) (g:∀z∈zs,z.1.1∈A/\z.1.2∈B) (h6:zs.length<=6):pairsB H (.ref d) A B=true:=by unfold pairsB;rw [dz h];show (decide ((pRefs zs).length<=6)&&(pRefs zs).all λ x=>cp H x A B)=true;rw [Jx,decide_eq_true h6,Lv,JL];intro x hx;obtain ⟨z,hz,rfl⟩:=Jz.mp hx;unfold cp;rw [dW (R z hz)];show (decide (z.1.1∈A)&&decide (z.1.2∈B))=true;rw [decide_eq_true (g z hz).1,decide_eq_true (g z hz).2];rfl
theorem rz {H:Hp}{d:Addr}{zs:List ((Str×Str)×Addr)}{ks:List Nat}(h:H d=some (.lst (pRefs zs))) (R:fV H zs) (g:rh ks zs):turnsB H (.ref d) (ks.map one)=true:=by
 unfold turnsB;rw [kI h R (λ z hz=>?_) g.len,dz h,Lv]
 ·have e1:(pRefs zs).map (bE H)=zs.map λ z=>z.1.1:=by rw [JH];refine J2 λ z hz=>?_;show bE H (.ref z.2)=_;unfold bE;rw [dW (R z hz)]
  show (!((pRefs zs).any λ x=>decide (df H x∈(pRefs zs).map (bE H)))&&decide (((pRefs zs).map (bE H)).Nodup))=true;rw [e1,decide_eq_true g.nd,Bool.and_true,Ly,Kb];intro x hx w;obtain ⟨z,hz,rfl⟩:=Jz.mp hx;have w:=of_decide_eq_true w;have e2:df H (.ref z.2)=z.1.2:=by unfold df;rw [dW (R z hz)]
  rw [e2] at w;obtain ⟨y,hy,e⟩:=Jz.mp w;exact g.ap z hz y hy e.symm
 ·obtain ⟨⟨a,ha,e1⟩,b,hb,e2⟩:=g.kd z hz;exact ⟨Jz.mpr ⟨a,ha,e1.symm⟩,Jz.mpr ⟨b,hb,e2.symm⟩⟩
theorem nG (a:Nat):(one a).length<=1000:=by show 1<=1000;decide
theorem Bw {s:Str}(h:s∈sortsL):s.length<=1000:=(by decide:∀s∈sortsL,s.length<=1000) s h
theorem CK {s:Str}(h:s∈aimsL):s.length<=1000:=(by decide:∀s∈aimsL,s.length<=1000) s h
theorem t6 {H:Hp}{d:Addr}{us:List (bC×Addr)}{ks:List Nat}(h:H d=some (.lst (rRefs us))) (R:gc H us) (g:∀z∈us,gA ks z.1):bc H 2 (.ref d):=by
 refine iV.n (iV.lst h λ x hx=>?_);obtain ⟨z,hz,rfl⟩:=Jz.mp hx;refine iV.tup (R z hz) λ y hy=>?_;obtain ⟨c,_,e⟩:=(g z hz).kd;simp only [bC.vs,Jy,JC,or_false] at hy
 rcases hy with rfl | rfl | rfl | rfl | rfl
 ·exact iV.flat (show z.1.kd.length<=1000 by rw [e];exact nG c) rfl
 ·exact iV.flat (Bw (g z hz).so) rfl
 ·exact iV.flat (CK (g z hz).ai) rfl
 ·exact iV.flat trivial rfl
 ·exact iV.flat trivial rfl
theorem lU {H:Hp}{d:Addr}{zs:List ((Str×Str)×Addr)}(h:H d=some (.lst (pRefs zs))) (R:fV H zs) (g:∀z∈zs,z.1.1.length<=1000/\z.1.2.length<=1000):bc H 2 (.ref d):=by
 refine iV.n (iV.lst h λ x hx=>?_);obtain ⟨z,hz,rfl⟩:=Jz.mp hx;refine iV.tup (R z hz) λ y hy=>?_;simp only [Jy,JC,or_false] at hy
 rcases hy with rfl | rfl
 ·exact iV.flat (g z hz).1 rfl
 ·exact iV.flat (g z hz).2 rfl
theorem uK {H:Hp}{d:Addr}{ks:List Nat}(h:fM H d ks):bc H 1 (.ref d):=by refine iV.n (iV.lst h.at_ λ x hx=>?_);obtain ⟨c,_,rfl⟩:=Jz.mp hx;exact iV.flat (nG c) rfl
end L2
namespace L2
open PySem PySem.Spec PyProof.Rows
end L2
namespace L2
open PySem PySem.Spec PyProof.Rows
end L2
namespace L2
open PySem PySem.W PySem.Calls PySem.Spec PyProof.Rows
section
variable {prog:Program}{w:World}{A:Around}{E:Value->Shared->Prop}{s:Shared}
end
section
variable {X:Cx}
end
section
variable {X:Cx}{a b:Expr}{ta tb:TE}{pos:Pos}
end
end L2
namespace L2
open PySem PySem.Spec PyProof.Rows
end L2
namespace L2
open PySem PySem.Spec PyProof.Rows
theorem Fl.keepS {K:Frag}{H H':Hp}{p:Addr}{f:Str}{x:V}(h:Fl K H p f x) (s:ah H H'):Fl K H' p f x:=by obtain ⟨C,dx,fs,a,r⟩:=h;exact ⟨C,dx,fs,s _ _ a,r⟩
end L2
namespace L2
open PySem PySem.Spec PyProof.Rows
section
variable {K:Frag}{σ:St}{H:Hp}{ta tb te:TE}
theorem Cs {T:BT}{a:Addr}{xs:List V}(h:Ev te σ H (.ref a)) (ha:H a=some (.lst xs)):Ev (CB T te) σ H (.bl (de .list T)):=λ Q q=>h _ (qK ha q)
theorem Cp {a b:Addr}{k:Bool}(h1:Ev ta σ H (.ref a)) (h2:Ev tb σ H (.ref b)) (h:mJ K H 20 (.ref a) (.ref b) k):Ev (eO K .NotEq ta tb) σ H (.bl (!k)):=λ Q q=>h1 _ (h2 _ ⟨k,h,q⟩)
theorem pR {op:CmpOp}{R:Bool->Hp->Prop}(h:ta σ H λ x H1=>tb σ H1 λ y H2=>aY K op x y H2 (dU R)):gT (eO K op ta tb) σ H R:=h
end
end L2
namespace L2
open PySem PySem.Spec PyProof.Rows
end L2
namespace L2
open PySem PySem.Spec PyProof.Rows
theorem lD {te:TE}{D:cQ}{σ:St}{H:Hp}(h:te σ H D.rt):dw te D σ H:=h
end L2
namespace L2
open PySem PySem.Spec PyProof.Rows
def tk3 (s:Int) (x:Int×Int):List Int:=[s,x.1,x.2]
end L2
namespace L2
open PySem PySem.Spec PyProof.Rows
theorem vn {K:Frag}{op:CmpOp}{ta tb:TE}{σ:St}{H:Hp}{Q:VK}(h:ta σ H λ x H1=>tb σ H1 λ y H2=>aY K op x y H2 Q):eO K op ta tb σ H Q:=h
theorem vx {sp:Sp}{t:TA}{σ:St}{H:Hp}{Q:VK}(h:t σ H λ vs H1=>sp vs H1 Q E0):gw sp t σ H Q:=h
theorem wT {sp:Sp}{t:TA}{σ:St}{H:Hp}{R:Bool->Hp->Prop}(h:t σ H λ vs H1=>sp vs H1 (dU λ c H2=>R (!c) H2) E0):rC (gT (gw sp t)) σ H R:=h
end L2
namespace L2
open PySem PySem.Spec PyProof.Rows
theorem kZ {tl te:TE}{tt:TT}{src:List (Option Nat)}{σ rest:St}{H:Hp}{Q:VK}{z:Str}(hl:Ev tl σ H (.str z)) (hz:z.length<=1000) (hs:eX src σ=none::rest) (p:Nat->Bool) (f:Nat->V)
  (ht:∀(c:Nat) (H':Hp),c∈z.cps.toList->ah H H'->∀R:Bool->Hp->Prop,(∀H'',ah H' H''->R (p c) H'')->tt (some (.str (one c))::rest) H' R)
  (he:∀(c:Nat) (H':Hp),c∈z.cps.toList->p c=true->ah H H'->Ev te (some (.str (one c))::rest) H' (f c))
  (q:∀H' d,ah H H'->H' d=none->Q (.ref d) (upd H' d (.lst ((z.cps.toList.filter p).map f)))):tComp (Cg tl) (gName 0) tt te src σ H Q:=by
 refine hl _ ?_;show fK _ tt te src σ Q (HD z) H;have zl:z.length=z.cps.toList.length:=rfl;refine jP z.length (λ i ys σ' H'=>ah H H'/\(∃o0,σ'=o0::rest)/\ys=((z.cps.toList.take i).filter p).map f) (KZ hz (by decide)) (λ i ys σ H h=>?_) (λ i ys σ H h hi=>hi) (λ ys σ H h=>KW _) ⟨ah.refl H,⟨_,hs⟩,rfl⟩ ?_ ?_
 ·rw [h.2.2,Jx];refine KZ (Ka _ _) ?_;rw [JS];exact Nat.min_le_left _ _
 ·rintro i ys _ H1 x H2 hi ⟨s1,⟨o0,rfl⟩,rfl⟩ ⟨rfl,c,hc,rfl⟩ Kt Kf kt kf;have hi':i<z.cps.toList.length:=by rw [<-zl];exact hi
  have ec:z.cps.toList[i]=c:=by rw [JB hi'] at hc;exact Option.some.inj hc
  have tk:z.cps.toList.take (i+1)=z.cps.toList.take i++[c]:=by rw [List.take_succ_eq_append_getElem hi',ec]
  have hm:c∈z.cps.toList:=JT hc;show tt (some (.str (one c))::rest) _ _;refine ht c _ hm s1 _ (λ H3 s3=>?_);cases hp:p c with
  | true=>
    refine jf (he c _ hm hp (s1.trans s3) _ (kt _ _ _ ⟨s1.trans s3,⟨_,rfl⟩,?_⟩));rw [tk,KM,JN,List.filter_cons,if_pos hp];rfl
  | false=>
    refine jK (kf _ _ ⟨s1.trans s3,⟨_,rfl⟩,?_⟩);rw [tk,KM,JN,List.filter_cons,if_neg (by rw [hp];decide)];simp
 ·rintro ys σ' H' d ⟨s1,_,rfl⟩ hd;rw [zl,List.take_length];exact q H' d s1 hd
end L2
namespace L2
open PySem PySem.Spec PyProof.Rows
section
variable {K:Frag}{σ:St}{H:Hp}{ta tb te:TE}{x:V}
end
end L2
namespace L2
open PySem PySem.Spec PyProof.Rows
theorem qJ {K:Frag}{ta ti:TE}{σ:St}{H:Hp}{Q:VK}(h:ta σ H λ x H1=>ti σ H1 λ y H2=>Ce K x y H2 Q):tj K ta ti σ H Q:=h
theorem tN {t:TA}{σ:St}{H:Hp}{Q:VK}{vs:List V}(h:Av t σ H vs) (hl:vs.length<=1000) (q:∀p,H p=none->Q (.ref p) (upd H p (.tup vs))):mP t σ H Q:=h _ ⟨KZ hl (by decide),q⟩
end L2
namespace L2
open PySem PySem.Spec PyProof.Rows
end L2
namespace L2
open PySem PySem.Spec PyProof.Rows
def ku (ts:List ((Str×Str)×Addr)) (kd:Str):V:=(jW (gQ [] (ts.map (·.1))) (.inr kd)).getD (.str kd)
theorem Cv {K:Frag}{te:TE}{ta:TA}{σ:St}{H:Hp}{Q:VK}{d:Addr}{zs:List ((Str×Str)×Addr)}{kd:Str}(h:Ev te σ H (.ref d)) (hd:aJ K H d (pRefs zs)) (hp:fV H zs) (hz:zs.length<=1000) (ha:∀H',ah H H'->Av ta σ H' [.str kd,.str kd]) (q:∀H',ah H H'->Q (ku zs kd) H'):IS K "dict" Cm (cB (pM K) (aK te bK)) ta σ H Q:=
 h _ ⟨d,zs,rfl,hd,λ z hz'=>eE.of (hp z hz'),hz,λ p hq=>⟨.inr (.inr (.inl ⟨rfl,.inl ⟨_,ae⟩⟩)),ha _ ((ah.refl H).upd hq) _ ⟨p,_,.inr kd,.str kd,rfl,rfl,ae,q _ ((ah.refl H).upd hq)⟩⟩⟩
def mR (cG:Addr):Sp:=λ vs H Q _=> ∃(g b:Addr) (kd:Str) (ks rs es:List V) (ts:List ((Str×Str)×Addr)) (st:Str),vs=[.ref g,.str kd]/\eQ cG H g b ks rs (pRefs ts) es st/\fV H ts/\ts.length<=6/\∀H',ah H H'->Q (ku ts kd) H'
end L2
namespace L2
open PySem PySem.Spec PyProof.Rows
theorem jn {C:Addr}{m:Str}{sp:Sp}{to:TE}{t:TA}{σ:St}{H:Hp}{Q:VK}{p:Addr}(ho:Ev to σ H (.ref p)) (hi:vI C m H p) (q:t σ H λ vs H2=>sp (.ref p::vs) H2 Q E0):Bk C m sp to t σ H Q:=ho _ ⟨hi,q⟩
end L2
namespace L2
open PySem PySem.Spec PyProof.Rows
end L2
namespace L2
open PySem PySem.Spec PyProof.Rows
end L2
namespace L2
open PySem PySem.Spec PyProof.Rows
theorem ko:bootBuiltins "ValueError"=some (.type "ValueError"):=by decide+kernel
section
variable {X:Cx}{a b:Expr}{ta tb:TE}{pos:Pos}
end
structure AlC (mg:Str->Option Value) (K:Frag) (D:Addr) (b1 b2 b3 b4 b5 b6 b7 b8 b9:Bool):Prop where
 x:PySem.W.ExcC K D
 f1:∃c,mg "BadBoard"=some (.ref c)/\LK K (.ref D) (.ref c)=some b1
 f2:∃c,mg "BadGame"=some (.ref c)/\LK K (.ref D) (.ref c)=some b2
 f3:∃c,mg "BadLine"=some (.ref c)/\LK K (.ref D) (.ref c)=some b3
 f4:∃c,mg "BadPlace"=some (.ref c)/\LK K (.ref D) (.ref c)=some b4
 f5:∃c,mg "NoMove"=some (.ref c)/\LK K (.ref D) (.ref c)=some b5
 f6:∃c,mg "TooWide"=some (.ref c)/\LK K (.ref D) (.ref c)=some b6
 f7:∃c,mg "NoWord"=some (.ref c)/\LK K (.ref D) (.ref c)=some b7
 f8:∃c,mg "Over"=some (.ref c)/\LK K (.ref D) (.ref c)=some b8
 f9:∃c,mg "NothingBack"=some (.ref c)/\LK K (.ref D) (.ref c)=some b9
 v:LK K (.ref D) (.type "ValueError")=some true
 one:([V.bl b1,.bl b2,.bl b3,.bl b4,.bl b5,.bl b6,.bl b7,.bl b8,.bl b9].countP λ z=>eqV z (.bl true))=1
theorem pS {K:Frag}{D:Addr}{v:Value}{b:Bool}(h:LY K D v=some b):(PySem.W.clsIn K D).isSome=true:=by
 unfold LY at h;cases e:PySem.W.clsIn K D with
 | none=>rw [e] at h;cases h
 | some _=>rfl
theorem vX {c:Addr}:∀u,aQ (.ref c) u->u=.ref c:=λ _ h=>h
theorem Bz {n:String}:∀u,aQ (.ty n) u->u=.type n:=λ _ h=>h
theorem jd.hu {k:Nat}{A:Around}(r:jd k A):A.units+20<cLine:=by have:=r.un;omega
end L2
namespace L2
open PySem PySem.Spec PyProof.Rows
end L2
namespace L2
open PySem PySem.Spec PyProof.Rows
theorem wP {K:Frag}{tl:TE}{g:TG}{tt:TT}{te:TE}{src:List (Option Nat)}{σ:St}{H:Hp}{Q:VK}(q:tl σ H λ x H2=> ∃a,x=.ref a/\(∃xs,aJ K H2 a xs)/\fK g tt te src σ Q (C4 K a) H2):tComp (kP K tl) g tt te src σ H Q:=q
end L2
namespace L2
open PySem PySem.Spec PyProof.Rows
section
variable {X:Cx}{a b:Expr}{ta tb:TE}{pos:Pos}
theorem vT:Str.empty=("":Str):=by decide+kernel
def nz:R2:=λ x y H Q=> ∃(z:Str) (b:Bool),x=.str z/\y=.int (if b=true then 1 else 0)/\Q (.str (if b=true then z else "")) H
theorem wo:gK X (binaryOp .Mult) nz:=by
 intro pins s σ H x y v u Q I rx ry h;obtain ⟨z,b,rfl,rfl,q⟩:=h;obtain ⟨t,rfl⟩:=rx;obtain ⟨t2,rfl⟩:=ry;cases b with
 | false=>
   refine PySem.P.mul_str_none (n:=0) (by decide) (by decide) ?_;rw [vT];exact ⟨.str "",H,I.tok _,⟨_,rfl⟩,q⟩
 | true=>
   refine PySem.P.mul_str (n:=1) (by decide) (λ _ h=>by simp at h) (λ _ h=>by simp at h) ?_;rw [if_neg (by decide),if_pos (by rfl)];exact ⟨.str z,H,I,⟨_,rfl⟩,q⟩
theorem uH (ha:PE X a ta) (hb:PE X b tb):PE X (.BinOp a .Mult b pos) (tO nz ta tb):=uy wo ha hb
def uL (K:Frag):List V->Hp->VK->Prop:=λ vs H Q=> ∃(a D:Addr) (y:V) (cv:Value) (b:Bool),vs=[.ref a,y]/\(∀u,aQ y u->u=cv)/\H a=some (iE (.ref D) a)/\PySem.W.ExcC K D/\LK K (.ref D) cv=some b/\Q (.bl b) H
theorem ck (K:Frag) (hK:X.K=K:=by rfl):bd X (.builtin "isinstance") (uL K):=by subst hK;intro pins s σ H xs us Q I r h;obtain ⟨a,D,y,cv,b,rfl,hy,ha,F,hb,q⟩:=h;obtain ⟨u,v,rfl,ru,rv⟩:=r.two;cases ru;cases hy v rv;have hx:bD X.prog X.w H s.heap a (.ext λ h=> ∃o vs,h.get? a=some o/\o.cls=.ref D/\o.data=.fields vs/\vs[2]? =some .none):=I.hok a _ ha;obtain ⟨⟨o,vs,p1,p2,_⟩,_,_⟩:=hx;exact LN (PySem.W.kitx_exc F) I.kIn ⟨o,p1,p2⟩ hb (λ z=>nomatch z) λ tk=>⟨.bl b,H,I.tok tk,rfl,q⟩
end
section
variable {K:Frag}{σ:St}{H:Hp}{Q:VK}{ta tb te:TE}{z:Str}{b:Bool}
theorem qV (ha:Ev ta σ H (.str z)) (hb:Ev tb σ H (.int (if b=true then 1 else 0))):Ev (tO nz ta tb) σ H (.str (if b=true then z else "")):=λ Q q=>ha _ (hb _ ⟨z,b,rfl,rfl,q⟩)
theorem qW {t:TA}{a D:Addr}{y:V}{cv:Value}(h:Av t σ H [.ref a,y]) (hy:∀u,aQ y u->u=cv) (ha:H a=some (iE (.ref D) a)) (F:PySem.W.ExcC K D) (hb:LK K (.ref D) cv=some b):Ev (cB (uL K) t) σ H (.bl b):=λ Q q=>h _ ⟨a,D,y,cv,b,rfl,hy,ha,F,hb,q⟩
end
def wS (b:Bool) (z:Str):Str:=if b=true then z else ""
def qh (D:Addr) (wd:Str):Sp:=λ vs H Q _=> ∃a,vs=[.ref a]/\H a=some (iE (.ref D) a)/\∀H',ah H H'->Q (.str wd) H'
end L2
namespace L2
open PySem PySem.Spec PyProof.Rows
section
variable {K:Frag}{tl te:TE}{tt:TT}{src:List (Option Nat)}{σ rest:St}{H:Hp}{Q:VK}
end
section
variable {X:Cx}{a b:Expr}{ta tb:TE}
end
end L2
namespace L2
open PySem PySem.Spec PyProof.Rows
section
variable {X:Cx}{tg:Expr}
end
section
variable {prog:Program}{w:World}{A:Around}{E:Value->Shared->Prop}{s:Shared}{R:Result->Shared->Prop}
variable {I:Addr}{fp wr:List Addr}{G:Array GenState->Array GenState->Prop}{n:Nat}{P:Nat->Value->Prop}{St:Nat->Shared->Prop}
end
end L2
namespace L2
open PySem PySem.Spec PyProof.Rows
section
variable {X:Cx}{e:Expr}{te:TE}
end
end L2
namespace L2
open PySem PySem.Spec PyProof.Rows
section
variable {X:Cx}{o e:Expr}{to te:TE}
end
end L2
namespace L2
open PySem PySem.Spec PyProof.Rows
end L2
namespace L2
open PySem PySem.Spec PyProof.Rows
end L2
namespace L2
open PySem PySem.Spec PyProof.Rows
theorem B1 {K:Frag}{H:Hp}{d:Addr}{ws:List Str}{x:Str}{Q:VK}(W:eC K H d ws) (q:Q (.bl (!decide (x∈ws))) H):aY K .NotIn (.str x) (.ref d) H Q:=by show pe K true (.str x) (.ref d) H Q;refine ⟨d,ws.map V.str,rfl,W,rfl,kS ws,?_⟩;rw [if_pos rfl,nY];exact q
end L2
namespace L2
open PySem PySem.Spec PyProof.Rows
section
variable {K:Frag}{σ:St}{H:Hp}{n n' m m':Nat}{ta tb te:TE}
end
end L2
namespace L2
open PySem PySem.Spec PyProof.Rows
theorem qU {K:Frag}{σ:St}{H:Hp}{ta tb:TE}{z:Str}{p:Addr}{ws:List Str}(ha:Ev ta σ H (.str z)) (hb:Ev tb σ H (.ref p)) (h:eC K H p ws):Ev (eO K .NotIn ta tb) σ H (.bl (!decide (z∈ws))):=λ Q q=>ha _ (hb _ (B1 h q))
end L2
namespace L2
open PySem PySem.Spec PyProof.Rows
end L2
namespace L2
open PySem PySem.Spec PyProof.Rows
end L2
namespace L2
open PySem PySem.Spec PyProof.Rows
end L2
namespace L2
open PySem PySem.Spec PyProof.Rows
end L2
namespace L2
open PySem PySem.Spec PyProof.Rows
section
variable {prog:Program}{w:World}{A:Around}{E:Value->Shared->Prop}{s:Shared}
end
section
variable {X:Cx}{pos:Pos}
end
end L2
namespace L2
open PySem PySem.Spec PyProof.Rows
end L2
namespace L2
open PySem PySem.Spec PyProof.Rows
section
variable {prog:Program}{w:World}{A:Around}{E:Value->Shared->Prop}{s:Shared}
variable {K:Type} [DecidableEq K] {knd:KeyKind prog w K}
end
end L2
namespace L2
open PySem PySem.Spec PyProof.Rows
def Hv (K:Frag) (a b:Addr):It:=
 ⟨λ i H=> ∃xs ys x y,aJ K H a xs/\aJ K H b ys/\xs[i]? =some x/\ys[i]? =some y,λ i H v H'=> ∃t x y,v=.ref t/\H t=none/\(∀xs,aJ K H a xs->xs[i]? =some x)/\(∀ys,aJ K H b ys->ys[i]? =some y)/\H'=upd H t (.tup [x,y]),λ i H=> ∃xs ys,aJ K H a xs/\aJ K H b ys/\xs.length<=i⟩
def ZLt (z TI TO i1 i2 l1 l2:Addr) (i:Nat) (h:Heap):Prop:=IsZip h z TI TO .none/\IsPair h TI (.ref i1) (.ref i2)/\(∃a b,IsPair h TO a b)/\h.IsListIter i1 l1 i/\h.IsListIter i2 l2 i
theorem rA {P:Program}{w:World}{K:Frag}{elts:List Expr}{k0:Nat}{pos:Pos}(z TI TO i1 i2 l1 l2:Addr) (ap:ZipApart z TI TO i1 i2 l1 l2):vG P w K (.Tuple elts k0 pos) (Hv K l1 l2) [z,TI,TO,i1,i2] z (ZLt z TI TO i1 i2 l1 l2) where
 mem:=by simp
 obj:=λ i h st b hb=>by
  obtain ⟨hz,hTI,⟨a,a',hTO⟩,⟨o1,q1,c1,d1⟩,o2,q2,c2,d2⟩:=st;simp only [Jy,JC,or_false] at hb
  rcases hb with rfl | rfl | rfl | rfl | rfl
  ·exact ⟨_,hz,λ v e=>by cases e⟩
  ·exact ⟨_,hTI,λ v e=>by cases e⟩
  ·exact ⟨_,hTO,λ v e=>by cases e⟩
  ·exact ⟨o1,q1,λ v e=>by rw [d1] at e;cases e⟩
  ·exact ⟨o2,q2,λ v e=>by rw [d2] at e;cases e⟩
 keep:=λ i h h' st k=>by obtain ⟨hz,hTI,⟨a,a',hTO⟩,⟨o1,q1,r1⟩,o2,q2,r2⟩:=st;exact ⟨k z (by simp) _ hz,k TI (by simp) _ hTI,⟨a,a',k TO (by simp) _ hTO⟩,⟨o1,k i1 (by simp) _ q1,r1⟩,o2,k i2 (by simp) _ q2,r2⟩
 item:=by
  intro X hP hw hK hc i pins s σ H E I hf st hg;subst hP hw hK;obtain ⟨hz,hTI,⟨a,a',hTO⟩,h1,h2⟩:=st;obtain ⟨xs,ys,x,y,hx,hy,ex,ey⟩:=hg;obtain ⟨its1,rv1,p1,_⟩:=I.list hx;obtain ⟨its2,rv2,p2,_⟩:=I.list hy;obtain ⟨u1,hu1,ru1⟩:=rv1.get ex;obtain ⟨u2,hu2,ru2⟩:=rv2.get ey;refine wpAny_pyNext_zip_item ap hz hTI hTO h1 h2 p1.isList p2.isList (x:=u1) (y:=u2) (by simpa using hu1) (by simpa using hu2) λ g1 z1 o1 s1 s2 t1 sz k1=>?_;refine ⟨_,rfl,wpAny_letOwnedTupleGo_zip z1 λ g2 z2 sb=>?_⟩;have lz:z<s.heap.objs.size:=Heap.lt_size hz;have kk:∀b ob,b∉[z,TI,TO,i1,i2]->s.heap.get? b=some ob->g2.get? b=some ob:=λ b ob hb q=>by simp only [Jy,JC,or_false,not_or] at hb;exact (sb.2 b hb.1).trans (k1 b ob hb.1 hb.2.2.1 hb.2.2.2.1 hb.2.2.2.2 q)
  have t2:g2.get? s.heap.objs.size=some {cls:=.type "tuple",data:=.seq #[u1,u2]}:=(sb.2 _ (Lb lz)).trans t1;have new:bD X.prog X.w (upd H s.heap.objs.size (.tup [x,y])) g2 s.heap.objs.size (.tup [x,y]):=
   ⟨by show 2<=sizeLine;decide,[u1,u2],.cons ru1 (.cons ru2 .nil),⟨_,t2,rfl,_,rfl⟩⟩
  have I2:=I.turned_laidN (t':=s.toks) kk hf (KW _) new;obtain ⟨q1,w1,r1⟩:=s1;obtain ⟨q2,w2,r2⟩:=s2;have kTI:g1.get? TI=_:=k1 _ _ ap.TIz ap.TITO ap.TIi1 ap.TIi2 hTI;refine ⟨.ref s.heap.objs.size,_,I2,rfl,⟨_,x,y,rfl,I.hok.fresh (KW _),λ xs' h'=>by rw [I.list_inj h' hx];exact ex,λ ys' h'=>by rw [I.list_inj h' hy];exact ey,rfl⟩,⟨z2,(sb.2 _ ap.TIz).trans kTI,⟨_,_,(sb.2 _ ap.TOz).trans o1⟩,⟨q1,(sb.2 _ ap.i1z).trans w1,r1⟩,q2,(sb.2 _ ap.i2z).trans w2,r2⟩,λ b hb=>?_⟩;have hlt:b<s.heap.objs.size:=by
   simp only [Jy,JC,or_false] at hb
   rcases hb with rfl | rfl | rfl | rfl | rfl
   ·exact lz
   ·exact Heap.lt_size hTI
   ·exact Heap.lt_size hTO
   ·obtain ⟨o,ho,_⟩:=h1;exact Heap.lt_size ho
   ·obtain ⟨o,ho,_⟩:=h2;exact Heap.lt_size ho
  rw [au (KY hlt)];exact (hf b hb).1
 done:=by
   intro X hP hw hK hc i pins s σ H E I hf st hg;subst hP hw hK;obtain ⟨hz,hTI,⟨a,a',hTO⟩,h1,h2⟩:=st;obtain ⟨xs,ys,hx,hy,hl⟩:=hg;obtain ⟨its1,rv1,p1,_⟩:=I.list hx;obtain ⟨its2,rv2,p2,_⟩:=I.list hy;have rl:=rv1.length;exact wpAny_pyNext_zip_end (I.ok.hd hc) ap hz hTI hTO h1 h2 p1.isList p2.isList (.inl (by simp;omega)) λ h' hx=>⟨rfl,I.turnedN (t':=s.toks) (λ b ob hb q=>by
    simp only [Jy,JC,or_false,not_or] at hb;exact hx b ob hb.1 hb.2.2.1 hb.2.2.2.1 hb.2.2.2.2 q) hf⟩
 self:=λ A i s Q E st h=>wpAny_pyIter_zip st.1 h
theorem zap {n l1 l2:Nat}(h1:l1<n) (h2:l2<n):ZipApart (n+4) (n+2) (n+3) n (n+1) l1 l2:=by
 constructor<;>(intro z;have z':(_:Nat)=(_:Nat):=z;omega)
section
variable {X:Cx}{p pos pos2:Pos}{a b:Expr}{elts:List Expr}{k0:Nat}{ta tb:TE}
def Bb (K:Frag) (R:It->Hp->Prop) (vs:List V) (H:Hp):Prop:= ∃l1 l2 xs ys,vs=[.ref l1,.ref l2]/\aJ K H l1 xs/\aJ K H l2 ys/\R (Hv K l1 l2) H
def qN (K:Frag) (t:TA):TI:=λ σ H R=>t σ H λ vs H1=>Bb K R vs H1
theorem GS (K:Frag) {t:TA}(hm:X.mg "zip"=none) (hA:PA X [a,b] t) (hg:Gl X "zip":=by rfl) (hs:starEach [a,b] X.env=(false,eval a X.env)::starEach [b] X.env:=by rfl) (hp:(backTo pos (starEach [b] X.env)).any (·.1)=false:=by rfl) (hK:X.K=K:=by rfl):PI X (.Tuple elts k0 pos2) (.Call (.Name "zip" p) [a,b] [] pos) (qN K t):=by
 subst hK;intro pins s σ H R I h;refine Call_ (iQ I hg hm CD (PyProof.Rows.callWith_type1 (cb (hA pos pins s σ H (λ vs H1=>Bb X.K R vs H1) I h) λ us s1 ⟨vs,H1,I1,r1,q1⟩=>?_) hs hp) (by decide) (by decide));obtain ⟨l1,l2,xs,ys,rfl,hx,hy,q1⟩:=q1;obtain ⟨u1,u2,rfl,e1,e2⟩:=tE r1;cases e1;cases e2;obtain ⟨its1,rv1,p1,_⟩:=I1.list hx;obtain ⟨its2,rv2,p2,_⟩:=I1.list hy;refine call_zip_2 p1.isList p2.isList λ h' q2 q3 q4 q5 q6 q7 hk=>?_;have I2:aD X pins σ H1 {s1 with heap:=h'}:=I1.kept (t':=s1.toks) hk;have b1:l1<s1.heap.objs.size:=by obtain ⟨o,ho,_⟩:=p1.isList;exact Heap.lt_size ho
 have b2:l2<s1.heap.objs.size:=by obtain ⟨o,ho,_⟩:=p2.isList;exact Heap.lt_size ho
 refine wpAny_pyIter_zip q2 ⟨s1.heap.objs.size+4,[s1.heap.objs.size+4,s1.heap.objs.size+2,s1.heap.objs.size+3,s1.heap.objs.size,s1.heap.objs.size+1],_,_,H1,rfl,I2,rA _ _ _ _ _ l1 l2 (zap b1 b2),⟨q2,q3,⟨_,_,q4⟩,q5,q6⟩,λ b hb=>?_,q1⟩;have hb2:s1.heap.objs.size<=b:=by
  simp only [Jy,JC,or_false] at hb
  rcases hb with rfl | rfl | rfl | rfl | rfl
  ·exact Le _ _
  ·exact Le _ _
  ·exact Le _ _
  ·exact KW _
  ·exact Le _ _
 exact I1.fpOk hb2 (I1.hok.fresh hb2)
theorem uV {K:Frag}{t:TA}{g:TG}{tb:TS}{D:cQ}{σ:St}{H:Hp}{l1 l2:Addr}{xs ys:List V}(ht:Av t σ H [.ref l1,.ref l2]) (h1:aJ K H l1 xs) (h2:aJ K H l2 ys) (hl:xs.length<=ys.length) (Pv:Nat->St->Hp->Prop) (h0:Pv 0 σ H)
  (hk:∀i σ H,Pv i σ H->aJ K H l1 xs/\aJ K H l2 ys)
  (hs:∀i x y t σ H,xs[i]? =some x->ys[i]? =some y->H t=none->Pv i σ H->g (.ref t) σ (upd H t (.tup [x,y])) λ σ2 H2=>tb {D with nx:=Pv (i+1),ct:=Pv (i+1),bk:=D.nx} σ2 H2) (hd:∀σ H,Pv xs.length σ H->D.nx σ H):tFor (qN K t) g tb D σ H:=by
 refine ht _ ⟨l1,l2,xs,ys,rfl,h1,h2,?_⟩;refine ⟨λ i m σ H=>m=xs.length - i/\i<=xs.length/\Pv i σ H,⟨xs.length,by simp,K7 _,h0⟩,?_⟩;rintro i m σ H ⟨rfl,hi,p⟩;obtain ⟨q1,q2⟩:=hk i σ H p
 by_cases hlt:i<xs.length
 ·refine .inr ⟨⟨xs,ys,xs[i],ys[i],q1,q2,by simp [hlt],by simp⟩,Pv (i+1),λ σ' H' p'=>⟨xs.length - (i+1),by omega,rfl,hlt,p'⟩,λ x H' y=>?_⟩;obtain ⟨t,x,y,rfl,ht,hx,hy,rfl⟩:=y;exact hs i x y t σ _ (hx xs q1) (hy ys q2) ht p
 ·have e:i=xs.length:=by omega
  subst e;exact .inl ⟨⟨xs,ys,q1,q2,KW _⟩,hd σ H p⟩
end
section
variable {X:Cx}{a b:Expr}
end
end L2
namespace L2
open PySem PySem.Spec PyProof.Rows
end L2
local macro_rules | `(tactic| walk_at "rd")=> `(tactic| simp only [L2.bu,L2.jX,L2.dw,L2.tAsg,L2.gName,L2.iZ,L2.kA,L2.bP,L2.tC,L2.fU,L2.iB,L2.eO,L2.aY,L2.eqB,L2.gT,L2.dU,L2.oA,L2.wU,L2.q9,L2.wV,L2.CB,L2.qL,L2.tj,L2.Ce,L2.vy,L2.CV,L2.gU,L2.dB,L2.cB,L2.aK,L2.bK,L2.cSM,L2.Hs,L2.gw,L2.rC,L2.vS,L2.CU,L2.Gc,L2.iT,L2.re,L2.nR,L2.uD,L2.Gf,L2.nX,L2.swA,L2.upA,L2.cJR,KN,KP,Ko,KQ])
seal L2.PE L2.PT L2.PA L2.PS L2.mI L2.PG L2.CO L2.PI L2.PO L2.oE L2.PW L2.bd L2.Jq L2.gK L2.Jn L2.rf L2.tm
namespace L2
open PySem PySem.Spec PyProof.Rows
section
variable {P:Program}{w:World}{K:Frag}{mg:Str->Option Value}{base:Heap}
end
def lawAt (ns:List Int) (k:Int):Int:=((if 0<ns.length then ns.getD (k % (ns.length:Int)).toNat 0 else 0)+17*k)*48271 % 1000003
theorem iu (ns:List Int) (k:Int):0<=lawAt ns k/\lawAt ns k<1000003:=by unfold lawAt;exact ⟨Ll _ (by decide),Lm _ (by decide)⟩
theorem CH {α:Type}{xs:List α}{i:Int}(h0:0<=i) (h1:i<xs.length):∃v,atI xs i=some v/\xs[i.toNat]? =some v:=by
 have hx:xs[i.toNat]? =some (xs[i.toNat]'(by omega)):=JB (by omega);refine ⟨_,?_,hx⟩;have e:i=((i.toNat:Nat):Int):=by omega
 have:=bJ hx;rw [<-e] at this;exact this
def lr (K:Frag):Sp:=λ vs H Q _=> ∃a ns k,vs=[.ref a,.int k]/\aJ K H a (ns.map V.int)/\0<=k/\k<=1000/\Q (.int (lawAt ns k)) H
end L2
namespace K06
open PySem L2
def bI (i:Nat):Stmt:=PySem.Challenge.pw_playboard_k06_games.main.body.getD i (.Pass ⟨0,0,0,0⟩)
abbrev qw:Stmt:=bI 0
abbrev eI:Stmt:=eA (bI 5) 0
abbrev eG:Stmt:=bI 13
theorem m3:aH ["thing"] ["thing"] (am eG):=gr
abbrev dL:Stmt:=bI 14
theorem lv:aH ["thing"] ["thing"] (am dL):=gr
abbrev eH:Stmt:=bI 15
theorem m4:aH ["thing","least","most"] ["thing","least","most"] (am eH):=gr
abbrev fC:Stmt:=bI 24
theorem oW:aH ["thing","words"] ["thing","words"] (am fC):=gr
abbrev cL:Stmt:=bI 25
theorem jw:aH ["thing","many"] ["thing","many"] (am cL):=gr
abbrev di:Stmt:=bI 26
theorem jZ:aH ["thing","least","most"] ["thing","least","most"] (am di):=gr
abbrev fE:Stmt:=bI 27
theorem jx:aH ["sort","across","up","longest"] ["sort","across","up"] (am fE):=gr
abbrev fF:Stmt:=bI 28
theorem gX:aH ["thing","kinds","sort","aim"] ["thing","kinds"] (am fF):=gr
abbrev fG:Stmt:=bI 29
theorem oX:aH ["thing","firsts","seconds"] ["thing","firsts","seconds"] (am fG):=gr
abbrev cX:Stmt:=bI 30
theorem ly:aH ["thing","firsts","seconds"] ["thing","firsts","seconds"] (am cX):=gr
abbrev cS:Stmt:=bI 31
theorem i0:aH ["thing","kinds","firsts"] ["thing","kinds"] (am cS):=gr
abbrev fH:Stmt:=bI 32
theorem oY:aH ["thing","kinds"] ["thing","kinds"] (am fH):=gr
abbrev cY:Stmt:=bI 33
theorem lA:aH ["thing"] ["thing"] (am cY):=gr
abbrev cW:Stmt:=bI 34
theorem lx:aH ["thing","kinds"] ["thing","kinds"] (am cW):=gr
abbrev bM:Stmt:=eA (bI 36) 0
theorem fB:aH ["self","board","kinds","rules","turns","ends","stuck"] ["self","board","kinds","rules","turns","ends","stuck"] (am bM):=gr
abbrev bL:Stmt:=eA (bI 36) 1
theorem iJ:aH ["self","kind"] ["self","kind"] (am bL):=gr
abbrev cM:Stmt:=eA (bI 36) 2
theorem jy:aH ["self","kind"] ["self","kind"] (am cM):=gr
abbrev cZ:Stmt:=bI 39
theorem lB:aH ["thing","many"] ["thing","many"] (am cZ):=gr
abbrev bH:Stmt:=eA (bI 40) 0
theorem ij:aH ["self","wide","high","holes"] ["self","wide","high","holes"] (am bH):=gr
abbrev ja:Stmt:=eA (bI 40) 1
abbrev fW:Stmt:=eA (bI 40) 2
abbrev gO:Stmt:=eA (bI 40) 3
abbrev fX:Stmt:=eA (bI 40) 4
abbrev fI:Stmt:=bI 42
theorem gY:aH ["_law_script","_law_k","_law_cell"] ["_law_script","_law_k"] (am fI):=gr
abbrev ik:Stmt:=bI 43
abbrev dM:Stmt:=bI 44
theorem bo:aH ["_law_e","_law_word_here","_law_name","_law_fits"] ["_law_e"] (am dM):=gr
abbrev dN:Stmt:=bI 45
theorem lC:aH ["_law_cell"] ["_law_cell"] (am dN):=gr
abbrev dm:Stmt:=bI 46
theorem bS:aH ["_law_script","_law_k","_law_many","_law_count","_law_found","_law_j","_law_square"] ["_law_script","_law_k","_law_many"] (am dm):=gr
abbrev cD:Stmt:=bI 47
theorem cK:aH ["_law_script","_law_k","_law_cell","_law_letters","_law_step","_law_many"] ["_law_script","_law_k"] (am cD):=gr
abbrev dP:Stmt:=bI 48
theorem bF:aH ["_law_cell","_law_kinds_here","_law_sort","_law_far","_law_aim","_law_across","_law_up"] ["_law_cell","_law_kinds_here"] (am dP):=gr
abbrev cC:Stmt:=bI 49
theorem dC:aH ["_law_script","_law_k","_law_kinds_here","_law_cell","_law_many"] ["_law_script","_law_k","_law_kinds_here"] (am cC):=gr
abbrev cA:Stmt:=bI 50
theorem cJ:aH ["_law_script","_law_k","_law_kinds_here","_law_cell","_law_many","_law_others"] ["_law_script","_law_k","_law_kinds_here"] (am cA):=gr
abbrev dQ:Stmt:=bI 51
theorem dh:aH ["_law_script","_law_k","_law_kinds_here","_law_cell","_law_found","_law_j","_law_one"] ["_law_script","_law_k","_law_kinds_here"] (am dQ):=gr
abbrev cr:Stmt:=bI 52
theorem aN:aH ["_law_cell","_law_parts_here","_law_kinds_here","_law_rules_here","_law_turns_here","_law_ends_here","_law_at_here","_law_place","_law_letters","_law_stranger","_law_bad","_law_own","_law_wrong","_law_twice","_law_worse","_law_more","_law_seven","_law_some"] ["_law_cell","_law_parts_here"] (am cr):=gr
abbrev dO:Stmt:=bI 53
theorem ii:aH ["_law_board","_law_parts_here","_law_stuck","_law_e"] ["_law_board","_law_parts_here","_law_stuck"] (am dO):=gr
abbrev cj:Stmt:=bI 54
theorem gi:aH ["_law_turns_here","_law_kind","_law_found"] ["_law_turns_here","_law_kind"] (am cj):=gr
abbrev dk:Stmt:=bI 55
theorem j0:aH ["_law_found","_law_due"] ["_law_found","_law_due"] (am dk):=gr
abbrev cf:Stmt:=bI 56
theorem bR:aH ["_law_game","_law_board","_law_parts_here","_law_stuck","_law_kept","_law_bit","_law_sides","_law_found","_law_due","_law_kind","_law_ahead"] ["_law_game","_law_board","_law_parts_here","_law_stuck","_law_kept","_law_bit"] (am cf):=gr
abbrev dj:Stmt:=bI 57
theorem dD:aH ["_law_script","_law_k","_law_kinds_here","_law_rules_here","_law_turns_here"] ["_law_script","_law_k"] (am dj):=gr
abbrev gj:Stmt:=bI 58
theorem cH:aH ["_law_script","_law_wide","_law_high","_law_board","_law_parts_here","_law_cell","_law_stuck","_law_word_here","_law_handed","_law_game","_law_part","_law_others","_law_other","_law_kept","_law_turn","_law_bit"] ["_law_script"] (am gj):=gr
structure Txt (mg:Str->Option Value) (aS aA aE aW:Addr):Prop where
 isinstance:mg "isinstance"=none
 int:mg "int"=none
 bool:mg "bool"=none
 str:mg "str"=none
 list:mg "list"=none
 tuple:mg "tuple"=none
 len:mg "len"=none
 range:mg "range"=none
 all:mg "all"=none
 any:mg "any"=none
 set:mg "set"=none
 sorted:mg "sorted"=none
 min:mg "min"=none
 dict:mg "dict"=none
 zip:mg "zip"=none
 enumerate:mg "enumerate"=none
 ValueError:mg "ValueError"=none
 MOST_PAIRS:∃u,mg "MOST_PAIRS"=some u/\aQ (.int 6) u
 MOST_KINDS:∃u,mg "MOST_KINDS"=some u/\aQ (.int 6) u
 MOST_RULES:∃u,mg "MOST_RULES"=some u/\aQ (.int 24) u
 LONGEST:∃u,mg "LONGEST"=some u/\aQ (.int 8) u
 SORTS:∃u,mg "SORTS"=some u/\aQ (.ref aS) u
 AIMS:∃u,mg "AIMS"=some u/\aQ (.ref aA) u
 END_WORDS:∃u,mg "END_WORDS"=some u/\aQ (.ref aE) u
 STUCK_WORDS:∃u,mg "STUCK_WORDS"=some u/\aQ (.ref aW) u
section
variable {P:Program}{w:World}{K:Frag}{mg:Str->Option Value}{base:Heap}{aS aA aE aW:Addr}
theorem nH {f:Addr}{fd:FuncData}(F:ce K "is_whole" "is_whole" eG f fd) (T:Txt mg aS aA aE aW):bz P w K mg base eP 1 f fd ["thing"] jt:=by
 refine F.ok m3 (λ vs H Q E h=>?_) (λ cdv A outer s H vs Q E hr h=>?_)
 ·obtain ⟨v,rfl,_⟩:=h;rfl
 ·obtain ⟨v,rfl,t,q⟩:=h;refine ⟨_,(ar (aF (dZ (Bg .int T.isinstance T.int mE (cv 0)) (eM (vp (Bg .bool T.isinstance T.bool wY (cv 0))))))),?_⟩;show dw _ _ [some v] H;refine bf (cw (kU (aa rfl) t) (λ _=>uY (kU (aa rfl) t))) ?_;rw [tu t];exact q
theorem nJ {f:Addr}{fd:FuncData}(F:ce K "is_among" "is_among" eH f fd) (T:Txt mg aS aA aE aW) (C:RG0 P w K mg base):bz P w K mg base eP 2 f fd ["thing","least","most"] jv:=by
 refine F.ok m4 (λ vs H Q E h=>?_) (λ cdv A outer s H vs Q E hr h=>?_)
 ·obtain ⟨v,a,b,rfl,_⟩:=h;rfl
 ·obtain ⟨v,a,b,rfl,t,q⟩:=h;have hu:=cI hr;refine ⟨_,(ar (aF (dZ (aL C.is_whole hr (aq (cv 0) pa_nil)) (eM (pF K hu (cv 1) (cv 0) (cv 2)))))),?_⟩;show dw _ _ [some v,oJ a,oJ b] H;have hc:=aP (sp:=jt) (σ:=[some v,oJ a,oJ b]) (H:=H) (ac (aa (n:=0) rfl) ay) (λ Q q=>⟨v,rfl,t,q⟩);cases v with
  | int i=>exact bf (cw hc (λ _=>qY (aa rfl) (aa rfl) (λ _=>aa rfl))) q
  | _=>exact bf (cw (b:=false) hc (λ h=>by cases h)) q
theorem pq {f:Addr}{fd:FuncData}(F:ce K "is_word" "is_word" fC f fd) (T:Txt mg aS aA aE aW):bz P w K mg base eP 1 f fd ["thing","words"] (gE K):=by
 refine F.ok oW (λ vs H Q E h=>?_) (λ cdv A outer s H vs Q E hr h=>?_)
 ·obtain ⟨v,d,ws,rfl,_⟩:=h;rfl
 ·obtain ⟨v,d,ws,rfl,t,hw,q⟩:=h;have hu:=cI hr;refine ⟨_,(ar (aF (dZ (Bg .str T.isinstance T.str vA (cv 0)) (eM (hG K hu (cv 0) (cv 1)))))),?_⟩;show dw _ _ [some v,oR d] H;have hs:=kU (T:=.str) (te:=bP 0) (σ:=[some v,oR d]) (aa rfl) t;rw [tS t] at hs;cases v with
  | str z=>exact bf (cw hs (λ _=>vc (aa rfl) (aa rfl) hw)) q
  | _=>exact bf (cw (b:=false) hs (λ h=>by cases h)) q
theorem jB {f:Addr}{fd:FuncData}(F:ce K "is_tuple_of" "is_tuple_of" cL f fd) (T:Txt mg aS aA aE aW):bz P w K mg base eP 1 f fd ["thing","many"] iI:=by
 refine F.ok jw (λ vs H Q E h=>?_) (λ cdv A outer s H vs Q E hr h=>?_)
 ·obtain ⟨v,n,rfl,_⟩:=h;rfl
 ·obtain ⟨v,n,rfl,t,q⟩:=h;have hu:=cI hr;refine ⟨_,(ar (aF (dZ (Bg .tuple T.isinstance T.tuple gz (cv 0)) (eM (hG K hu (kB (gM K) ci T.len (aq (cv 0) pa_nil)) (cv 1)))))),?_⟩;show dw _ _ [some v,oJ n] H;have hs:=kU (T:=.tuple) (te:=bP 0) (σ:=[some v,oJ n]) (aa rfl) t;rw [Bs t] at hs;unfold tupB at q;cases e:tupOf H v with
  | none=>
    rw [e] at hs q;exact bf (cw (b:=false) hs (λ h=>by cases h)) q
  | some xs=>
    rw [e] at hs q;obtain ⟨a,rfl,ha⟩:=fN e;exact bf (cw hs (λ _=>gv (dY (aa rfl) (.inr (eE.of ha))) (aa rfl))) q
theorem j3 {f:Addr}{fd:FuncData}(F:ce K "is_list_of" "is_list_of" di f fd) (T:Txt mg aS aA aE aW):bz P w K mg base eP 1 f fd ["thing","least","most"] lq:=by
 refine F.ok jZ (λ vs H Q E h=>?_) (λ cdv A outer s H vs Q E hr h=>?_)
 ·obtain ⟨v,a,b,rfl,_⟩:=h;rfl
 ·obtain ⟨v,a,b,rfl,t,q⟩:=h;have hu:=cI hr;refine ⟨_,(ar (aF (dZ (Bg .list T.isinstance T.list eB (cv 0)) (eM (pF K hu (cv 1) (kB (gM K) ci T.len (aq (cv 0) pa_nil)) (cv 2)))))),?_⟩;show dw _ _ [some v,oJ a,oJ b] H;have hs:=kU (T:=.list) (te:=bP 0) (σ:=[some v,oJ a,oJ b]) (aa rfl) t;rw [B3 t] at hs;unfold iP at q;cases e:lstOf H v with
  | none=>
    rw [e] at hs q;exact bf (cw (b:=false) hs (λ h=>by cases h)) q
  | some xs=>
    rw [e] at hs q;obtain ⟨d,rfl,hd⟩:=dA e;exact bf (cw hs (λ _=>qY (aa rfl) (dY (aa rfl) (.inl (aJ.of hd))) (λ _=>aa rfl))) q
theorem pr {f:Addr}{fd:FuncData}(F:ce K "is_step" "is_step" fE f fd) (T:Txt mg aS aA aE aW) (C:RG1 P w K mg base):bz P w K mg base eP 3 f fd ["sort","across","up"] qi:=by
 refine F.ok jx (λ vs H Q E h=>?_) (λ cdv A outer s H vs Q E hr h=>?_)
 ·obtain ⟨so,x,y,rfl,_⟩:=h;rfl
 ·obtain ⟨so,x,y,rfl,tx,ty,q⟩:=h;have hu:=cI hr;refine ⟨_,(af (az (i:=3) jx.nd rfl (Or.inl rfl) (nB (bN K hu (cv 0) aI) ag ag))
   (af (bn (PW.pt (io (bq (bh (aL C.is_among hr (aq (cv 1) (aq (pT (cv 3)) (aq (cv 3) pa_nil)))))) (fQ (bq (bh (aL C.is_among hr (aq (cv 2) (aq (pT (cv 3)) (aq (cv 3) pa_nil))))))))) (ar (aF db)) aG)
   (ar (aF (Hn (hG K hu (cv 1) ag) (eM (hG K hu (cv 2) ag))))))),?_⟩
  show bu _ _ _ [oT so,some x,some y,none] H;refine bx (v:=.int (limS so)) (λ Q q=>?_) ?_
  ·refine CZ (Hh (bW (hU (aa rfl) ao)) (λ _=>ao) (λ _=>ao)) ?_;unfold limS at q
   by_cases h:so="leap"
   ·rw [if_pos h] at q;rw [decide_eq_true h];exact q
   ·rw [if_neg h] at q;rw [decide_eq_false h];exact q
  unfold gN at q;generalize limS so=l at q ⊢;refine bQ (jp (cF (bW (aP (ac (aa rfl) (ac (pK (aa rfl)) (ac (aa rfl) ay))) (λ Q q=>⟨x, -l,l,rfl,tx,q⟩)))) (λ _=>cF (bW (aP (ac (aa rfl) (ac (pK (aa rfl)) (ac (aa rfl) ay))) (λ Q q=>⟨y, -l,l,rfl,ty,q⟩))))) (λ h=>?_) (λ h=>?_)
  ·refine bf ao ?_;have e:(amongB x (-l) l&&amongB y (-l) l&& !(decide (x=.int 0)&&decide (y=.int 0)))=false:=by cases h1:amongB x (-l) l<;>cases h2:amongB y (-l) l<;>simp_all
   rw [e] at q;exact q
  ·have h1:amongB x (-l) l=true:=by cases h1:amongB x (-l) l<;>simp_all
   have h2:amongB y (-l) l=true:=by cases h2:amongB y (-l) l<;>simp_all
   cases x with
   | int i=>
     cases y with
     | int j=>
       refine bf (Hg (Bj (aa rfl) ao) (λ _=>Bj (aa rfl) ao)) ?_;rw [h1,h2] at q;have ei:∀k:Int,decide (V.int k=V.int 0)=decide (k=0):=λ k=>by
        by_cases e:k=0
        ·rw [decide_eq_true e,decide_eq_true (congrArg V.int e)]
        ·rw [decide_eq_false e,decide_eq_false (λ z=>e (by injection z))]
       rw [ei,ei] at q;have e:(true&&true&& !(decide (i=0)&&decide (j=0)))=(!decide (i=0)|| !decide (j=0)):=by cases decide (i=0)<;>cases decide (j=0)<;>rfl
       rw [e] at q;exact q
     | _=>cases h2
   | _=>cases h1
theorem pw {f:Addr}{fd:FuncData}(F:ce K "is_pair" "is_pair" fG f fd) (T:Txt mg aS aA aE aW) (C:RG2 P w K mg base):bz P w K mg base eP 2 f fd ["thing","firsts","seconds"] (qm K):=by
 refine F.ok oX (λ vs H Q E h=>?_) (λ cdv A outer s H vs Q E hr h=>?_)
 ·obtain ⟨v,d,e,A,B,rfl,_⟩:=h;rfl
 ·obtain ⟨v,d,e,A,B,rfl,t,hA,hB,q⟩:=h;have hu:=cI hr;refine ⟨_,(ar (aF (dZ (aL C.is_tuple_of hr (aq (cv 0) (aq ag pa_nil))) (dZ (aL C.is_word hr (aq (cO K (cv 0) ag) (aq (cv 1) pa_nil))) (eM (aL C.is_word hr (aq (cO K (cv 0) ag) (aq (cv 2) pa_nil)))))))),?_⟩;show dw _ _ [some v,oR d,oR e] H;have hc:=aP (sp:=iI) (σ:=[some v,oR d,oR e]) (H:=H) (x:=.bl (tupB H v 2)) (ac (aa (n:=0) rfl) (ac (ao (x:=.int 2)) ay)) (λ Q q=>⟨v,2,rfl,t.thg,q⟩);unfold cp at q;unfold tupB at hc;cases e1:tupOf H v with
  | none=>
    rw [e1] at hc q;exact bf (cw (b:=false) hc (λ h=>by cases h)) q
  | some xs=>
    rw [e1] at hc q;obtain ⟨a,rfl,ha⟩:=fN e1;have tx:=t.2 xs (.inl e1)
    by_cases hl:(xs.length:Int)=2
    ·match xs,hl,e1,ha,tx,q,hc with
     | [x,y],_,e1,ha,tx,q,hc=>
       exact bf (cw hc (λ _=>cw (aP (ac (bg (aa rfl) ao (.inr (eE.of ha)) (bJ (j:=0) rfl)) (ac (aa rfl) ay)) (λ Q q=>⟨x,d,A,rfl,tx x (by simp),hA,q⟩))
        (λ _=>aP (ac (bg (aa rfl) ao (.inr (eE.of ha)) (bJ (j:=1) rfl)) (ac (aa rfl) ay)) (λ Q q=>⟨y,e,B,rfl,tx y (by simp),hB,q⟩)))) q
    ·have e2:nF xs A B=false:=by
      unfold nF;split
      ·exact absurd rfl hl
      ·rfl
     have hc2:Ev (gw iI (aK (bP 0) (aK (tC (.int 2)) bK))) [some (.ref a),some (.ref d),some (.ref e)] H (.bl (decide ((xs.length:Int)=2))):=hc;rw [decide_eq_false hl] at hc2;have q2:Q (.bl (nF xs A B)) H:=q;rw [e2] at q2;exact bf (cw (b:=false) hc2 (λ h=>by cases h)) q2
theorem pv {f:Addr}{fd:FuncData}(F:ce K "is_rule" "is_rule" fF f fd) (T:Txt mg aS aA aE aW) (hS:∀H,eC K H aS sortsL) (hA:∀H,eC K H aA aimsL) (C:RG3 P w K mg base):bz P w K mg base eP 4 f fd ["thing","kinds"] (qk K):=by
 refine F.ok gX (λ vs H Q E h=>?_) (λ cdv A outer s H vs Q E hr h=>?_)
 ·obtain ⟨v,d,ws,rfl,_⟩:=h;rfl
 ·obtain ⟨v,d,ws,rfl,t,hw,q⟩:=h;have hu:=cI hr;refine ⟨_,(af (bn (PW.pt (io (bq (bh (aL C.is_tuple_of hr (aq (cv 0) (aq ag pa_nil))))) (fQ (bq (bh (aL C.is_word hr (aq (cO K (cv 0) ag) (aq (cv 1) pa_nil)))))))) (ar (aF db)) aG)
   (af (az (i:=2) gX.nd rfl (Or.inl rfl) (cO K (cv 0) ag))
   (af (az (i:=3) gX.nd rfl (Or.inl rfl) (cO K (cv 0) ag))
   (af (bn (PW.pt (io (bq (bh (aL C.is_word hr (aq (cv 2) (aq (kg T.SORTS) pa_nil))))) (fQ (bq (bh (aL C.is_word hr (aq (cv 3) (aq (kg T.AIMS) pa_nil)))))))) (ar (aF db)) aG)
   (af (bn (PW.pt (uu (bN K hu (cv 2) aI) (qy (bN K hu (cv 3) aI)))) (ar (aF db)) aG)
   (ar (aF (aL C.is_step hr (aq (cv 2) (aq (cO K (cv 0) ag) (aq (cO K (cv 0) ag) pa_nil))))))))))),?_⟩
  show bu _ _ _ [some v,oR d,none,none] H;have rb:tupB H v 5=false->bV H v ws=false:=λ h=>by
   unfold tupB at h;unfold bV;cases e1:tupOf H v with
   | none=>rfl
   | some xs=>
     rw [e1] at h;have h:¬(xs.length:Int)=5:=of_decide_eq_false h;show gk xs ws=false;unfold gk;split
     ·exact absurd rfl h
     ·rfl
  cases hb0:tupB H v 5 with
  | false=>
    rw [rb hb0] at q;refine bQ (jp (b:=false) (cF (bW (aP (sp:=iI) (x:=.bl (tupB H v 5)) (ac (aa rfl) (ac ao ay)) (λ Q q=>⟨v,5,rfl,t.thg,q⟩)))) (λ h=>?_)) (λ _=>bf ao q) (λ h=>?_)
    ·rw [hb0] at h;cases h
    ·rw [hb0] at h;cases h
  | true=>
    obtain ⟨xs,e1,hl⟩:∃xs,tupOf H v=some xs/\(xs.length:Int)=5:=by
     unfold tupB at hb0;cases e1:tupOf H v with
     | none=>rw [e1] at hb0;cases hb0
     | some xs=>rw [e1] at hb0;exact ⟨xs,rfl,of_decide_eq_true hb0⟩
    unfold bV at q;rw [e1] at q;have q:Q (.bl (gk xs ws)) H:=q;obtain ⟨a,rfl,ha⟩:=fN e1;have tx:=t.2 xs (.inl e1)
    match xs,hl,e1,ha,tx,q with
    | [k,so,ai,x,y],_,e1,ha,tx,q=>
      have hq:eE K H a [k,so,ai,x,y]:=eE.of ha;have hb:tupB H (.ref a) 5=true:=by unfold tupB;rw [e1];rfl
      refine bQ (jp (cF (bW (aP (sp:=iI) (x:=.bl (tupB H (.ref a) 5)) (ac (aa rfl) (ac ao ay)) (λ Q q=>⟨.ref a,5,rfl,t.thg,q⟩)))) (λ _=>cF (bW (aP (sp:=gE K) (ac (bg (aa rfl) ao (.inr hq) (bJ (j:=0) rfl)) (ac (aa rfl) ay)) (λ Q q=>⟨k,d,ws,rfl,tx k (by simp),hw,q⟩))))) (λ h=>?_) (λ h=>?_)
      ·rw [hb] at h;have hk:wordB k ws=false:=by
        cases hk:wordB k ws
        ·rfl
        ·rw [hk] at h;cases h
       refine bf ao ?_;have e2:gk [k,so,ai,x,y] ws=false:=by
        unfold gk;split
        ·rename_i z;cases z;rw [hk];simp
        ·rfl
       rw [e2] at q;exact q
      ·rw [hb] at h;have hk:wordB k ws=true:=by
        cases hk:wordB k ws
        ·rw [hk] at h;cases h
        ·rfl
       refine bx (v:=so) (bg (aa rfl) ao (.inr hq) (bJ (j:=1) rfl)) ?_;refine bx (v:=ai) (bg (aa rfl) ao (.inr hq) (bJ (j:=2) rfl)) ?_;refine bQ (jp (cF (bW (aP (sp:=gE K) (ac (aa rfl) (ac ao ay)) (λ Q q=>⟨so,aS,sortsL,rfl,tx so (by simp),hS H,q⟩)))) (λ _=>cF (bW (aP (sp:=gE K) (ac (aa rfl) (ac ao ay)) (λ Q q=>⟨ai,aA,aimsL,rfl,tx ai (by simp),hA H,q⟩))))) (λ h=>?_) (λ h=>?_)
       ·refine bf ao ?_;have e2:gk [k,so,ai,x,y] ws=false:=by
         unfold gk;split
         ·rename_i k' so' ai' x' y' z;cases z;have h:(!decide (so'∈sortsL)|| !decide (ai'∈aimsL))=true:=h
          cases h1:decide (so'∈sortsL)<;>cases h2:decide (ai'∈aimsL)<;>simp_all
         ·rfl
        rw [e2] at q;exact q
       ·have h1:wordB so sortsL=true:=by cases h1:wordB so sortsL<;>simp_all
        have h2:wordB ai aimsL=true:=by cases h2:wordB ai aimsL<;>simp_all
        cases so with
        | str so=>
          cases ai with
          | str ai=>
            have h1:decide (so∈sortsL)=true:=h1;have h2:decide (ai∈aimsL)=true:=h2;have eR:gk [k,.str so,.str ai,x,y] ws=(!(decide (so="jump")&& !decide (ai="hit"))&&gN so x y):=by show (wordB k ws&&decide (so∈sortsL)&&decide (ai∈aimsL)&& !(decide (so="jump")&& !decide (ai="hit"))&&gN so x y)=_;rw [hk,h1,h2];simp
            rw [eR] at q;refine bQ (tK (bW (hU (aa rfl) ao)) (λ _=>bW (u7 (aa rfl) ao))) (λ h=>?_) (λ h=>?_)
            ·refine bf ao ?_;rw [h] at q;exact q
            ·rw [h] at q;exact e6 (ac (aa rfl) (ac (bg (aa rfl) ao (.inr hq) (bJ (j:=3) rfl)) (ac (bg (aa rfl) ao (.inr hq) (bJ (j:=4) rfl)) ay))) ⟨so,x,y,rfl,tx x (by simp),tx y (by simp),q⟩
          | _=>cases h2
        | _=>cases h1
theorem ma {f:Addr}{fd:FuncData}(F:ce K "are_pairs" "are_pairs" cX f fd) (T:Txt mg aS aA aE aW) (C:RG4 P w K mg base):bz P w K mg base eP 3 f fd ["thing","firsts","seconds"] (mT K):=by
 refine F.ok ly (λ vs H Q E h=>?_) (λ cdv A outer s H vs Q E hr h=>?_)
 ·obtain ⟨v,d,e,A,B,rfl,_⟩:=h;rfl
 ·obtain ⟨v,d,e,A,B,rfl,t,hA,hB,q⟩:=h;have hu:=cI hr;refine ⟨_,(ar (aF (dZ (aL C.is_list_of hr (aq (cv 0) (aq ag (aq (kg T.MOST_PAIRS) pa_nil)))) (eM (kB (wD K) mF T.all (aq (en (cn (N:=["part","firsts","seconds"]) (src:=[none,some 1,some 2]) (am cX) ["thing","firsts","seconds"]) (sA K (cv 0)) (λ _ _ _=>(bw (i:=0) ["part","firsts","seconds"])) (λ _ _ _=>cu) (λ _ _ _=>(aL C.is_pair hr (aq (cv 0) (aq (cv 1) (aq (cv 2) pa_nil)))))) pa_nil)))))),?_⟩;show dw _ _ [some v,oR d,oR e] H;refine vF (a:=iP H v 0 6) (aP (ac (aa rfl) (ac ao (ac ao ay))) (λ Q q=>⟨v,0,6,rfl,t.thg,q⟩)) (λ h=>?_) (λ h=>?_)
  ·unfold iP at h;cases e1:lstOf H v with
   | none=>rw [e1] at h;cases h
   | some xs=>
     rw [e1] at h;have h:0<=(xs.length:Int)/\(xs.length:Int)<=6:=of_decide_eq_true h;obtain ⟨a,rfl,ha⟩:=dA e1;have tx:=t.2 xs (.inr e1);refine dG (d:=a) (xs:=xs) (rest:=[oR d,oR e]) (aa rfl) (aJ.of ha) (by rw [sizeLine_eq];omega) rfl (λ _=>true) (λ x=>.bl (cp H x A B)) (λ x hx=>eU) (λ x hx _=>?_) (λ p hp=>?_)
     ·exact aP (ac (aa rfl) (ac (aa rfl) (ac (aa rfl) ay))) (λ Q q=>⟨x,d,e,A,B,rfl,tx x hx,hA,hB,q⟩)
     ·refine ⟨xs.map (λ x=>cp H x A B),?_,?_⟩
      ·have e2:(xs.filter λ _=>true).map (λ x=>V.bl (cp H x A B))=(xs.map (λ x=>cp H x A B)).map V.bl:=by rw [JV.mpr (λ _ _=>rfl),JH];rfl
       rw [<-e2];exact aJ.of ae
      ·have k:=q _ ((ah.refl H).upd (o:=.lst ((xs.filter λ _=>true).map (λ x=>V.bl (cp H x A B)))) hp);unfold pairsB at k;rw [e1] at k;have e3:(decide (xs.length<=6)&&xs.all (λ x=>cp H x A B))=(xs.map (λ x=>cp H x A B)).all id:=by rw [decide_eq_true (by omega:xs.length<=6),KC];rfl
       have k:Q (.bl (decide (xs.length<=6)&&xs.all (λ x=>cp H x A B))) _:=k;rw [e3] at k;exact k
  ·have k:=q H (ah.refl H);have e2:pairsB H v A B=false:=by
    unfold pairsB;unfold iP at h;cases e1:lstOf H v with
    | none=>rfl
    | some xs=>
      rw [e1] at h;have h:¬(0<=(xs.length:Int)/\(xs.length:Int)<=6):=of_decide_eq_false h;show (decide (xs.length<=6)&&_)=false;rw [decide_eq_false (by omega:¬xs.length<=6)];rfl
   rw [e2] at k;exact k
theorem px {f:Addr}{fd:FuncData}(F:ce K "is_ends" "is_ends" fH f fd) (T:Txt mg aS aA aE aW) (hE:∀H,eC K H aE endsL) (C:RG5 P w K mg base):bz P w K mg base eP 4 f fd ["thing","kinds"] (qr K):=by
 refine F.ok oY (λ vs H Q E h=>?_) (λ cdv A outer s H vs Q E hr h=>?_)
 ·obtain ⟨v,d,ws,rfl,_⟩:=h;rfl
 ·obtain ⟨v,d,ws,rfl,t,hw,q⟩:=h;refine ⟨_,(ar (aF (aL C.are_pairs hr (aq (cv 0) (aq (kg T.END_WORDS) (aq (cv 1) pa_nil)))))),?_⟩;show dw _ _ [some v,oR d] H;exact e6 (ac (aa rfl) (ac ao (ac (aa rfl) ay))) ⟨v,aE,d,endsL,ws,rfl,t,hE H,hw,q⟩
theorem nI {f:Addr}{fd:FuncData}(F:ce K "is_turns" "is_turns" cS f fd) (T:Txt mg aS aA aE aW) (C:RG5 P w K mg base):bz P w K mg base eP 4 f fd ["thing","kinds"] (mQ K):=by
 refine F.ok i0 (λ vs H Q E h=>?_) (λ cdv A outer s H vs Q E hr h=>?_)
 ·obtain ⟨v,d,ws,rfl,_⟩:=h;rfl
 ·obtain ⟨v,d,ws,rfl,t,hw,q⟩:=h;have hu:=cI hr;refine ⟨_,(af (bn (bq (bh (aL C.are_pairs hr (aq (cv 0) (aq (cv 1) (aq (cv 1) pa_nil)))))) (ar (aF db)) aG)
   (af (az (i:=2) i0.nd rfl (Or.inr rfl) (en (cn (N:=["pair"]) (src:=[none]) (am cS) ["thing","kinds","firsts"]) (sA K (cv 0)) (λ _ _ _=>(bw (i:=0) ["pair"])) (λ _ _ _=>cu) (λ _ _ _=>(cO K (cv 0) ag))))
   (af (bn (bh (kB (Jc K) CF T.any (aq (en (cn (N:=["pair","firsts"]) (src:=[none,some 2]) (am cS) ["thing","kinds","firsts"]) (sA K (cv 0)) (λ _ _ _=>(bw (i:=0) ["pair","firsts"])) (λ _ _ _=>cu) (λ _ _ _=>(hG K hu (cO K (cv 0) ag) (cv 1)))) pa_nil))) (ar (aF db)) aG)
   (ar (aF (hG K hu (kB jT ci T.len (aq (nV (Bf K hr) pZ T.set (aq (cv 2) pa_nil)) pa_nil)) (kB (gM K) ci T.len (aq (cv 2) pa_nil)))))))),?_⟩
  show bu _ _ _ [some v,oR d,none] H;refine bX (λ b H'=>b=(!pairsB H v ws ws)/\ah H H') (λ Q q=>cy (ac (aa rfl) (ac (aa rfl) (ac (aa rfl) ay))) ⟨v,d,d,ws,ws,rfl,t,hw,hw,λ H' s=>q _ _ ⟨rfl,s⟩⟩) (λ H1 h=>?_) (λ H1 h=>?_)
  ·obtain ⟨hb,s1⟩:=h;have k:=q H1 s1;have e0:pairsB H v ws ws=false:=by
    cases z:pairsB H v ws ws
    ·rfl
    ·rw [z] at hb;cases hb
   unfold turnsB at k;rw [e0] at k;exact bf ao k
  ·obtain ⟨hb,s1⟩:=h;have e0:pairsB H v ws ws=true:=by
    cases z:pairsB H v ws ws
    ·rw [z] at hb;cases hb
    ·rfl
   unfold turnsB at q;rw [e0] at q;obtain ⟨xs,e1,l6,hp⟩:=rX e0;rw [e1] at q;have q:∀H',ah H H'->Q (.bl (!(xs.any λ x=>decide (df H x∈xs.map (bE H)))&&decide ((xs.map (bE H)).Nodup))) H':=q;obtain ⟨a,rfl,ha⟩:=dA e1;have ha1:=s1 _ _ ha;refine bj (λ u H'=> ∃fq,u=.ref fq/\H' fq=some (.lst ((xs.map (bE H)).map V.str))/\ah H1 H') (λ Q q=>?_) ?_
   ·refine dG (d:=a) (xs:=xs) (rest:=[]) (aa rfl) (aJ.of ha1) (by rw [sizeLine_eq];omega) rfl (λ _=>true) (λ x=>.str (bE H x)) (λ x hx=>eU) (λ x hx _=>?_) (λ p hp'=>?_)
    ·obtain ⟨c,f1,f2,rfl,hc⟩:=hp x hx;have e:bE H (.ref c)=f1:=by simp only [bE,tupOf,hc]
     rw [e];exact bg (aa rfl) ao (.inr (eE.of (s1 _ _ hc))) (bJ (j:=0) rfl)
    ·have e:(xs.filter λ _=>true).map (λ x=>V.str (bE H x))=(xs.map (bE H)).map V.str:=by rw [JV.mpr (λ _ _=>rfl),JH];rfl
     rw [e];exact q _ _ ⟨p,rfl,ae,(ah.refl H1).upd hp'⟩
   rintro _ H2 ⟨fq,rfl,hf,s2⟩;have ha2:=s2 _ _ ha1;refine bX (λ b H'=>b=(xs.any λ x=>decide (df H x∈xs.map (bE H)))/\ah H2 H') (λ Q q=>?_) (λ H3 h=>?_) (λ H3 h=>?_)
   ·refine dG (d:=a) (xs:=xs) (rest:=[oR fq]) (aa rfl) (aJ.of ha2) (by rw [sizeLine_eq];omega) rfl (λ _=>true) (λ x=>.bl (decide (df H x∈xs.map (bE H)))) (λ x hx=>eU) (λ x hx _=>?_) (λ p hp'=>?_)
    ·obtain ⟨c,f1,f2,rfl,hc⟩:=hp x hx;have e:df H (.ref c)=f2:=by simp only [df,tupOf,hc]
     rw [e];exact vc (bg (aa rfl) ao (.inr (eE.of (s2 _ _ (s1 _ _ hc)))) (bJ (j:=1) rfl)) (aa rfl) (.inl (aJ.of hf))
    ·refine ⟨xs.map (λ x=>decide (df H x∈xs.map (bE H))),?_,?_⟩
     ·have e2:(xs.filter λ _=>true).map (λ x=>V.bl (decide (df H x∈xs.map (bE H))))=(xs.map (λ x=>decide (df H x∈xs.map (bE H)))).map V.bl:=by rw [JV.mpr (λ _ _=>rfl),JH];rfl
      rw [<-e2];exact aJ.of ae
     ·have e3:(xs.map (λ x=>decide (df H x∈xs.map (bE H)))).any id=xs.any λ x=>decide (df H x∈xs.map (bE H)):=by rw [KA];rfl
      rw [e3];exact q _ _ ⟨rfl,(ah.refl H2).upd hp'⟩
   ·have k:=q H3 ((s1.trans s2).trans h.2);rw [<-h.1] at k;exact bf ao k
   ·have s03:=(s1.trans s2).trans h.2;show dw _ _ [oR a,oR d,oR fq] H3;have hf3:=h.2 _ _ hf;refine vo (nP (ss:=xs.map (bE H)) (aa rfl) (aJ.of hf3) (by rw [Jx];omega) (λ H4 s4=>?_));refine CZ (dY (aa rfl) (.inl (aJ.of (s4 _ _ hf3)))) ?_;have k:=q H4 (s03.trans s4);rw [<-h.1] at k;have e4:decide ((((iX (xs.map (bE H))).length:Nat):Int)=((((xs.map (bE H)).map V.str).length:Nat):Int))=decide ((xs.map (bE H)).Nodup):=by
     rw [Jx (f:=V.str)]
     by_cases hn:(xs.map (bE H)).Nodup
     ·rw [decide_eq_true hn,decide_eq_true (by rw [(gC _).mpr hn])]
     ·rw [decide_eq_false hn,decide_eq_false (λ z=>hn ((gC _).mp (by omega)))]
    show Q (.bl (decide ((((iX (xs.map (bE H))).length:Nat):Int)=((((xs.map (bE H)).map V.str).length:Nat):Int)))) H4;rw [e4];exact k
theorem l8 {f:Addr}{fd:FuncData}(F:ce K "is_letter" "is_letter" dL f fd) (T:Txt mg aS aA aE aW):bz P w K mg base eP 1 f fd ["thing"] kE:=by
 refine F.ok lv (λ vs H Q E h=>?_) (λ cdv A outer s H vs Q E hr h=>?_)
 ·obtain ⟨v,rfl,_⟩:=h;rfl
 ·obtain ⟨v,rfl,t,q⟩:=h;have hu:=cI hr;refine ⟨_,(ar (aF (dZ (Bg .str T.isinstance T.str vA (cv 0)) (dZ (hG K hu (kB (gM K) ci T.len (aq (cv 0) pa_nil)) ag) (eM (pF K hu aI (cv 0) aI)))))),?_⟩;show dw _ _ [some v] H;have hs:=kU (T:=.str) (te:=bP 0) (σ:=[some v]) (aa rfl) t;rw [tS t] at hs;cases v with
  | str z=>
    refine bf (cw hs (λ _=>cw (gv (wM (aa rfl) (KZ (show z.length<=1000 from t) (by decide))) ao) (λ _=>wN ao (aa rfl) ao))) ?_;rw [AW,Ge];have e:(true&&(decide ((z.length:Int)=1)&&(!decide (z.cps.toList<[97])&& !decide ([122]<z.cps.toList))))=letB (.str z):=by
     rw [fO]
     match e:z.cps.toList with
     | [c]=>
       simp only [letB,e,B2];rw [Ls];simp
     | []=>simp only [letB,e];rfl
     | _::_::r=>
       simp only [letB,e];rw [decide_eq_false (by simp only [JK];omega)];rfl
    have q2:=q;rw [<-e] at q2;exact q2
  | _=>exact bf (cw (b:=false) hs (λ h=>by cases h)) q
theorem md {f:Addr}{fd:FuncData}(F:ce K "are_kinds" "are_kinds" cY f fd) (T:Txt mg aS aA aE aW) (C:Ju P w K mg base):bz P w K mg base eP 2 f fd ["thing"] mV:=by
 refine F.ok lA (λ vs H Q E h=>?_) (λ cdv A outer s H vs Q E hr h=>?_)
 ·obtain ⟨v,rfl,_⟩:=h;rfl
 ·obtain ⟨v,rfl,t,q⟩:=h;have hu:=cI hr;refine ⟨_,(af (bn (PW.pt (io (bq (bh (aL C.is_list_of hr (aq (cv 0) (aq ag (aq (kg T.MOST_KINDS) pa_nil)))))) (fQ (bq (bh (kB (wD K) mF T.all (aq (en (cn (N:=["part"]) (src:=[none]) (am cY) ["thing"]) (sA K (cv 0)) (λ _ _ _=>(bw (i:=0) ["part"])) (λ _ _ _=>cu) (λ _ _ _=>(aL C.is_letter hr (aq (cv 0) pa_nil)))) pa_nil))))))) (ar (aF db)) aG)
   (ar (aF (hG K hu (kB jT ci T.len (aq (nV (Bf K hr) pZ T.set (aq (cv 0) pa_nil)) pa_nil)) (kB (gM K) ci T.len (aq (cv 0) pa_nil)))))),?_⟩
  show bu _ _ _ [some v] H;have eL:Ev (gw lq (aK (bP 0) (aK (tC (.int 1)) (aK (tC (.int 6)) bK)))) [some v] H (.bl (iP H v 1 6)):=aP (ac (aa rfl) (ac ao (ac ao ay))) (λ Q q=>⟨v,1,6,rfl,t.thg,q⟩);unfold kindsB at q;cases e1:lstOf H v with
  | none=>
    have hb:iP H v 1 6=false:=by unfold iP;rw [e1]
    rw [hb] at eL;rw [e1] at q;refine bQ (b:=true) (λ Q q=>cF (bW eL) _ (jf q)) (λ _=>bf ao (q H (ah.refl H))) (λ h=>by cases h)
  | some xs=>
    rw [e1] at q;have q:∀H',ah H H'->Q (.bl (decide (1<=xs.length/\xs.length<=6)&&xs.all letB&&decide ((xs.map dJ).Nodup))) H':=q;obtain ⟨a,rfl,ha⟩:=dA e1;have tx:=t.2 xs (.inr e1);have hb:iP H (.ref a) 1 6=decide (1<=xs.length/\xs.length<=6):=by unfold iP;rw [e1];show decide ((1:Int)<=xs.length/\(xs.length:Int)<=6)=_;rw [decide_eq_decide];omega
    rw [hb] at eL
    by_cases hl:1<=xs.length/\xs.length<=6
    ·rw [decide_eq_true hl] at eL q;refine bX (λ b H'=>b=(!xs.all letB)/\ah H H') (λ Q q=>?_) (λ H1 h=>?_) (λ H1 h=>?_)
     ·refine Ga (cF (bW eL)) ?_;refine dG (d:=a) (xs:=xs) (rest:=[]) (aa rfl) (aJ.of ha) (by rw [sizeLine_eq];omega) rfl (λ _=>true) (λ x=>.bl (letB x)) (λ x hx=>eU) (λ x hx _=>?_) (λ p hp=>?_)
      ·exact aP (ac (aa rfl) ay) (λ Q q=>⟨x,rfl,tx x hx,q⟩)
      ·refine ⟨xs.map letB,?_,?_⟩
       ·have e2:(xs.filter λ _=>true).map (λ x=>V.bl (letB x))=(xs.map letB).map V.bl:=by rw [JV.mpr (λ _ _=>rfl),JH];rfl
        rw [<-e2];exact aJ.of ae
       ·have e3:(xs.map letB).all id=xs.all letB:=by rw [KC];rfl
        rw [e3];exact q _ _ ⟨rfl,(ah.refl H).upd hp⟩
     ·have k:=q H1 h.2;have e0:xs.all letB=false:=by
       cases z:xs.all letB
       ·rfl
       ·rw [z] at h;cases h.1
      rw [e0] at k;exact bf ao k
     ·obtain ⟨hq,s1⟩:=h;have e0:xs.all letB=true:=by
       cases z:xs.all letB
       ·rw [z] at hq;cases hq
       ·rfl
      have e5:xs=(xs.map dJ).map V.str:=by
       rw [JH];have:∀x∈xs,x=(V.str∘dJ) x:=λ x hx=>by obtain ⟨c,rfl,_⟩:=jI (JL.mp e0 x hx);rfl
       exact (List.map_id xs).symm.trans (J2 this)
      have ha1:=s1 _ _ ha;rw [e5] at ha1;show dw _ _ [oR a] H1;refine vo (nP (ss:=xs.map dJ) (aa rfl) (aJ.of ha1) (by rw [Jx];omega) (λ H4 s4=>?_));refine CZ (dY (aa rfl) (.inl (aJ.of (s4 _ _ ha1)))) ?_;have k:=q H4 (s1.trans s4);rw [e0] at k;have e4:decide ((((iX (xs.map dJ)).length:Nat):Int)=((((xs.map dJ).map V.str).length:Nat):Int))=decide ((xs.map dJ).Nodup):=by
       rw [Jx (f:=V.str)]
       by_cases hn:(xs.map dJ).Nodup
       ·rw [decide_eq_true hn,decide_eq_true (by rw [(gC _).mpr hn])]
       ·rw [decide_eq_false hn,decide_eq_false (λ z=>hn ((gC _).mp (by omega)))]
      show Q (.bl (decide ((((iX (xs.map dJ)).length:Nat):Int)=((((xs.map dJ).map V.str).length:Nat):Int)))) H4;rw [e4];exact k
    ·rw [decide_eq_false hl] at eL q;exact bQ (b:=true) (λ Q q=>cF (bW eL) _ (jf q)) (λ _=>bf ao (q H (ah.refl H))) (λ h=>by cases h)
theorem l9 {f:Addr}{fd:FuncData}(F:ce K "are_rules" "are_rules" cW f fd) (T:Txt mg aS aA aE aW) (C:Ju P w K mg base):bz P w K mg base eP 5 f fd ["thing","kinds"] (mS K):=by
 refine F.ok lx (λ vs H Q E h=>?_) (λ cdv A outer s H vs Q E hr h=>?_)
 ·obtain ⟨v,d,ws,rfl,_⟩:=h;rfl
 ·obtain ⟨v,d,ws,rfl,t,hw,q⟩:=h;have hu:=cI hr;refine ⟨_,(ar (aF (dZ (aL C.is_list_of hr (aq (cv 0) (aq ag (aq (kg T.MOST_RULES) pa_nil)))) (eM (kB (wD K) mF T.all (aq (en (cn (N:=["part","kinds"]) (src:=[none,some 1]) (am cW) ["thing","kinds"]) (sA K (cv 0)) (λ _ _ _=>(bw (i:=0) ["part","kinds"])) (λ _ _ _=>cu) (λ _ _ _=>(aL C.is_rule hr (aq (cv 0) (aq (cv 1) pa_nil))))) pa_nil)))))),?_⟩;show dw _ _ [some v,oR d] H;refine vF (a:=iP H v 0 24) (aP (ac (aa rfl) (ac ao (ac ao ay))) (λ Q q=>⟨v,0,24,rfl,t.thg,q⟩)) (λ h=>?_) (λ h=>?_)
  ·unfold iP at h;cases e1:lstOf H v with
   | none=>rw [e1] at h;cases h
   | some xs=>
     rw [e1] at h;have h:0<=(xs.length:Int)/\(xs.length:Int)<=24:=of_decide_eq_true h;obtain ⟨a,rfl,ha⟩:=dA e1;have tx:=t.2 xs (.inr e1);refine dG (d:=a) (xs:=xs) (rest:=[oR d]) (aa rfl) (aJ.of ha) (by rw [sizeLine_eq];omega) rfl (λ _=>true) (λ x=>.bl (bV H x ws)) (λ x hx=>eU) (λ x hx _=>?_) (λ p hp=>?_)
     ·exact aP (ac (aa rfl) (ac (aa rfl) ay)) (λ Q q=>⟨x,d,ws,rfl,tx x hx,hw,q⟩)
     ·refine ⟨xs.map (λ x=>bV H x ws),?_,?_⟩
      ·have e2:(xs.filter λ _=>true).map (λ x=>V.bl (bV H x ws))=(xs.map (λ x=>bV H x ws)).map V.bl:=by rw [JV.mpr (λ _ _=>rfl),JH];rfl
       rw [<-e2];exact aJ.of ae
      ·have k:=q _ ((ah.refl H).upd (o:=.lst ((xs.filter λ _=>true).map (λ x=>V.bl (bV H x ws)))) hp);unfold rulesB at k;rw [e1] at k;have e3:(decide (xs.length<=24)&&xs.all (λ x=>bV H x ws))=(xs.map (λ x=>bV H x ws)).all id:=by rw [decide_eq_true (by omega:xs.length<=24),KC];rfl
       have k:Q (.bl (decide (xs.length<=24)&&xs.all (λ x=>bV H x ws))) _:=k;rw [e3] at k;exact k
  ·have k:=q H (ah.refl H);have e2:rulesB H v ws=false:=by
    unfold rulesB;unfold iP at h;cases e1:lstOf H v with
    | none=>rfl
    | some xs=>
      rw [e1] at h;have h:¬(0<=(xs.length:Int)/\(xs.length:Int)<=24):=of_decide_eq_false h;show (decide (xs.length<=24)&&_)=false;rw [decide_eq_false (by omega:¬xs.length<=24)];rfl
   rw [e2] at k;exact k
end
end K06
local macro_rules | `(tactic| walk_at "rd")=> `(tactic| simp only [L2.bu,L2.jX,L2.dw,L2.tAsg,L2.gName,L2.iZ,L2.kA,L2.bP,L2.tC,L2.fU,L2.eO,L2.gT,L2.oA,L2.wU,L2.q9,L2.wV,L2.CB,L2.tj,L2.vy,L2.gU,L2.dB,L2.cB,L2.aK,L2.Jk,L2.bK,L2.cSM,L2.Hs,L2.gw,L2.rC,L2.vS,L2.CU,L2.Gc,L2.iT,L2.re,L2.uq,L2.uc,L2.uo,L2.ub,L2.v5,L2.v2,L2.v4,L2.v1,L2.lR,L2.lI,L2.lS,L2.lJ,L2.lO,L2.lF,L2.nu,L2.m6,L2.lN,L2.lE,L2.nw,L2.m8,L2.ny,L2.na,L2.lQ,L2.lH,L2.lP,L2.lG,L2.nv,L2.m7,L2.qx,L2.vZ,L2.ue,L2.kG,L2.um,L2.rQ,L2.ud,L2.kF,L2.uk,L2.m5,L2.lM,L2.gb,L2.uj,L2.nn,L2.im,L2.fY,L2.ug,L2.ng,L2.nq,L2.jz,L2.v3,L2.pd,L2.lL,L2.fZ,L2.ui,L2.nj,L2.lK,L2.je,L2.uh,L2.nh,L2.Gw,L2.BH,L2.ur,L2.Gj,L2.Gp,L2.BG,L2.Gq,L2.Go,L2.Gs,L2.Gu,L2.Gm,L2.Gn,L2.BA,L2.BB,L2.Gr,L2.Gk,L2.BE,L2.BF,L2.Gv,L2.IV,L2.BD,L2.IU,L2.rO,L2.uf,L2.rP,L2.rN,L2.r_b,KN,KP,Ko,KQ,Jx,Bool.not_true,Bool.not_false,Lw,if_true,if_false,decide_true,decide_false])
namespace K06
open PySem L2
def tU:Sp:=λ vs H Q _=> ∃c:Int,vs=[.int c]/\0<=c/\∀z:Int,1<=z->z<=8->Q (.int z) H
def mU (K:Frag):Sp:=λ vs H Q _=> ∃(a:Addr) (ns:List Int) (k m:Int),vs=[.ref a,.int k,.int m]/\aJ K H a (ns.map V.int)/\0<=k/\k<=900/\1<=m/\m<=64/\
 ∀(q:Addr) (hs:List Int) (H':Hp),H q=none->H' q=some (.lst (hs.map V.int))->(∀h∈hs,0<=h/\h<m)->hs.Nodup->(hs.length:Int)<m->ah H H'->Q (.ref q) H'
structure L1 (P:Program) (w:World) (K:Frag) (mg:Str->Option Value) (base:Heap):Prop where
 _law_at:fv P w K mg base "_law_at" ["_law_script","_law_k"] 1 (lr K)
section
variable {P:Program}{w:World}{K:Frag}{mg:Str->Option Value}{base:Heap}{aS aA aE aW:Addr}
theorem me {f:Addr}{fd:FuncData}(F:ce K "are_holes" "are_holes" cZ f fd) (T:Txt mg aS aA aE aW) (C:CA P w K mg base):bz P w K mg base eP 3 f fd ["thing","many"] mW:=by
 refine F.ok lB (λ vs H Q E h=>?_) (λ cdv A outer s H vs Q E hr h=>?_)
 ·obtain ⟨d,m,hs,rfl,_⟩:=h;rfl
 ·obtain ⟨d,m,hs,rfl,hd,good,nd,hl,m64,k⟩:=h;have hu:=cI hr;have hS:aJ K H d (hs.map V.int):=aJ.of hd;refine ⟨_,(af (bn (PW.pt (io (bq (bh (Bg .list T.isinstance T.list eB (cv 0)))) (fQ (bN K hu (kB (gM K) ci T.len (aq (cv 0) pa_nil)) (cv 1))))) (ar (aF db)) aG)
   (af (bn (bq (bh (kB (wD K) mF T.all (aq (en (cn (N:=["hole","many"]) (src:=[none,some 1]) (am cZ) ["thing","many"]) (sA K (cv 0)) (λ _ _ _=>(bw (i:=0) ["hole","many"])) (λ _ _ _=>cu) (λ _ _ _=>(aL C.is_among hr (aq (cv 0) (aq ag (aq (al (cv 1) ag) pa_nil)))))) pa_nil)))) (ar (aF db)) aG)
   (ar (aF (hG K hu (kB pX ci T.len (aq (nV (Ja K hr) pZ T.set (aq (cv 0) pa_nil)) pa_nil)) (kB (gM K) ci T.len (aq (cv 0) pa_nil))))))),?_⟩
  show bu _ _ _ [oR d,oJ m] H;refine bQ (jp (cF (bW (Cr (aa rfl) hd))) (λ _=>(bW (Hj (dY (aa rfl) (.inl hS)) (aa rfl))))) (λ h=>?_) (λ _=>?_)
  ·have h:decide (m<=((hs.map V.int).length:Int))=true:=h;have h:=of_decide_eq_true h;rw [Jx] at h;omega
  refine bX (λ b H'=>b=false/\ah H H') (λ Q q=>?_) (λ H' h=>by cases h.1) (λ H1 h=>?_)
  ·refine dG (d:=d) (xs:=hs.map V.int) (rest:=[oJ m]) (aa rfl) hS (by rw [Jx,sizeLine_eq];omega) rfl (λ _=>true) (λ _=>.bl true) (λ x hx=>eU) (λ x hx _=>?_) (λ d' hd'=>?_)
   ·obtain ⟨z,hz,rfl⟩:=Jz.mp hx;have g:=good z hz;refine aP (ac (aa rfl) (ac ao (ac (hJ (aa rfl) ao) ay))) (λ Q q=>⟨z,0,m - 1,rfl,?_⟩);rw [decide_eq_true (by omega:0<=z/\z<=m - 1)];exact q
   ·refine ⟨List.replicate hs.length true,?_,?_⟩
    ·have e:((hs.map V.int).filter λ _=>true).map (λ _=>V.bl true)=(List.replicate hs.length true).map V.bl:=by rw [JV.mpr (λ _ _=>rfl),JH,List.map_replicate];show hs.map (λ _=>V.bl true)=_;rw [List.map_const']
     rw [<-e];exact aJ.of ae
    ·have e:(List.replicate hs.length true).all id=true:=by simp
     rw [e];exact q _ _ ⟨rfl,(ah.refl H).upd hd'⟩
  obtain ⟨_,s1⟩:=h;have hS1:=s1.seq hS;simp only [dw,eO,cB,aK,bK];refine CZ (aa rfl) ?_;refine ⟨hs,hS1,by have:scanBound=4096:=rfl;omega,λ q hq=>?_⟩;refine ⟨_,_,ae,?_⟩;have s2:ah H1 (upd H1 q (.set (λ k=>(rp hs).any (· == k)) (rp hs).length)):=(ah.refl H1).upd hq;refine CZ (v:=.ref d) (aa rfl) ⟨_,.inl (s2.seq hS1),?_⟩;rw [Jx,(tH hs).mpr nd];show Q (.bl (decide ((hs.length:Int)=hs.length))) _;rw [decide_eq_true rfl];exact k _ (s1.trans ((ah.refl H1).upd hq))
theorem ke {f cB:Addr}{fd:FuncData}(F:ce K "__init__" "Board.__init__" bH f fd) (T:Txt mg aS aA aE aW) (B:tf K cB) (C:CB2 P w K mg base):bz P w K mg base eP 4 f fd ["self","wide","high","holes"] (qu K cB):=by
 refine F.ok ij (λ vs H Q E h=>?_) (λ cdv A outer s H vs Q E hr h=>?_)
 ·obtain ⟨p,d,dx,wi,hi,hs,rfl,_⟩:=h;rfl
 ·obtain ⟨p,d,dx,wi,hi,hs,rfl,hp,hd,w1,w8,h1,h8,good,nd,hl,k⟩:=h;have hu:=cI hr;have m1:wi*hi<=8*8:=Lo w8 h8 (by omega) (by omega);have m0:0<=wi*hi:=Int.mul_nonneg (by omega) (by omega);have npd:p≠d:=eF hp hd (by intro z;cases z);refine ⟨_,(af (bn (PW.pt (io (bq (bh (aL C.is_among hr (aq (cv 1) (aq ag (aq (kg T.LONGEST) pa_nil)))))) (fQ (bq (bh (aL C.is_among hr (aq (cv 2) (aq ag (aq (kg T.LONGEST) pa_nil))))))))) (ar eJ) aG)
   (af (bn (bq (bh (aL C.are_holes hr (aq (cv 3) (aq (al (cv 1) (cv 2)) pa_nil))))) (ar eJ) aG)
   (af (gR K (cv 0) (cv 1))
   (af (gR K (cv 0) (cv 2))
   (af (gR K (cv 0) (kB (GT K) sX T.sorted (aq (cv 3) pa_nil)))
   (ar (gR K (cv 0) (en (cn (N:=["square","self"]) (src:=[none,some 0]) (am bH) ["self","wide","high","holes"]) (B4 T.range (aq (al (cv 1) (cv 2)) pa_nil)) (λ _ _ _=>(bw (i:=0) ["square","self"])) (λ _ _ _=>cu) (λ _ _ _=>(hG K hu (cv 0) (gq K (cv 1)))))))))))),?_⟩
  show bu _ _ _ [oR p,oJ wi,oJ hi,oR d] H;refine bQ (jp (cF (bW (aP (ac (aa rfl) (ac ao (ac ao ay))) (λ Q q=>⟨wi,1,8,rfl,q⟩)))) (λ _=>(cF (bW (aP (ac (aa rfl) (ac ao (ac ao ay))) (λ Q q=>⟨hi,1,8,rfl,q⟩)))))) (λ h=>?_) (λ _=>?_)
  ·rw [decide_eq_true (⟨w1,w8⟩:1<=wi/\wi<=8),decide_eq_true (⟨h1,h8⟩:1<=hi/\hi<=8)] at h;cases h
  refine bX (λ b H'=>b=false/\ah H H') (λ Q q=>?_) (λ H' h=>by cases h.1) (λ H1 h=>?_)
  ·exact cy (ac (aa rfl) (ac (fT (aa rfl) (aa rfl) (.inl ⟨by omega,by omega⟩)) ay)) ⟨d,wi*hi,hs,rfl,hd,good,nd,hl,by omega,λ H' s=>q _ _ ⟨rfl,s⟩⟩
  obtain ⟨_,s1⟩:=h;refine oU (aa rfl) (aa rfl) (s1 _ _ hp) B.cl B.wide (by decide) ?_;have a1:=bG "wide" (V.int wi) [];have a2:=bG "high" (V.int hi) (putF "wide" (V.int wi) []);simp only [Kl] at a1;refine oU (aa rfl) (aa rfl) ae B.cl B.high (by omega) ?_;generalize hH3:upd (upd H1 p (HO.ins cB dx (putF "wide" (V.int wi) []))) p (HO.ins cB dx (putF "high" (V.int hi) (putF "wide" (V.int wi) [])))=H3;have p3:H3 p=some (.ins cB dx (putF "high" (V.int hi) (putF "wide" (V.int wi) []))):=hH3▸ae;have s3:SameBut p H H3:=hH3▸(s1.but.self.self);have d3:H3 d=some (.lst (hs.map V.int)):=s3 _ _ hd npd.symm;refine vU (λ v H'=> ∃(hs':List Int) (q:Addr),v=.ref q/\hs'.Perm hs/\hs'.Pairwise (·<=·)/\H3 q=none/\H'=upd H3 q (.lst (hs'.map V.int))) (λ Q q=>?_) p cB dx (λ H' Q q=>aa rfl Q q) B.cl B.holes ?_
  ·exact Ht (aa rfl) ⟨hs,aJ.of d3,by omega,λ hs' q' h1 h2 h3=>q _ _ ⟨hs',q',rfl,h1,h2,h3,rfl⟩⟩
  rintro _ _ ⟨hs',q,rfl,pm,sr,hq,rfl⟩;have npq:p≠q:=aj p3 hq;have a3:=bG "holes" (V.ref q) (putF "high" (V.int hi) (putF "wide" (V.int wi) []));refine ⟨_,(by rw [au npq];exact p3),(by omega),?_⟩;generalize hH4:upd (upd H3 q (HO.lst (hs'.map V.int))) p (HO.ins cB dx (putF "holes" (V.ref q) (putF "high" (V.int hi) (putF "wide" (V.int wi) []))))=H4;have p4:H4 p=some (.ins cB dx (putF "holes" (V.ref q) (putF "high" (V.int hi) (putF "wide" (V.int wi) [])))):=hH4▸ae;have q4:H4 q=some (.lst (hs'.map V.int)):=by rw [<-hH4,au npq.symm,ae]
  have hqH:H q=none:=by
   cases e:H q with
   | none=>rfl
   | some o=>
     have:=s3 q o e npq.symm;rw [hq] at this;cases this
  have s4:SameBut p H H4:=hH4▸((s3.new hqH).self);have f4:Fl K H4 p "holes" (.ref q):=⟨cB,dx,_,p4,B.cl,B.holes,by rw [aw,if_pos rfl]⟩;refine qg (λ v H'=> ∃(pf:Addr),v=.ref pf/\H4 pf=none/\H'=upd H4 pf (.lst ((qT wi hi hs').map V.bl))) (λ Q k'=>?_) p cB dx (λ H' Q q=>aa rfl Q q) B.cl B.firm ?_
  ·refine oo (n:=wi*hi) (rest:=[oR p]) (ac (fT (aa rfl) (aa rfl) (.inl ⟨by omega,by omega⟩)) ay) m0 (by rw [sizeLine_eq];omega) (by omega) rfl (λ _=>true) (λ x=>match x with | .int i=>.bl (!decide (i∈hs')) | _=>.non) (λ i hi=>eU) (λ i hi _=>?_) (λ d' hd'=>?_)
   ·exact (uZ (aa rfl) (cV (aa rfl) (f4)) (.inl (aJ.of q4)))
   ·refine k' _ _ ⟨d',rfl,hd',?_⟩;have e:(((List.range (wi*hi).toNat).map λ (i:Nat)=>V.int (0+(i:Int))).filter λ _=>true).map (λ x=>match x with | .int i=>V.bl (!decide (i∈hs')) | _=>.non)=(qT wi hi hs').map V.bl:=by rw [JV.mpr (λ _ _=>rfl),JH];unfold qT;rw [JH];refine J2 λ i _=>?_;show V.bl (!decide (0+(i:Int)∈hs'))=V.bl (!decide ((i:Int)∈hs'));rw [Lp]
    rw [e]
  rintro _ _ ⟨pf,rfl,hpf,rfl⟩;have npf:p≠pf:=aj p4 hpf;have nqf:q≠pf:=aj q4 hpf;have hfH:H pf=none:=by
   cases e:H pf with
   | none=>rfl
   | some o=>
     have:=s4 pf o e npf.symm;rw [hpf] at this;cases this
  refine ⟨_,(by rw [au npf];exact p4),(by omega),?_⟩;refine k hs' _ pm ⟨⟨dx,q,pf,ae,by rw [au npq.symm,au nqf];exact q4,by rw [au npf.symm,ae]⟩,w1,w8,h1,h8,λ h hh=>good h (pm.mem_iff.mp hh),sr,pm.nodup_iff.mpr nd⟩ ((s4.new hfH).self)
theorem pz {f:Addr}{fd:FuncData}(F:ce K "_law_at" "_law_at" fI f fd) (T:Txt mg aS aA aE aW):bz P w K mg base eP 1 f fd ["_law_script","_law_k"] (lr K):=by
 refine F.ok gY (λ vs H Q E h=>?_) (λ cdv A outer s H vs Q E hr h=>?_)
 ·obtain ⟨a,ns,k,rfl,_⟩:=h;rfl
 ·obtain ⟨a,ns,k,rfl,hS,h0,h1,q⟩:=h;have hu:=cI hr;refine ⟨_,(af (az (i:=2) gY.nd rfl (Or.inl rfl) ag)
   (af (bn (bN K hu (kB (gM K) ci T.len (aq (cv 0) pa_nil)) ag) (ar (az (i:=2) gY.nd rfl (Or.inl rfl) (cO K (cv 0) (al (cv 1) (kB (gM K) ci T.len (aq (cv 0) pa_nil)))))) aG)
   (ar (aF (al (al (al (cv 2) (al ag (cv 1))) ag) ag))))),?_⟩
  show bu _ _ _ [oR a,oJ k,none] H;unfold lawAt at q
  walk_at "rd"
  refine ⟨_,.inl hS,?_⟩;rw [Jx]
  by_cases hn:0<ns.length
  ·rw [decide_eq_true (by omega:(0:Int)<(ns.length:Int)),if_pos rfl];rw [if_pos hn] at q;refine ⟨_,.inl hS,?_⟩;rw [Jx];have hm0:=Ll k (by omega:(ns.length:Int)≠0);have hm1:=Lm k (by omega:(0:Int)<(ns.length:Int));obtain ⟨v,e1,e2⟩:=CH (xs:=ns.map V.int) hm0 (by rw [Jx];exact hm1);refine ⟨by omega,_,v,.inl hS,e1,?_⟩;have hv:v=.int (ns.getD (k % (ns.length:Int)).toNat 0):=by
    rw [JO] at e2;cases e:ns[(k % (ns.length:Int)).toNat]? with
    | none=>rw [e] at e2;cases e2
    | some z=>
      rw [e] at e2;rw [JM,e];exact (Option.some.inj e2).symm
   subst hv;exact ⟨.inl ⟨by decide,by decide⟩,.inr ⟨by decide,by decide⟩,by decide,q⟩
  ·rw [decide_eq_false (by omega:¬(0:Int)<(ns.length:Int))];rw [if_neg hn] at q;simp only [Lw,if_false];exact ⟨.inl ⟨by decide,by decide⟩,.inr ⟨by decide,by decide⟩,by decide,q⟩
theorem mh {f:Addr}{fd:FuncData}(F:ce K "_law_side" "_law_side" dN f fd) (T:Txt mg aS aA aE aW):bz P w K mg base eP 1 f fd ["_law_cell"] tU:=by
 refine F.ok lC (λ vs H Q E h=>?_) (λ cdv A outer s H vs Q E hr h=>?_)
 ·obtain ⟨v,rfl,_⟩:=h;rfl
 ·obtain ⟨c,rfl,c0,q⟩:=h;have hu:=cI hr;refine ⟨_,(af (bn (bN K hu (al (cv 0) ag) ag) (ar (aF (al ag (al (al (cv 0) ag) ag)))) aG)
   (ar (aF (al ag (al (al (cv 0) ag) ag))))),?_⟩
  show bu _ _ _ [oJ c] H;refine bQ (bW (gv (aX (aa rfl) ao (by decide)) ao)) (λ _=>?_) (λ _=>?_)
  ·exact bf (cg ao (aX (bA (aa rfl) ao ⟨by decide,by decide⟩) ao (by decide))) (q _ (by omega) (by omega))
  ·exact bf (cg ao (aX (bA (aa rfl) ao ⟨by decide,by decide⟩) ao (by decide))) (q _ (by omega) (by omega))
theorem ka {f:Addr}{fd:FuncData}(F:ce K "_law_holes" "_law_holes" dm f fd) (T:Txt mg aS aA aE aW) (C:L1 P w K mg base):bz P w K mg base eP 2 f fd ["_law_script","_law_k","_law_many"] (mU K):=by
 refine F.ok bS (λ vs H Q E h=>?_) (λ cdv A outer s H vs Q E hr h=>?_)
 ·obtain ⟨a,ns,k,m,rfl,_⟩:=h;rfl
 ·obtain ⟨a,ns,k,m,rfl,hS,k0,k1,m1,m64,q⟩:=h;have hu:=cI hr;have r0:=iu ns k;refine ⟨_,(af (az (i:=3) bS.nd rfl (Or.inl rfl) (al (aL C._law_at hr (aq (cv 0) (aq (cv 1) pa_nil))) ag))
   (af (bn (bN K hu (cv 3) ag) (ar (az (i:=3) bS.nd rfl (Or.inl rfl) ag)) aG)
   (af (bn (bN K hu (cv 3) ag) (ar (az (i:=3) bS.nd rfl (Or.inl rfl) (al (al (aL C._law_at hr (aq (cv 0) (aq (cv 1) pa_nil))) ag) (cv 2)))) aG)
   (af (az (i:=4) bS.nd rfl (Or.inl rfl) (aC pa_nil))
   (af (iK PassesOwn.never rfl (B4 T.range (aq (kB (lb rfl) vB T.min (aq (cv 3) (aq (al (cv 2) ag) pa_nil))) pa_nil)) (cE (i:=5) bS.nd rfl (Or.inl rfl)) (af (az (i:=6) bS.nd rfl (Or.inl rfl) (al (al (al (aL C._law_at hr (aq (cv 0) (aq (al (cv 1) ag) pa_nil))) (al (al ag (cv 5)) (cv 5))) (al ag (cv 5))) (cv 2)))
   (ar (bn (bN K hu (cv 6) (cv 4)) (ar (ip (jS (cv 4) (cv 6)))) aG))))
   (ar (aF (cv 4)))))))),?_⟩
  show bu _ _ _ [oR a,oJ k,oJ m,none,none,none,none] H;refine bx (aX (aP (ac (aa rfl) (ac (aa rfl) ay)) (λ Q q=>⟨a,ns,k,rfl,hS,k0,by omega,q⟩)) ao (by decide)) ?_;generalize hc0:lawAt ns k % 12=c0;have tail:∀c:Int,0<=c->c<1000003->∀(u:TS),u=u->True:=λ _ _ _ _ _=>True.intro;have hc00:0<=c0/\c0<12:=by omega
  refine eW (λ σ' H'=> ∃c:Int,0<=c/\c<1000003/\σ'=[oR a,oJ k,oJ m,oJ c,none,none,none]/\H'=H) (λ K' hK=>?_) ?_
  ·refine lm (bW (Hi (aa rfl) ao)) (λ _=>?_) (λ _=>hK _ _ ⟨c0,by omega,by omega,rfl,rfl⟩);exact gD ao (hK _ _ ⟨0,by omega,by omega,rfl,rfl⟩)
  rintro _ H1 ⟨c1,c10,c11,rfl,rfl⟩;refine eW (λ σ' H'=> ∃c:Int,0<=c/\c<1000003/\σ'=[oR a,oJ k,oJ m,oJ c,none,none,none]/\H'=H1) (λ K' hK=>?_) ?_
  ·refine lm (bW (gv (aa rfl) ao)) (λ _=>?_) (λ _=>hK _ _ ⟨c1,by omega,by omega,rfl,rfl⟩);refine gD (aX (bA (aP (ac (aa rfl) (ac (aa rfl) ay)) (λ Q q=>⟨a,ns,k,rfl,hS,k0,by omega,q⟩)) ao ⟨by decide,by decide⟩) (aa rfl) (by omega)) (hK _ _ ⟨_,?_,?_,rfl,rfl⟩)
   ·exact Ll _ (by omega)
   ·have:=Lm (lawAt ns k / 12) (by omega:0<m);omega
  rintro _ H2 ⟨c2,c20,c21,rfl,rfl⟩;refine oS λ q1 hq1=>?_;have sm:ah H2 (upd H2 q1 (.lst [])):=(ah.refl H2).upd hq1;refine eW (λ σ' H'=> ∃hs:List Int,(∃o5 o6,σ'=[oR a,oJ k,oJ m,oJ c2,oR q1,o5,o6])/\H' q1=some (.lst (hs.map V.int))/\(∀h∈hs,0<=h/\h<m)/\hs.Nodup/\(hs.length:Int)<m/\ah H2 H') (λ K' hK=>?_) ?_
  ·generalize hn:(if m - 1<c2 then m - 1 else c2)=n;have n0:0<=n/\n<=m - 1:=by
    by_cases h:m - 1<c2
    ·rw [if_pos h] at hn;omega
    ·rw [if_neg h] at hn;omega
   refine nZ n (λ Q q=>(ac (u9 (aa rfl) (hJ (aa rfl) ao)) ay) _ (by rw [hn];exact q)) (by omega) (by omega)
    (λ i σ' H'=> ∃hs:List Int,(∃o5 o6,σ'=[oR a,oJ k,oJ m,oJ c2,oR q1,o5,o6])/\H' q1=some (.lst (hs.map V.int))/\(∀h∈hs,0<=h/\h<m)/\hs.Nodup/\hs.length<=i/\ah H2 H')
    ⟨[],⟨_,_,rfl⟩,ae,(λ h hh=>by cases hh),List.nodup_nil,KW _,sm⟩ ?_ (λ σ' H' h=>?_)
   ·rintro i _ H3 hi ⟨hs,⟨o5,o6,rfl⟩,h3,gd,nd,hl,s3⟩;show bu _ _ _ [oR a,oJ k,oJ m,oJ c2,oR q1,oJ (0+(i:Int)),o6] H3;have hS3:=s3.seq hS;have i64:0<=0+(i:Int)/\0+(i:Int)<64:=by omega
    generalize 0+(i:Int)=j at i64 ⊢;refine bx (aX (cg (cg (aP (ac (aa rfl) (ac (cg (aa rfl) ao) ay)) (λ Q q=>⟨a,ns,k+1,rfl,hS3,by omega,by omega,q⟩)) (fT (fT ao (aa rfl) (.inl ⟨by decide,by decide⟩)) (aa rfl) (.inr ⟨by omega,by omega⟩))) (fT ao (aa rfl) (.inl ⟨by decide,by decide⟩))) (aa rfl) (by omega)) ?_;generalize hsq:(lawAt ns (k+1)+7*j*j+3*j) % m=sq;have sq0:0<=sq:=hsq▸Ll _ (by omega);have sq1:sq<m:=hsq▸Lm _ (by omega);refine lm (bW (uZ (aa rfl) (aa rfl) (.inl (aJ.of h3)))) (λ h=>?_) (λ _=>⟨hs,⟨_,_,rfl⟩,h3,gd,nd,by omega,s3⟩);have hni:¬sq∈hs:=λ z=>by rw [decide_eq_true z] at h;cases h
    refine ig (aa rfl) (aa rfl) h3 (by rw [Jx,sizeLine_eq];omega) ⟨hs++[sq],⟨_,_,rfl⟩,?_,λ h hh=>?_,?_,?_,s3.put hq1⟩
    ·rw [ae,JN];rfl
    ·rcases JG.mp hh with z | z
     ·exact gd h z
     ·rw [JE.mp z];exact ⟨sq0,sq1⟩
    ·rw [Kd];refine ⟨nd,by simp,λ x hx y hy e=>?_⟩;rw [JE.mp hy] at e;exact hni (e▸hx)
    ·rw [JD];show hs.length+1<=_;omega
   ·obtain ⟨hs,o,h3,gd,nd,hl,s3⟩:=h;exact hK _ _ ⟨hs,o,h3,gd,nd,by omega,s3⟩
  rintro _ H3 ⟨hs,⟨o5,o6,rfl⟩,h3,gd,nd,hl,s3⟩;show dw _ _ _ _;exact bf (aa rfl) (q q1 hs H3 hq1 h3 gd nd hl s3)
theorem mf {f D:Addr}{fd:FuncData}{b1 b2 b3 b4 b5 b6 b7 b8:Bool}(F:ce K "_law_word" "_law_word" dM f fd) (T:Txt mg aS aA aE aW) (L:AlC mg K D b1 b2 b3 b4 b5 b6 b7 b8 false):Jw P w K mg base 1 f fd ["_law_e"] (qh D ((((((((""++wS b1 "board")++wS b2 "game")++wS b3 "line")++wS b4 "place")++wS b5 "other")++wS b6 "other")++wS b7 "other")++wS b8 "other")):=by
 refine F.okH bo (λ vs H Q E h=>?_) (λ cdv A outer s H vs Q ea hh hv hr h=>?_)
 ·obtain ⟨a,rfl,_⟩:=h;rfl
 ·obtain ⟨a,rfl,ha,k⟩:=h;obtain rfl:a=ea:=by injection hv with z;injection z
  have hu:=hr.hu;obtain ⟨c1,m_BadBoard,i1⟩:=L.f1;obtain ⟨c2,m_BadGame,i2⟩:=L.f2;obtain ⟨c3,m_BadLine,i3⟩:=L.f3;obtain ⟨c4,m_BadPlace,i4⟩:=L.f4;obtain ⟨c5,m_NoMove,i5⟩:=L.f5;obtain ⟨c6,m_TooWide,i6⟩:=L.f6;obtain ⟨c7,m_NoWord,i7⟩:=L.f7;obtain ⟨c8,m_Over,i8⟩:=L.f8;obtain ⟨c9,m_NothingBack,i9⟩:=L.f9;refine ⟨_,(af (az (i:=1) bo.nd rfl (Or.inl rfl) aI)
   (af (lT PassesOwn.never hh (aC (aq (bU (aq aI (aq (kB (ck K) bi T.isinstance (aq (cv 0) (aq (kg (v:=.ref _) ⟨_,m_BadBoard,rfl⟩) pa_nil))) pa_nil))) (aq (bU (aq aI (aq (kB (ck K) bi T.isinstance (aq (cv 0) (aq (kg (v:=.ref _) ⟨_,m_BadGame,rfl⟩) pa_nil))) pa_nil))) pa_nil))) (qF (n:=2) hh (fJ (cE (i:=2) bo.nd rfl (Or.inl rfl)) (fJ (cE (i:=3) bo.nd rfl (Or.inl rfl)) lV))) (ar (az (i:=1) bo.nd rfl (Or.inl rfl) (al (cv 1) (uH (cv 2) (nV iS mE T.int (aq (cv 3) pa_nil)))))))
   (af (lT PassesOwn.never hh (aC (aq (bU (aq aI (aq (kB (ck K) bi T.isinstance (aq (cv 0) (aq (kg (v:=.ref _) ⟨_,m_BadLine,rfl⟩) pa_nil))) pa_nil))) (aq (bU (aq aI (aq (kB (ck K) bi T.isinstance (aq (cv 0) (aq (kg (v:=.ref _) ⟨_,m_BadPlace,rfl⟩) pa_nil))) pa_nil))) pa_nil))) (qF (n:=2) hh (fJ (cE (i:=2) bo.nd rfl (Or.inl rfl)) (fJ (cE (i:=3) bo.nd rfl (Or.inl rfl)) lV))) (ar (az (i:=1) bo.nd rfl (Or.inl rfl) (al (cv 1) (uH (cv 2) (nV iS mE T.int (aq (cv 3) pa_nil)))))))
   (af (lT PassesOwn.never hh (aC (aq (kB (ck K) bi T.isinstance (aq (cv 0) (aq (kg (v:=.ref _) ⟨_,m_NoMove,rfl⟩) pa_nil))) (aq (kB (ck K) bi T.isinstance (aq (cv 0) (aq (kg (v:=.ref _) ⟨_,m_TooWide,rfl⟩) pa_nil))) (aq (kB (ck K) bi T.isinstance (aq (cv 0) (aq (kg (v:=.ref _) ⟨_,m_NoWord,rfl⟩) pa_nil))) (aq (kB (ck K) bi T.isinstance (aq (cv 0) (aq (kg (v:=.ref _) ⟨_,m_Over,rfl⟩) pa_nil))) pa_nil))))) (cE (i:=3) bo.nd rfl (Or.inl rfl)) (ar (az (i:=1) bo.nd rfl (Or.inl rfl) (al (cv 1) (uH aI (nV iS mE T.int (aq (cv 3) pa_nil)))))))
   (af (bn (PW.pt (io (bh (kB (ck K) bi T.isinstance (aq (cv 0) (aq (kg (v:=.ref _) ⟨_,m_NothingBack,rfl⟩) pa_nil)))) (fQ (bq (bh (kB (ck K) bi T.isinstance (aq (cv 0) (aq (qG (v:=.ty "ValueError") rfl T.ValueError ko rfl) pa_nil)))))))) (ar (az (i:=1) bo.nd rfl (Or.inl rfl) (al (cv 1) aI))) aG)
   (ar (aF (cv 1)))))))),?_⟩
  show bu _ _ _ [oR a,none,none,none] H;have is:∀{σ:St} {H':Hp} {te:TE} {c:Addr} {b:Bool},ah H H'->Ev te σ H' (.ref a)->LK K (.ref D) (.ref c)=some b->Ev (cB (uL K) (aK te (aK (tC (.ref c)) bK))) σ H' (.bl b):=λ s e i=>qW (ac e (ac ao ay)) vX (s _ _ ha) L.x i;have s0:=ah.refl H;have lw:∀(b:Bool) (z:Str),(wS b z).length<=z.length:=λ b z=>by
   unfold wS;split
   ·exact KW _
   ·rw [show ("":Str).length=0 by decide+kernel];exact K7 _
  have lc:∀x y:Str,(x++y).length=x.length+y.length:=λ x y=>by rw [fO,qf,JD];rfl
  have n5:("board":Str).length=5/\("game":Str).length=4/\("line":Str).length=4/\("place":Str).length=5/\("other":Str).length=5/\("":Str).length=0:=by decide+kernel
  obtain ⟨n1,n2,n3,n4,n6,n0⟩:=n5;have pairs:∀(acc z1 z2:Str) (x1 x2:Bool) (H1:Hp) (q t1 t2:Addr) (o2 o3:Option V) (u:TS) (D':cQ),acc.length<=100->z1.length<=10->z2.length<=10->ah H H1->H1 q=some (.lst [.ref t1,.ref t2])->H1 t1=some (.tup [.str z1,.bl x1])->H1 t2=some (.tup [.str z2,.bl x2])->
    (∀o2 o3 H2,ah H H2->u D' [some (.ref a),some (.str ((acc++wS x1 z1)++wS x2 z2)),o2,o3] H2)->
    vL K a (uU K a 2 (jN (gName 2) (jN (gName 3) wK))) (tAsg (fU .Add (bP 1) (tO nz (bP 2) (cB nX (aK (bP 3) bK)))) (gName 1)) {D' with nx:=u D'} [some (.ref a),some (.str acc),o2,o3] (.ref q) H1:=by
   intro acc z1 z2 x1 x2 H1 q t1 t2 o2 o3 u D' la l1 l2 s1 eq e1 e2 go;have step:∀(acc' z:Str) (x:Bool) (t:Addr) (o2 o3:Option V) (H2:Hp) (R:St->Hp->Prop),acc'.length<=110->z.length<=10->ah H H2->H2 t=some (.tup [.str z,.bl x])->(∀o2 o3,R [some (.ref a),some (.str (acc'++wS x z)),o2,o3] H2)->
     uU K a 2 (jN (gName 2) (jN (gName 3) wK)) (.ref t) [some (.ref a),some (.str acc'),o2,o3] H2 λ σ2 H2=>fU .Add (bP 1) (tO nz (bP 2) (cB nX (aK (bP 3) bK))) σ2 H2 λ v H3=>R (σ2.set 1 (some v)) H3:=by
    intro acc' z x t o2 o3 H2 R la lz s2 et go2;refine ⟨t,_,.ref D,rfl,eE.of et,rfl,s2 _ _ ha,_,_,rfl,_,_,rfl,rfl,?_⟩;show fU _ _ _ [some (.ref a),some (.str acc'),some (.str z),some (.bl x)] H2 _;refine mw (z:=acc') (z':=wS x z) (aa rfl) (qV (aa rfl) (qX (aa rfl))) (by have:=lw x z;rw [sizeLine_eq];omega) _ ?_;exact go2 _ _
   refine ⟨q,_,.ref D,λ i σ' H'=>match i with
    | 0=>(∃o2 o3,σ'=[oR a,oT acc,o2,o3])/\ah H1 H'
    | 1=>(∃o2 o3,σ'=[oR a,oT (acc++wS x1 z1),o2,o3])/\ah H1 H'
    | _=>(∃o2 o3,σ'=[oR a,oT ((acc++wS x1 z1)++wS x2 z2),o2,o3])/\ah H1 H',rfl,aJ.of eq,⟨⟨_,_,rfl⟩,ah.refl _⟩,?_,?_,?_⟩
   ·intro i σ' H' _ h;have sx:ah H1 H':=by
     match i,h with
     | 0,h=>exact h.2
     | 1,h=>exact h.2
     | _+2,h=>exact h.2
    exact ⟨aJ.of (sx _ _ eq),(s1.trans sx) _ _ ha⟩
   ·intro i x σ' H' hx h
    match i,hx,h with
    | 0,hx,⟨⟨o2,o3,e⟩,sx⟩=>
      subst e;cases hx;exact step acc z1 x1 t1 o2 o3 H' _ (by omega) l1 (s1.trans sx) (sx _ _ e1) λ p2 p3=>⟨⟨p2,p3,rfl⟩,sx⟩
    | 1,hx,⟨⟨o2,o3,e⟩,sx⟩=>
      subst e;cases hx;exact step _ z2 x2 t2 o2 o3 H' _ (by rw [lc];have:=lw x1 z1;omega) l2 (s1.trans sx) (sx _ _ e2) λ p2 p3=>⟨⟨p2,p3,rfl⟩,sx⟩
    | i+2,hx,_=>simp at hx
   ·rintro σ' H' ⟨⟨o2,o3,rfl⟩,sx⟩;exact go o2 o3 H' (s1.trans sx)
  refine bx ao ?_;show bu _ _ _ [oR a,oT (""),none,none] H;refine pJ (bB (aV (gf ao (is s0 (aa rfl) i1) λ t1 h1=>?_)));have sa:=s0.upd (o:=.tup [.str "board",.bl b1]) h1;refine aV (gf ao (is sa (aa rfl) i2) λ t2 h2=>?_);have sb:=sa.upd (o:=.tup [.str "game",.bl b2]) h2;refine aR ⟨by show 2<=sizeLine;decide,λ q hq=>?_⟩;have sc:=sb.upd (o:=.lst [.ref t1,.ref t2]) hq;refine pairs "" "board" "game" b1 b2 _ q t1 t2 _ _ _ _ (by omega) (by omega) (by omega) sc ae (by rw [au (aj (by rw [au (aj ae h2)];exact ae) hq),au (aj ae h2)];exact ae) (by rw [au (aj ae hq)];exact ae) λ o2 o3 H2 s2=>?_;refine pJ (bB (aV (gf ao (is s2 (aa rfl) i3) λ t3 h3=>?_)));have sd:=s2.upd (o:=.tup [.str "line",.bl b3]) h3;refine aV (gf ao (is sd (aa rfl) i4) λ t4 h4=>?_);have se:=sd.upd (o:=.tup [.str "place",.bl b4]) h4;refine aR ⟨by show 2<=sizeLine;decide,λ q2 hq2=>?_⟩;have sf:=se.upd (o:=.lst [.ref t3,.ref t4]) hq2;refine pairs ((""++wS b1 "board")++wS b2 "game") "line" "place" b3 b4 _ q2 t3 t4 _ _ _ _ (by rw [lc,lc];have:=lw b1 "board";have:=lw b2 "game";omega) (by omega) (by omega) sf ae (by rw [au (aj (by rw [au (aj ae h4)];exact ae) hq2),au (aj ae h4)];exact ae) (by rw [au (aj ae hq2)];exact ae) λ o2 o3 H3 s3=>?_;generalize hacc:((((""++wS b1 "board")++wS b2 "game")++wS b3 "line")++wS b4 "place")=acc at*;have lacc:acc.length<=18:=by rw [<-hacc,lc,lc,lc,lc];have:=lw b1 "board";have:=lw b2 "game";have:=lw b3 "line";have:=lw b4 "place";omega
  refine pJ (bB (ak (is s3 (aa rfl) i5) (ak (is s3 (aa rfl) i6) (ak (is s3 (aa rfl) i7) (ak (is s3 (aa rfl) i8) (aR ⟨by show 4<=sizeLine;decide,λ q3 hq3=>?_⟩))))));have sg:=s3.upd (o:=.lst [.bl b5,.bl b6,.bl b7,.bl b8]) hq3;have eq3:(upd H3 q3 (.lst [.bl b5,.bl b6,.bl b7,.bl b8])) q3=some (.lst [.bl b5,.bl b6,.bl b7,.bl b8]):=ae;generalize upd H3 q3 (.lst [.bl b5,.bl b6,.bl b7,.bl b8])=H4 at sg eq3 ⊢;have lens:∀(l:List Bool) (z:Str),(l.foldl (λ z b=>z++wS b "other") z).length<=z.length+5*l.length:=λ l=>by
   induction l with
   | nil=>intro z;exact KW _
   | cons b l ih=>
     intro z;have h1:=ih (z++wS b "other");rw [lc] at h1;have:=lw b "other";rw [List.foldl_cons,JK];omega
  refine ⟨q3,_,.ref D,λ i σ' H'=>(∃o2 o3,σ'=[oR a,oT (([b5,b6,b7,b8].take i).foldl (λ z b=>z++wS b "other") acc),o2,o3])/\ah H4 H',rfl,aJ.of eq3,⟨⟨_,_,rfl⟩,ah.refl _⟩,λ i σ' H' _ h=>⟨aJ.of (h.2 _ _ eq3),(sg.trans h.2) _ _ ha⟩,?_,?_⟩
  ·rintro i x _ H5 hx ⟨⟨o2,o3,rfl⟩,s5⟩;have key:∃b:Bool,x=.bl b/\[b5,b6,b7,b8].take (i+1)=[b5,b6,b7,b8].take i++[b]:=by
    match i,hx with
    | 0,hx=>cases hx;exact ⟨_,rfl,rfl⟩
    | 1,hx=>cases hx;exact ⟨_,rfl,rfl⟩
    | 2,hx=>cases hx;exact ⟨_,rfl,rfl⟩
    | 3,hx=>cases hx;exact ⟨_,rfl,rfl⟩
    | i+4,hx=>simp at hx
   obtain ⟨b,rfl,et⟩:=key;have l5:=lens ([b5,b6,b7,b8].take i) acc;have l6:([b5,b6,b7,b8].take i).length<=4:=by rw [JS];exact Nat.min_le_right _ _
   have l7:=lw b "other";show tAsg _ _ _ [some (.ref a),some (.str (([b5,b6,b7,b8].take i).foldl (λ z b=>z++wS b "other") acc)),o2,some (.bl b)] H5;refine gD (mw (z':=wS b "other") (aa rfl) (qV ao (qX (aa rfl))) (by rw [sizeLine_eq];omega)) ?_;refine ⟨⟨o2,some (.bl b),?_⟩,s5⟩;rw [et,List.foldl_append];rfl
  ·rintro _ H5 ⟨⟨o2,o3,rfl⟩,s5⟩;have s6:=sg.trans s5;show bu _ _ _ [oR a,oT ((((acc++wS b5 "other")++wS b6 "other")++wS b7 "other")++wS b8 "other"),o2,o3] H5;have iv:∀z:Str,Ev (cB (uL K) (aK (bP 0) (aK (tC (.ty "ValueError")) bK))) [some (.ref a),some (.str z),o2,o3] H5 (.bl true):=λ z=>qW (ac (aa rfl) (ac ao ay)) Bz (s6 _ _ ha) L.x L.v;have in9:∀z:Str,Ev (cB (uL K) (aK (bP 0) (aK (tC (.ref c9)) bK))) [some (.ref a),some (.str z),o2,o3] H5 (.bl false):=λ z=>is s6 (aa rfl) i9;refine bQ (b:=false) (jp (a:=false) (b:=false) (bW (in9 _)) (λ _=>cF (b:=true) (bW (iv _)))) (λ h=>nomatch h) (λ _=>?_);exact bf (aa rfl) (k _ s6)
end
end K06
namespace K06
open PySem L2
def d0 (H:Hp) (v:V):List Str:=match lstOf H v with
 | some xs=>xs.map dJ
 | none=>[]
def iw (H:Hp) (kv rv tv ev sv:V):Bool:=kindsB H kv&&(rulesB H rv (d0 H kv)&&(turnsB H tv (d0 H kv)&&(pairsB H ev endsL (d0 H kv)&&wordB sv dg)))
theorem uJ {H:Hp}{v:V}(h:kindsB H v=true):∃kd ws,v=.ref kd/\H kd=some (.lst (ws.map V.str))/\d0 H v=ws/\∀s∈ws,s.length<=1000:=by
 unfold kindsB at h;unfold d0;split at h
 ·rename_i xs e;obtain ⟨a,rfl,ea⟩:=dA e;rw [Lr,Lr,JL] at h;have e2:(xs.map dJ).map V.str=xs:=by rw [JH];refine (J2 λ x hx=>?_).trans (List.map_id _);obtain ⟨c,rfl,_⟩:=jI (h.1.2 x hx);rfl
  refine ⟨a,xs.map dJ,rfl,by rw [e2];exact ea,by first | rw [e] | rfl,λ s hs=>?_⟩
  obtain ⟨x,hx,rfl⟩:=Jz.mp hs;obtain ⟨c,rfl,_⟩:=jI (h.1.2 x hx);show 1<=1000;decide
 ·cases h
theorem dR {H H':Hp}{v:V}(t:bc H 1 v) (s:ah H H'):kindsB H' v=kindsB H v:=by unfold kindsB;rw [cU t.1 s]
theorem pI {H H':Hp}{kv rv tv ev sv:V}(tk:bc H 1 kv) (tr:bc H 2 rv) (tt:bc H 2 tv) (te:bc H 2 ev) (s:ah H H'):iw H' kv rv tv ev sv=iw H kv rv tv ev sv:=by
 have e:d0 H' kv=d0 H kv:=by unfold d0;rw [cU tk.1 s]
 unfold iw;rw [e,dR tk s,da tr s,dI tt s,dc te s]
def mY (cG cN:Addr):Sp:=λ vs H _ E=> ∃(p dx:Addr) (bv kv rv tv ev sv:V),vs=[.ref p,bv,kv,rv,tv,ev,sv]/\H p=some (.ins cG dx [])/\bc H 1 kv/\bc H 2 rv/\bc H 2 tv/\bc H 2 ev/\Thg H sv/\iw H kv rv tv ev sv=false/\∀H',ah H H'->E (.ref cN) none H'
section
variable {P:Program}{w:World}{K:Frag}{mg:Str->Option Value}{base:Heap}{aS aA aE aW:Addr}
theorem kb {f cG cN:Addr}{fd:FuncData}(F:ce K "__init__" "Game.__init__" bM f fd) (T:Txt mg aS aA aE aW) (hW:∀H,eC K H aW dg) (m_BadGame:mg "BadGame"=some (.ref cN)) (q_BadGame:L4 K cN [.type "ValueError",.type "Exception",.type "BaseException",.type "object"] "ValueError.__new__"=true) (C:Jt P w K mg base):bz P w K mg base (mL P w) 6 f fd ["self","board","kinds","rules","turns","ends","stuck"] (mY cG cN):=by
 refine F.okX2 fB (λ vs H Q E h=>?_) (λ cdv A outer s H vs Q E hr h=>?_)
 ·obtain ⟨p,dx,bv,kv,rv,tv,ev,sv,rfl,_⟩:=h;rfl
 ·obtain ⟨p,dx,bv,kv,rv,tv,ev,sv,rfl,hp,tk,tr,tt,te,ts,bad,k⟩:=h;have hu:=cI hr;refine ⟨_,(af (bn (bq (bh (aL C.are_kinds hr (aq (cv 2) pa_nil)))) (ar (gn PySem.F.excBase_ValueError rfl rfl m_BadGame q_BadGame (aq aI pa_nil) dq)) aG)
   (af (bn (bq (bh (aL C.are_rules hr (aq (cv 3) (aq (cv 2) pa_nil))))) (ar (gn PySem.F.excBase_ValueError rfl rfl m_BadGame q_BadGame (aq aI pa_nil) dq)) aG)
   (af (bn (bq (bh (aL C.is_turns hr (aq (cv 4) (aq (cv 2) pa_nil))))) (ar (gn PySem.F.excBase_ValueError rfl rfl m_BadGame q_BadGame (aq aI pa_nil) dq)) aG)
   (af (bn (bq (bh (aL C.is_ends hr (aq (cv 5) (aq (cv 2) pa_nil))))) (ar (gn PySem.F.excBase_ValueError rfl rfl m_BadGame q_BadGame (aq aI pa_nil) dq)) aG)
   (af (bn (bq (bh (aL C.is_word hr (aq (cv 6) (aq (kg T.STUCK_WORDS) pa_nil))))) (ar (gn PySem.F.excBase_ValueError rfl rfl m_BadGame q_BadGame (aq aI pa_nil) dq)) aG) rR))))),?_⟩
  show bu _ _ _ [oR p,some bv,some kv,some rv,some tv,some ev,some sv] H;cases bk:kindsB H kv with
  | false=>
    refine bX (λ b H'=>b=true/\ah H H') (λ Q q=>cy (ac (aa rfl) ay) ⟨kv,rfl,tk,λ H' s=>?_⟩) (λ H1 w=>?_) (λ H1 w=>nomatch w.1)
    ·rw [bk];exact q _ _ ⟨rfl,s⟩
    ·exact ⟨by show 1<=sizeLine;decide,k _ w.2⟩
  | true=>
    obtain ⟨kd,ws,rfl,ek,ew,_⟩:=uJ bk;have wk:∀H',ah H H'->eC K H' kd ws:=λ H' s=>.inl (aJ.of (s _ _ ek));unfold iw at bad;rw [bk,ew,Lv] at bad;refine bX (λ b H'=>b=false/\ah H H') (λ Q q=>cy (ac (aa rfl) ay) ⟨.ref kd,rfl,tk,λ H' s=>?_⟩) (λ H1 w=>nomatch w.1) (λ H1 w=>?_)
    ·rw [bk];exact q _ _ ⟨rfl,s⟩
    have s1:=w.2;cases br:rulesB H rv ws with
    | false=>
      refine bX (λ b H'=>b=true/\ah H1 H') (λ Q q=>cy (ac (aa rfl) (ac (aa rfl) ay)) ⟨rv,kd,ws,rfl,tr.same s1,wk _ s1,λ H' s=>?_⟩) (λ H2 w=>?_) (λ H2 w=>nomatch w.1)
      ·rw [da tr s1,br];exact q _ _ ⟨rfl,s⟩
      ·exact ⟨by show 1<=sizeLine;decide,k _ (s1.trans w.2)⟩
    | true=>
      rw [br,Lv] at bad;refine bX (λ b H'=>b=false/\ah H1 H') (λ Q q=>cy (ac (aa rfl) (ac (aa rfl) ay)) ⟨rv,kd,ws,rfl,tr.same s1,wk _ s1,λ H' s=>?_⟩) (λ H2 w=>nomatch w.1) (λ H2 w=>?_)
      ·rw [da tr s1,br];exact q _ _ ⟨rfl,s⟩
      have s2:=s1.trans w.2;cases bt:turnsB H tv ws with
      | false=>
        refine bX (λ b H'=>b=true/\ah H2 H') (λ Q q=>cy (ac (aa rfl) (ac (aa rfl) ay)) ⟨tv,kd,ws,rfl,tt.same s2,wk _ s2,λ H' s=>?_⟩) (λ H3 w=>?_) (λ H3 w=>nomatch w.1)
        ·rw [dI tt s2,bt];exact q _ _ ⟨rfl,s⟩
        ·exact ⟨by show 1<=sizeLine;decide,k _ (s2.trans w.2)⟩
      | true=>
        rw [bt,Lv] at bad;refine bX (λ b H'=>b=false/\ah H2 H') (λ Q q=>cy (ac (aa rfl) (ac (aa rfl) ay)) ⟨tv,kd,ws,rfl,tt.same s2,wk _ s2,λ H' s=>?_⟩) (λ H3 w=>nomatch w.1) (λ H3 w=>?_)
        ·rw [dI tt s2,bt];exact q _ _ ⟨rfl,s⟩
        have s3:=s2.trans w.2;cases be:pairsB H ev endsL ws with
        | false=>
          refine bX (λ b H'=>b=true/\ah H3 H') (λ Q q=>cy (ac (aa rfl) (ac (aa rfl) ay)) ⟨ev,kd,ws,rfl,te.same s3,wk _ s3,λ H' s=>?_⟩) (λ H4 w=>?_) (λ H4 w=>nomatch w.1)
          ·rw [dc te s3,be];exact q _ _ ⟨rfl,s⟩
          ·exact ⟨by show 1<=sizeLine;decide,k _ (s3.trans w.2)⟩
        | true=>
          rw [be,Lv] at bad;refine bX (λ b H'=>b=false/\ah H3 H') (λ Q q=>cy (ac (aa rfl) (ac (aa rfl) ay)) ⟨ev,kd,ws,rfl,te.same s3,wk _ s3,λ H' s=>?_⟩) (λ H4 w=>nomatch w.1) (λ H4 w=>?_)
          ·rw [dc te s3,be];exact q _ _ ⟨rfl,s⟩
          have s4:=s3.trans w.2;refine bQ (b:= !wordB sv dg) (cF (bW (aP (ac (aa rfl) (ac ao ay)) (λ Q q=>⟨sv,aW,dg,rfl,ts.same s4,hW H4,q⟩)))) (λ _=>?_) (λ h=>by rw [bad] at h;cases h);exact ⟨by show 1<=sizeLine;decide,k _ s4⟩
end
end K06
namespace K06
open PySem L2
def qj (wd:Str):Sp:=λ vs H Q _=> ∃(pl:Addr) (bv kv rv tv ev sv:V),vs=[bv,.ref pl,sv]/\H pl=some (.lst [kv,rv,tv,ev])/\bc H 1 kv/\bc H 2 rv/\bc H 2 tv/\bc H 2 ev/\Thg H sv/\iw H kv rv tv ev sv=false/\∀H',ah H H'->Q (.str wd) H'
structure CSd (P:Program) (w:World) (K:Frag) (mg:Str->Option Value) (base:Heap) (cG cN:Addr) (wd:Str):Prop where
 Game:Jr P w K mg base "Game" cG ["self","board","kinds","rules","turns","ends","stuck"] 6 (mY cG cN)
 _law_word:CQ P w K mg base "_law_word" ["_law_e"] 1 (qh cN wd)
section
variable {P:Program}{w:World}{K:Frag}{mg:Str->Option Value}{base:Heap}{aS aA aE aW:Addr}
theorem mi {f cG cN cP:Addr}{fd:FuncData}{wd:Str}(F:ce K "_law_said" "_law_said" dO f fd) (T:Txt mg aS aA aE aW) (m_PlayError:mg "PlayError"=some (.ref cP)) (x1:L5 K (.ref cN) (.ref cP)=some true) (C:CSd P w K mg base cG cN wd):bz P w K mg base eP 8 f fd ["_law_board","_law_parts_here","_law_stuck"] (qj wd):=by
 refine F.ok ii (λ vs H Q E h=>?_) (λ cdv A outer s H vs Q E hr h=>?_)
 ·obtain ⟨pl,bv,kv,rv,tv,ev,sv,rfl,_⟩:=h;rfl
 ·obtain ⟨pl,bv,kv,rv,tv,ev,sv,rfl,hl,tk,tr,tt,te,ts,bad,k⟩:=h;have hu:=cI hr;have hq:aJ K H pl [kv,rv,tv,ev]:=aJ.of hl;refine ⟨_,(af (v8 (i:=3) C.Game hr (λ _ _ z=>z) (aq (cv 0) (aq (cO K (cv 1) ag) (aq (cO K (cv 1) ag) (aq (cO K (cv 1) ag) (aq (cO K (cv 1) ag) (aq (cv 2) pa_nil)))))) m_PlayError ii.nd rfl (λ _=>(ar (aF (Ca C._law_word rfl (hr.n _) (aq (cv 3) pa_nil))))))
   (ar (aF aI))),?_⟩
  show bu _ _ _ [some bv,oR pl,some sv,none] H;refine Bt (ac (aa rfl) (ac (bg (x:=kv) (aa rfl) ao (.inl hq) rfl) (ac (bg (x:=rv) (aa rfl) ao (.inl hq) rfl) (ac (bg (x:=tv) (aa rfl) ao (.inl hq) rfl) (ac (bg (x:=ev) (aa rfl) ao (.inl hq) rfl) (ac (aa rfl) ay)))))) λ x dx hx hdx ne=>?_;have s1:ah H (upd (upd H dx (.own x)) x (.ins cG dx [])):=((ah.refl H).upd hdx).upd (by rw [au (Ne.symm ne)];exact hx);refine ⟨x,dx,bv,kv,rv,tv,ev,sv,rfl,ae,tk.same s1,tr.same s1,tt.same s1,te.same s1,ts.same s1,by rw [pI tk tr tt te s1];exact bad,λ H' s2=>⟨x1,λ a ha=>?_⟩⟩;have sa:=(s1.trans s2).upd (o:=iE (.ref cN) a) ha;show dw _ _ [some bv,oR pl,some sv,oR a] _;exact lD (wR (ac (aa rfl) ay) rfl ⟨a,rfl,ae,λ H3 s3=>k _ (sa.trans s3)⟩)
end
end K06
namespace K06
open PySem L2
def A7 (K:Frag):Sp:=λ vs H Q _=> ∃(a:Addr) (ns:List Int) (k:Int),vs=[.ref a,.int k]/\aJ K H a (ns.map V.int)/\0<=k/\k<=1000/\∀(q:Addr) (ks:List Nat) (H':Hp),fM H' q ks->H q=none->ah H H'->Q (.ref q) H'
section
variable {P:Program}{w:World}{K:Frag}{mg:Str->Option Value}{base:Heap}{aS aA aE aW:Addr}
theorem j9 {f:Addr}{fd:FuncData}(F:ce K "_law_kinds" "_law_kinds" cD f fd) (T:Txt mg aS aA aE aW) (C:L1 P w K mg base):bz P w K mg base eP 2 f fd ["_law_script","_law_k"] (A7 K):=by
 refine F.ok cK (λ vs H Q E h=>?_) (λ cdv A outer s H vs Q E hr h=>?_)
 ·obtain ⟨a,ns,k,rfl,_⟩:=h;rfl
 ·obtain ⟨a,ns,k,rfl,hS,k0,k1,q⟩:=h;have hu:=cI hr;refine ⟨_,(af (az (i:=2) cK.nd rfl (Or.inr rfl) (aL C._law_at hr (aq (cv 0) (aq (cv 1) pa_nil))))
   (af (az (i:=3) cK.nd rfl (Or.inr rfl) aI)
   (af (az (i:=4) cK.nd rfl (Or.inr rfl) (cO K (aC (dy rfl)) (al (al (cv 2) ag) ag)))
   (af (az (i:=5) cK.nd rfl (Or.inl rfl) (cO K (aC (dy rfl)) (al (al (cv 2) ag) ag)))
   (ar (aF (en (cn (N:=["_law_j","_law_letters","_law_cell","_law_step"]) (src:=[none,some 3,some 2,some 4]) (am cD) ["_law_script","_law_k","_law_cell","_law_letters","_law_step","_law_many"]) (B4 T.range (aq (cv 5) pa_nil)) (λ _ _ _=>(bw (i:=0) ["_law_j","_law_letters","_law_cell","_law_step"])) (λ _ _ _=>cu) (λ _ _ _=>(cO K (cv 1) (al (al (cv 2) (al (cv 0) (cv 3))) ag)))))))))),?_⟩
  show bu _ _ _ [oR a,oJ k,none,none,none,none] H;refine bx (aP (sp:=lr K) (ac (aa rfl) (ac (aa rfl) ay)) (λ Q q=>⟨a,ns,k,rfl,hS,k0,k1,q⟩)) ?_;generalize lawAt ns k=c;refine bx ao ?_;refine bj (λ v H'=> ∃st:Int,v=.int st/\st∈([1,3,5,7,9,11,15,17,19,21,23,25]:List Int)/\ah H H') (λ Q q=>?_) ?_
  ·obtain ⟨n,e,hn⟩:=nA (ns:=[1,3,5,7,9,11,15,17,19,21,23,25]) (i:=c / 26 % 12) (by omega) (by show _<(12:Int);omega);exact ir jc (by decide) (λ H'=>(aX (bA (aa rfl) ao ⟨by decide,by decide⟩) ao (by decide))) e (λ H' s=>q _ _ ⟨n,rfl,hn,s⟩)
  rintro _ H1 ⟨st,rfl,hst,s1⟩;refine bj (λ v H'=> ∃n:Int,v=.int n/\n∈([1,2,3,2,3,6,4,5]:List Int)/\ah H1 H') (λ Q q=>?_) ?_
  ·obtain ⟨n,e,hn⟩:=nA (ns:=[1,2,3,2,3,6,4,5]) (i:=c / 312 % 8) (by omega) (by show _<(8:Int);omega);exact ir jc (by decide) (λ H'=>(aX (bA (aa rfl) ao ⟨by decide,by decide⟩) ao (by decide))) e (λ H' s=>q _ _ ⟨n,rfl,hn,s⟩)
  rintro _ H2 ⟨n,rfl,hn,s2⟩;have hn6:1<=n/\n<=6:=by simp only [Jy,JC,or_false] at hn;omega
  show dw _ _ [oR a,oJ k,oJ c,oT ("abcdefghijklmnopqrstuvwxyz"),oJ st,oJ n] H2;refine oo (n:=n) (rest:=[oT ("abcdefghijklmnopqrstuvwxyz"),oJ c,oJ st]) (ac (aa rfl) ay) (by omega) (by rw [sizeLine_eq];omega) (by omega) rfl (λ _=>true)
   (λ x=>match x with | .int i=>strV (97+((c+i*st) % 26).toNat) | _=>.non) (λ i hi=>eU) (λ i hi _=>?_) (λ d hd=>?_)
  ·have hlt:0<=0+(i:Int)/\0+(i:Int)<6:=by omega
   exact Cq (aa rfl) (aX (cg (aa rfl) (fT (aa rfl) (aa rfl) (.inl ⟨by omega,by omega⟩))) ao (by decide)) (by decide) (CM (by omega) (by omega))
  ·refine q d ((List.range n.toNat).map λ (i:Nat)=>97+((c+(0+(i:Int))*st) % 26).toNat) _ ⟨?_,?_,?_,?_,?_⟩ ((s1.trans s2).free hd) ((s1.trans s2).upd hd)
   ·rw [ae,JV.mpr (λ _ _=>rfl),JH,JH];rfl
   ·intro x hx;obtain ⟨i,_,rfl⟩:=Jz.mp hx
    constructor<;>omega
   ·rw [Jx,J7];omega
   ·rw [Jx,J7];omega
   ·rw [Kq,Kp,KR];intro x y hx hy hxy e;rw [J7] at hx hy;rw [KS,KS] at e;simp only [Jy,JC,or_false] at hst;have ex:(c+(0+(x:Int))*st) % 26=(c+(0+(y:Int))*st) % 26:=by omega
    rcases hst with rfl | rfl | rfl | rfl | rfl | rfl | rfl | rfl | rfl | rfl | rfl | rfl
    all_goals omega
theorem mj {f:Addr}{fd:FuncData}(F:ce K "_law_rule" "_law_rule" dP f fd) (T:Txt mg aS aA aE aW):bz P w K mg base eP 1 f fd ["_law_cell","_law_kinds_here"] qq:=by
 refine F.ok bF (λ vs H Q E h=>?_) (λ cdv A outer s H vs Q E hr h=>?_)
 ·obtain ⟨c,d,ks,rfl,_⟩:=h;rfl
 ·obtain ⟨c,d,ks,rfl,hk,q⟩:=h;have hu:=cI hr;refine ⟨_,(af (az (i:=2) bF.nd rfl (Or.inl rfl) (cO K (aC (dy rfl)) (al (cv 0) ag)))
   (af (az (i:=3) bF.nd rfl (Or.inl rfl) ag)
   (af (bn (bN K hu (cv 2) aI) (ar (az (i:=3) bF.nd rfl (Or.inl rfl) (cO K (aC (dy rfl)) (al (al (cv 0) ag) ag)))) aG)
   (af (az (i:=4) bF.nd rfl (Or.inl rfl) (cO K (aC (dy rfl)) (al (al (cv 0) ag) ag)))
   (af (bn (bN K hu (cv 2) aI) (ar (az (i:=4) bF.nd rfl (Or.inl rfl) aI)) aG)
   (af (az (i:=5) bF.nd rfl (Or.inl rfl) (al (al (al (cv 0) ag) (al (al ag (cv 3)) ag)) (cv 3)))
   (af (az (i:=6) bF.nd rfl (Or.inl rfl) (al (al (al (cv 0) ag) (al (al ag (cv 3)) ag)) (cv 3)))
   (af (bn (PW.pt (uu (bN K hu (cv 5) ag) (qy (bN K hu (cv 6) ag)))) (ar (az (i:=6) bF.nd rfl (Or.inl rfl) (cO K (aC (aq ag (aq (pT ag) pa_nil))) (al (al (cv 0) ag) ag)))) aG)
   (ar (aF (bU (aq (cO K (cv 1) (al (al (cv 0) ag) (kB (gM K) ci T.len (aq (cv 1) pa_nil)))) (aq (cv 2) (aq (cv 4) (aq (cv 5) (aq (cv 6) pa_nil)))))))))))))))),?_⟩
  show bu _ _ _ [oJ c,oR d,none,none,none,none,none] H;refine bj (λ v H'=> ∃so:Str,v=.str so/\so∈sortsL/\ah H H') (λ Q q=>?_) ?_
  ·obtain ⟨n,e,hn⟩:=qE (ss:=sortsL) (i:=c % 3) (by omega) (by show _<(3:Int);omega);exact ir jc (by decide) (λ H'=>(aX (aa rfl) ao (by decide))) e (λ H' s=>q _ _ ⟨n,rfl,hn,s⟩)
  rintro _ H1 ⟨so,rfl,hso,s1⟩;refine bx ao ?_;show bu _ _ _ [oJ c,oR d,oT so,oJ 1,none,none,none] H1;refine ie (λ σ' H'=>ah H1 H'/\∃fr:Int,σ'=[oJ c,oR d,oT so,oJ fr,none,none,none]/\1<=fr/\fr<=(if so="leap" then 3 else 1)) ?_ (λ go=>?_)
  rotate_left
  ·refine bQ (bW (hU (aa rfl) ao)) (λ h=>?_) (λ h=>go _ _ ⟨ah.refl _,1,rfl,by decide,by split<;>omega⟩);obtain ⟨n,e,hn⟩:=nA (ns:=[1,2,3,3]) (i:=c / 3 % 4) (by omega) (by show _<(4:Int);omega);have hn6:1<=n/\n<=3:=by simp only [Jy,JC,or_false] at hn;omega
   exact vD (ir jc (by decide) (λ H'=>(aX (bA (aa rfl) ao ⟨by decide,by decide⟩) ao (by decide))) e (λ H' s=>go _ _ ⟨s,n,rfl,hn6.1,by rw [if_pos (of_decide_eq_true h)];exact hn6.2⟩))
  rintro _ H2 ⟨s2,fr,rfl,f0,f1⟩;have fr3:fr<=3:=by split at f1<;>omega
  refine bj (λ v H'=> ∃so:Str,v=.str so/\so∈aimsL/\ah H2 H') (λ Q q=>?_) ?_
  ·obtain ⟨n,e,hn⟩:=qE (ss:=aimsL) (i:=c / 12 % 3) (by omega) (by show _<(3:Int);omega);exact ir jc (by decide) (λ H'=>(aX (bA (aa rfl) ao ⟨by decide,by decide⟩) ao (by decide))) e (λ H' s=>q _ _ ⟨n,rfl,hn,s⟩)
  rintro _ H3 ⟨ai,rfl,hai,s3⟩;show bu _ _ _ [oJ c,oR d,oT so,oJ fr,oT ai,none,none] H3;refine ie (λ σ' H'=>H'=H3/\∃ai:Str,σ'=[oJ c,oR d,oT so,oJ fr,oT ai,none,none]/\ai∈aimsL/\(so="jump"->ai="hit")) ?_ (λ go=>?_)
  rotate_left
  ·exact bQ (bW (hU (aa rfl) ao)) (λ h=>gD ao (go _ _ ⟨rfl,"hit",rfl,by decide,λ _=>rfl⟩)) (λ h=>go _ _ ⟨rfl,ai,rfl,hai,λ z=>absurd z (of_decide_eq_false h)⟩)
  rintro _ H3 ⟨rfl,ai,rfl,hai,hjh⟩;refine bx (hJ (aX (bA (aa rfl) ao ⟨by decide,by decide⟩) (cg (fT ao (aa rfl) (.inl ⟨by decide,by decide⟩)) ao) (by omega)) (aa rfl)) ?_;refine bx (hJ (aX (bA (aa rfl) ao ⟨by decide,by decide⟩) (cg (fT ao (aa rfl) (.inl ⟨by decide,by decide⟩)) ao) (by omega)) (aa rfl)) ?_;have a0:=Ll (c / 36) (by omega:2*fr+1≠0);have a1:=Lm (c / 36) (by omega:0<2*fr+1);have b0:=Ll (c / 252) (by omega:2*fr+1≠0);have b1:=Lm (c / 252) (by omega:0<2*fr+1);have hax: -fr<=c / 36 % (2*fr+1) - fr/\c / 36 % (2*fr+1) - fr<=fr:=by omega
  have hup: -fr<=c / 252 % (2*fr+1) - fr/\c / 252 % (2*fr+1) - fr<=fr:=by omega
  generalize c / 36 % (2*fr+1) - fr=ax at hax;generalize c / 252 % (2*fr+1) - fr=up at hup;show bu _ _ _ [oJ c,oR d,oT so,oJ fr,oT ai,oJ ax,oJ up] H3;refine ie (λ σ' H'=>ah H3 H'/\∃up:Int,σ'=[oJ c,oR d,oT so,oJ fr,oT ai,oJ ax,oJ up]/\-fr<=up/\up<=fr/\¬(ax=0/\up=0)) ?_ (λ go=>?_)
  rotate_left
  ·refine bQ (tK (bW (gv (aa rfl) ao)) (λ _=>bW (gv (aa rfl) ao))) (λ h=>?_) (λ h=>go _ _ ⟨ah.refl _,up,rfl,hup.1,hup.2,λ z=>by simp [z.1,z.2] at h⟩);obtain ⟨n,e,hn⟩:=nA (ns:=[1, -1]) (i:=c / 1764 % 2) (by omega) (by show _<(2:Int);omega);exact vD (ir (ac ao (ac (pK ao) ay)) (by decide) (λ H'=>(aX (bA (aa rfl) ao ⟨by decide,by decide⟩) ao (by decide))) e (λ H' s=>go _ _ ⟨s,n,rfl,by simp only [Jy,JC,or_false] at hn;omega,by simp only [Jy,JC,or_false] at hn;omega,by simp only [Jy,JC,or_false] at hn;omega⟩))
  rintro _ H4 ⟨s4,up,rfl,u0,u1,n0⟩;have s04:=((s1.trans s2).trans s3).trans s4;have hk4:=hk.same s04;obtain ⟨k,hkm,ek⟩:=hk4.pick (c / 3528);have hpos:(0:Int)<((ks.map strV).length:Int):=by rw [Jx];have:=hk.l1;omega
  refine mM (ak (bg (aa rfl) (aX (bA (aa rfl) ao ⟨by decide,by decide⟩) (dY (aa rfl) (.inl (aJ.of hk4.at_))) hpos) (.inl (aJ.of hk4.at_)) ek) (ak (aa rfl) (ak (aa rfl) (ak (aa rfl) (ak (aa rfl) (aR ⟨by show 5<=sizeLine;decide,λ p hp=>?_⟩))))));exact q p ⟨one k,so,ai,ax,up⟩ _ ⟨⟨k,hkm,rfl⟩,hso,hai,hjh,⟨by show -(if so="leap" then 3 else 1)<=ax;omega,Int.le_trans hax.2 f1⟩,⟨by show -(if so="leap" then 3 else 1)<=up;omega,Int.le_trans u1 f1⟩,n0⟩ (s04.free hp) ae (s04.upd hp)
end
end K06
namespace K06
open PySem L2
def AY (K:Frag):Sp:=λ vs H Q _=> ∃(a:Addr) (ns:List Int) (k:Int) (d:Addr) (ks:List Nat),vs=[.ref a,.int k,.ref d]/\aJ K H a (ns.map V.int)/\0<=k/\k<=900/\fM H d ks/\∀(q:Addr) (zs:List ((Str×Str)×Addr)) (H':Hp),rh ks zs->fV H' zs->H q=none->H' q=some (.lst (pRefs zs))->ah H H'->Q (.ref q) H'
def AZ (K:Frag):Sp:=λ vs H Q _=> ∃(a:Addr) (ns:List Int) (k:Int) (d:Addr) (ks:List Nat),vs=[.ref a,.int k,.ref d]/\aJ K H a (ns.map V.int)/\0<=k/\k<=900/\fM H d ks/\∀(q:Addr) (us:List (bC×Addr)) (H':Hp),(∀z∈us,gA ks z.1)->us.length<=24->gc H' us->H q=none->H' q=some (.lst (rRefs us))->ah H H'->Q (.ref q) H'
theorem t7 {H:Hp}{ks:List Nat}:∀(ys:List V),(∀y∈ys,∃a u,y=.ref a/\H a=some (.tup (bC.vs u))/\gA ks u)->∃us:List (bC×Addr),ys=rRefs us/\gc H us/\(∀z∈us,gA ks z.1)/\us.length=ys.length
 | [],_=>⟨[],rfl,λ _ z=>(nomatch z),λ _ z=>(nomatch z),rfl⟩
 | y::ys,h=>by
   obtain ⟨a,u,rfl,ha,g⟩:=h y (JI ..);obtain ⟨us,rfl,h1,h2,h3⟩:=t7 ys λ y hy=>h y (JJ _ hy);refine ⟨(u,a)::us,rfl,λ z hz=>?_,λ z hz=>?_,by rw [JK,h3,JK]⟩
   ·rcases Jy.mp hz with rfl | hz
    ·exact ha
    ·exact h1 z hz
   ·rcases Jy.mp hz with rfl | hz
    ·exact g
    ·exact h2 z hz
structure L2k (P:Program) (w:World) (K:Frag) (mg:Str->Option Value) (base:Heap):Prop extends L1 P w K mg base where
 _law_rule:fv P w K mg base "_law_rule" ["_law_cell","_law_kinds_here"] 1 qq
section
variable {P:Program}{w:World}{K:Frag}{mg:Str->Option Value}{base:Heap}{aS aA aE aW:Addr}
theorem j5 {f:Addr}{fd:FuncData}(F:ce K "_law_rules" "_law_rules" cC f fd) (T:Txt mg aS aA aE aW) (C:L2k P w K mg base):bz P w K mg base eP 2 f fd ["_law_script","_law_k","_law_kinds_here"] (AZ K):=by
 refine F.ok dC (λ vs H Q E h=>?_) (λ cdv A outer s H vs Q E hr h=>?_)
 ·obtain ⟨a,ns,k,d,ks,rfl,_⟩:=h;rfl
 ·obtain ⟨a,ns,k,d,ks,rfl,hS,k0,k1,hk,q⟩:=h;have hu:=cI hr;refine ⟨_,(af (az (i:=3) dC.nd rfl (Or.inl rfl) (aL C._law_at hr (aq (cv 0) (aq (cv 1) pa_nil))))
   (af (az (i:=4) dC.nd rfl (Or.inl rfl) (al (cv 3) ag))
   (af (bn (bN K hu (al (al (cv 3) ag) ag) ag) (ar (az (i:=4) dC.nd rfl (Or.inl rfl) (al (al (cv 3) ag) ag))) aG)
   (ar (aF (en (cn (N:=["_law_j","_law_kinds_here","_law_script","_law_k"]) (src:=[none,some 2,some 0,some 1]) (am cC) ["_law_script","_law_k","_law_kinds_here","_law_cell","_law_many"]) (B4 T.range (aq (cv 4) pa_nil)) (λ _ _ _=>(bw (i:=0) ["_law_j","_law_kinds_here","_law_script","_law_k"])) (λ _ _ _=>cu) (λ _ _ _=>(aL C._law_rule hr (aq (aL C._law_at hr (aq (cv 2) (aq (al (al (cv 3) ag) (cv 0)) pa_nil))) (aq (cv 1) pa_nil)))))))))),?_⟩
  show bu _ _ _ [oR a,oJ k,oR d,none,none] H;refine bx (aP (sp:=lr K) (ac (aa rfl) (ac (aa rfl) ay)) (λ Q q=>⟨a,ns,k,rfl,hS,k0,by omega,q⟩)) ?_;generalize lawAt ns k=c;refine bx (aX (aa rfl) ao (by decide)) ?_;show bu _ _ _ [oR a,oJ k,oR d,oJ c,oJ (c % 7)] H;refine ie (λ σ' H'=>H'=H/\∃m:Int,σ'=[oR a,oJ k,oR d,oJ c,oJ m]/\0<=m/\m<=24) ?_ (λ go=>?_)
  rotate_left
  ·exact bQ (bW (gv (aX (bA (aa rfl) ao ⟨by decide,by decide⟩) ao (by decide)) ao)) (λ h=>gD (aX (bA (aa rfl) ao ⟨by decide,by decide⟩) ao (by decide)) (go _ _ ⟨rfl,_,rfl,by omega,by omega⟩)) (λ h=>go _ _ ⟨rfl,_,rfl,by omega,by omega⟩)
  rintro _ H ⟨rfl,m,rfl,m0,m1⟩;show dw _ _ [oR a,oJ k,oR d,oJ c,oJ m] H;refine k4 (n:=m) (λ Q' z'=>(ac (aa rfl) ay) _ (z' _ (ah.refl _))) (by omega) (by omega) rfl
   (λ i H' v=> ∃a u,v=.ref a/\H' a=some (.tup (bC.vs u))/\gA ks u) (λ i H1 H2 v ⟨a,u,e1,e2,g⟩ s=>⟨a,u,e1,s _ _ e2,g⟩) (λ i H' hi s' Q2 z2=>?_) (λ p H' ys s' hp hyl hy=>?_)
  ·exact e6 (ac (aP (sp:=lr K) (ac (aa rfl) (ac (cg (cg (aa rfl) ao) (aa rfl)) ay)) (λ Q q=>⟨a,ns,_,rfl,s'.seq hS,by omega,by omega,q⟩)) (ac (aa rfl) ay)) ⟨_,d,ks,rfl,hk.same s',λ t u H2 g n e s2=>z2 _ _ ⟨t,u,rfl,e,g⟩ s2⟩
  ·obtain ⟨us,rfl,h1,h2,h3⟩:=t7 ys λ y hym=>by obtain ⟨i,hi⟩:=Ke hym;exact hy i y hi
   exact q p us _ h2 (by omega) (h1.same ((ah.refl _).upd hp)) (s'.free hp) ae (s'.upd hp)
theorem j4 {f:Addr}{fd:FuncData}(F:ce K "_law_turns" "_law_turns" cA f fd) (T:Txt mg aS aA aE aW) (C:L1 P w K mg base):bz P w K mg base eP 2 f fd ["_law_script","_law_k","_law_kinds_here"] (AY K):=by
 refine F.ok cJ (λ vs H Q E h=>?_) (λ cdv A outer s H vs Q E hr h=>?_)
 ·obtain ⟨a,ns,k,d,ks,rfl,_⟩:=h;rfl
 ·obtain ⟨a,ns,k,d,ks,rfl,hS,k0,k1,hk,q⟩:=h;have hu:=cI hr;refine ⟨_,(af (az (i:=3) cJ.nd rfl (Or.inr rfl) (aL C._law_at hr (aq (cv 0) (aq (cv 1) pa_nil))))
   (af (az (i:=4) cJ.nd rfl (Or.inl rfl) (kB (lb rfl) vB T.min (aq (al (al (cv 3) ag) ag) (aq (al (kB (gM K) ci T.len (aq (cv 2) pa_nil)) ag) pa_nil))))
   (af (bn (bN K hu (al (al (cv 3) ag) ag) ag) (ar (az (i:=4) cJ.nd rfl (Or.inl rfl) (al (kB (gM K) ci T.len (aq (cv 2) pa_nil)) ag))) aG)
   (af (az (i:=5) cJ.nd rfl (Or.inr rfl) (vO K (cv 2) (dH (cv 4)) dE))
   (ar (aF (en (cn (N:=["_law_j","_law_kinds_here","_law_others","_law_cell"]) (src:=[none,some 2,some 5,some 3]) (am cA) ["_law_script","_law_k","_law_kinds_here","_law_cell","_law_many","_law_others"]) (B4 T.range (aq (cv 4) pa_nil)) (λ _ _ _=>(bw (i:=0) ["_law_j","_law_kinds_here","_law_others","_law_cell"])) (λ _ _ _=>cu) (λ _ _ _=>(bU (aq (cO K (cv 1) (cv 0)) (aq (cO K (cv 2) (al (al (al (cv 3) ag) (cv 0)) (kB (gM K) ci T.len (aq (cv 2) pa_nil)))) pa_nil))))))))))),?_⟩
  show bu _ _ _ [oR a,oJ k,oR d,none,none,none] H;refine bx (aP (sp:=lr K) (ac (aa rfl) (ac (aa rfl) ay)) (λ Q q=>⟨a,ns,k,rfl,hS,k0,by omega,q⟩)) ?_;generalize lawAt ns k=c;have hl0:=hk.l1;have hl6:=hk.l6;have hsq:aJ K H d (ks.map strV):=aJ.of hk.at_;have hlen:((ks.map strV).length:Int)=ks.length:=by rw [Jx]
  refine bx (u9 (bA (aX (aa rfl) ao (by decide)) ao ⟨by decide,by decide⟩) (hJ (dY (aa rfl) (.inl hsq)) ao)) ?_;rw [hlen];have hm:∃m:Nat,(if (ks.length:Int) - 1<c % 6 / 2 then (ks.length:Int) - 1 else c % 6 / 2)=(m:Int)/\m<ks.length:=by
   split
   ·exact ⟨ks.length - 1,by omega,by omega⟩
   ·exact ⟨(c % 6 / 2).toNat,by omega,by omega⟩
  obtain ⟨m,em,hm⟩:=hm;rw [em];show bu _ _ _ [oR a,oJ k,oR d,oJ c,oJ (m:Int),none] H;refine ie (λ σ' H'=>H'=H/\∃m:Nat,σ'=[oR a,oJ k,oR d,oJ c,oJ (m:Int),none]/\m<ks.length) ?_ (λ go=>?_)
  rotate_left
  ·refine bQ (bW (gv (aX (bA (aa rfl) ao ⟨by decide,by decide⟩) ao (by decide)) ao)) (λ h=>gD (v:=.int ((ks.length - 1:Nat):Int)) ?_ (go _ _ ⟨rfl,ks.length - 1,rfl,by omega⟩)) (λ h=>go _ _ ⟨rfl,m,rfl,hm⟩);have h:=hJ (dY (to:=bP 2) (σ:=[oR a,oJ k,oR d,oJ c,oJ (m:Int),none]) (aa rfl) (.inl hsq)) (ao (x:=.int 1));rw [hlen,show (ks.length:Int) - 1=((ks.length - 1:Nat):Int) by omega] at h;exact h
  rintro _ H ⟨rfl,m,rfl,hm⟩;refine bj (λ v H'=> ∃l,v=.ref l/\H' l=some (.lst (iz (ks.map strV) (some (m:Int)) none))/\ah H H') (λ Q q=>mZ (aa rfl) (λ Q q=>?_) (λ Q q=>q) hsq (λ p hp=>q _ _ ⟨p,rfl,ae,(ah.refl H).upd hp⟩)) ?_
  ·exact q
  rintro _ H1 ⟨l,rfl,hl,s1⟩;have ec:iz (ks.map strV) (some (m:Int)) none=(ks.drop m).map strV:=by unfold iz;rw [HT.sIx_none,HT.sIx_nat,Jx,Nat.min_eq_left (Lf hm),<-List.map_drop,Km];rw [Jx,J0];exact KW _
  rw [ec] at hl;have hol:((ks.drop m).map strV).length=ks.length - m:=by rw [Jx,J0]
  show dw _ _ [oR a,oJ k,oR d,oJ c,oJ (m:Int),oR l] H1;have at_:∀(xs:List Nat) (i:Int),0<=i->i<xs.length->atI (xs.map strV) i=some (strV (xs.getD i.toNat 0))/\xs.getD i.toNat 0∈xs:=λ xs i h0 h1=>by
   have hi:i.toNat<xs.length:=by omega
   have e:xs[i.toNat]? =some (xs.getD i.toNat 0):=by rw [JM,JB hi];rfl
   have z:=bJ (xs:=xs.map strV) (j:=i.toNat) (v:=strV (xs.getD i.toNat 0)) (by rw [JO,e];rfl);rw [Int.toNat_of_nonneg h0] at z;exact ⟨z,JT e⟩
  have hdl:(ks.drop m).length=ks.length - m:=J0 ..;refine k4 (n:=(m:Int)) (rest:=[oR d,oR l,oJ c]) (λ Q' z'=>(ac (aa rfl) ay) _ (z' _ (ah.refl _))) (by omega) (by omega) rfl
   (λ i H' v=> ∃a,v=.ref a/\H' a=some (.tup [.str (one (ks.getD i 0)),.str (one ((ks.drop m).getD ((c / 48+(i:Int)) % ((ks.drop m).length:Int)).toNat 0))])) (λ i H1 H2 v ⟨a,e1,e2⟩ s=>⟨a,e1,s _ _ e2⟩) (λ i H' hi s' Q2 z2=>?_) (λ p H' ys s' hp hyl hy=>?_)
  ·have hi:i<m:=by omega
   have hos1:(0:Int)<((ks.drop m).length:Int):=by omega
   have ld:aJ K H' d (ks.map strV):=aJ.of (s' _ _ (s1 _ _ hk.at_));have ll:aJ K H' l ((ks.drop m).map strV):=aJ.of (s' _ _ hl);have e1:=(at_ ks (0+(i:Int)) (by omega) (by omega)).1;rw [Lp,Ln] at e1;have e2:=(at_ (ks.drop m) ((c / 48+(i:Int)) % ((ks.drop m).length:Int)) (Ll _ (by omega)) (Lm _ hos1)).1;rw [Lp];refine gf (x:=strV (ks.getD i 0)) (y:=strV ((ks.drop m).getD ((c / 48+(i:Int)) % ((ks.drop m).length:Int)).toNat 0)) (bg (aa rfl) (aa rfl) (.inl ld) e1) (bg (aa rfl) (aX (cg (bA (aa rfl) ao ⟨by decide,by decide⟩) (aa rfl)) (dY (aa rfl) (.inl ll)) (by rw [Jx];exact hos1)) (.inl ll) (by rw [Jx];exact e2)) λ a ha=>z2 _ _ ⟨a,rfl,ae⟩ ((ah.refl _).upd ha)
  ·obtain ⟨zs,rfl,h1,h2,h3⟩:=qA (λ i=>(one (ks.getD i 0),one ((ks.drop m).getD ((c / 48+(i:Int)) % ((ks.drop m).length:Int)).toNat 0))) ys 0 λ i y hi=>by rw [Lj];exact hy i y hi
   have zl:zs.length=m:=by rw [h2,hyl];omega
   have val:∀(i:Nat) z,zs[i]? =some z->i<m/\z.1=(one (ks.getD i 0),one ((ks.drop m).getD ((c / 48+(i:Int)) % ((ks.drop m).length:Int)).toNat 0)):=λ i z h=>by have hi:=(JQ.mp h).1;have:=h3 i z h;rw [Lj] at this;exact ⟨by omega,this⟩
   have inj:∀i j:Nat,i<ks.length->j<ks.length->ks.getD i 0=ks.getD j 0->i=j:=λ i j hi hj e=>by rw [JM,JM,JB hi,JB hj] at e;exact (List.getElem_inj hk.nd).mp (by simpa using e)
   have dr:∀j:Nat,(ks.drop m).getD j 0=ks.getD (m+j) 0:=λ j=>by rw [JM,JM,List.getElem?_drop]
   have hos1:(0:Int)<((ks.drop m).length:Int):=by omega
   have rg:∀i:Nat,((c / 48+(i:Int)) % ((ks.drop m).length:Int)).toNat<ks.length - m:=λ i=>by have a0:=Ll (c / 48+(i:Int)) (by omega:((ks.drop m).length:Int)≠0);have a1:=Lm (c / 48+(i:Int)) hos1;omega
   have mem:∀i:Nat,i<ks.length->ks.getD i 0∈ks:=λ i hi=>by
    have:=(at_ ks (i:Int) (by omega) (by omega)).2
    rwa [Ln] at this
   refine q p zs _ ⟨by omega,λ z h=>?_,?_,λ z h y h' e=>?_⟩ (h1.same ((ah.refl _).upd hp)) ((s1.trans s').free hp) ae ((s1.trans s').upd hp)
   ·obtain ⟨i,hi⟩:=Ke h;obtain ⟨a1,e⟩:=val i z hi;rw [e];exact ⟨⟨_,mem i (by omega),rfl⟩,_,by rw [dr];exact mem _ (by have:=rg i;omega),rfl⟩
   ·rw [Kq,Kp,KR];intro i j hi hj hij e;obtain ⟨a1,a3⟩:=val i _ (JB hi);obtain ⟨b1,b3⟩:=val j _ (JB hj);rw [a3,b3] at e;have:=inj i j (by omega) (by omega) (lZ e);omega
   ·obtain ⟨i,hi⟩:=Ke h;obtain ⟨j,hj⟩:=Ke h';obtain ⟨a1,a3⟩:=val i z hi;obtain ⟨b1,b3⟩:=val j y hj;rw [a3,b3] at e;have e:=lZ e;rw [dr] at e;have:=rg i;have:=inj _ _ (by omega) (by omega) e;omega
end
end K06
namespace K06
open PySem L2
structure vJ (ks:List Nat) (zs:List ((Str×Str)×Addr)):Prop where
 len:zs.length<=6
 kd:∀z∈zs,z.1.1∈endsL/\∃b∈ks,z.1.2=one b
def A8 (K:Frag):Sp:=λ vs H Q _=> ∃(a:Addr) (ns:List Int) (k:Int) (d:Addr) (ks:List Nat),vs=[.ref a,.int k,.ref d]/\aJ K H a (ns.map V.int)/\0<=k/\k<=900/\fM H d ks/\∀(q:Addr) (zs:List ((Str×Str)×Addr)) (H':Hp),vJ ks zs->fV H' zs->H q=none->H' q=some (.lst (pRefs zs))->ah H H'->Q (.ref q) H'
structure jj (H:Hp) (pl:Addr) (kd rd td ed:Addr) (ks:List Nat) (us:List (bC×Addr)) (ts es:List ((Str×Str)×Addr)):Prop where
 at_:H pl=some (.lst [.ref kd,.ref rd,.ref td,.ref ed])
 kds:fM H kd ks
 rls:H rd=some (.lst (rRefs us))
 ra:gc H us
 rg:∀z∈us,gA ks z.1
 rl:us.length<=24
 tns:H td=some (.lst (pRefs ts))
 ta:fV H ts
 tg:rh ks ts
 ens:H ed=some (.lst (pRefs es))
 ea:fV H es
 eg:vJ ks es
theorem jj.same {H H':Hp}{pl kd rd td ed:Addr}{ks:List Nat}{us:List (bC×Addr)}{ts es:List ((Str×Str)×Addr)}(h:jj H pl kd rd td ed ks us ts es) (s:ah H H'):jj H' pl kd rd td ed ks us ts es:=
 ⟨s _ _ h.at_,h.kds.same s,s _ _ h.rls,h.ra.same s,h.rg,h.rl,s _ _ h.tns,h.ta.same s,h.tg,s _ _ h.ens,h.ea.same s,h.eg⟩
def A0 (K:Frag):Sp:=λ vs H Q _=> ∃(a:Addr) (ns:List Int) (k:Int),vs=[.ref a,.int k]/\aJ K H a (ns.map V.int)/\0<=k/\k<=800/\∀(pl kd rd td ed:Addr) (ks:List Nat) (us:List (bC×Addr)) (ts es:List ((Str×Str)×Addr)) (H':Hp),jj H' pl kd rd td ed ks us ts es->H pl=none->H kd=none->H rd=none->H td=none->H ed=none->ah H H'->Q (.ref pl) H'
structure L3k (P:Program) (w:World) (K:Frag) (mg:Str->Option Value) (base:Heap):Prop where
 _law_kinds:fv P w K mg base "_law_kinds" ["_law_script","_law_k"] 2 (A7 K)
 _law_rules:fv P w K mg base "_law_rules" ["_law_script","_law_k","_law_kinds_here"] 2 (AZ K)
 _law_turns:fv P w K mg base "_law_turns" ["_law_script","_law_k","_law_kinds_here"] 2 (AY K)
 _law_ends:fv P w K mg base "_law_ends" ["_law_script","_law_k","_law_kinds_here"] 2 (A8 K)
section
variable {P:Program}{w:World}{K:Frag}{mg:Str->Option Value}{base:Heap}{aS aA aE aW:Addr}
theorem ml {f:Addr}{fd:FuncData}(F:ce K "_law_ends" "_law_ends" dQ f fd) (T:Txt mg aS aA aE aW) (C:L1 P w K mg base):bz P w K mg base eP 2 f fd ["_law_script","_law_k","_law_kinds_here"] (A8 K):=by
 refine F.ok dh (λ vs H Q E h=>?_) (λ cdv A outer s H vs Q E hr h=>?_)
 ·obtain ⟨a,ns,k,d,ks,rfl,_⟩:=h;rfl
 ·obtain ⟨a,ns,k,d,ks,rfl,hS,k0,k1,hk,q⟩:=h;have hu:=cI hr;refine ⟨_,(af (az (i:=3) dh.nd rfl (Or.inl rfl) (aL C._law_at hr (aq (cv 0) (aq (cv 1) pa_nil))))
   (af (az (i:=4) dh.nd rfl (Or.inl rfl) (aC pa_nil))
   (af (iK PassesOwn.never rfl (B4 T.range (aq (cO K (aC (dy rfl)) (al (cv 3) ag)) pa_nil)) (cE (i:=5) dh.nd rfl (Or.inl rfl)) (af (az (i:=6) dh.nd rfl (Or.inl rfl) (aL C._law_at hr (aq (cv 0) (aq (al (al (cv 1) ag) (cv 5)) pa_nil))))
   (ar (ip (jS (cv 4) (bU (aq (cO K (aC (aq aI (aq aI pa_nil))) (al (cv 6) ag)) (aq (cO K (cv 2) (al (al (cv 6) ag) (kB (gM K) ci T.len (aq (cv 2) pa_nil)))) pa_nil))))))))
   (ar (aF (cv 4)))))),?_⟩
  show bu _ _ _ [oR a,oJ k,oR d,none,none,none,none] H;refine bx (aP (sp:=lr K) (ac (aa rfl) (ac (aa rfl) ay)) (λ Q q=>⟨a,ns,k,rfl,hS,k0,by omega,q⟩)) ?_;generalize lawAt ns k=c;refine oS λ fq hq1=>?_;have sm:ah H (upd H fq (.lst [])):=(ah.refl H).upd hq1;obtain ⟨n,e,hn⟩:=nA (ns:=[0,1,2,1,3,6]) (i:=c % 6) (by omega) (by show _<(6:Int);omega);have hn2:0<=n/\n<=6:=by simp only [Jy,JC,or_false] at hn;omega
  show bu _ _ _ [oR a,oJ k,oR d,oJ c,oR fq,none,none] (upd H fq (.lst []));refine eW (λ σ' H'=>(∃o5 o6,σ'=[oR a,oJ k,oR d,oJ c,oR fq,o5,o6])/\(∃zs,H' fq=some (.lst (pRefs zs))/\fV H' zs/\vJ ks zs)/\ah H H') (λ K' hK=>?_) ?_
  ·refine sN n (λ Q q=>Gg jc (by decide) (λ H'=>(aX (aa rfl) ao (by decide))) e q) (by omega) (by omega)
    (λ i σ' H'=>(∃o5 o6,σ'=[oR a,oJ k,oR d,oJ c,oR fq,o5,o6])/\(∃zs,H' fq=some (.lst (pRefs zs))/\zs.length<=i/\fV H' zs/\∀z∈zs,z.1.1∈endsL/\∃b∈ks,z.1.2=one b)/\ah H H')
    (λ H' s=>⟨⟨_,_,rfl⟩,⟨[],s _ _ ae,KW _,λ x hx=>(nomatch hx),λ x hx=>(nomatch hx)⟩,sm.trans s⟩) ?_ (λ σ' H' h=>?_)
   ·rintro i _ H3 hi' ⟨⟨o5,o6,rfl⟩,⟨zs,h3,hl,hp3,hx⟩,s3⟩;show bu _ _ _ [oR a,oJ k,oR d,oJ c,oR fq,oJ (0+(i:Int)),o6] H3;refine bx (aP (sp:=lr K) (ac (aa rfl) (ac (cg (cg (aa rfl) ao) (aa rfl)) ay)) (λ Q q=>⟨a,ns,_,rfl,s3.seq hS,by omega,by omega,q⟩)) ?_;generalize lawAt ns _=o;refine Bm (aa rfl) ⟨_,h3⟩ ?_;obtain ⟨n1,e1,hn1⟩:=qE (ss:=endsL) (i:=o % 2) (by omega) (by show _<(2:Int);omega);refine mM (aV (ir jc (by decide) (λ H'=>(aX (aa rfl) ao (by decide))) e1 (λ H4 s4=>?_)));have hk4:=(hk.same s3).same s4;obtain ⟨k1,hkm,ek⟩:=hk4.pick (o / 2);have hpos:(0:Int)<((ks.map strV).length:Int):=by rw [Jx];have:=hk.l1;omega
    refine ak (bg (aa rfl) (aX (bA (aa rfl) ao ⟨by decide,by decide⟩) (dY (aa rfl) (.inl (aJ.of hk4.at_))) hpos) (.inl (aJ.of hk4.at_)) ek) (aR ⟨by show 2<=sizeLine;decide,λ p hp=>?_⟩);have h4:=s4 _ _ h3;have npf:fq≠p:=aj h4 hp;have zl:(pRefs zs).length<sizeLine:=by rw [Jx,sizeLine_eq];omega
    refine ⟨pRefs zs,by rw [au npf];exact h4,zl,⟨_,_,rfl⟩,⟨zs++[((n1,one k1),p)],by rw [ae];show _=some (HO.lst (List.map _ (zs++_)));rw [JN];rfl,by rw [JD];show zs.length+1<=_;omega,λ x hm=>?_,λ x hm=>?_⟩,((s3.trans s4).upd hp).put hq1⟩
    ·rcases JG.mp hm with z | z
     ·have hc4:=s4 _ _ (hp3 x z);rw [au (eF hc4 h4 (by simp)),au (aj hc4 hp)];exact hc4
     ·rw [JE.mp z,au npf.symm,ae];rfl
    ·rcases JG.mp hm with z | z
     ·exact hx x z
     ·rw [JE.mp z];exact ⟨hn1,k1,hkm,rfl⟩
   ·obtain ⟨ho,⟨zs,h3,hl,hp3,hx⟩,s3⟩:=h;exact hK _ _ ⟨ho,⟨zs,h3,hp3,⟨by omega,hx⟩⟩,s3⟩
  rintro _ H3 ⟨⟨o5,o6,rfl⟩,⟨zs,h3,hp3,g⟩,s3⟩;exact bf (aa rfl) (q _ zs _ g hp3 hq1 h3 s3)
theorem j7 {f:Addr}{fd:FuncData}(F:ce K "_law_parts" "_law_parts" dj f fd) (T:Txt mg aS aA aE aW) (C:L3k P w K mg base):bz P w K mg base eP 3 f fd ["_law_script","_law_k"] (A0 K):=by
 refine F.ok dD (λ vs H Q E h=>?_) (λ cdv A outer s H vs Q E hr h=>?_)
 ·obtain ⟨a,ns,k,rfl,_⟩:=h;rfl
 ·obtain ⟨a,ns,k,rfl,hS,k0,k1,q⟩:=h;have hu:=cI hr;refine ⟨_,(af (az (i:=2) dD.nd rfl (Or.inl rfl) (aL C._law_kinds hr (aq (cv 0) (aq (cv 1) pa_nil))))
   (af (az (i:=3) dD.nd rfl (Or.inl rfl) (aL C._law_rules hr (aq (cv 0) (aq (al (cv 1) ag) (aq (cv 2) pa_nil)))))
   (af (az (i:=4) dD.nd rfl (Or.inl rfl) (aL C._law_turns hr (aq (cv 0) (aq (al (cv 1) ag) (aq (cv 2) pa_nil)))))
   (ar (aF (aC (aq (cv 2) (aq (cv 3) (aq (cv 4) (aq (aL C._law_ends hr (aq (cv 0) (aq (al (cv 1) ag) (aq (cv 2) pa_nil)))) pa_nil)))))))))),?_⟩
  show bu _ _ _ [oR a,oJ k,none,none,none] H;refine bj (λ v H'=> ∃kd ks,v=.ref kd/\fM H' kd ks/\H kd=none/\ah H H') (λ Q z=>e6 (ac (aa rfl) (ac (aa rfl) ay)) ⟨a,ns,k,rfl,hS,k0,by omega,λ q ks H' g n s=>z _ _ ⟨q,ks,rfl,g,n,s⟩⟩) ?_;rintro _ H1 ⟨kd,ks,rfl,K1,nk,s1⟩;refine bj (λ v H'=> ∃rd us,v=.ref rd/\(∀z∈us,gA ks z.1)/\us.length<=24/\gc H' us/\H1 rd=none/\H' rd=some (.lst (rRefs us))/\ah H1 H') (λ Q z=>e6 (ac (aa rfl) (ac (cg (aa rfl) ao) (ac (aa rfl) ay))) ⟨a,ns,k+1,kd,ks,rfl,s1.seq hS,by omega,by omega,K1,λ q us H' g l r n e s=>z _ _ ⟨q,us,rfl,g,l,r,n,e,s⟩⟩) ?_;rintro _ H2 ⟨rd,us,rfl,rg,rl,ra,nr,er,s2⟩;have s02:=s1.trans s2;refine bj (λ v H'=> ∃td ts,v=.ref td/\rh ks ts/\fV H' ts/\H2 td=none/\H' td=some (.lst (pRefs ts))/\ah H2 H') (λ Q z=>e6 (ac (aa rfl) (ac (cg (aa rfl) ao) (ac (aa rfl) ay))) ⟨a,ns,k+2,kd,ks,rfl,s02.seq hS,by omega,by omega,K1.same s2,λ q us H' g r n e s=>z _ _ ⟨q,us,rfl,g,r,n,e,s⟩⟩) ?_;rintro _ H3 ⟨td,ts,rfl,tg,ta,nt,et,s3⟩;have s03:=s02.trans s3;refine bB (ak (aa rfl) (ak (aa rfl) (ak (aa rfl) (aV (e6 (ac (aa rfl) (ac (cg (aa rfl) ao) (ac (aa rfl) ay))) ⟨a,ns,k+3,kd,ks,rfl,s03.seq hS,by omega,by omega,K1.same (s2.trans s3),λ ed es H4 eg ea ne ee s4=>aR ⟨by show 4<=sizeLine;decide,λ p hp=>?_⟩⟩)))));have s5:=(ah.refl H4).upd (o:=.lst [.ref kd,.ref rd,.ref td,.ref ed]) hp;have s45:=s4.trans s5;exact q p kd rd td ed ks us ts es _ ⟨ae,K1.same ((s2.trans s3).trans s45),(s3.trans s45) _ _ er,ra.same (s3.trans s45),rg,rl,s45 _ _ et,ta.same s45,tg,s5 _ _ ee,ea.same s5,eg⟩ ((s03.trans s4).free hp) nk (s1.free nr) (s02.free nt) (s03.free ne) (s03.trans s45)
end
end K06
namespace K06
open PySem L2
def iY (ts:List ((Str×Str)×Addr)) (kd:Str):Str:=((ts.find? λ z=>decide (z.1.1=kd)).map (·.1.2)).getD kd
theorem nU:∀(ps:List (Str×Str)) (kvs:List (Key×V)),(ps.map (·.1)).Nodup->(∀kv∈kvs,∀p∈ps,kv.1≠.inr p.1)->gQ kvs ps=kvs++ps.map λ p=>(Sum.inr p.1,V.str p.2)
 | [],kvs,_,_=>(JR kvs).symm
 | p::ps,kvs,nd,h=>by
   have e:j1 kvs (.inr p.1) (.str p.2)=kvs++[(.inr p.1,.str p.2)]:=by unfold j1;rw [if_neg];intro a;obtain ⟨kv,h1,h2⟩:=JU.mp a;exact h kv h1 p (JI ..) (of_decide_eq_true h2)
   rw [JW,JZ] at nd;show gQ (j1 kvs (.inr p.1) (.str p.2)) ps=_;rw [e,nU ps _ nd.2 λ kv hk q hq=>?_,Kv]
   ·rfl
   ·rcases JG.mp hk with z | z
    ·exact h kv z q (JJ _ hq)
    ·rw [JE.mp z];intro e2;injection e2 with e2;exact nd.1 (e2▸Jz.mpr ⟨q,hq,rfl⟩)
theorem jq {ts:List ((Str×Str)×Addr)}{kd:Str}(nd:(ts.map λ z=>z.1.1).Nodup):ku ts kd=.str (iY ts kd):=by
 unfold ku iY jW;rw [nU _ [] (by rw [JH];exact nd) (λ kv hk=>(nomatch hk)),List.nil_append,JH,List.find?_map];have e:((λ kv:Key×V=>decide (kv.1=Sum.inr kd))∘((λ p:Str×Str=>((Sum.inr p.1:Key),V.str p.2))∘λ x:(Str×Str)×Addr=>x.1))=λ z=>decide (z.1.1=kd):=by
  funext z;show decide ((Sum.inr z.1.1:Key)=Sum.inr kd)=decide (z.1.1=kd)
  by_cases h:z.1.1=kd
  ·rw [h];simp
  ·rw [decide_eq_false h,decide_eq_false];intro e2;injection e2 with e2;exact h e2
 rw [e];cases ts.find? (λ z=>decide (z.1.1=kd)) with
 | none=>rfl
 | some z=>rfl
def A5 (K:Frag):Sp:=λ vs H Q _=> ∃(d:Addr) (ts:List ((Str×Str)×Addr)) (kd:Str),vs=[.ref d,.str kd]/\H d=some (.lst (pRefs ts))/\fV H ts/\ts.length<=6/\∀H',ah H H'->Q (.str (iY ts kd)) H'
def A6:Sp:=λ vs H Q _=> ∃(a b:Addr) (xs:List V),vs=[.ref a,.ref b]/\H a=some (.lst xs)/\H b=some (.lst xs)/\(∀x∈xs,(flatV x||isRef x)=true)/\Q (.bl true) H
section
variable {P:Program}{w:World}{K:Frag}{mg:Str->Option Value}{base:Heap}{aS aA aE aW:Addr}
theorem iN {f cG:Addr}{fd:FuncData}(F:ce K "rules_of" "Game.rules_of" bL f fd) (T:Txt mg aS aA aE aW) (D:vK K cG):bz P w K mg base eP 1 f fd ["self","kind"] (kD cG):=by
 refine F.ok iJ (λ vs H Q E h=>?_) (λ cdv A outer s H vs Q E hr h=>?_)
 ·obtain ⟨g,b,kd,ks,ts,es,st,us,rfl,_⟩:=h;rfl
 ·obtain ⟨g,b,kd,ks,ts,es,st,us,rfl,G,R,h24,k⟩:=h;have hu:=cI hr;obtain ⟨rq,fl,hrq⟩:=G.rules D;refine ⟨_,(ar (aF (en (cn (N:=["rule","kind"]) (src:=[none,some 1]) (am bL) ["self","kind"]) (sA K (gq K (cv 0))) (λ _ _ _=>(bw (i:=0) ["rule","kind"])) (λ _ _ _=>(eK (bN K hu (cO K (cv 0) ag) (cv 1)))) (λ _ _ _=>(cv 0))))),?_⟩;show tComp _ _ _ _ _ [oR g,oT kd] H Q;refine dG (d:=rq) (xs:=rRefs us) (rest:=[oT kd]) (cV (aa rfl) fl) (aJ.of hrq) (by rw [Jx,sizeLine_eq];omega) rfl (GW us kd) (λ v=>v) (λ x hx=>?_) (λ x hx _=>aa rfl) (λ d hd=>?_)
  ·obtain ⟨z,hz,rfl⟩:=Jz.mp hx;rw [pE R hz];exact bW (hU (bg (x:=.str z.1.kd) (aa rfl) ao (.inr (.inl (.inl (R z hz)))) rfl) (aa rfl))
  ·rw [jJ R,List.map_id'']
   ·exact k d _ hd ae ((ah.refl H).upd hd)
   ·exact λ _=>rfl
theorem jD {f cG:Addr}{fd:FuncData}(F:ce K "turned" "Game.turned" cM f fd) (T:Txt mg aS aA aE aW) (D:vK K cG):bz P w K mg base eP 1 f fd ["self","kind"] (mR cG):=by
 refine F.ok jy (λ vs H Q E h=>?_) (λ cdv A outer s H vs Q E hr h=>?_)
 ·obtain ⟨g,b,kd,ks,rs,es,ts,st,rfl,_⟩:=h;rfl
 ·obtain ⟨g,b,kd,ks,rs,es,ts,st,rfl,G,hp,h6,k⟩:=h;have hu:=cI hr;obtain ⟨qt,ft,ht⟩:=G.turns D;refine ⟨_,(ar (aF (GV K (nV (B9 K hr) wX T.dict (aq (gq K (cv 0)) pa_nil)) (aq (cv 1) (aq (cv 1) pa_nil))))),?_⟩;show dw _ _ [oR g,oT kd] H;exact lD (Cv (cV (aa rfl) ft) (aJ.of ht) hp (by omega) (λ H' s=>ac (aa rfl) (ac (aa rfl) ay)) k)
theorem jC {f:Addr}{fd:FuncData}(F:ce K "_law_turned" "_law_turned" cj f fd) (T:Txt mg aS aA aE aW):bz P w K mg base eP 1 f fd ["_law_turns_here","_law_kind"] (A5 K):=by
 refine F.ok gi (λ vs H Q E h=>?_) (λ cdv A outer s H vs Q E hr h=>?_)
 ·obtain ⟨d,ts,kd,rfl,_⟩:=h;rfl
 ·obtain ⟨d,ts,kd,rfl,hd,hp,h6,k⟩:=h;have hu:=cI hr;refine ⟨_,(af (qz (i:=2) rfl (cn (N:=["_law_pair","_law_kind"]) (src:=[none,some 1]) (am cj) ["_law_turns_here","_law_kind","_law_found"]) (sA K (cv 0)) (λ _ _ _=>(bw (i:=0) ["_law_pair","_law_kind"])) (λ _ _ _=>(eK (bN K hu (cO K (cv 0) ag) (cv 1)))) (λ _ _ _=>(cO K (cv 0) ag)) gi.nd rfl (Or.inl rfl) rfl (Or.inl rfl))
   (ar (aF (cO K (al (cv 2) (aC (aq (cv 1) pa_nil))) ag)))),?_⟩
  show bu _ _ _ [oR d,oT kd,none] H;refine bj (λ v H'=> ∃q,v=.ref q/\H' q=some (.lst (((ts.filter λ z=>decide (z.1.1=kd)).map λ z=>V.str z.1.2)))/\ah H H') (λ Q z=>?_) ?_
  ·refine dG (d:=d) (xs:=pRefs ts) (rest:=[oT kd]) (aa rfl) (aJ.of hd) (by rw [Jx,sizeLine_eq];omega) rfl (λ v=>decide (bE H v=kd)) (λ v=>.str (df H v)) (λ x hx=>?_) (λ x hx _=>?_) (λ d' hd'=>?_)
   ·obtain ⟨z,hz,rfl⟩:=Jz.mp hx;have e:bE H (.ref z.2)=z.1.1:=by unfold bE;rw [dW (hp z hz)]
    rw [e];exact bW (hU (bg (x:=.str z.1.1) (aa rfl) ao (.inr (.inl (.inl (hp z hz)))) rfl) (aa rfl))
   ·obtain ⟨z,hz,rfl⟩:=Jz.mp hx;have e:df H (.ref z.2)=z.1.2:=by unfold df;rw [dW (hp z hz)]
    rw [e];exact bg (x:=.str z.1.2) (aa rfl) ao (.inr (.inl (.inl (hp z hz)))) rfl
   ·refine z _ _ ⟨d',rfl,?_,(ah.refl H).upd hd'⟩;rw [ae,List.filter_map,JH];have e1:∀z∈ts,((λ v=>decide (bE H v=kd))∘λ z:(Str×Str)×Addr=>V.ref z.2) z=decide (z.1.1=kd):=λ z hz=>by
     show decide (bE H (.ref z.2)=kd)=_;have e:bE H (.ref z.2)=z.1.1:=by unfold bE;rw [dW (hp z hz)]
     rw [e]
    rw [KB e1];refine congrArg (λ l=>some (HO.lst l)) (J2 λ z hz=>?_);show V.str (df H (.ref z.2))=_;have e:df H (.ref z.2)=z.1.2:=by unfold df;rw [dW (hp z (Kg.mp hz).1)]
    rw [e]
  rintro _ H1 ⟨q,rfl,hq,s1⟩;have fl:(ts.filter λ z=>decide (z.1.1=kd)).length<=6:=KZ (Ka _ _) h6;refine qJ (jb ((show Ev (bP 2) [some (.ref d),some (.str kd),some (.ref q)] H1 (.ref q) from aa rfl) _ (bB (ak (aa rfl) (aR ⟨by show 1<=sizeLine;decide,λ p hp'=>?_⟩)))));have sp:=(ah.refl H1).upd (o:=.lst [.str kd]) hp';refine eZ (sp _ _ hq) ae (by rw [Jx];show _+1<=1000;omega) λ r hr'=>?_;have sr:=(s1.trans sp).upd (o:=.lst ((ts.filter λ z=>decide (z.1.1=kd)).map (λ z=>V.str z.1.2)++[.str kd])) hr';refine ao _ ⟨_,.str (iY ts kd),.inl (aJ.of ae),?_,k _ sr⟩;refine bJ (j:=0) ?_;unfold iY;rw [<-List.head?_filter];cases ts.filter (λ z=>decide (z.1.1=kd)) with
  | nil=>rfl
  | cons z zs=>rfl
theorem j8 {f:Addr}{fd:FuncData}(F:ce K "_law_lists" "_law_lists" dk f fd) (T:Txt mg aS aA aE aW):bz P w K mg base eP 1 f fd ["_law_found","_law_due"] A6:=by
 refine F.ok j0 (λ vs H Q E h=>?_) (λ cdv A outer s H vs Q E hr h=>?_)
 ·obtain ⟨a,b,xs,rfl,_⟩:=h;rfl
 ·obtain ⟨a,b,xs,rfl,ha,hb,hx,q⟩:=h;have hu:=cI hr;refine ⟨_,(ar (aF (dZ (Bg .list T.isinstance T.list eB (cv 0)) (eM (hG K hu (cv 0) (cv 1)))))),?_⟩;show dw _ _ [oR a,oR b] H;exact bf (cw (a:=true) (b:=true) (Cs (aa rfl) ha) (λ _=>Ct (aa rfl) (aa rfl) (oh (n:=19) (aJ.of ha) (aJ.of hb) hx))) q
end
end K06
namespace K06
open PySem L2
structure oI (H:Hp) (kv rv tv ev:V):Prop where
 tk:bc H 1 kv
 tr:bc H 2 rv
 tt:bc H 2 tv
 te:bc H 2 ev
 bad:kindsB H kv=false\/rulesB H rv (d0 H kv)=false\/turnsB H tv (d0 H kv)=false\/pairsB H ev endsL (d0 H kv)=false
theorem oI.same {H H':Hp}{kv rv tv ev:V}(h:oI H kv rv tv ev) (s:ah H H'):oI H' kv rv tv ev:=by
 have e:d0 H' kv=d0 H kv:=by unfold d0;rw [cU h.tk.1 s]
 exact ⟨h.tk.same s,h.tr.same s,h.tt.same s,h.te.same s,by rw [dR h.tk s,da h.tr s,dI h.tt s,dc h.te s,e];exact h.bad⟩
theorem oI.game {H:Hp}{kv rv tv ev sv:V}(h:oI H kv rv tv ev):iw H kv rv tv ev sv=false:=by
 unfold iw
 rcases h.bad with e | e | e | e
 all_goals simp [e]
theorem wm {l:List Nat}(nd:l.Nodup) (k:Nat):l.length<=(l.filter (· != k)).length+1:=by rw [<-List.Nodup.erase_eq_filter nd,List.length_erase];split<;>omega
theorem qH:∀(ks:List Nat) {l:List Nat},l.Nodup->l.length<=(l.filter λ x=> !decide (x∈ks)).length+ks.length
 | [],l,_=>by rw [JV.mpr (λ _ _=>by simp)];exact KW _
 | k::ks,l,nd=>by
   have a:=qH ks nd;have b:=wm (nd.filter λ x=> !decide (x∈ks)) k;have e:l.filter (λ x=> !decide (x∈k::ks))=(l.filter λ x=> !decide (x∈ks)).filter (· != k):=by
    rw [List.filter_filter];refine KB λ x _=>?_
    by_cases h:x=k<;>simp [h]
   rw [e,JK];omega
theorem cR {H:Hp}{a:Addr}{xs:List V}{n:Nat}(h:H a=some (.tup xs)) (hx:∀x∈xs,bc H n x):bc H (n+1) (.ref a):=⟨.inr (.inl ⟨xs,h⟩),λ ys hy=>by
 rcases hy with z | z
 ·simp only [tupOf,h,Option.some.injEq] at z;subst z;exact hx
 ·simp only [lstOf,h] at z;cases z⟩
theorem eV {H:Hp}{a:Addr}{xs:List V}{n:Nat}(h:H a=some (.lst xs)) (hx:∀x∈xs,bc H n x):bc H (n+1) (.ref a):=⟨.inl ⟨xs,h⟩,λ ys hy=>by
 rcases hy with z | z
 ·simp only [tupOf,h] at z;cases z
 ·simp only [lstOf,h,Option.some.injEq] at z;subst z;exact hx⟩
theorem gG {H:Hp}{p:Addr}{xs:List V}{ws:List Str}(h:H p=some (.tup xs)):bV H (.ref p) ws=gk xs ws:=by unfold bV;rw [dW h]
theorem pN (xs:List V) (j:Nat):iz xs none (some (j:Int))=xs.take j:=by unfold iz;rw [HT.sIx_none,HT.sIx_nat,Kx,Nat.sub_zero];exact List.take_eq_take_iff.mpr (by omega)
theorem vh (xs:List V) {j:Nat}(h:j<=xs.length):iz xs (some (j:Int)) none=xs.drop j:=by unfold iz;rw [HT.sIx_none,HT.sIx_nat,Nat.min_eq_left h,Km];rw [J0];exact KW _
theorem oZ {K:Frag}{ta te tn:TE}{σ:St}{H:Hp}{Q:VK}{L:Addr}{xs:List V}{n:Nat}{v:V}(hL:∀H',ah H H'->Ev ta σ H' (.ref L)/\Ev tn σ H' (.int (n:Int))) (hv:∀H',ah H H'->Ev te σ H' v) (eL:H L=some (.lst xs)) (hn:n<=xs.length) (hz:xs.length<=400)
  (q:∀r H',ah H H'->H' r=some (.lst (xs.take n++[v]++xs.drop n))->Q (.ref r) H'):fU .Add (fU .Add (vy K ta dB (gU tn)) (iH (aK te bK))) (vy K ta (gU tn) dB) σ H Q:=by
 refine jb (jb (mZ (lo:=none) (hi:=some (n:Int)) (hL H (ah.refl H)).1 qB (qC (hL H (ah.refl H)).2) (aJ.of eL) λ p1 h1=>?_));rw [pN];have r1:=(ah.refl H).upd (o:=.lst (xs.take n)) h1;have e1:(upd H p1 (.lst (xs.take n))) p1=some (.lst (xs.take n)):=ae;generalize upd H p1 (.lst (xs.take n))=H1 at r1 e1 ⊢;refine bB (ak (hv _ r1) (aR ⟨by show 1<=sizeLine;decide,λ p2 h2=>?_⟩));have r2:=(ah.refl H1).upd (o:=.lst [v]) h2;refine eZ (r2 _ _ e1) ae (by rw [JS];show _+1<=1000;omega) λ p3 h3=>?_;have r3:=(ah.refl _).upd (o:=.lst (xs.take n++[v])) h3;have e3:(upd (upd H1 p2 (.lst [v])) p3 (.lst (xs.take n++[v]))) p3=some (.lst (xs.take n++[v])):=ae;have s3:=(r1.trans r2).trans r3;generalize upd (upd H1 p2 (.lst [v])) p3 (.lst (xs.take n++[v]))=H3 at r3 e3 s3 ⊢;refine mZ (lo:=some (n:Int)) (hi:=none) (hL H3 s3).1 (qC (hL H3 s3).2) qB (aJ.of (s3 _ _ eL)) λ p4 h4=>?_;rw [vh _ hn];have r4:=(ah.refl H3).upd (o:=.lst (xs.drop n)) h4;refine eZ (r4 _ _ e3) ae (by rw [JD,JS,J0];show _+1+_<=1000;omega) λ p5 h5=>?_;exact q p5 _ ((s3.trans r4).upd h5) ae
theorem sD {H:Hp}{r:Addr}{ks:List Nat}(h:H r=some (.lst (ks.map strV))) (nd:¬ks.Nodup):kindsB H (.ref r)=false:=by
 unfold kindsB;rw [dz h];have e:(ks.map strV).map dJ=ks.map one:=by rw [JH];rfl
 show (_&&decide (((ks.map strV).map dJ).Nodup))=false;have n2:decide ((ks.map one).Nodup)=false:=decide_eq_false λ z=>nd (by
  rw [Kq,Kp] at z;rw [Kq];exact z.imp λ h e=>h (by rw [e]))
 rw [e,n2,Lu]
theorem sC {H:Hp}{r:Addr}{xs:List V}(h:H r=some (.lst xs)) (o:∃x∈xs,letB x=false):kindsB H (.ref r)=false:=by
 unfold kindsB;rw [dz h];have a:xs.all letB=false:=by obtain ⟨x,hx,e⟩:=o;rw [KD];exact ⟨x,hx,by rw [e];decide⟩
 show (decide (1<=xs.length/\xs.length<=6)&&xs.all letB&&_)=false;rw [a,Lu,Lx]
theorem rJ {H:Hp}{r:Addr}{xs:List V}{ws:List Str}(h:H r=some (.lst xs)) (o:∃x∈xs,bV H x ws=false):rulesB H (.ref r) ws=false:=by
 unfold rulesB;rw [dz h];have a:(xs.all λ x=>bV H x ws)=false:=by obtain ⟨x,hx,e⟩:=o;rw [KD];exact ⟨x,hx,by rw [e];decide⟩
 show (_&&xs.all λ x=>bV H x ws)=false;rw [a,Lu]
theorem gZ {H H':Hp}{v:V}{ws:List Str}(t:bc H 1 v) (s:ah H H'):bV H' v ws=bV H v ws:=by unfold bV;rw [dv t.1 s]
theorem oP {H:Hp}{a:Addr}{ks:List Nat}{u:bC}(h:H a=some (.tup u.vs)) (g:gA ks u):bc H 1 (.ref a):=cR h λ x hx=>by
 simp only [Jy,JC,or_false] at hx
 rcases hx with rfl | rfl | rfl | rfl | rfl
 ·obtain ⟨c,_,e⟩:=g.kd;rw [e];show 1<=1000;decide
 ·exact (by decide:∀s∈sortsL,s.length<=1000) _ g.so
 ·exact (by decide:∀s∈aimsL,s.length<=1000) _ g.ai
 ·trivial
 ·trivial
theorem Ba {K:Frag}{ta:TE}{tn:TE}{σ:St}{H:Hp}{Q:VK}(h:ta σ H λ x H1=>(vy K (λ _ H Q=>Q x H) dB (gU tn)) σ H1 Q):vy K ta dB (gU tn) σ H Q:=h
theorem pD {H:Hp}{r:Addr}{ks:List Nat}(h:H r=some (.lst (ks.map strV))) (l:6<ks.length):kindsB H (.ref r)=false:=by
 unfold kindsB;rw [dz h];have a:decide (1<=(ks.map strV).length/\(ks.map strV).length<=6)=false:=decide_eq_false λ z=>by rw [Jx] at z;omega
 show (decide (1<=(ks.map strV).length/\(ks.map strV).length<=6)&&_&&_)=false;rw [a];rfl
theorem qd {H:Hp}{r:Addr}{ks:List Nat}(h:H r=some (.lst (ks.map strV))):bc H 1 (.ref r):=eV h λ x hx=>by obtain ⟨k,_,rfl⟩:=Jz.mp hx;show (one k).length<=1000;show 1<=1000;decide
theorem tJ {ks:List Nat}{n kx:Nat}(h:kx∈ks):¬(ks.take n++[kx]++ks.drop n).Nodup:=λ z=>by
 rw [<-List.take_append_drop n ks] at h;rw [Kv,Kd] at z;obtain ⟨_,z2,z3⟩:=z
 rcases JG.mp h with a | a
 ·exact z3 kx a kx (J4 _ (JE.mpr rfl)) rfl
 ·rw [List.singleton_append,JZ] at z2;exact z2.1 a
theorem pP {ta:TA}{σ:St}{H:Hp}{R:List V->Hp->Prop}(q:∀p H',ah H H'->H' p=some (.lst [])->ta σ H' λ xs H2=>R (.ref p::xs) H2):aK (iH bK) ta σ H R:=
 aV (bB (aR ⟨K7 _,λ p hp=>q p _ ((ah.refl H).upd hp) ae⟩))
theorem wO {K:Frag}{te:TE}{ta:TA}{σ:St}{H:Hp}{R:List V->Hp->Prop}{d:Addr}{ys:List V}(h:Ev te σ H (.ref d)) (e:H d=some (.lst ys)) (q:∀p H',ah H H'->H' p=some (.tup ys)->ta σ H' λ xs H2=>R (.ref p::xs) H2):aK (cB (jr K) (aK te bK)) ta σ H R:=
 aV (Ht h (by rw [vY];exact ⟨ys,.inl ⟨aJ.of e,λ p hp=>q p _ ((ah.refl H).upd hp) ae⟩⟩))
theorem sE {H:Hp}{p:Addr}(h:H p=some (.lst [])):kindsB H (.ref p)=false:=by unfold kindsB;rw [dz h];rfl
theorem sB {H:Hp}{p:Addr}{xs:List V}(h:H p=some (.tup xs)):kindsB H (.ref p)=false:=by unfold kindsB;simp only [lstOf,h]
theorem rH {H:Hp}{p:Addr}{xs:List V}{ws:List Str}(h:H p=some (.tup xs)):rulesB H (.ref p) ws=false:=by unfold rulesB;simp only [lstOf,h]
theorem kH {H:Hp}{p:Addr}{xs:List V}{A B:List Str}(h:H p=some (.tup xs)):pairsB H (.ref p) A B=false:=by unfold pairsB;simp only [lstOf,h]
theorem Jl {tl ta tb:TE}{σ:St}{H:Hp}{Q:VK}{d:Addr}{xs:List V}{a b:Str}(hd:∀H',ah H H'->Ev tl σ H' (.ref d)) (e:H d=some (.lst xs)) (hz:xs.length<=500) (ha:Ev ta σ H (.str a)) (hb:Ev tb σ H (.str b)) (q:∀r p H',ah H H'->H' r=some (.lst (xs++[.ref p]))->H' p=some (.tup [.str a,.str b])->Q (.ref r) H'):
  fU .Add tl (iH (aK (mP (aK ta (aK tb bK))) bK)) σ H Q:=by
 refine jb (hd H (ah.refl H) _ (bB (aV (gf ha hb λ p hp=>aR ⟨by show 1<=sizeLine;decide,λ l hl=>?_⟩))));have r1:=(ah.refl H).upd (o:=.tup [.str a,.str b]) hp;have f1:(upd H p (.tup [.str a,.str b])) p=some (.tup [.str a,.str b]):=ae;generalize upd H p (.tup [.str a,.str b])=H1 at r1 f1 hl ⊢;have r2:=(ah.refl H1).upd (o:=.lst [.ref p]) hl;refine eZ ((r1.trans r2) _ _ e) ae (by show _+1<=1000;omega) λ r hr=>?_;exact q r p _ ((r1.trans r2).upd hr) ae ((r2.upd hr) _ _ f1)
theorem iL {H:Hp}{r:Addr}{xs:List V}{A B:List Str}(h:H r=some (.lst xs)) (o:∃x∈xs,cp H x A B=false):pairsB H (.ref r) A B=false:=by
 unfold pairsB;rw [dz h];have a:(xs.all λ x=>cp H x A B)=false:=by obtain ⟨x,hx,e⟩:=o;rw [KD];exact ⟨x,hx,by rw [e];decide⟩
 show (_&&xs.all λ x=>cp H x A B)=false;rw [a,Lu]
theorem iM {H:Hp}{p:Addr}{a b:Str}{A B:List Str}(h:H p=some (.tup [.str a,.str b])):cp H (.ref p) A B=(decide (a∈A)&&decide (b∈B)):=by unfold cp;rw [dW h];rfl
theorem Gh {K:Frag}{tl tp:TE}{σ:St}{H:Hp}{Q:VK}{d:Addr}{xs vs:List V}{n:Nat}(hd:Ev tl σ H (.ref d)) (e:H d=some (.lst xs)) (hz:xs.length+n<=900) (hp:∀Q:VK,(∀p,H p=none->Q (.ref p) (upd H p (.tup vs)))->tp σ H Q) (q:∀r p H',ah H H'->H' r=some (.lst ((xs++List.replicate n (V.ref p)).take n))->H' p=some (.tup vs)->Q (.ref r) H'):
  vy K (fU .Add tl (tO ut (iH (aK tp bK)) (tC (.int (n:Int))))) dB (gU (tC (.int (n:Int)))) σ H Q:=by
 refine Ba (jb (hd _ (?_:tO ut (iH (aK tp bK)) (tC (.int (n:Int))) σ H _)));refine bB (aV (hp _ λ p h1=>aR ⟨by show 1<=sizeLine;decide,λ l h2=>?_⟩));have r1:=(ah.refl H).upd (o:=.tup vs) h1;have f1:(upd H p (.tup vs)) p=some (.tup vs):=ae;generalize upd H p (.tup vs)=H1 at r1 f1 h2 ⊢;have r2:=(ah.refl H1).upd (o:=.lst [.ref p]) h2;have f2:(upd H1 l (.lst [.ref p])) l=some (.lst [.ref p]):=ae;generalize upd H1 l (.lst [.ref p])=H2 at r2 f2 ⊢;refine ⟨l,(n:Int),[.ref p],rfl,rfl,f2,by omega,by omega,?_,λ u h3=>?_⟩
 ·show 1*(n:Int).toNat<=16777216;omega
 have er:(List.replicate (n:Int).toNat [V.ref p]).flatten=List.replicate n (V.ref p):=by
  rw [Ln];have h:∀m:Nat,(List.replicate m [V.ref p]).flatten=List.replicate m (V.ref p):=λ m=>by
   induction m with
   | zero=>rfl
   | succ m ih=>rw [J1,Kc,ih,J1];rfl
  exact h n
 rw [er];have r3:=(ah.refl H2).upd (o:=.lst (List.replicate n (V.ref p))) h3;refine eZ (((r1.trans r2).trans r3) _ _ e) ae (by rw [Kj];omega) λ v h4=>?_;have r4:=(ah.refl _).upd (o:=.lst (xs++List.replicate n (V.ref p))) h4;refine mZ (lo:=none) (hi:=some (n:Int)) (d:=v) (λ Q q=>q) qB (qC ao) (aJ.of ae) λ r h5=>?_;rw [pN] at*;exact q r p _ ((((r1.trans r2).trans r3).trans r4).upd h5) ae (((r2.trans r3).trans r4).upd h5 _ _ f1)
theorem prk {tl ta tb:TE}{σ:St}{H:Hp}{Q:VK}{d:Addr}{xs:List V}{a b:Str}(hd:∀H',ah H H'->Ev tl σ H' (.ref d)) (e:H d=some (.lst xs)) (hz:xs.length<=500) (ha:Ev ta σ H (.str a)) (hb:Ev tb σ H (.str b)) (q:∀r p H',ah H H'->H' r=some (.lst ([.ref p]++xs))->H' p=some (.tup [.str a,.str b])->Q (.ref r) H'):
  fU .Add (iH (aK (mP (aK ta (aK tb bK))) bK)) tl σ H Q:=by
 refine jb (bB (aV (gf ha hb λ p hp=>aR ⟨by show 1<=sizeLine;decide,λ l hl=>?_⟩)));have r1:=(ah.refl H).upd (o:=.tup [.str a,.str b]) hp;have f1:(upd H p (.tup [.str a,.str b])) p=some (.tup [.str a,.str b]):=ae;generalize upd H p (.tup [.str a,.str b])=H1 at r1 f1 hl ⊢;have r2:=(ah.refl H1).upd (o:=.lst [.ref p]) hl;refine hd _ (r1.trans r2) _ ?_;refine eZ ae ((r1.trans r2) _ _ e) (by show 1+_<=1000;omega) λ r hr=>?_;exact q r p _ ((r1.trans r2).upd hr) ae ((r2.upd hr) _ _ f1)
theorem o4 {H:Hp}{r:Addr}{xs:List V}{ws:List Str}(h:H r=some (.lst xs)) (l:24<xs.length):rulesB H (.ref r) ws=false:=by unfold rulesB;rw [dz h];show (decide (xs.length<=24)&&_)=false;rw [decide_eq_false (by omega)];rfl
theorem pj {H:Hp}{r:Addr}{xs:List V}{A B:List Str}(h:H r=some (.lst xs)) (l:6<xs.length):pairsB H (.ref r) A B=false:=by unfold pairsB;rw [dz h];show (decide (xs.length<=6)&&_)=false;rw [decide_eq_false (by omega)];rfl
theorem g9 {H:Hp}{p:Addr}{n:Nat}(h:H p=some (.lst [])):bc H (n+1) (.ref p):=eV h λ x hx=>nomatch hx
theorem ic (ks:List Nat):ks.map strV=(ks.map one).map V.str:=by rw [JH];rfl
theorem gI {x:Nat}{ks:List Nat}:(one x∈ks.map one)<->x∈ks:=⟨λ h=>by
 obtain ⟨y,hy,e⟩:=Jz.mp h;exact lZ e▸hy,λ h=>Jz.mpr ⟨x,h,rfl⟩⟩
def qc (H:Hp) (x:V):Prop:= ∃(q:Addr) (kv rv tv ev:V),x=.ref q/\H q=some (.lst [kv,rv,tv,ev])/\oI H kv rv tv ev
theorem qc.same {H H':Hp}{x:V}(h:qc H x) (s:ah H H'):qc H' x:=by obtain ⟨q,kv,rv,tv,ev,e,h1,h2⟩:=h;exact ⟨q,kv,rv,tv,ev,e,s _ _ h1,h2.same s⟩
def ItB (H0:Hp) (σ:St) (te:TE):Prop:= ∀H,ah H0 H->∀Q:VK,(∀x H',ah H H'->qc H' x->Q x H')->te σ H Q
def CT (H0:Hp) (σ:St) (ta:TA) (n:Nat):Prop:= ∀H,ah H0 H->∀R:List V->Hp->Prop,(∀xs H',ah H H'->xs.length=n->(∀x∈xs,qc H' x)->R xs H')->ta σ H R
theorem CT.nil {H0:Hp}{σ:St}:CT H0 σ bK 0:=λ H s R r=>r [] H (ah.refl H) rfl λ x hx=>nomatch hx
theorem CT.cons {H0:Hp}{σ:St}{te:TE}{ta:TA}{n:Nat}(h:ItB H0 σ te) (g:CT H0 σ ta n):CT H0 σ (aK te ta) (n+1):=λ H s R r=>aV (h H s _ λ x H1 s1 b=>g H1 (s.trans s1) _ λ xs H2 s2 l a=>r (x::xs) H2 (s1.trans s2) (by rw [JK,l]) λ y hy=>by
 rcases Jy.mp hy with rfl | hy
 ·exact b.same s2
 ·exact a y hy)
theorem gu {H H4:Hp}{kv rv tv ev:V}{Q:VK}(q:∀x H',ah H H'->qc H' x->Q x H') (s:ah H H4) (b:oI H4 kv rv tv ev):[kv,rv,tv,ev].length<=sizeLine/\∀p,H4 p=none->Q (.ref p) (upd H4 p (.lst [kv,rv,tv,ev])):=
 ⟨by show 4<=sizeLine;decide,λ p hp=>q _ _ (s.upd hp) ⟨p,kv,rv,tv,ev,rfl,ae,b.same ((ah.refl H4).upd hp)⟩⟩
def tV:Sp:=λ vs H Q _=> ∃(c:Int) (pl kd rd td ed:Addr) (ks:List Nat) (us:List (bC×Addr)) (ts es:List ((Str×Str)×Addr)),vs=[.int c,.ref pl]/\jj H pl kd rd td ed ks us ts es/\∀(q:Addr) (kv rv tv ev:V) (H':Hp),H' q=some (.lst [kv,rv,tv,ev])->oI H' kv rv tv ev->ah H H'->Q (.ref q) H'
section
variable {P:Program}{w:World}{K:Frag}{mg:Str->Option Value}{base:Heap}{aS aA aE aW:Addr}
theorem mm {f:Addr}{fd:FuncData}(F:ce K "_law_bent" "_law_bent" cr f fd) (T:Txt mg aS aA aE aW):bz P w K mg base eP 1 f fd ["_law_cell","_law_parts_here"] tV:=by
 refine F.ok aN (λ vs H Q E h=>?_) (λ cdv A outer s H vs Q E hr h=>?_)
 ·obtain ⟨c,pl,kd,rd,td,ed,ks,us,ts,es,rfl,_⟩:=h;rfl
 ·obtain ⟨c,pl,kd,rd,td,ed,ks,us,ts,es,rfl,G,k⟩:=h;have hu:=cI hr;refine ⟨_,(af (az (i:=2) aN.nd rfl (Or.inr rfl) (cO K (cv 1) ag))
   (af (az (i:=3) aN.nd rfl (Or.inl rfl) (cO K (cv 1) ag))
   (af (az (i:=4) aN.nd rfl (Or.inl rfl) (cO K (cv 1) ag))
   (af (az (i:=5) aN.nd rfl (Or.inl rfl) (cO K (cv 1) ag))
   (af (az (i:=6) aN.nd rfl (Or.inl rfl) (al (al (cv 0) ag) (al (kB (gM K) ci T.len (aq (cv 2) pa_nil)) ag)))
   (af (az (i:=7) aN.nd rfl (Or.inl rfl) (al (al (cv 0) ag) (al (kB (gM K) ci T.len (aq (cv 3) pa_nil)) ag)))
   (af (az (i:=8) aN.nd rfl (Or.inl rfl) aI)
   (af (az (i:=9) aN.nd rfl (Or.inl rfl) (cO K (en (cn (N:=["_law_one","_law_kinds_here"]) (src:=[none,some 2]) (am cr) ["_law_cell","_law_parts_here","_law_kinds_here","_law_rules_here","_law_turns_here","_law_ends_here","_law_at_here","_law_place","_law_letters","_law_stranger","_law_bad","_law_own","_law_wrong","_law_twice","_law_worse","_law_more","_law_seven","_law_some"]) (pi (cv 8)) (λ _ _ _=>(bw (i:=0) ["_law_one","_law_kinds_here"])) (λ _ _ _=>(eK (bN K hu (cv 0) (cv 1)))) (λ _ _ _=>(cv 0))) (al (al (cv 0) ag) ag)))
   (af (az (i:=10) aN.nd rfl (Or.inl rfl) (cO K (aC (aq db (aq fj (aq aI (aq aI (aq (al (cO K (cv 2) ag) aI) (aq (aC (aq (cO K (cv 2) ag) pa_nil)) (aq ag (aq aI pa_nil))))))))) (al (al (cv 0) ag) ag)))
   (af (az (i:=11) aN.nd rfl (Or.inl rfl) (cO K (cv 2) ag))
   (af (az (i:=12) aN.nd rfl (Or.inl rfl) (aC (aq (bU (aq (cv 9) (aq aI (aq aI (aq ag (aq ag pa_nil)))))) (aq (bU (aq (cv 11) (aq aI (aq aI (aq ag (aq ag pa_nil)))))) (aq (bU (aq (cv 11) (aq aI (aq aI (aq ag (aq ag pa_nil)))))) (aq fj (aq (bU pa_nil) pa_nil)))))))
   (af (az (i:=13) aN.nd rfl (Or.inl rfl) (al (al (vO K (cv 2) dE (dH (cv 6))) (aC (aq (cO K (cv 2) (al (cv 6) ag)) pa_nil))) (vO K (cv 2) (dH (cv 6)) dE)))
   (af (az (i:=14) aN.nd rfl (Or.inl rfl) (al (al (vO K (cv 2) dE (dH (cv 6))) (aC (aq (cv 10) pa_nil))) (vO K (cv 2) (dH (cv 6)) dE)))
   (af (az (i:=15) aN.nd rfl (Or.inl rfl) (al (al (vO K (cv 3) dE (dH (cv 7))) (aC (aq (cO K (cv 12) (al (al (cv 0) ag) ag)) pa_nil))) (vO K (cv 3) (dH (cv 7)) dE)))
   (af (az (i:=16) aN.nd rfl (Or.inl rfl) (vO K (al (cv 2) (en (cn (N:=["_law_one","_law_kinds_here"]) (src:=[none,some 2]) (am cr) ["_law_cell","_law_parts_here","_law_kinds_here","_law_rules_here","_law_turns_here","_law_ends_here","_law_at_here","_law_place","_law_letters","_law_stranger","_law_bad","_law_own","_law_wrong","_law_twice","_law_worse","_law_more","_law_seven","_law_some"]) (pi (cv 8)) (λ _ _ _=>(bw (i:=0) ["_law_one","_law_kinds_here"])) (λ _ _ _=>(eK (bN K hu (cv 0) (cv 1)))) (λ _ _ _=>(cv 0)))) dE (dH ag)))
   (af (az (i:=17) aN.nd rfl (Or.inl rfl) (aC (aq (aC (aq (cv 13) (aq (cv 3) (aq (cv 4) (aq (cv 5) pa_nil))))) (aq (aC (aq (cv 14) (aq (cv 3) (aq (cv 4) (aq (cv 5) pa_nil))))) (aq (aC (aq (aC pa_nil) (aq (aC pa_nil) (aq (aC pa_nil) (aq (aC pa_nil) pa_nil))))) (aq (aC (aq (nV (mr K) gz T.tuple (aq (cv 2) pa_nil)) (aq (cv 3) (aq (cv 4) (aq (cv 5) pa_nil))))) (aq (aC (aq (cv 16) (aq (cv 3) (aq (cv 4) (aq (cv 5) pa_nil))))) (aq (aC (aq (cv 2) (aq (vO K (al (cv 3) (GU (aC (aq (bU (aq (cv 11) (aq aI (aq aI (aq ag (aq ag pa_nil)))))) pa_nil)) ag)) dE (dH ag)) (aq (cv 4) (aq (cv 5) pa_nil))))) (aq (aC (aq (cv 2) (aq (cv 15) (aq (cv 4) (aq (cv 5) pa_nil))))) (aq (aC (aq (cv 2) (aq (nV (mr K) gz T.tuple (aq (cv 3) pa_nil)) (aq (cv 4) (aq (cv 5) pa_nil))))) (aq (aC (aq (cv 2) (aq (cv 3) (aq (nV (mr K) gz T.tuple (aq (cv 4) pa_nil)) (aq (cv 5) pa_nil))))) (aq (aC (aq (cv 2) (aq (cv 3) (aq (al (cv 4) (aC (aq (bU (aq (cv 9) (aq (cO K (cv 2) ag) pa_nil))) pa_nil))) (aq (cv 5) pa_nil))))) (aq (aC (aq (cv 2) (aq (cv 3) (aq (al (cv 4) (aC (aq (bU (aq (cO K (cv 2) ag) (aq (cO K (cv 2) ag) pa_nil))) pa_nil))) (aq (cv 5) pa_nil))))) (aq (aC (aq (cv 2) (aq (cv 3) (aq (cv 4) (aq (nV (mr K) gz T.tuple (aq (cv 5) pa_nil)) pa_nil))))) (aq (aC (aq (cv 2) (aq (cv 3) (aq (cv 4) (aq (al (cv 5) (aC (aq (bU (aq aI (aq (cv 9) pa_nil))) pa_nil))) pa_nil))))) (aq (aC (aq (cv 2) (aq (cv 3) (aq (cv 4) (aq (vO K (al (cv 5) (GU (aC (aq (bU (aq aI (aq (cO K (cv 2) ag) pa_nil))) pa_nil)) ag)) dE (dH ag)) pa_nil))))) (aq (aC (aq (cv 2) (aq fj (aq (cv 4) (aq (cv 5) pa_nil))))) (aq (aC (aq fj (aq (aC pa_nil) (aq (aC pa_nil) (aq (aC pa_nil) pa_nil))))) (aq (aC (aq (cv 2) (aq (cv 3) (aq (cv 4) (aq (al (aC (aq (bU (aq aI (aq (cO K (cv 2) ag) pa_nil))) pa_nil)) (cv 5)) pa_nil))))) pa_nil)))))))))))))))))))
   (ar (aF (cO K (cv 17) (al (cv 0) ag)))))))))))))))))))),?_⟩
  have S0:=aJ.of (K:=K) G.at_;have l1:=G.kds.l1;have l6:=G.kds.l6;show bu _ _ _ [oJ c,oR pl,none,none,none,none,none,none,none,none,none,none,none,none,none,none,none,none] H;refine bx (bg (x:=.ref kd) (aa rfl) ao (.inl S0) rfl) ?_;refine bx (bg (x:=.ref rd) (aa rfl) ao (.inl S0) rfl) ?_;refine bx (bg (x:=.ref td) (aa rfl) ao (.inl S0) rfl) ?_;refine bx (bg (x:=.ref ed) (aa rfl) ao (.inl S0) rfl) ?_;refine bx (aX (bA (aa rfl) ao ⟨by decide,by decide⟩) (cg (dY (aa rfl) (.inl (aJ.of G.kds.at_))) ao) (by omega)) ?_;refine bx (aX (bA (aa rfl) ao ⟨by decide,by decide⟩) (cg (dY (aa rfl) (.inl (aJ.of G.rls))) ao) (by omega)) ?_;rw [Jx,Jx];have a0:=Ll (c / 20) (by omega:(ks.length:Int)+1≠0);have a1:=Lm (c / 20) (by omega:(0:Int)<(ks.length:Int)+1);have b0:=Ll (c / 140) (by omega:(us.length:Int)+1≠0);have b1:=Lm (c / 140) (by omega:(0:Int)<(us.length:Int)+1);generalize c / 20 % ((ks.length:Int)+1)=at0 at a0 a1;generalize c / 140 % ((us.length:Int)+1)=pc at b0 b1;refine bx ao ?_;show bu _ _ _ [oJ c,oR pl,oR kd,oR rd,oR td,oR ed,oJ at0,oJ pc,oT ("abcdefghijklmnopqrstuvwxyz"),none,none,none,none,none,none,none,none,none] H;have abn:("abcdefghijklmnopqrstuvwxyz":Str).cps.toList.Nodup:=by rw [iD];decide
  have abl:∀x∈("abcdefghijklmnopqrstuvwxyz":Str).cps.toList,C1 x:=by rw [iD];show∀x∈_,97<=x/\x<=122;decide
  have ab26:("abcdefghijklmnopqrstuvwxyz":Str).cps.toList.length=26:=by rw [iD];rfl
  have wk:∀{H':Hp},ah H H'->eC K H' kd (ks.map one):=λ s=>.inl (aJ.of (by rw [<-ic];exact s _ _ G.kds.at_));have fl:=qH ks abn;have strg:∀{σ:St} {H1:Hp} {Q:VK},eX [none,some 2] σ=none::[some (.ref kd)]->Ev (bP 8) σ H1 (.str "abcdefghijklmnopqrstuvwxyz")->ah H H1->(∀H2 d,ah H1 H2->H2 d=none->Q (.ref d) (upd H2 d (.lst ((("abcdefghijklmnopqrstuvwxyz":Str).cps.toList.filter λ x=> !decide (x∈ks)).map strV))))->tComp (Cg (bP 8)) (gName 0) (gT (eO K .NotIn (bP 0) (bP 1))) (bP 0) [none,some 2] σ H1 Q:=λ hsub hev s1 q=>by
   refine kZ (z:="abcdefghijklmnopqrstuvwxyz") hev (by decide) hsub (λ x=> !decide (x∈ks)) strV (λ x H' hx s R r=>?_) (λ x H' hx hp s=>aa rfl) q;have e:(!decide (one x∈ks.map one))= !decide (x∈ks):=by rw [decide_eq_decide.mpr gI]
   have z:=bW (qU (K:=K) (ta:=bP 0) (tb:=bP 1) (σ:=[oT (one x),oR kd]) (aa rfl) (aa rfl) (wk (s1.trans s)));rw [e] at z;exact z _ (r _ (ah.refl _))
  refine bj (λ v H'=> ∃x,v=.str (one x)/\C1 x/\¬x∈ks/\ah H H') (λ Q z=>?_) ?_
  ·refine qJ (strg rfl (aa rfl) (ah.refl H) λ H1 d s1 hd=>?_);refine (aX (bA (aa rfl) ao ⟨by decide,by decide⟩) ao (by decide)) _ ?_;obtain ⟨v,e,hv⟩:=jA (xs:=(("abcdefghijklmnopqrstuvwxyz":Str).cps.toList.filter λ x=> !decide (x∈ks)).map strV) (i:=c / 20 % 20) (by omega) (by rw [Jx];omega);obtain ⟨x,hx,rfl⟩:=Jz.mp hv;have hx:=Kg.mp hx;exact ⟨_,strV x,.inl (aJ.of ae),e,z _ _ ⟨x,rfl,abl x hx.1,by simpa using hx.2,s1.upd hd⟩⟩
  rintro _ H1 ⟨sx,rfl,slt,sno,s1⟩;obtain ⟨k0,kr,ek⟩:∃k kr,ks=k::kr:=by
   cases ks with
   | nil=>simp at l1
   | cons k kr=>exact ⟨k,kr,rfl⟩
  have kl0:C1 k0:=G.kds.ltr k0 (by rw [ek];exact JI ..);have km0:k0∈ks:=by rw [ek];exact JI ..
  have ei:∀{σ:St} {H':Hp},ah H H'->Ev (bP 2) σ H' (.ref kd)->Ev (tj K (bP 2) (tC (.int 0))) σ H' (strV k0):=λ s h=>bg h ao (.inl (aJ.of (G.kds.same s).at_)) (bJ (j:=0) (by rw [ek];rfl));refine bj (λ v H'=>letB v=false/\Thg H' v/\ah H H') (λ Q z=>?_) ?_
  ·refine qJ (bB (ak ao (ak ao (ak ao (ak ao (ak (mw (ei s1 (aa rfl)) ao (by show 2<=sizeLine;decide)) (aV (bB (ak (ei s1 (aa rfl)) (aR ⟨by show 1<=sizeLine;decide,λ p hp=>?_⟩))))))))));have sp:=s1.upd (o:=.lst [strV k0]) hp;refine ak ao (ak ao (aR ⟨by show 8<=sizeLine;decide,λ r hr'=>?_⟩));have sr:=sp.upd (o:=.lst [.bl true,.non,.str "",.str "A",.str (one k0++"a"),.ref p,.int 0,.str "1"]) hr';refine (aX (bA (aa rfl) ao ⟨by decide,by decide⟩) ao (by decide)) _ ?_;obtain ⟨v,e,hv⟩:=jA (xs:=[.bl true,.non,.str "",.str "A",.str (one k0++"a"),.ref p,.int 0,.str "1"]) (i:=c / 20 % 8) (by omega) (by show _<(8:Int);omega);refine ⟨_,v,.inl (aJ.of ae),e,?_⟩;simp only [Jy,JC,or_false] at hv
   rcases hv with rfl | rfl | rfl | rfl | rfl | rfl | rfl | rfl
   ·exact z _ _ ⟨rfl,trivial,sr⟩
   ·exact z _ _ ⟨rfl,trivial,sr⟩
   ·exact z _ _ ⟨by decide+kernel,(show ("":Str).length<=1000 by decide),sr⟩
   ·exact z _ _ ⟨by decide+kernel,(show ("A":Str).length<=1000 by decide),sr⟩
   ·refine z _ _ ⟨?_,(show (one k0++("a":Str)).length<=1000 by show 2<=1000;decide),sr⟩;show (match (one k0++("a":Str)).cps.toList with | [c]=>decide (97<=c/\c<=122) | _=>false)=false
    rw [qf,AW];rfl
   ·exact z _ _ ⟨rfl,.inl ⟨_,((ah.refl _).upd (o:=.lst [.bl true,.non,.str "",.str "A",.str (one k0++"a"),.ref p,.int 0,.str "1"]) hr') _ _ ae⟩,sr⟩
   ·exact z _ _ ⟨rfl,trivial,sr⟩
   ·exact z _ _ ⟨by decide+kernel,(show ("1":Str).length<=1000 by decide),sr⟩
  rintro bv H2 ⟨bl,bt,s2⟩;refine bx (ei s2 (aa rfl)) ?_;show bu _ _ _ [oJ c,oR pl,oR kd,oR rd,oR td,oR ed,oJ at0,oJ pc,oT ("abcdefghijklmnopqrstuvwxyz"),oT (one sx),some bv,oT (one k0),none,none,none,none,none,none] H2;refine bj (λ v H'=> ∃(q:Addr) (vs:List V),v=.ref q/\H' q=some (.lst vs)/\vs.length=5/\(∀x∈vs,bV H' x (ks.map one)=false/\bc H' 1 x)/\ah H2 H') (λ Q z=>?_) ?_
  ·refine bB (aV (mM (ak (aa rfl) (ak ao (ak ao (ak ao (ak ao (aR ⟨by show 5<=sizeLine;decide,λ p1 h1=>?_⟩))))))));have r1:=(ah.refl H2).upd (o:=.tup [.str (one sx),.str "leap",.str "go",.int 1,.int 0]) h1;refine aV (mM (ak (aa rfl) (ak ao (ak ao (ak ao (ak ao (aR ⟨by show 5<=sizeLine;decide,λ p2 h2=>?_⟩)))))));have r2:=(ah.refl _).upd (o:=.tup [.str (one k0),.str "leap",.str "go",.int 0,.int 0]) h2;refine aV (mM (ak (aa rfl) (ak ao (ak ao (ak ao (ak ao (aR ⟨by show 5<=sizeLine;decide,λ p3 h3=>?_⟩)))))));have r3:=(ah.refl _).upd (o:=.tup [.str (one k0),.str "jump",.str "go",.int 1,.int 0]) h3;refine ak ao (aV (mM (aR ⟨K7 _,λ p4 h4=>aR ⟨by show 5<=sizeLine;decide,λ q hq=>?_⟩⟩)));have r4:=(ah.refl _).upd (o:=.tup []) h4;have r5:=(ah.refl _).upd (o:=.lst [.ref p1,.ref p2,.ref p3,.non,.ref p4]) hq;refine z _ _ ⟨q,_,rfl,ae,rfl,λ x hx=>?_,(((r1.trans r2).trans r3).trans r4).trans r5⟩;have lo:∀(k:Nat),(one k).length<=1000:=λ k=>by show 1<=1000;decide
   have fl5:∀{p:Addr} {a b d:Str} {H':Hp} {i j:Int},a.length<=1000->b.length<=1000->d.length<=1000->H' p=some (.tup [.str a,.str b,.str d,.int i,.int j])->bc H' 1 (.ref p):=λ ha hb hd e=>cR e λ x hx=>by
    simp only [Jy,JC,or_false] at hx
    rcases hx with rfl | rfl | rfl | rfl | rfl
    ·exact ha
    ·exact hb
    ·exact hd
    ·trivial
    ·trivial
   simp only [Jy,JC,or_false] at hx
   rcases hx with rfl | rfl | rfl | rfl | rfl
   ·have e:=(((r2.trans r3).trans r4).trans r5) _ _ (ae (a:=p1));refine ⟨?_,fl5 (lo _) (by decide) (by decide) e⟩;rw [gG e];show (decide (one sx∈ks.map one)&&_&&_&&_&&_)=false;rw [decide_eq_false λ h=>sno (gI.mp h)];rfl
   ·have e:=((r3.trans r4).trans r5) _ _ (ae (a:=p2));refine ⟨?_,fl5 (lo _) (by decide) (by decide) e⟩;rw [gG e];show (_&&gN "leap" (.int 0) (.int 0))=false;rw [show gN "leap" (.int 0) (.int 0)=false by decide+kernel,Lu]
   ·have e:=(r4.trans r5) _ _ (ae (a:=p3));refine ⟨?_,fl5 (lo _) (by decide) (by decide) e⟩;rw [gG e];show (_&& !(decide (("jump":Str)="jump")&& !decide (("go":Str)="hit"))&&_)=false;rw [show (!(decide (("jump":Str)="jump")&& !decide (("go":Str)="hit")))=false by decide+kernel,Lu,Lx]
   ·exact ⟨rfl,trivial,λ ys hy=>by rcases hy with z | z<;>cases z⟩
   ·have e:=r5 _ _ (ae (a:=p4));exact ⟨by rw [gG e];rfl,cR e λ x hx=>(nomatch hx)⟩
  rintro _ H3 ⟨wq,wv,rfl,wa,wl,wb,s23⟩;have s3:=s2.trans s23;obtain ⟨an,rfl⟩:∃n:Nat,at0=(n:Int):=⟨at0.toNat,by omega⟩;refine bj (λ v H'=> ∃q,v=.ref q/\kindsB H' (.ref q)=false/\bc H' 1 (.ref q)/\ah H3 H') (λ Q z=>?_) ?_
  ·obtain ⟨kx,hkx,ekx⟩:∃kx∈ks,atI (ks.map strV) ((an:Int) - 1)=some (strV kx)/\True:=by
    have hj:∃j:Nat,j<ks.length/\ixN (ks.map strV).length ((an:Int) - 1)=some j:=by
     unfold ixN;rw [Jx]
     by_cases h0:0<=(an:Int) - 1
     ·rw [if_pos h0];exact ⟨((an:Int) - 1).toNat,by omega,by simp;omega⟩
     ·rw [if_neg h0];exact ⟨ks.length - 1,by omega,by simp;omega⟩
    obtain ⟨j,hj,ej⟩:=hj;refine ⟨ks[j],J9 hj,?_,trivial⟩;unfold atI;rw [ej];show (ks.map strV)[j]? =_;rw [JO,JB hj];rfl
   refine oZ (n:=an) (xs:=ks.map strV) (v:=strV kx) (λ H' s=>⟨aa rfl,aa rfl⟩) (λ H' s=>bg (aa rfl) (hJ (aa rfl) ao) (.inl (aJ.of (s _ _ (s3 _ _ G.kds.at_)))) ekx.1) (s3 _ _ G.kds.at_) (by rw [Jx];omega) (by rw [Jx];omega) λ r H' s e=>?_;have e:H' r=some (.lst ((ks.take an++[kx]++ks.drop an).map strV)):=by rw [e,JN,JN,List.map_take,List.map_drop];rfl
   exact z _ _ ⟨r,rfl,sD e (tJ hkx),qd e,s⟩
  rintro _ H4 ⟨tq,rfl,tb,tt,s34⟩;have s4:=s3.trans s34;refine bj (λ v H'=> ∃q,v=.ref q/\kindsB H' (.ref q)=false/\bc H' 1 (.ref q)/\ah H4 H') (λ Q z=>?_) ?_
  ·refine oZ (n:=an) (xs:=ks.map strV) (v:=bv) (λ H' s=>⟨aa rfl,aa rfl⟩) (λ H' s=>aa rfl) (s4 _ _ G.kds.at_) (by rw [Jx];omega) (by rw [Jx];omega) λ r H' s e=>?_;have ba:=bt.same ((s23.trans s34).trans s);refine z _ _ ⟨r,rfl,sC e ⟨bv,J4 _ (JF _ (JE.mpr rfl)),bl⟩,eV e λ x hx=>?_,s⟩;have kk:∀{y},y∈ks.map strV->bc H' 0 y:=λ hy=>by obtain ⟨k,_,rfl⟩:=Jz.mp hy;show 1<=1000;decide
   rcases JG.mp hx with a | a
   ·rcases JG.mp a with a | a
    ·exact kk (Kr a)
    ·rw [JE.mp a];exact ba
   ·exact kk (KT a)
  rintro _ H5 ⟨oq,rfl,ob,ot,s45⟩;have s5:=s4.trans s45;obtain ⟨pn,rfl⟩:∃n:Nat,pc=(n:Int):=⟨pc.toNat,by omega⟩;have rl24:=G.rl;refine bj (λ v H'=> ∃q,v=.ref q/\rulesB H' (.ref q) (ks.map one)=false/\bc H' 2 (.ref q)/\ah H5 H') (λ Q z=>?_) ?_
  ·obtain ⟨wx,ewx,hwx⟩:=jA (xs:=wv) (i:=c / 20 % 5) (by omega) (by rw [wl];show _<(5:Int);omega);have s35:=s34.trans s45;refine oZ (n:=pn) (xs:=rRefs us) (v:=wx) (λ H' s=>⟨aa rfl,aa rfl⟩) (λ H' s=>bg (aa rfl) (aX (bA (aa rfl) ao ⟨by decide,by decide⟩) ao (by decide)) (.inl (aJ.of (s _ _ (s35 _ _ wa)))) ewx) (s5 _ _ G.rls) (by rw [Jx];omega) (by rw [Jx];omega) λ r H' s e=>?_;obtain ⟨w1,w2⟩:=wb wx hwx;refine z _ _ ⟨r,rfl,rJ e ⟨wx,J4 _ (JF _ (JE.mpr rfl)),by rw [gZ w2 (s35.trans s)];exact w1⟩,eV e λ x hx=>?_,s⟩;have kk:∀{y},y∈rRefs us->bc H' 1 y:=λ hy=>by obtain ⟨u,hu',rfl⟩:=Jz.mp hy;exact oP ((s5.trans s) _ _ (G.ra u hu')) (G.rg u hu')
   rcases JG.mp hx with a | a
   ·rcases JG.mp a with a | a
    ·exact kk (Kr a)
    ·rw [JE.mp a];exact w2.same (s35.trans s)
   ·exact kk (KT a)
  rintro _ H6 ⟨mq,rfl,mb,mt,s56⟩;have s6:=s5.trans s56;refine bj (λ v H'=> ∃q,v=.ref q/\kindsB H' (.ref q)=false/\bc H' 1 (.ref q)/\ah H6 H') (λ Q z=>?_) ?_
  ·refine Ba (jb ((show Ev (bP 2) _ _ (.ref kd) from aa rfl) _ (strg rfl (aa rfl) s6 λ H' d s hd=>?_)));have ul:=Ka (λ x=> !decide (x∈ks)) ("abcdefghijklmnopqrstuvwxyz":Str).cps.toList;refine eZ (((s6.trans s).upd hd) _ _ G.kds.at_) ae (by rw [Jx,Jx];omega) λ p hp=>?_;refine mZ (lo:=none) (hi:=some ((7:Nat):Int)) (d:=p) (λ Q q=>q) qB (qC ao) (aJ.of ae) λ r hr'=>?_;rw [pN,<-JN,<-List.map_take];rw [<-JN] at hr';refine z _ _ ⟨r,rfl,pD ae ?_,qd ae,((s.upd hd).upd hp).upd hr'⟩;rw [JS,JD];omega
  rintro _ H7 ⟨vq,rfl,vb,vt,s67⟩;have s7:=s6.trans s67;have kT:∀{H'},ah H7 H'->bc H' 1 (.ref kd):=λ s=>uK (G.kds.same (s7.trans s));have rT:∀{H'},ah H7 H'->bc H' 2 (.ref rd):=λ s=>t6 ((s7.trans s) _ _ G.rls) (G.ra.same (s7.trans s)) G.rg;have o1:∀k:Nat,(one k).length<=1000:=λ k=>by show 1<=1000;decide
  have tT:∀{H'},ah H7 H'->bc H' 2 (.ref td):=λ s=>lU ((s7.trans s) _ _ G.tns) (G.ta.same (s7.trans s)) λ z hz=>by obtain ⟨⟨a,_,ea⟩,b,_,eb⟩:=G.tg.kd z hz;rw [ea,eb];exact ⟨o1 a,o1 b⟩
  have eT:∀{H'},ah H7 H'->bc H' 2 (.ref ed):=λ s=>lU ((s7.trans s) _ _ G.ens) (G.ea.same (s7.trans s)) λ z hz=>by obtain ⟨ha,b,_,eb⟩:=G.eg.kd z hz;rw [eb];exact ⟨(by decide:∀s∈endsL,s.length<=1000) _ ha,o1 b⟩
  have kw:∀{H'},ah H7 H'->d0 H' (.ref kd)=ks.map one:=λ s=>by unfold d0;rw [dz ((s7.trans s) _ _ G.kds.at_)];show (ks.map strV).map dJ=_;rw [JH];rfl
  show bu _ _ _ [oJ c,oR pl,oR kd,oR rd,oR td,oR ed,oJ (an:Int),oJ (pn:Int),oT ("abcdefghijklmnopqrstuvwxyz"),oT (one sx),some bv,oT (one k0),oR wq,oR tq,oR oq,oR mq,oR vq,none] H7;refine bj (λ v H'=> ∃(q:Addr) (xs:List V),v=.ref q/\H' q=some (.lst xs)/\xs.length=17/\(∀x∈xs,qc H' x)/\ah H7 H') (λ Q z=>?_) ?_
  ·refine bB ((?_:CT H7 _ _ 17) H7 (ah.refl H7) _ λ xs H' s l a=>⟨by rw [l];decide,λ p hp=>z _ _ ⟨p,xs,rfl,ae,l,λ x hx=>(a x hx).same ((ah.refl H').upd hp),s.upd hp⟩⟩);refine .cons (λ H' s Q q=>bB (ak (aa rfl) (ak (aa rfl) (ak (aa rfl) (ak (aa rfl) (aR (gu q (ah.refl H') ⟨tt.same (((s45.trans s56).trans s67).trans s),rT s,tT s,eT s,.inl ?_⟩))))))) ?_
   ·rw [dR tt (((s45.trans s56).trans s67).trans s)];exact tb
   refine .cons (λ H' s Q q=>bB (ak (aa rfl) (ak (aa rfl) (ak (aa rfl) (ak (aa rfl) (aR (gu q (ah.refl H') ⟨ot.same ((s56.trans s67).trans s),rT s,tT s,eT s,.inl ?_⟩))))))) ?_
   ·rw [dR ot ((s56.trans s67).trans s)];exact ob
   refine .cons (λ H' s Q q=>bB (pP λ p1 G1 r1 f1=>pP λ p2 G2 r2 f2=>pP λ p3 G3 r3 f3=>pP λ p4 G4 r4 f4=>aR (gu q (((r1.trans r2).trans r3).trans r4) ⟨g9 (((r2.trans r3).trans r4) _ _ f1),g9 ((r3.trans r4) _ _ f2),g9 (r4 _ _ f3),g9 f4,.inl (sE (((r2.trans r3).trans r4) _ _ f1))⟩))) ?_;refine .cons (λ H' s Q q=>bB (wO (aa rfl) ((s7.trans s) _ _ G.kds.at_) λ p1 G1 r1 f1=>ak (aa rfl) (ak (aa rfl) (ak (aa rfl) (aR (gu q r1 ⟨cR f1 λ x hx=>?_,rT (s.trans r1),tT (s.trans r1),eT (s.trans r1),.inl (sB f1)⟩)))))) ?_
   ·obtain ⟨k,_,rfl⟩:=Jz.mp hx;exact o1 k
   refine .cons (λ H' s Q q=>bB (ak (aa rfl) (ak (aa rfl) (ak (aa rfl) (ak (aa rfl) (aR (gu q (ah.refl H') ⟨vt.same s,rT s,tT s,eT s,.inl ?_⟩))))))) ?_
   ·rw [dR vt s];exact vb
   have i5:ItB H7 [some (.int c),some (.ref pl),some (.ref kd),some (.ref rd),some (.ref td),some (.ref ed),some (.int (an:Int)),some (.int (pn:Int)),some (.str "abcdefghijklmnopqrstuvwxyz"),some (.str (one sx)),some bv,some (.str (one k0)),some (.ref wq),some (.ref tq),some (.ref oq),some (.ref mq),some (.ref vq),none] (iH (aK (bP 2) (aK (vy K (fU .Add (bP 3) (tO ut (iH (aK (mP (aK (bP 11) (aK (tC (.str "leap")) (aK (tC (.str "go")) (aK (tC (.int 1)) (aK (tC (.int 0)) bK)))))) bK)) (tC (.int 25)))) dB (gU (tC (.int 25)))) (aK (bP 4) (aK (bP 5) bK))))):=λ H' s Q q=>bB (ak (aa rfl) (aV (Gh (n:=25) (xs:=rRefs us) (vs:=[.str (one k0),.str "leap",.str "go",.int 1,.int 0]) (aa rfl) ((s7.trans s) _ _ G.rls) (by rw [Jx];omega) (λ Q q=>mM (ak (aa rfl) (ak ao (ak ao (ak ao (ak ao (aR ⟨by show 5<=sizeLine;decide,q⟩))))))) λ r p H2 s2 e1 e2=>ak (aa rfl) (ak (aa rfl) (aR (gu q s2 ⟨kT (s.trans s2),eV e1 λ x hx=>(by
     rcases JG.mp (Kr hx) with z | z
     ·obtain ⟨u,hu',rfl⟩:=Jz.mp z;exact oP (((s7.trans s).trans s2) _ _ (G.ra u hu')) (G.rg u hu')
     ·rw [(KU.mp z).2];refine cR e2 λ y hy=>?_;simp only [Jy,JC,or_false] at hy
      rcases hy with rfl | rfl | rfl | rfl | rfl
      ·exact o1 _
      ·exact (by decide:("leap":Str).length<=1000)
      ·exact (by decide:("go":Str).length<=1000)
      ·trivial
      ·trivial),tT (s.trans s2),eT (s.trans s2),.inr (.inl (o4 e1 (by rw [JS,JD,Kj];omega)))⟩))))))
   refine .cons i5 ?_;refine .cons (λ H' s Q q=>bB (ak (aa rfl) (ak (aa rfl) (ak (aa rfl) (ak (aa rfl) (aR (gu q (ah.refl H') ⟨kT s,mt.same (s67.trans s),tT s,eT s,.inr (.inl ?_)⟩))))))) ?_
   ·rw [kw s,da mt (s67.trans s)];exact mb
   refine .cons (λ H' s Q q=>bB (ak (aa rfl) (wO (aa rfl) ((s7.trans s) _ _ G.rls) λ p1 G1 r1 f1=>ak (aa rfl) (ak (aa rfl) (aR (gu q r1 ⟨kT (s.trans r1),cR f1 λ x hx=>?_,tT (s.trans r1),eT (s.trans r1),.inr (.inl (rH f1))⟩)))))) ?_
   ·obtain ⟨u,hu',rfl⟩:=Jz.mp hx;exact oP (((s7.trans s).trans r1) _ _ (G.ra u hu')) (G.rg u hu')
   have prT:∀{H'} {x:V} {zs:List ((Str×Str)×Addr)},fV H' zs->(∀z∈zs,z.1.1.length<=1000/\z.1.2.length<=1000)->x∈pRefs zs->bc H' 1 x:=λ hp hl hx=>by
    obtain ⟨u,hu',rfl⟩:=Jz.mp hx;refine cR (hp u hu') λ y hy=>?_;simp only [Jy,JC,or_false] at hy
    rcases hy with rfl | rfl
    ·exact (hl u hu').1
    ·exact (hl u hu').2
   have tL:∀z∈ts,z.1.1.length<=1000/\z.1.2.length<=1000:=λ z hz=>by obtain ⟨⟨a,_,ea⟩,b,_,eb⟩:=G.tg.kd z hz;rw [ea,eb];exact ⟨o1 a,o1 b⟩
   have eL:∀z∈es,z.1.1.length<=1000/\z.1.2.length<=1000:=λ z hz=>by obtain ⟨ha,b,_,eb⟩:=G.eg.kd z hz;rw [eb];exact ⟨(by decide:∀s∈endsL,s.length<=1000) _ ha,o1 b⟩
   refine .cons (λ H' s Q q=>bB (ak (aa rfl) (ak (aa rfl) (wO (aa rfl) ((s7.trans s) _ _ G.tns) λ p1 G1 r1 f1=>ak (aa rfl) (aR (gu q r1 ⟨kT (s.trans r1),rT (s.trans r1),cR f1 λ x hx=>prT (G.ta.same ((s7.trans s).trans r1)) tL hx,eT (s.trans r1),.inr (.inr (.inl ?_))⟩)))))) ?_
   ·unfold turnsB;rw [kH f1];rfl
   have apT:∀{H'} {r p:Addr} {zs:List ((Str×Str)×Addr)} {a b:Str},fV H' zs->(∀z∈zs,z.1.1.length<=1000/\z.1.2.length<=1000)->a.length<=1000->b.length<=1000->H' r=some (.lst (pRefs zs++[.ref p]))->H' p=some (.tup [.str a,.str b])->bc H' 2 (.ref r):=λ hp hl ha hb e1 e2=>eV e1 λ x hx=>by
    rcases JG.mp hx with z | z
    ·exact prT hp hl z
    ·rw [JE.mp z];refine cR e2 λ y hy=>?_;simp only [Jy,JC,or_false] at hy
     rcases hy with rfl | rfl
     ·exact ha
     ·exact hb
   have tl6:=G.tg.len;have el6:=G.eg.len;refine .cons (λ H' s Q q=>bB (ak (aa rfl) (ak (aa rfl) (aV (Jl (a:=one sx) (b:=one k0) (λ G r=>aa rfl) ((s7.trans s) _ _ G.tns) (by rw [Jx];omega) (aa rfl) (ei (s7.trans s) (aa rfl)) λ r p H2 s2 e1 e2=>ak (aa rfl) (aR (gu q s2 ⟨kT (s.trans s2),rT (s.trans s2),apT (G.ta.same ((s7.trans s).trans s2)) tL (o1 _) (o1 _) e1 e2,eT (s.trans s2),.inr (.inr (.inl ?_))⟩))))))) ?_
   ·unfold turnsB;rw [kw (s.trans s2),iL e1 ⟨.ref p,JF _ (JE.mpr rfl),?_⟩]
    ·rfl
    ·rw [iM e2,decide_eq_false λ h=>sno (gI.mp h)];rfl
   refine .cons (λ H' s Q q=>bB (ak (aa rfl) (ak (aa rfl) (aV (Jl (a:=one k0) (b:=one k0) (λ G r=>aa rfl) ((s7.trans s) _ _ G.tns) (by rw [Jx];omega) (ei (s7.trans s) (aa rfl)) (ei (s7.trans s) (aa rfl)) λ r p H2 s2 e1 e2=>ak (aa rfl) (aR (gu q s2 ⟨kT (s.trans s2),rT (s.trans s2),apT (G.ta.same ((s7.trans s).trans s2)) tL (o1 _) (o1 _) e1 e2,eT (s.trans s2),.inr (.inr (.inl ?_))⟩))))))) ?_
   ·unfold turnsB;rw [dz e1];have a:((pRefs ts++[V.ref p]).any λ x=>decide (df H2 x∈(pRefs ts++[V.ref p]).map (bE H2)))=true:=by
     rw [JU];have h1:df H2 (.ref p)=one k0:=by unfold df;rw [dW e2]
     have h2:bE H2 (.ref p)=one k0:=by unfold bE;rw [dW e2]
     refine ⟨.ref p,JF _ (JE.mpr rfl),decide_eq_true ?_⟩;rw [h1];exact Jz.mpr ⟨.ref p,JF _ (JE.mpr rfl),h2⟩
    show (_&&(!((pRefs ts++[V.ref p]).any λ x=>decide (df H2 x∈(pRefs ts++[V.ref p]).map (bE H2)))&&_))=false;rw [a];simp
   refine .cons (λ H' s Q q=>bB (ak (aa rfl) (ak (aa rfl) (ak (aa rfl) (wO (aa rfl) ((s7.trans s) _ _ G.ens) λ p1 G1 r1 f1=>aR (gu q r1 ⟨kT (s.trans r1),rT (s.trans r1),tT (s.trans r1),cR f1 λ x hx=>prT (G.ea.same ((s7.trans s).trans r1)) eL hx,.inr (.inr (.inr (kH f1)))⟩)))))) ?_;refine .cons (λ H' s Q q=>bB (ak (aa rfl) (ak (aa rfl) (ak (aa rfl) (aV (Jl (a:="home") (b:=one sx) (λ G r=>aa rfl) ((s7.trans s) _ _ G.ens) (by rw [Jx];omega) ao (aa rfl) λ r p H2 s2 e1 e2=>aR (gu q s2 ⟨kT (s.trans s2),rT (s.trans s2),tT (s.trans s2),apT (G.ea.same ((s7.trans s).trans s2)) eL (by decide) (o1 _) e1 e2,.inr (.inr (.inr ?_))⟩))))))) ?_
   ·rw [kw (s.trans s2)];refine iL e1 ⟨.ref p,JF _ (JE.mpr rfl),?_⟩;rw [iM e2,decide_eq_false (p:=one sx∈_) λ h=>sno (gI.mp h),Lu]
   refine .cons (λ H' s Q q=>bB (ak (aa rfl) (ak (aa rfl) (ak (aa rfl) (aV (Gh (n:=7) (xs:=pRefs es) (vs:=[.str "home",.str (one k0)]) (aa rfl) ((s7.trans s) _ _ G.ens) (by rw [Jx];omega) (λ Q q=>gf ao (ei (s7.trans s) (aa rfl)) q) λ r p H2 s2 e1 e2=>aR (gu q s2 ⟨kT (s.trans s2),rT (s.trans s2),tT (s.trans s2),eV e1 λ x hx=>?_,.inr (.inr (.inr (pj e1 ?_)))⟩))))))) ?_
   ·rcases JG.mp (Kr hx) with z | z
    ·exact prT (G.ea.same ((s7.trans s).trans s2)) eL z
    ·rw [(KU.mp z).2];refine cR e2 λ y hy=>?_;simp only [Jy,JC,or_false] at hy
     rcases hy with rfl | rfl
     ·exact (by decide:("home":Str).length<=1000)
     ·exact o1 _
   ·rw [JS,JD,Kj];omega
   have nT:∀{n:Nat} {H':Hp},bc H' (n+1) .non:=λ {n H'}=>⟨trivial,λ ys hy=>by rcases hy with z | z<;>cases z⟩
   refine .cons (λ H' s Q q=>bB (ak (aa rfl) (ak ao (ak (aa rfl) (ak (aa rfl) (aR (gu q (ah.refl H') ⟨kT s,nT,tT s,eT s,.inr (.inl rfl)⟩))))))) ?_;refine .cons (λ H' s Q q=>bB (ak ao (pP λ p2 G2 r2 f2=>pP λ p3 G3 r3 f3=>pP λ p4 G4 r4 f4=>aR (gu q ((r2.trans r3).trans r4) ⟨nT,g9 ((r3.trans r4) _ _ f2),g9 (r4 _ _ f3),g9 f4,.inl rfl⟩)))) ?_;refine .cons (λ H' s Q q=>bB (ak (aa rfl) (ak (aa rfl) (ak (aa rfl) (aV (prk (a:="lost") (b:=one k0) (λ G r=>aa rfl) ((s7.trans s) _ _ G.ens) (by rw [Jx];omega) ao (ei (s7.trans s) (aa rfl)) λ r p H2 s2 e1 e2=>aR (gu q s2 ⟨kT (s.trans s2),rT (s.trans s2),tT (s.trans s2),eV e1 λ x hx=>?_,.inr (.inr (.inr (iL e1 ⟨.ref p,J4 _ (JE.mpr rfl),?_⟩)))⟩))))))) ?_
   ·rcases JG.mp hx with z | z
    ·rw [JE.mp z];refine cR e2 λ y hy=>?_;simp only [Jy,JC,or_false] at hy
     rcases hy with rfl | rfl
     ·exact (by decide:("lost":Str).length<=1000)
     ·exact o1 _
    ·exact prT (G.ea.same ((s7.trans s).trans s2)) eL z
   ·rw [iM e2,decide_eq_false (p:=("lost":Str)∈_) (by decide),Lx]
   exact CT.nil
  rintro _ H8 ⟨q,xs,rfl,hq,l17,ab,s8⟩;obtain ⟨v,e,hv⟩:=jA (xs:=xs) (i:=c % 17) (by omega) (by rw [l17];show _<(17:Int);omega);obtain ⟨q',kv,rv,tv,ev,rfl,e1,e2⟩:=ab v hv;exact bf (bg (aa rfl) (aX (aa rfl) ao (by decide)) (.inl (aJ.of hq)) e) (k q' kv rv tv ev _ e1 e2 (s7.trans s8))
end
end K06
namespace K06
open PySem L2
structure fc (H:Hp) (kl:Addr) (es:List V):Prop where
 at_:H kl=some (.lst es)
 all:∀e∈es,∃(t f c:Addr) (zs:List V),e=V.ref t/\t≠kl/\f≠kl/\c≠kl/\H t=some (.tup [.ref f,.ref c])/\H f=some (.lst zs)/\H c=some (.lst zs)/\∀x∈zs,(flatV x||isRef x)=true
theorem fc.same {H H':Hp}{kl:Addr}{es:List V}(k:fc H kl es) (s:ah H H'):fc H' kl es:=⟨s _ _ k.at_,λ e he=>by
 obtain ⟨t,f,c,zs,h1,h2,h3,h4,h5,h6,h7,h8⟩:=k.all e he;exact ⟨t,f,c,zs,h1,h2,h3,h4,s _ _ h5,s _ _ h6,s _ _ h7,h8⟩⟩
theorem fc.add {H H':Hp}{kl t f c:Addr}{es:List V}{zs:List V}(k:fc H kl es) (s:ah H H') (nt:t≠kl) (nf:f≠kl) (nc:c≠kl) (ht:H' t=some (.tup [.ref f,.ref c])) (hf:H' f=some (.lst zs)) (hc:H' c=some (.lst zs)) (hz:∀x∈zs,(flatV x||isRef x)=true):
  fc (upd H' kl (.lst (es++[.ref t]))) kl (es++[.ref t]):=⟨ae,λ e he=>by
 rcases JG.mp he with h | h
 ·obtain ⟨t',f',c',zs',h1,h2,h3,h4,h5,h6,h7,h8⟩:=k.all e h;exact ⟨t',f',c',zs',h1,h2,h3,h4,by rw [au h2];exact s _ _ h5,by rw [au h3];exact s _ _ h6,by rw [au h4];exact s _ _ h7,h8⟩
 ·have e1:e=.ref t:=by simpa using h
  exact ⟨t,f,c,zs,e1,nt,nf,nc,by rw [au nt];exact ht,by rw [au nf];exact hf,by rw [au nc];exact hc,hz⟩⟩
theorem sP {K:Frag}{H:Hp}{n:Nat}{a b:Addr}{xs:List V}(ha:eE K H a xs) (hb:eE K H b xs) (hf:∀x∈xs,(flatV x||isRef x)=true):mJ K H (n+1) (.ref a) (.ref b) true:=by
 have h:=mJ.tup (es:=λ _=>true) (n:=n) ha hb (λ i x y hx hy=>by
  rw [hx] at hy;cases hy;exact jO (hf x (JT hx)))
 rw [show ((List.range (min xs.length xs.length)).all λ _=>true)=true from JL.mpr λ _ _=>rfl,beq_self_eq_true] at h;exact h
theorem orK {a b:TT}{σ:St}{H:Hp}{R:Bool->Hp->Prop}(h:a σ H λ c H1=>if c=true then R true H1 else b σ H1 R):CU a b σ H R:=h
theorem orF {u:TT}{σ:St}{H:Hp}{R:Bool->Hp->Prop}{b:Bool}(e:b=false) (h:u σ H R):dU (λ c H1=>if c=true then R true H1 else u σ H1 R) (.bl b) H:=by subst e;show if false=true then R true H else u σ H R;rw [if_neg (by decide)];exact h
theorem IP {K:Frag}{t:TA}{g:TG}{tb:TS}{D:cQ}{σ:St}{H:Hp}(h:t σ H λ vs H1=>tFor (qN K (λ _ H R=>R vs H)) g tb D σ H1):tFor (qN K t) g tb D σ H:=h
theorem bT {A B:Hp->Prop}{H:Hp}(h:B H):dU (λ c H1=>if (!c)=true then A H1 else B H1) (.bl true) H:=by show if (!true)=true then A H else B H;rw [if_neg (by decide)];exact h
theorem uG {c:TT}{t:TS}{D:cQ}{σ:St}{H:Hp}(P:Bool->Hp->Prop) (hc:∀Q:Bool->Hp->Prop,(∀b H',P b H'->Q b H')->c σ H Q) (h1:∀H',P true H'->t D σ H') (h2:∀H',P false H'->D.nx σ H'):jX c t iZ D σ H:=by
 refine hc _ λ b H' p=>?_;cases b with
 | true=>exact jf (h1 H' p)
 | false=>exact jK (h2 H' p)
theorem uX {ks:List Nat}:∀x∈ks.map strV,(flatV x||isRef x)=true:=λ x hx=>by obtain ⟨k,_,rfl⟩:=Jz.mp hx;rfl
theorem qR {us:List (bC×Addr)}:∀x∈rRefs us,(flatV x||isRef x)=true:=λ x hx=>by obtain ⟨k,_,rfl⟩:=Jz.mp hx;rfl
theorem qS {us:List ((Str×Str)×Addr)}:∀x∈pRefs us,(flatV x||isRef x)=true:=λ x hx=>by obtain ⟨k,_,rfl⟩:=Jz.mp hx;rfl
structure CRt (P:Program) (w:World) (K:Frag) (mg:Str->Option Value) (base:Heap) (cG:Addr):Prop where
 _law_lists:fv P w K mg base "_law_lists" ["_law_found","_law_due"] 1 A6
 _law_turned:fv P w K mg base "_law_turned" ["_law_turns_here","_law_kind"] 1 (A5 K)
 Game_rules_of:vH P w K mg base cG "rules_of" ["self","kind"] 1 (kD cG)
 Game_turned:vH P w K mg base cG "turned" ["self","kind"] 1 (mR cG)
def ql (K:Frag) (cG cB:Addr):Sp:=λ vs H Q _=> ∃(G:Hp) (g b pl kl kd rd td ed:Addr) (st:Str) (bit:Bool) (ks:List Nat) (us:List (bC×Addr)) (ts es:List ((Str×Str)×Addr)) (wi hi:Int) (hs:List Int) (els:List V),vs=[.ref g,.ref b,.ref pl,.str st,.ref kl,.bl bit]/\ah G H/\G kl=none/\eQ cG G g b (ks.map strV) (rRefs us) (pRefs ts) (pRefs es) st/\ge K cB G b wi hi hs/\jj G pl kd rd td ed ks us ts es/\fc H kl els/\els.length<=500/\∀els' H',ah G H'->fc H' kl els'->els'.length<=els.length+11->Q (.bl true) H'
section
variable {P:Program}{w:World}{K:Frag}{mg:Str->Option Value}{base:Heap}{aS aA aE aW:Addr}
theorem j6 {f cG cB:Addr}{fd:FuncData}(F:ce K "_law_right" "_law_right" cf f fd) (T:Txt mg aS aA aE aW) (D:vK K cG) (B:tf K cB) (C:CRt P w K mg base cG):bz P w K mg base eP 2 f fd ["_law_game","_law_board","_law_parts_here","_law_stuck","_law_kept","_law_bit"] (ql K cG cB):=by
 refine F.ok bR (λ vs H Q E h=>?_) (λ cdv A outer s H vs Q E hr h=>?_)
 ·obtain ⟨G,g,b,pl,kl,kd,rd,td,ed,st,bit,ks,us,ts,es,wi,hi,hs,els,rfl,_⟩:=h;rfl
 ·obtain ⟨G,g,b,pl,kl,kd,rd,td,ed,st,bit,ks,us,ts,es,wi,hi,hs,els,rfl,sg,nk,GM,O,PT,KO,l5,k⟩:=h;have hu:=cI hr;refine ⟨_,(af (az (i:=6) bR.nd rfl (Or.inl rfl) (bU (aq (gq K (gq K (cv 0))) (aq (gq K (gq K (cv 0))) (aq (gq K (gq K (cv 0))) pa_nil)))))
   (af (bn (PW.pt (io (bN K hu (cv 6) (bU (aq (gq K (cv 1)) (aq (gq K (cv 1)) (aq (gq K (cv 1)) pa_nil))))) (fQ (bN K hu (gq K (cv 0)) (cv 3))))) (ar (aF db)) aG)
   (af (iK PassesOwn.never rfl (GS K T.zip (aq (aC (aq (gq K (cv 0)) (aq (gq K (cv 0)) (aq (gq K (cv 0)) (aq (gq K (cv 0)) pa_nil))))) (aq (cv 2) pa_nil))) (kgt K (n:=2) (fJ (cE (i:=7) bR.nd rfl (Or.inl rfl)) (fJ (cE (i:=8) bR.nd rfl (Or.inl rfl)) lV))) (ar (bn (bq (bh (aL C._law_lists hr (aq (cv 7) (aq (cv 8) pa_nil))))) (ar (aF db)) aG)))
   (af (iK PassesOwn.never rfl (sA K (al (cO K (cv 2) ag) (en (cn (N:=["_law_one","_law_parts_here"]) (src:=[none,some 2]) (am cf) ["_law_game","_law_board","_law_parts_here","_law_stuck","_law_kept","_law_bit","_law_sides","_law_found","_law_due","_law_kind","_law_ahead"]) (pi aI) (λ _ _ _=>(bw (i:=0) ["_law_one","_law_parts_here"])) (λ _ _ _=>(eK (bN K hu (cv 0) (cO K (cv 1) ag)))) (λ _ _ _=>(cv 0))))) (cE (i:=9) bR.nd rfl (Or.inr rfl)) (af (az (i:=10) bR.nd rfl (Or.inl rfl) (nB (bh (cv 5)) (qI C.Game_turned hr (cv 0) (aq (cv 9) pa_nil)) fj))
   (af (az (i:=7) bR.nd rfl (Or.inl rfl) (qI C.Game_rules_of hr (cv 0) (aq (cv 9) pa_nil)))
   (af (bn (bq (bh (aL C._law_lists hr (aq (cv 7) (aq (en (cn (N:=["_law_rule_here","_law_kind"]) (src:=[none,some 9]) (am cf) ["_law_game","_law_board","_law_parts_here","_law_stuck","_law_kept","_law_bit","_law_sides","_law_found","_law_due","_law_kind","_law_ahead"]) (sA K (cO K (cv 2) ag)) (λ _ _ _=>(bw (i:=0) ["_law_rule_here","_law_kind"])) (λ _ _ _=>(eK (bN K hu (cO K (cv 0) ag) (cv 1)))) (λ _ _ _=>(cv 0))) pa_nil))))) (ar (aF db)) aG)
   (af (ip (jS (cv 7) fj))
   (af (ip (jS (cv 4) (bU (aq (cv 7) (aq (nV (kL K) eB T.list (aq (cv 7) pa_nil)) pa_nil)))))
   (ar (bn (PW.pt (io (bN K hu (qI C.Game_turned hr (cv 0) (aq (cv 9) pa_nil)) (aL C._law_turned hr (aq (cO K (cv 2) ag) (aq (cv 9) pa_nil)))) (fQ (bN K hu (cv 10) (bU (aq fj (aq (qI C.Game_turned hr (cv 0) (aq (cv 9) pa_nil)) pa_nil))))))) (ar (aF db)) aG))))))))
   (ar (aF db)))))),?_⟩
  show bu _ _ _ [oR g,oR b,oR pl,oT st,oR kl,some (.bl bit),none,none,none,none,none] H;have fb:∀{σ:St} {H':Hp},σ[0]? =some (some (.ref g))->ah G H'->Ev (CC K (bP 0) "board") σ H' (.ref b):=λ e s=>cV (aa e) ((GM.same s).board D);obtain ⟨ph,fh,eh⟩:=(O.same sg).holes B;refine bj (λ v H'=> ∃q,v=.ref q/\H' q=some (.tup [.int wi,.int hi,.ref ph])/\ah H H') (λ Q z=>?_) ?_
  ·exact tN (ac (cV (fb rfl sg) ((O.same sg).wide B)) (ac (cV (fb rfl sg) ((O.same sg).high B)) (ac (cV (fb rfl sg) fh) ay))) (by show 3<=1000;decide) λ q hq=>z _ _ ⟨q,rfl,ae,(ah.refl H).upd hq⟩
  rintro _ H1 ⟨q1,rfl,e1,s1⟩;have g1:=sg.trans s1;refine bX (λ b H'=>b=false/\ah H1 H') (λ Q z=>?_) (λ H' h=>by cases h.1) (λ H2 h=>?_)
  ·refine orK (pR ((show Ev (bP 6) _ _ (.ref q1) from aa rfl) _ (tN (ac (cV (aa rfl) ((O.same g1).wide B)) (ac (cV (aa rfl) ((O.same g1).high B)) (ac (cV (aa rfl) (fh.keepS s1)) ay))) (by show 3<=1000;decide) λ q2 h2=>?_)));have r2:=(ah.refl H1).upd (o:=.tup [.int wi,.int hi,.ref ph]) h2;refine ⟨true,sP (n:=19) (eE.of (r2 _ _ e1)) (eE.of ae) (λ x hx=>?_),orF rfl ?_⟩
   ·simp only [Jy,JC,or_false] at hx
    rcases hx with rfl | rfl | rfl<;>rfl
   ·refine (bW (u7 (cV (aa rfl) ((GM.same (g1.trans r2)).stuck D)) (aa rfl))) _ (z _ _ ⟨?_,r2⟩);simp
  obtain ⟨_,s2⟩:=h;have g2:=g1.trans s2;have K2:=KO.same (s1.trans s2);refine eW (λ σ' H'=> ∃o7 o8,σ'=[oR g,oR b,oR pl,oT st,oR kl,some (.bl bit),oR q1,o7,o8,none,none]/\ah H2 H') (λ K' hK=>?_) ?_
  ·obtain ⟨kq,fk,ek⟩:=(GM.same g2).kinds D;obtain ⟨rq,fr,er⟩:=(GM.same g2).rules D;obtain ⟨tq,ft,et⟩:=(GM.same g2).turns D;obtain ⟨eq,fe,ee⟩:=(GM.same g2).ends D;have PT2:=PT.same g2;refine IP (aV (bB (ak (cV (aa rfl) fk) (ak (cV (aa rfl) fr) (ak (cV (aa rfl) ft) (ak (cV (aa rfl) fe) (aR ⟨by show 4<=sizeLine;decide,λ p hp=>ak (aa rfl) (aR ?_)⟩)))))));have r3:=(ah.refl H2).upd (o:=.lst [.ref kq,.ref rq,.ref tq,.ref eq]) hp;have e3:(upd H2 p (.lst [.ref kq,.ref rq,.ref tq,.ref eq])) p=some (.lst [.ref kq,.ref rq,.ref tq,.ref eq]):=ae;generalize upd H2 p (.lst [.ref kq,.ref rq,.ref tq,.ref eq])=H3 at r3 e3 ⊢;refine uV (l1:=p) (l2:=pl) (xs:=[.ref kq,.ref rq,.ref tq,.ref eq]) (ys:=[.ref kd,.ref rd,.ref td,.ref ed]) (λ Q q=>q) (aJ.of e3) (aJ.of (r3 _ _ PT2.at_)) (KW 4) (λ i σ' H'=> ∃o7 o8,σ'=[oR g,oR b,oR pl,oT st,oR kl,some (.bl bit),oR q1,o7,o8,none,none]/\ah H3 H') ⟨_,_,rfl,ah.refl _⟩ ?_ ?_ ?_
   ·rintro i _ H' ⟨o7,o8,rfl,s⟩;exact ⟨aJ.of (s _ _ e3),aJ.of ((r3.trans s) _ _ PT2.at_)⟩
   ·rintro i x y t _ H' hx hy ht ⟨o7,o8,rfl,s⟩;have hs':=s.upd (o:=.tup [x,y]) ht;refine Hd ae ?_;show jX _ _ _ _ [oR g,oR b,oR pl,oT st,oR kl,some (.bl bit),oR q1,some x,some y,none,none] _;obtain ⟨a,c,zs,rfl,rfl,ha,hc,hz⟩:∃(a c:Addr) (zs:List V),x=.ref a/\y=.ref c/\H2 a=some (.lst zs)/\H2 c=some (.lst zs)/\∀z∈zs,(flatV z||isRef z)=true:=by
     rcases i with _ | _ | _ | _ | i
     ·exact ⟨kq,kd,_,(Option.some.inj hx).symm,(Option.some.inj hy).symm,ek,PT2.kds.at_,uX⟩
     ·exact ⟨rq,rd,_,(Option.some.inj hx).symm,(Option.some.inj hy).symm,er,PT2.rls,qR⟩
     ·exact ⟨tq,td,_,(Option.some.inj hx).symm,(Option.some.inj hy).symm,et,PT2.tns,qS⟩
     ·exact ⟨eq,ed,_,(Option.some.inj hx).symm,(Option.some.inj hy).symm,ee,PT2.ens,qS⟩
     ·cases hx
    refine cy (ac (aa rfl) (ac (aa rfl) ay)) ⟨a,c,zs,rfl,(r3.trans hs') _ _ ha,(r3.trans hs') _ _ hc,hz,?_⟩;exact bT (A:=λ H1=>dw (tC (V.bl false)) _ _ H1) (B:=λ H1=>iZ _ _ H1) ⟨_,_,rfl,hs'⟩
   ·rintro _ H' ⟨o7,o8,rfl,s⟩;exact hK _ _ ⟨_,_,rfl,r3.trans s⟩
  rintro _ H3 ⟨o7,o8,rfl,s3⟩;have g3:=g2.trans s3;have K3:=K2.same s3;have PT3:=PT.same g3;have wk:∀{H':Hp},ah G H'->eC K H' kd (ks.map one):=λ s=>.inl (aJ.of (by rw [<-ic];exact s _ _ PT.kds.at_));refine eW (λ σ' H'=>ah G H'/\∃els',fc H' kl els'/\els'.length<=els.length+11) (λ K' hK=>?_) ?_
  ·refine oa (K:=K) (λ v H'=> ∃(d:Addr) (ls:List Nat),v=.ref d/\H3 d=none/\H' d=some (.lst (ls.map strV))/\ls.length<=11/\ah H3 H') (λ Q q=>?_) ?_
   ·refine jb ((show Ev (tj K (bP 2) (tC (.int 0))) _ _ (.ref kd) from bg (aa rfl) ao (.inl (aJ.of PT3.at_)) rfl) _ ?_);refine kZ (rest:=[oR pl]) (z:="aexyz") ao (by decide) rfl (λ x=> !decide (x∈ks)) strV (λ x H' hx s R r=>?_) (λ x H' hx hp s=>aa rfl) λ H' d s hd=>?_
    ·have e:(!decide (one x∈ks.map one))= !decide (x∈ks):=by rw [decide_eq_decide.mpr gI]
     have z:=bW (qU (K:=K) (ta:=bP 0) (tb:=tj K (bP 1) (tC (.int 0))) (σ:=[oT (one x),oR pl]) (aa rfl) (bg (aa rfl) ao (.inl (aJ.of (s _ _ PT3.at_))) rfl) (wk (g3.trans s)));rw [e] at z;exact z _ (r _ (ah.refl _))
    ·have l6:=PT.kds.l6;have fl:(("aexyz":Str).cps.toList.filter λ x=> !decide (x∈ks)).length<=5:=KZ (Ka _ _) (by decide+kernel);have sd:=(ah.refl H').upd (o:=.lst ((("aexyz":Str).cps.toList.filter λ x=> !decide (x∈ks)).map strV)) hd;refine eZ ((s.trans sd) _ _ PT3.kds.at_) ae (by rw [Jx,Jx];omega) λ p hp=>?_;refine q _ _ ⟨p,ks++("aexyz":Str).cps.toList.filter λ x=> !decide (x∈ks),rfl,(s.trans sd).free hp,by rw [JN];exact ae,by rw [JD];omega,(s.trans sd).upd hp⟩
   ·rintro _ H4 ⟨d,ls,rfl,nd,ed4,l11,s4⟩;have K4:=K3.same s4;refine ⟨d,ls.map strV,rfl,aJ.of ed4,λ i σ' H'=> ∃els' o7 o8 o9 o10,σ'=[oR g,oR b,oR pl,oT st,oR kl,some (.bl bit),oR q1,o7,o8,o9,o10]/\ah G H'/\H' d=some (.lst (ls.map strV))/\fc H' kl els'/\els'.length<=els.length+i,?_,?_,?_,?_⟩
    ·exact ⟨els,_,_,_,_,rfl,g3.trans s4,ed4,K4,KW _⟩
    ·rintro i _ H' _ ⟨els',_,_,_,_,rfl,_,z,_⟩;exact aJ.of z
    ·rintro i x _ H5 hx ⟨els',o7,o8,o9,o10,rfl,g5,ed5,K5,l5'⟩;obtain ⟨kx,hkx,rfl⟩:∃kx,kx∈ls/\x=strV kx:=by obtain ⟨y,h1,h2⟩:=Jz.mp (JT hx);exact ⟨y,h1,h2.symm⟩
     have hil:i<ls.length:=by have:=(JQ.mp hx).1;rw [Jx] at this;exact this
     show bu _ _ _ [oR g,oR b,oR pl,oT st,oR kl,some (.bl bit),oR q1,o7,o8,oT (one kx),o10] H5;have PT5:=PT.same g5;refine bj (λ v H'=>(v=.non\/v=.str (iY ts (one kx)))/\ah H5 H') (λ Q z=>Gb (b:=bit) (bW (aa rfl)) (λ _=>?_) (λ _=>?_)) ?_
     ·exact jn (aa rfl) (GM.same g5).no (ak (aa rfl) (aR ⟨g,b,one kx,_,_,_,ts,st,rfl,GM.same g5,PT5.ta,PT.tg.len,λ H' s=>by rw [jq PT.tg.nd];exact z _ _ ⟨.inr rfl,s⟩⟩))
     ·exact ao _ (z _ _ ⟨.inl rfl,ah.refl _⟩)
     rintro av H6 ⟨hav,s6⟩;have g6:=g5.trans s6;refine bj (λ v H'=> ∃q,v=.ref q/\H6 q=none/\H' q=some (.lst (rRefs (ofKind us (one kx))))/\ah H6 H') (λ Q z=>?_) ?_
     ·exact jn (aa rfl) (GM.same g6).no (ak (aa rfl) (aR ⟨g,b,one kx,_,_,_,st,us,rfl,GM.same g6,(PT.same g6).ra,PT.rl,λ q H' n e s=>z _ _ ⟨q,rfl,n,e,s⟩⟩))
     rintro _ H7 ⟨fq,rfl,nf,ef,s7⟩;have g7:=g6.trans s7;have PT7:=PT.same g7;show bu _ _ _ [oR g,oR b,oR pl,oT st,oR kl,some (.bl bit),oR q1,oR fq,o8,oT (one kx),some av] H7;have lk:(ofKind us (one kx)).length<=24:=KZ (Ka _ _) PT.rl;refine bX (λ b H'=>b=false/\ah H7 H') (λ Q z=>?_) (λ H' h=>by cases h.1) (λ H8 h=>?_)
     ·have rl:=PT.rl;refine wT (ak (aa rfl) (aV (dG (d:=rd) (xs:=rRefs us) (rest:=[oT (one kx)]) (bg (aa rfl) ao (.inl (aJ.of PT7.at_)) rfl) (aJ.of PT7.rls) (by rw [Jx,sizeLine_eq];omega) rfl (GW us (one kx)) (λ v=>v) (λ x hx=>?_) (λ x hx _=>aa rfl) (λ d hd=>?_))))
      ·obtain ⟨z,hz,rfl⟩:=Jz.mp hx;rw [pE PT7.ra hz];exact bW (hU (bg (x:=.str z.1.kd) (aa rfl) ao (.inr (.inl (.inl (PT7.ra z hz)))) rfl) (aa rfl))
      ·rw [jJ PT7.ra,List.map_id'']
       ·have sd:=(ah.refl H7).upd (o:=.lst (rRefs (ofKind us (one kx)))) hd;exact aR ⟨fq,d,_,rfl,sd _ _ ef,ae,qR,z _ _ ⟨rfl,sd⟩⟩
       ·exact λ _=>rfl
     obtain ⟨_,s8⟩:=h;have ef8:=s8 _ _ ef;refine Bv (aa rfl) ao ef8 (by rw [Jx,sizeLine_eq];omega) ?_;have g8:=g7.trans s8;have s68:=s7.trans s8;have r9:ah H6 (upd H8 fq (.lst (rRefs (ofKind us (one kx))++[.non]))):=s68.put nf;have e9:(upd H8 fq (.lst (rRefs (ofKind us (one kx))++[.non]))) fq=some (.lst (rRefs (ofKind us (one kx))++[.non])):=ae;generalize upd H8 fq (.lst (rRefs (ofKind us (one kx))++[.non]))=H9 at r9 e9 ⊢;have K6:=K5.same s6;have K9:=K6.same r9;refine Bm (aa rfl) ⟨_,K9.at_⟩ (Br (aa rfl) (aa rfl) (.inl (aJ.of e9)) λ cc hcc tt htt=>?_);have rc:=(ah.refl H9).upd (o:=.lst (rRefs (ofKind us (one kx))++[.non])) hcc;have ec:(upd H9 cc (.lst (rRefs (ofKind us (one kx))++[.non]))) cc=some (.lst (rRefs (ofKind us (one kx))++[.non])):=ae;generalize upd H9 cc (.lst (rRefs (ofKind us (one kx))++[.non]))=H10 at rc ec htt ⊢;have rt:=(ah.refl H10).upd (o:=.tup [.ref fq,.ref cc]) htt;have et:(upd H10 tt (.tup [.ref fq,.ref cc])) tt=some (.tup [.ref fq,.ref cc]):=ae;generalize upd H10 tt (.tup [.ref fq,.ref cc])=H11 at rt et ⊢;have K11:=K9.same (rc.trans rt);refine ⟨els',K11.at_,by rw [sizeLine_eq];omega,?_⟩;have KF:=K6.add (t:=tt) (f:=fq) (c:=cc) (r9.trans (rc.trans rt)) (aj ((rc _ _ K9.at_)) htt).symm (aj K6.at_ nf).symm (aj K9.at_ hcc).symm et ((rc.trans rt) _ _ e9) (rt _ _ ec) (λ x hx=>?_)
     ·have gF:ah G (upd H11 kl (.lst (els'++[.ref tt]))):=(g6.trans (r9.trans (rc.trans rt))).put nk;have dF:(upd H11 kl (.lst (els'++[.ref tt]))) d=some (.lst (ls.map strV)):=by have nd:d≠kl:=(aj K3.at_ nd).symm;rw [au nd];exact (s6.trans (r9.trans (rc.trans rt))) _ _ ed5
      generalize upd H11 kl (.lst (els'++[.ref tt]))=H12 at KF gF dF ⊢;dsimp only;have PTF:=PT.same gF;refine uG (λ b H'=>b=false/\ah H12 H') (λ Q z=>?_) (λ H' h=>by cases h.1) (λ H' h=>?_)
      ·refine orK (pR (jn (aa rfl) (GM.same gF).no (ak (aa rfl) (aR ⟨g,b,one kx,_,_,_,ts,st,rfl,GM.same gF,PTF.ta,PT.tg.len,λ H13 s13=>?_⟩))));rw [jq PT.tg.nd];have g13:=gF.trans s13;refine vx (ak (bg (x:=.ref td) (aa rfl) ao (.inl (aJ.of (s13 _ _ PTF.at_))) rfl) (ak (aa rfl) (aR ⟨td,ts,one kx,rfl,s13 _ _ PTF.tns,PTF.ta.same s13,PT.tg.len,λ H14 s14=>?_⟩)));have g14:=g13.trans s14;refine orF (b:= !decide (iY ts (one kx)=iY ts (one kx))) (by simp) ?_;refine pR ((show Ev (bP 10) _ _ av from aa rfl) _ (mM (ak ao (aV (jn (aa rfl) (GM.same g14).no (ak (aa rfl) (aR ⟨g,b,one kx,_,_,_,ts,st,rfl,GM.same g14,(PT.same g14).ta,PT.tg.len,λ H15 s15=>aR ⟨by show 2<=sizeLine;decide,λ p hp=>?_⟩⟩)))))));have s12:=(s13.trans s14).trans (s15.upd (o:=.tup [.non,ku ts (one kx)]) hp);have fin:∀{b:Bool},b=false->dU Q (.bl b) (upd H15 p (.tup [.non,ku ts (one kx)])):=λ e=>z _ _ ⟨e,s12⟩;rw [jq PT.tg.nd] at fin ⊢
       rcases hav with rfl | rfl
       ·rw [fZ];exact ⟨p,_,rfl,.inr (eE.of ae),rfl,rfl,fin (by rfl)⟩
       ·rw [fY];exact ⟨p,_,rfl,.inr (eE.of ae),rfl,rfl,fin (by simp [Cf,eqV])⟩
      ·obtain ⟨_,sL⟩:=h;exact ⟨_,_,_,_,_,rfl,gF.trans sL,sL _ _ dF,KF.same sL,by rw [JD];show els'.length+1<=_;omega⟩
     ·rcases JG.mp hx with z | z
      ·exact qR x z
      ·rw [JE.mp z];rfl
    ·rintro _ H' ⟨els',_,_,_,_,rfl,gg,_,KK,ll⟩;rw [Jx] at ll;exact hK _ _ ⟨gg,els',KK,by omega⟩
  rintro σ' H4 ⟨g4,els',K4,l4⟩;exact bf ao (k els' H4 g4 K4 l4)
end
end K06
namespace K06
open PySem L2
def Hy:Str:=(((((((""++wS false "board")++wS true "game")++wS false "line")++wS false "place")++wS false "other")++wS false "other")++wS false "other")++wS false "other"
theorem tz:Hy="game":=by decide+kernel
def ju (K:Frag) (C:Addr):Sp:=λ vs H Q _=> ∃(p b kd rd td ed dx:Addr) (ws:List Str) (rs ts es:List V) (st:Str),vs=[.ref p,.ref b,.ref kd,.ref rd,.ref td,.ref ed,.str st]/\H p=some (.ins C dx [])/\H kd=some (.lst (ws.map V.str))/\H rd=some (.lst rs)/\H td=some (.lst ts)/\H ed=some (.lst es)/\
 bc H 1 (.ref kd)/\bc H 2 (.ref rd)/\bc H 2 (.ref td)/\bc H 2 (.ref ed)/\kindsB H (.ref kd)=true/\rulesB H (.ref rd) ws=true/\turnsB H (.ref td) ws=true/\pairsB H (.ref ed) endsL ws=true/\st∈dg/\st.length<=1000/\
 ∀H',(∃dx kq rq tq eq,H' p=some (.ins C dx (dS b kq rq tq eq st))/\H' kq=some (.lst (ws.map V.str))/\H' rq=some (.lst rs)/\H' tq=some (.lst ts)/\H' eq=some (.lst es)/\H kq=none/\H rq=none/\H tq=none/\H eq=none)->SameBut p H H'->Q .non H'
section
variable {P:Program}{w:World}{K:Frag}{mg:Str->Option Value}{base:Heap}{aS aA aE aW:Addr}
theorem kc {f cG:Addr}{fd:FuncData}(F:ce K "__init__" "Game.__init__" bM f fd) (T:Txt mg aS aA aE aW) (hW:∀H,eC K H aW dg) (B:vK K cG) (C:Jt P w K mg base):bz P w K mg base eP 6 f fd ["self","board","kinds","rules","turns","ends","stuck"] (ju K cG):=by
 refine F.ok fB (λ vs H Q E h=>?_) (λ cdv A outer s H vs Q E hr h=>?_)
 ·obtain ⟨p,b,kd,rd,td,ed,dx,ws,rs,ts,es,st,rfl,_⟩:=h;rfl
 ·obtain ⟨p,b,kd,rd,td,ed,dx,ws,rs,ts,es,st,rfl,hp,hk,hr',ht,he,tk,tr,tt,te,bk,br,bt,be,hst,lst',q⟩:=h;have hu:=cI hr;have wk:∀H',ah H H'->eC K H' kd ws:=λ H' s=>.inl (aJ.of (s _ _ hk));refine ⟨_,(af (bn (bq (bh (aL C.are_kinds hr (aq (cv 2) pa_nil)))) (ar eJ) aG)
   (af (bn (bq (bh (aL C.are_rules hr (aq (cv 3) (aq (cv 2) pa_nil))))) (ar eJ) aG)
   (af (bn (bq (bh (aL C.is_turns hr (aq (cv 4) (aq (cv 2) pa_nil))))) (ar eJ) aG)
   (af (bn (bq (bh (aL C.is_ends hr (aq (cv 5) (aq (cv 2) pa_nil))))) (ar eJ) aG)
   (af (bn (bq (bh (aL C.is_word hr (aq (cv 6) (aq (kg T.STUCK_WORDS) pa_nil))))) (ar eJ) aG)
   (af (gR K (cv 0) (cv 1))
   (af (gR K (cv 0) (nV (kL K) eB T.list (aq (cv 2) pa_nil)))
   (af (gR K (cv 0) (nV (kL K) eB T.list (aq (cv 3) pa_nil)))
   (af (gR K (cv 0) (nV (kL K) eB T.list (aq (cv 4) pa_nil)))
   (af (gR K (cv 0) (nV (kL K) eB T.list (aq (cv 5) pa_nil)))
   (ar (gR K (cv 0) (cv 6))))))))))))),?_⟩
  show bu _ _ _ [oR p,oR b,oR kd,oR rd,oR td,oR ed,oT st] H;refine bX (λ b H'=>b=false/\ah H H') (λ Q q=>cy (ac (aa rfl) ay) ⟨.ref kd,rfl,tk,λ H' s=>?_⟩) (λ H' h=>by cases h.1) (λ H1 h=>?_)
  ·rw [bk];exact q _ _ ⟨rfl,s⟩
  obtain ⟨_,s1⟩:=h;have eqR:rulesB H1 (.ref rd) ws=rulesB H (.ref rd) ws:=da tr s1;refine bX (λ b H'=>b=false/\ah H1 H') (λ Q q=>cy (ac (aa rfl) (ac (aa rfl) ay)) ⟨.ref rd,kd,ws,rfl,tr.same s1,wk _ s1,λ H' s=>?_⟩) (λ H' h=>by cases h.1) (λ H2 h=>?_)
  ·rw [eqR,br];exact q _ _ ⟨rfl,s⟩
  obtain ⟨_,s2⟩:=h;have s02:=s1.trans s2;have eqT:turnsB H2 (.ref td) ws=turnsB H (.ref td) ws:=dI tt s02;refine bX (λ b H'=>b=false/\ah H2 H') (λ Q q=>cy (ac (aa rfl) (ac (aa rfl) ay)) ⟨.ref td,kd,ws,rfl,tt.same s02,wk _ s02,λ H' s=>?_⟩) (λ H' h=>by cases h.1) (λ H3 h=>?_)
  ·rw [eqT,bt];exact q _ _ ⟨rfl,s⟩
  obtain ⟨_,s3⟩:=h;have s03:=s02.trans s3;have eqE:pairsB H3 (.ref ed) endsL ws=pairsB H (.ref ed) endsL ws:=dc te s03;refine bX (λ b H'=>b=false/\ah H3 H') (λ Q q=>cy (ac (aa rfl) (ac (aa rfl) ay)) ⟨.ref ed,kd,ws,rfl,te.same s03,wk _ s03,λ H' s=>?_⟩) (λ H' h=>by cases h.1) (λ H4 h=>?_)
  ·rw [eqE,be];exact q _ _ ⟨rfl,s⟩
  obtain ⟨_,s4⟩:=h;have s04:=s03.trans s4;refine bQ (cF (bW (aP (ac (aa rfl) (ac ao ay)) (λ Q q=>⟨.str st,aW,dg,rfl,lst',hW H4,q⟩)))) (λ h=>?_) (λ _=>?_)
  ·have e:wordB (.str st) dg=true:=decide_eq_true hst;rw [e] at h;cases h
  have gl:=λ b k r t e=>Ck (b:=b) (k:=k) (r:=r) (t:=t) (e:=e);have nk:p≠kd:=eF hp hk (by intro z;cases z);have nr:p≠rd:=eF hp hr' (by intro z;cases z);have nt:p≠td:=eF hp ht (by intro z;cases z);have ne':p≠ed:=eF hp he (by intro z;cases z);have h4:∀(G:Hp),SameBut p H G->G kd=some (.lst (ws.map V.str))/\G rd=some (.lst rs)/\G td=some (.lst ts)/\G ed=some (.lst es):=λ G sb=>⟨sb _ _ hk nk.symm,sb _ _ hr' nr.symm,sb _ _ ht nt.symm,sb _ _ he ne'.symm⟩;refine oU (aa rfl) (aa rfl) (s04 _ _ hp) B.cl B.board (by decide) ?_;generalize hG5:upd H4 p (HO.ins cG dx (putF "board" (V.ref b) []))=G5;have p5:G5 p=some (.ins cG dx (gf1 b)):=hG5▸ae;have b5:SameBut p H G5:=hG5▸s04.but.self;have nfree:∀(G:Hp) (q:Addr),SameBut p H G->G p≠none->G q=none->H q=none:=λ G q sb hpp hq=>by
   cases e:H q with
   | none=>rfl
   | some o=>
     by_cases z:q=p
     ·rw [z] at hq;exact absurd hq hpp
     ·have:=sb q o e z;rw [hq] at this;cases this
  refine jk (aa rfl) (h4 _ b5).1 (λ H'=>aa rfl) p5 B.cl B.kinds (by have:=(gl b 0 0 0 0).1;omega) (λ kq hkq=>?_);have nkq:p≠kq:=aj p5 hkq;generalize hG6:upd (upd G5 kq (HO.lst (ws.map V.str))) p (HO.ins cG dx (putF "kinds" (V.ref kq) (gf1 b)))=G6;have p6:G6 p=some (.ins cG dx (gf2 b kq)):=hG6▸ae;have k6:G6 kq=some (.lst (ws.map V.str)):=by rw [<-hG6,au nkq.symm,ae]
  have b6:SameBut p H G6:=hG6▸(b5.new (nfree _ _ b5 (by rw [p5];simp) hkq)).self;refine jk (aa rfl) (h4 _ b6).2.1 (λ H'=>aa rfl) p6 B.cl B.rules (by have:=(gl b kq 0 0 0).2.1;omega) (λ rq hrq=>?_);have nrq:p≠rq:=aj p6 hrq;generalize hG7:upd (upd G6 rq (HO.lst rs)) p (HO.ins cG dx (putF "rules" (V.ref rq) (gf2 b kq)))=G7;have p7:G7 p=some (.ins cG dx (gf3 b kq rq)):=hG7▸ae;have r7:G7 rq=some (.lst rs):=by rw [<-hG7,au nrq.symm,ae]
  have k7:G7 kq=some (.lst (ws.map V.str)):=by rw [<-hG7,au nkq.symm,au (aj k6 hrq)];exact k6
  have b7:SameBut p H G7:=hG7▸(b6.new (nfree _ _ b6 (by rw [p6];simp) hrq)).self;refine jk (aa rfl) (h4 _ b7).2.2.1 (λ H'=>aa rfl) p7 B.cl B.turns (by have:=(gl b kq rq 0 0).2.2.1;omega) (λ tq htq=>?_);have ntq:p≠tq:=aj p7 htq;generalize hG8:upd (upd G7 tq (HO.lst ts)) p (HO.ins cG dx (putF "turns" (V.ref tq) (gf3 b kq rq)))=G8;have p8:G8 p=some (.ins cG dx (gf4 b kq rq tq)):=hG8▸ae;have t8:G8 tq=some (.lst ts):=by rw [<-hG8,au ntq.symm,ae]
  have r8:G8 rq=some (.lst rs):=by rw [<-hG8,au nrq.symm,au (aj r7 htq)];exact r7
  have k8:G8 kq=some (.lst (ws.map V.str)):=by rw [<-hG8,au nkq.symm,au (aj k7 htq)];exact k7
  have b8:SameBut p H G8:=hG8▸(b7.new (nfree _ _ b7 (by rw [p7];simp) htq)).self;refine jk (aa rfl) (h4 _ b8).2.2.2 (λ H'=>aa rfl) p8 B.cl B.ends (by have:=(gl b kq rq tq 0).2.2.2.1;omega) (λ eq heq=>?_);have neq:p≠eq:=aj p8 heq;generalize hG9:upd (upd G8 eq (HO.lst es)) p (HO.ins cG dx (putF "ends" (V.ref eq) (gf4 b kq rq tq)))=G9;have p9:G9 p=some (.ins cG dx (vP b kq rq tq eq)):=hG9▸ae;have e9:G9 eq=some (.lst es):=by rw [<-hG9,au neq.symm,ae]
  have t9:G9 tq=some (.lst ts):=by rw [<-hG9,au ntq.symm,au (aj t8 heq)];exact t8
  have r9:G9 rq=some (.lst rs):=by rw [<-hG9,au nrq.symm,au (aj r8 heq)];exact r8
  have k9:G9 kq=some (.lst (ws.map V.str)):=by rw [<-hG9,au nkq.symm,au (aj k8 heq)];exact k8
  have b9:SameBut p H G9:=hG9▸(b8.new (nfree _ _ b8 (by rw [p8];simp) heq)).self;refine qg (λ v H'=>v=.str st/\H'=G9) (λ Q q=>CZ (v:=.str st) (aa rfl) (q _ _ ⟨rfl,rfl⟩)) p cG dx (λ H' Q q=>aa rfl Q q) B.cl B.stuck ?_;rintro _ _ ⟨rfl,rfl⟩;refine ⟨_,p9,by have:=(gl b kq rq tq eq).2.2.2.2;omega,?_⟩;have n6:=nfree _ _ b5 (by rw [p5];simp) hkq;have n7:=nfree _ _ b6 (by rw [p6];simp) hrq;have n8:=nfree _ _ b7 (by rw [p7];simp) htq;have n9:=nfree _ _ b8 (by rw [p8];simp) heq;refine q _ ⟨dx,kq,rq,tq,eq,ae,?_,?_,?_,?_,n6,n7,n8,n9⟩ b9.self
  ·rw [au nkq.symm];exact k9
  ·rw [au nrq.symm];exact r9
  ·rw [au ntq.symm];exact t9
  ·rw [au neq.symm];exact e9
end
def Hw (C:Addr) (H H':Hp) (p b:Addr) (ks rs ts es:List V) (st:Str):Prop:= ∃dx kq rq tq eq,H' p=some (.ins C dx (dS b kq rq tq eq st))/\H' kq=some (.lst ks)/\H' rq=some (.lst rs)/\H' tq=some (.lst ts)/\H' eq=some (.lst es)/\H p=none/\H kq=none/\H rq=none/\H tq=none/\H eq=none
theorem Hw.keep {C:Addr}{H H' H2:Hp}{p b:Addr}{ks rs ts es:List V}{st:Str}(h:Hw C H H' p b ks rs ts es st) (s:∀y o,H y=none->H' y=some o->H2 y=some o):eQ C H2 p b ks rs ts es st:=by obtain ⟨dx,kq,rq,tq,eq,a1,a2,a3,a4,a5,n1,n2,n3,n4,n5⟩:=h;exact ⟨dx,kq,rq,tq,eq,s _ _ n1 a1,s _ _ n2 a2,s _ _ n3 a3,s _ _ n4 a4,s _ _ n5 a5⟩
theorem iO {H H1 H':Hp}{x dx:Addr}{o1 o2:HO}(s:ah H H1) (nx:H1 x=none) (nd:H1 dx=none) (sb:SameBut x (upd (upd H1 dx o1) x o2) H'):ah H H':=λ b o e=>by have e1:=s b o e;have nbx:=aj e1 nx;have nbd:=aj e1 nd;exact sb b o (by rw [au nbx,au nbd];exact e1) nbx
theorem Bd {H:Hp}{pl kd rd td ed:Addr}{ks:List Nat}{us:List (bC×Addr)}{ts es:List ((Str×Str)×Addr)}(G:jj H pl kd rd td ed ks us ts es):bc H 1 (.ref kd)/\bc H 2 (.ref rd)/\bc H 2 (.ref td)/\bc H 2 (.ref ed):=by
 have o1:∀k:Nat,(one k).length<=1000:=λ k=>by show 1<=1000;decide
 refine ⟨uK G.kds,t6 G.rls G.ra G.rg,lU G.tns G.ta λ z hz=>?_,lU G.ens G.ea λ z hz=>?_⟩
 ·obtain ⟨⟨a,_,ea⟩,b,_,eb⟩:=G.tg.kd z hz;rw [ea,eb];exact ⟨o1 a,o1 b⟩
 ·obtain ⟨ha,b,_,eb⟩:=G.eg.kd z hz;rw [eb];exact ⟨(by decide:∀s∈endsL,s.length<=1000) _ ha,o1 b⟩
theorem GD {H:Hp}{pl kd rd td ed:Addr}{ks:List Nat}{us:List (bC×Addr)}{ts es:List ((Str×Str)×Addr)}(G:jj H pl kd rd td ed ks us ts es):kindsB H (.ref kd)=true/\rulesB H (.ref rd) (ks.map one)=true/\turnsB H (.ref td) (ks.map one)=true/\pairsB H (.ref ed) endsL (ks.map one)=true:=
 ⟨sF G.kds.at_ G.kds.ltr G.kds.nd G.kds.l1 G.kds.l6,rK G.rls G.ra G.rg G.rl,rz G.tns G.ta G.tg,kI G.ens G.ea (λ z hz=>by
  obtain ⟨ha,b,hb,eb⟩:=G.eg.kd z hz;exact ⟨ha,by rw [eb];exact gI.mpr hb⟩) G.eg.len⟩
theorem uC {K:Frag}{cG:Addr}{H:Hp}{pl kd rd td ed x dx b:Addr}{ks:List Nat}{us:List (bC×Addr)}{ts es:List ((Str×Str)×Addr)}{st:Str}{Q:VK}(G:jj H pl kd rd td ed ks us ts es) (hst:st∈dg) (nx:H x=none) (nd:H dx=none) (ne:dx≠x) (q:∀H',Hw cG H H' x b (ks.map strV) (rRefs us) (pRefs ts) (pRefs es) st->ah H H'->Q (.ref x) H'):
  ju K cG [.ref x,.ref b,.ref kd,.ref rd,.ref td,.ref ed,.str st] (upd (upd H dx (.own x)) x (.ins cG dx [])) (λ v H2=>v=.non/\Q (.ref x) H2) E0:=by
 have s1:ah H (upd (upd H dx (.own x)) x (.ins cG dx [])):=((ah.refl H).upd nd).upd (by rw [au (Ne.symm ne)];exact nx);have G1:=G.same s1;obtain ⟨t1,t2,t3,t4⟩:=Bd G1;obtain ⟨b1,b2,b3,b4⟩:=GD G1;refine ⟨x,b,kd,rd,td,ed,dx,ks.map one,_,_,_,st,rfl,ae,by rw [<-ic];exact G1.kds.at_,G1.rls,G1.tns,G1.ens,t1,t2,t3,t4,b1,b2,b3,b4,hst,(by decide:∀s∈dg,s.length<=1000) _ hst,λ H' gm sb=>⟨rfl,q H' ?_ (iO (ah.refl H) nx nd sb)⟩⟩;obtain ⟨dx',kq,rq,tq,eq,a1,a2,a3,a4,a5,n2,n3,n4,n5⟩:=gm;exact ⟨dx',kq,rq,tq,eq,a1,by rw [ic];exact a2,a3,a4,a5,nx,s1.free n2,s1.free n3,s1.free n4,s1.free n5⟩
theorem IZ {C:Addr}{sp:Sp}{t:TA}{σ:St}{H:Hp}{Q:VK}(h:t σ H λ vs H1=> ∀x dx,H1 x=none->H1 dx=none->dx≠x->sp (.ref x::vs) (upd (upd H1 dx (.own x)) x (.ins C dx [])) (λ v H2=>v=.non/\Q (.ref x) H2) E0):Bl C sp t σ H Q:=h
theorem ix {K:Frag}{H:Hp}{n:Nat}{a b:Addr}{xs:List V}(ha:aJ K H a xs) (hb:aJ K H b xs) (ne:a≠b) (hf:∀x∈xs,(flatV x||isRef x)=true):oG K H (n+1) (.ref a) (.ref b) true:=by
 have h:=oG.lst (es:=λ _=>true) (n:=n) ha hb ne rfl (λ i x y hx hy=>by
  rw [hx] at hy;cases hy;exact jO (hf x (JT hx)))
 rw [show ((List.range xs.length).all λ _=>true)=true from JL.mpr λ _ _=>rfl] at h;exact h
theorem vk {tl:TE}{σ:St}{H:Hp}{Q:VK}{pl:Addr}{as:List (Addr×List V)}{K:Frag}(hl:Ev tl σ H (.ref pl)) (hp:H pl=some (.lst (as.map λ z=>V.ref z.1))) (ha:∀z∈as,H z.1=some (.lst z.2)) (hz:as.length<=1000)
  (q:∀d H' (qs:List Addr),qs.length=as.length->qs.Nodup->(∀(j:Nat) (z:Addr×List V) (q:Addr),as[j]? =some z->qs[j]? =some q->H q=none/\H' q=some (.lst z.2))->ah H H'->H' d=none->Q (.ref d) (upd H' d (.lst (qs.map V.ref)))):tComp (kP K tl) (gName 0) ky (L2.cB (jG K) (aK (bP 0) bK)) [none] σ H Q:=by
 refine wP (hl _ ⟨pl,rfl,⟨_,aJ.of hp⟩,?_⟩);refine jP as.length (λ i ys σ' H'=>ah H H'/\(∃v,σ'=[v])/\∃qs:List Addr,ys=qs.map V.ref/\qs.length=i/\qs.Nodup/\∀(j:Nat) (z:Addr×List V) (q:Addr),as[j]? =some z->qs[j]? =some q->H q=none/\H' q=some (.lst z.2)) (by rw [sizeLine_eq];omega) ?_ ?_ ?_ ?_ ?_ ?_
 ·rintro i ys σ' H' ⟨_,_,qs,rfl,hl,_⟩;rw [Jx];omega
 ·rintro i ys σ' H' ⟨s,_⟩ hi;exact ⟨_,_,aJ.of (s _ _ hp),JB (by rw [Jx];exact hi)⟩
 ·rintro ys σ' H' ⟨s,_⟩;exact ⟨_,aJ.of (s _ _ hp),by rw [Jx];exact KW _⟩
 ·exact ⟨ah.refl H,⟨_,rfl⟩,[],rfl,rfl,List.nodup_nil,λ j z q _ h=>by simp at h⟩
 ·rintro i ys _ H' x H2 hi ⟨s,⟨v0,rfl⟩,qs,rfl,hl,nd,hq⟩ ⟨rfl,hy⟩ Kt Kf ht hf;have e:=hy _ (aJ.of (s _ _ hp));rw [JO,JB hi] at e;obtain rfl:V.ref as[i].1=x:=Option.some.inj e;have ea:=s _ _ (ha as[i] (J9 hi));simp only [gName,ky,Ko,if_true];refine GP (aa rfl) (.inl (aJ.of ea)) λ l hl'=>?_;have sl:=(ah.refl H2).upd (o:=.lst as[i].2) hl';refine ht _ _ _ ⟨s.trans sl,⟨_,rfl⟩,qs++[l],by rw [JN];rfl,by rw [JD];show _+1=_;omega,?_,λ j z q hz hj=>?_⟩
  ·rw [Kd];refine ⟨nd,by simp,λ u hu w hw=>?_⟩;rw [JE.mp hw];obtain ⟨j,hj⟩:=Ke hu;have jl:=(JQ.mp hj).1;exact aj (hq j _ u (JB (by omega)) hj).2 hl'
  ·by_cases c:j<qs.length
   ·rw [Ku c] at hj;obtain ⟨a1,a2⟩:=hq j z q hz hj;exact ⟨a1,sl _ _ a2⟩
   ·rw [Ks (by omega)] at hj;have e0:j - qs.length=0:=by have:=(JQ.mp hj).1;simp only [JK,Kl] at this;omega
    rw [e0] at hj;obtain rfl:l=q:=Option.some.inj hj;have ej:j=i:=by omega
    subst ej;rw [JB hi] at hz;obtain rfl:=Option.some.inj hz;exact ⟨s.free hl',ae⟩
 ·rintro ys σ' H' d ⟨s,_,qs,rfl,hl,nd,hq⟩ hd;exact q d H' qs hl nd hq s hd
structure CL (P:Program) (w:World) (K:Frag) (mg:Str->Option Value) (base:Heap) (cB cG:Addr):Prop where
 _law_at:fv P w K mg base "_law_at" ["_law_script","_law_k"] 1 (lr K)
 _law_side:fv P w K mg base "_law_side" ["_law_cell"] 1 tU
 _law_holes:fv P w K mg base "_law_holes" ["_law_script","_law_k","_law_many"] 2 (mU K)
 _law_parts:fv P w K mg base "_law_parts" ["_law_script","_law_k"] 3 (A0 K)
 _law_bent:fv P w K mg base "_law_bent" ["_law_cell","_law_parts_here"] 1 tV
 _law_said:fv P w K mg base "_law_said" ["_law_board","_law_parts_here","_law_stuck"] 8 (qj Hy)
 _law_right:fv P w K mg base "_law_right" ["_law_game","_law_board","_law_parts_here","_law_stuck","_law_kept","_law_bit"] 2 (ql K cG cB)
 Board:oF P w K mg base "Board" cB ["self","wide","high","holes"] 4 (qu K cB)
 Game:oF P w K mg base "Game" cG ["self","board","kinds","rules","turns","ends","stuck"] 6 (ju K cG)
def qo (K:Frag):Sp:=λ vs H Q _=> ∃(a:Addr) (ns:List Int),vs=[.ref a]/\aJ K H a (ns.map V.int)/\ns.length<=63/\∀H',Q (.bl true) H'
section
variable {P:Program}{w:World}{K:Frag}{mg:Str->Option Value}{base:Heap}{aS aA aE aW:Addr}
theorem B0 {f cB cG:Addr}{fd:FuncData}(F:ce K "law" "law" gj f fd) (T:Txt mg aS aA aE aW) (C:CL P w K mg base cB cG):bz P w K mg base eP 9 f fd ["_law_script"] (qo K):=by
 refine F.ok cH (λ vs H Q E h=>?_) (λ cdv A outer s H vs Q E hr h=>?_)
 ·obtain ⟨a,ns,rfl,_⟩:=h;rfl
 ·obtain ⟨a,ns,rfl,hS,hlen,k⟩:=h;have hu:=cI hr;refine ⟨_,(af (az (i:=1) cH.nd rfl (Or.inl rfl) (aL C._law_side hr (aq (aL C._law_at hr (aq (cv 0) (aq ag pa_nil))) pa_nil)))
   (af (az (i:=2) cH.nd rfl (Or.inl rfl) (aL C._law_side hr (aq (aL C._law_at hr (aq (cv 0) (aq ag pa_nil))) pa_nil)))
   (af (az (i:=3) cH.nd rfl (Or.inl rfl) (uI C.Board hr (aq (cv 1) (aq (cv 2) (aq (aL C._law_holes hr (aq (cv 0) (aq ag (aq (al (cv 1) (cv 2)) pa_nil)))) pa_nil)))))
   (af (az (i:=4) cH.nd rfl (Or.inl rfl) (aL C._law_parts hr (aq (cv 0) (aq ag pa_nil))))
   (af (az (i:=5) cH.nd rfl (Or.inl rfl) (aL C._law_at hr (aq (cv 0) (aq ag pa_nil))))
   (af (az (i:=6) cH.nd rfl (Or.inl rfl) (cO K (aC (dy rfl)) (al (al (cv 5) ag) ag)))
   (af (bn (bN K hu (al (cv 5) ag) ag) (af (az (i:=7) cH.nd rfl (Or.inl rfl) (cO K (aC (aq aI (aq aI (aq aI (aq fj (aq db (aq (aC (aq aI pa_nil)) pa_nil))))))) (al (al (cv 5) ag) ag)))
   (ar (aF (hG K hu (aL C._law_said hr (aq (cv 3) (aq (cv 4) (aq (cv 7) pa_nil)))) aI)))) aG)
   (af (bn (bN K hu (al (cv 5) ag) ag) (ar (aF (hG K hu (aL C._law_said hr (aq (cv 3) (aq (aL C._law_bent hr (aq (al (cv 5) ag) (aq (cv 4) pa_nil))) (aq (cv 6) pa_nil)))) aI))) aG)
   (af (qz (i:=8) rfl (cn (N:=["_law_part"]) (src:=[none]) (am gj) ["_law_script","_law_wide","_law_high","_law_board","_law_parts_here","_law_cell","_law_stuck","_law_word_here","_law_handed","_law_game","_law_part","_law_others","_law_other","_law_kept","_law_turn","_law_bit"]) (sA K (cv 4)) (λ _ _ _=>(bw (i:=0) ["_law_part"])) (λ _ _ _=>cu) (λ _ _ _=>(nV (kL K) eB T.list (aq (cv 0) pa_nil))) cH.nd rfl (Or.inl rfl) rfl (Or.inl rfl))
   (af (az (i:=9) cH.nd rfl (Or.inl rfl) (uI C.Game hr (aq (cv 3) (aq (cO K (cv 8) ag) (aq (cO K (cv 8) ag) (aq (cO K (cv 8) ag) (aq (cO K (cv 8) ag) (aq (cv 6) pa_nil))))))))
   (af (bn (bN K hu (cv 8) (cv 4)) (ar (aF db)) aG)
   (af (iK PassesOwn.never rfl (sA K (cv 8)) (cE (i:=10) cH.nd rfl (Or.inl rfl)) (ar (ip (jS (cv 10) fj))))
   (af (az (i:=11) cH.nd rfl (Or.inl rfl) (aL C._law_parts hr (aq (cv 0) (aq ag pa_nil))))
   (af (az (i:=12) cH.nd rfl (Or.inl rfl) (uI C.Game hr (aq (cv 3) (aq (cO K (cv 11) ag) (aq (cO K (cv 11) ag) (aq (cO K (cv 11) ag) (aq (cO K (cv 11) ag) (aq aI pa_nil))))))))
   (af (az (i:=13) cH.nd rfl (Or.inl rfl) (aC pa_nil))
   (af (iK PassesOwn.never rfl (B4 T.range (aq ag pa_nil)) (cE (i:=14) cH.nd rfl (Or.inl rfl)) (af (az (i:=15) cH.nd rfl (Or.inl rfl) (hG K hu (al (al (al (cv 5) ag) (cv 14)) ag) ag))
   (af (bn (bq (bh (aL C._law_right hr (aq (cv 9) (aq (cv 3) (aq (cv 4) (aq (cv 6) (aq (cv 13) (aq (cv 15) pa_nil))))))))) (ar (aF db)) aG)
   (ar (bn (bq (bh (aL C._law_right hr (aq (cv 12) (aq (cv 3) (aq (cv 11) (aq aI (aq (cv 13) (aq (vp (cv 15)) pa_nil))))))))) (ar (aF db)) aG)))))
   (ar (aF (hG K hu (en (cn (N:=["_law_pair"]) (src:=[none]) (am gj) ["_law_script","_law_wide","_law_high","_law_board","_law_parts_here","_law_cell","_law_stuck","_law_word_here","_law_handed","_law_game","_law_part","_law_others","_law_other","_law_kept","_law_turn","_law_bit"]) (sA K (cv 13)) (λ _ _ _=>(bw (i:=0) ["_law_pair"])) (λ _ _ _=>(eK (bN K hu (cO K (cv 0) ag) (cO K (cv 0) ag)))) (λ _ _ _=>(cv 0))) (aC pa_nil)))))))))))))))))))),?_⟩
  show bu _ _ _ [oR a,none,none,none,none,none,none,none,none,none,none,none,none,none,none,none] H;refine bj (λ v H'=> ∃z:Int,v=.int z/\1<=z/\z<=8/\H'=H) (λ Q q=>e6 (ac (aP (ac (aa rfl) (ac ao ay)) (λ Q q=>⟨a,ns,0,rfl,hS,by decide,by decide,q⟩)) ay) ⟨_,rfl,(iu ns 0).1,λ z a b=>q _ _ ⟨z,rfl,a,b,rfl⟩⟩) ?_;rintro _ H1 ⟨wi,rfl,w1,w8,rfl⟩;refine bj (λ v H'=> ∃z:Int,v=.int z/\1<=z/\z<=8/\H'=H1) (λ Q q=>e6 (ac (aP (ac (aa rfl) (ac ao ay)) (λ Q q=>⟨a,ns,1,rfl,hS,by decide,by decide,q⟩)) ay) ⟨_,rfl,(iu ns 1).1,λ z a b=>q _ _ ⟨z,rfl,a,b,rfl⟩⟩) ?_;rintro _ H2 ⟨hi,rfl,h1,h8,rfl⟩;have m1:wi*hi<=8*8:=Lo w8 h8 (by omega) (by omega);have m0:1*1<=wi*hi:=Lo w1 h1 (by omega) (by omega);refine bj (λ v H'=> ∃(x:Addr) (hs:List Int),v=.ref x/\ge K cB H' x wi hi hs/\ah H2 H') (λ Q z=>?_) ?_
  ·refine IZ (ak (aa rfl) (ak (aa rfl) (aV (e6 (ac (aa rfl) (ac ao (ac (fT (aa rfl) (aa rfl) (.inl ⟨by omega,by omega⟩)) ay))) ⟨a,ns,2,wi*hi,rfl,hS,by decide,by decide,by omega,by omega,λ d hs H' n3 e3 gd nd ln s3=>aR λ x dx nx ndx ne=>?_⟩))));refine ⟨x,d,dx,wi,hi,hs,rfl,ae,by rw [au (aj e3 nx),au (aj e3 ndx)];exact e3,w1,w8,h1,h8,gd,nd,ln,λ hs' H4 pm O sb=>⟨rfl,z _ _ ⟨x,hs',rfl,O,iO s3 nx ndx sb⟩⟩⟩
  rintro _ H3 ⟨b,hs,rfl,O,s3⟩;refine bj (λ v H'=> ∃(pl kd rd td ed:Addr) (ks:List Nat) (us:List (bC×Addr)) (ts es:List ((Str×Str)×Addr)),v=.ref pl/\jj H' pl kd rd td ed ks us ts es/\ah H3 H') (λ Q z=>e6 (ac (aa rfl) (ac ao ay)) ⟨a,ns,4,rfl,s3.seq hS,by decide,by decide,λ pl kd rd td ed ks us ts es H' G _ _ _ _ _ s=>z _ _ ⟨pl,kd,rd,td,ed,ks,us,ts,es,rfl,G,s⟩⟩) ?_;rintro _ H4 ⟨pl,kd,rd,td,ed,ks,us,ts,es,rfl,G,s4⟩;have s24:=s3.trans s4;refine bx (aP (ac (aa rfl) (ac ao ay)) (λ Q q=>⟨a,ns,35,rfl,s24.seq hS,by decide,by decide,q⟩)) ?_;have c0:=(iu ns 35).1;generalize lawAt ns 35=c at c0 ⊢;refine bj (λ v H'=> ∃st,v=.str st/\st∈dg/\ah H4 H') (λ Q z=>?_) ?_
  ·obtain ⟨st,e,hst⟩:=qE (ss:=dg) (i:=c / 3 % 3) (by omega) (by show _<(3:Int);omega);exact ir jc (by decide) (λ H'=>aX (bA (aa rfl) ao ⟨by decide,by decide⟩) ao (by decide)) e (λ H' s=>z _ _ ⟨st,rfl,hst,s⟩)
  rintro _ H5 ⟨st,rfl,hst,s5⟩;have G5:=G.same s5;obtain ⟨t1,t2,t3,t4⟩:=Bd G5;show bu _ _ _ [oR a,oJ wi,oJ hi,oR b,oR pl,oJ c,oT st,none,none,none,none,none,none,none,none,none] H5;refine bQ (bW (gv (aX (aa rfl) ao (by decide)) ao)) (λ _=>?_) (λ _=>?_)
  ·refine bj (λ v H'=>wordB v dg=false/\Thg H' v/\ah H5 H') (λ Q z=>?_) ?_
   ·refine qJ (bB (ak ao (ak ao (ak ao (ak ao (ak ao (aV (bB (ak ao (aR ⟨by show 1<=sizeLine;decide,λ p hp=>?_⟩))))))))));have sp:=(ah.refl H5).upd (o:=.lst [.str "lost"]) hp;refine aR ⟨by show 6<=sizeLine;decide,λ r hr'=>?_⟩;have sr:=sp.upd (o:=.lst [.str "",.str "Lost",.str "stuck",.non,.bl true,.ref p]) hr';refine (aX (bA (aa rfl) ao ⟨by decide,by decide⟩) ao (by decide)) _ ?_;obtain ⟨v,e,hv⟩:=jA (xs:=[.str "",.str "Lost",.str "stuck",.non,.bl true,.ref p]) (i:=c / 9 % 6) (by omega) (by show _<(6:Int);omega);refine ⟨_,v,.inl (aJ.of ae),e,?_⟩;simp only [Jy,JC,or_false] at hv
    rcases hv with rfl | rfl | rfl | rfl | rfl | rfl
    ·exact z _ _ ⟨by decide+kernel,(show ("":Str).length<=1000 by decide),sr⟩
    ·exact z _ _ ⟨by decide+kernel,(show ("Lost":Str).length<=1000 by decide),sr⟩
    ·exact z _ _ ⟨by decide+kernel,(show ("stuck":Str).length<=1000 by decide),sr⟩
    ·exact z _ _ ⟨rfl,trivial,sr⟩
    ·exact z _ _ ⟨rfl,trivial,sr⟩
    ·exact z _ _ ⟨rfl,.inl ⟨_,((ah.refl _).upd (o:=.lst [.str "",.str "Lost",.str "stuck",.non,.bl true,.ref p]) hr') _ _ ae⟩,sr⟩
   rintro wv H6 ⟨wb,wt,s6⟩;refine lD (vn (e6 (ac (aa rfl) (ac (aa rfl) (ac (aa rfl) ay))) ⟨pl,_,_,_,_,_,wv,rfl,s6 _ _ G5.at_,t1.same s6,t2.same s6,t3.same s6,t4.same s6,wt,?_,λ H' s=>ao _ ?_⟩))
   ·unfold iw;rw [wb];simp
   show Q (.bl (decide (Hy="game"))) H';rw [decide_eq_true tz];exact k H'
  refine bQ (bW (gv (aX (aa rfl) ao (by decide)) ao)) (λ _=>?_) (λ _=>?_)
  ·refine lD (vn (vx (ak (aa rfl) (aV (e6 (ac (bA (aa rfl) ao ⟨by decide,by decide⟩) (ac (aa rfl) ay)) ⟨c / 9,pl,kd,rd,td,ed,ks,us,ts,es,rfl,G5,λ q kv rv tv ev H' e bp s6=>ak (aa rfl) (aR ⟨q,_,_,_,_,_,.str st,rfl,e,bp.tk,bp.tr,bp.tt,bp.te,(by decide:∀s∈dg,s.length<=1000) _ hst,bp.game,λ H7 s7=>ao _ ?_⟩)⟩)))));show Q (.bl (decide (Hy="game"))) H7;rw [decide_eq_true tz];exact k H7
  refine bj (λ v H'=> ∃(hl h0 h1 h2 h3:Addr),v=.ref hl/\jj H' hl h0 h1 h2 h3 ks us ts es/\(H5 h0=none/\H5 h1=none/\H5 h2=none/\H5 h3=none)/\[h0,h1,h2,h3].Nodup/\(hl≠h0/\hl≠h1/\hl≠h2/\hl≠h3)/\ah H5 H') (λ Q z=>?_) ?_
  ·refine vk (pl:=pl) (as:=[(kd,ks.map strV),(rd,rRefs us),(td,pRefs ts),(ed,pRefs es)]) (aa rfl) G5.at_ (λ z hz=>?_) (by show 4<=1000;decide) λ d H' qs l nd hq s hd=>?_
   ·simp only [Jy,JC,or_false] at hz
    rcases hz with rfl | rfl | rfl | rfl
    ·exact G5.kds.at_
    ·exact G5.rls
    ·exact G5.tns
    ·exact G5.ens
   ·match qs,l with
    | [h0,h1,h2,h3],_=>
      have a0:=hq 0 _ _ rfl rfl;have a1:=hq 1 _ _ rfl rfl;have a2:=hq 2 _ _ rfl rfl;have a3:=hq 3 _ _ rfl rfl;have sd:=(ah.refl H').upd (o:=.lst ([h0,h1,h2,h3].map V.ref)) hd;have Gd:=G5.same (s.trans sd);exact z _ _ ⟨d,h0,h1,h2,h3,rfl,⟨ae,⟨sd _ _ a0.2,G.kds.ltr,G.kds.l1,G.kds.l6,G.kds.nd⟩,sd _ _ a1.2,Gd.ra,G.rg,G.rl,sd _ _ a2.2,Gd.ta,G.tg,sd _ _ a3.2,Gd.ea,G.eg⟩,⟨a0.1,a1.1,a2.1,a3.1⟩,nd,⟨(aj a0.2 hd).symm,(aj a1.2 hd).symm,(aj a2.2 hd).symm,(aj a3.2 hd).symm⟩,s.trans sd⟩
  rintro _ H6 ⟨hl,h0,h1,h2,h3,rfl,P6,⟨n0,n1,n2,n3⟩,nd,⟨l0,l1,l2,l3⟩,s6⟩;show bu _ _ _ [oR a,oJ wi,oJ hi,oR b,oR pl,oJ c,oT st,none,oR hl,none,none,none,none,none,none,none] H6;refine bj (λ v H'=> ∃x,v=.ref x/\Hw cG H6 H' x b (ks.map strV) (rRefs us) (pRefs ts) (pRefs es) st/\ah H6 H') (λ Q z=>?_) ?_
  ·have L6:aJ K H6 hl [.ref h0,.ref h1,.ref h2,.ref h3]:=aJ.of P6.at_;exact IZ (ak (aa rfl) (ak (bg (x:=.ref h0) (aa rfl) ao (.inl L6) rfl) (ak (bg (x:=.ref h1) (aa rfl) ao (.inl L6) rfl) (ak (bg (x:=.ref h2) (aa rfl) ao (.inl L6) rfl) (ak (bg (x:=.ref h3) (aa rfl) ao (.inl L6) rfl) (ak (aa rfl) (aR λ x dx nx ndx ne=>uC P6 hst nx ndx ne λ H' gm s=>z _ _ ⟨x,rfl,gm,s⟩)))))))
  rintro _ H7 ⟨gx,rfl,gm,s7⟩;have P7:=P6.same s7;have G7:=G5.same (s6.trans s7);refine bQ (b:=false) (bW (Cp (k:=true) (aa rfl) (aa rfl) ?_)) (λ h=>nomatch h) (λ _=>?_)
  ·have z:=mJ.lst (K:=K) (H:=H7) (es:=λ _=>true) (n:=19) (aJ.of P7.at_) (aJ.of G7.at_) rfl (λ i x y hx hy=>?_)
   ·exact z
   ·rcases i with _ | _ | _ | _ | i
    ·obtain rfl:V.ref h0=x:=Option.some.inj hx;obtain rfl:V.ref kd=y:=Option.some.inj hy;exact ix (n:=18) (aJ.of P7.kds.at_) (aJ.of G7.kds.at_) (aj G5.kds.at_ n0).symm uX
    ·obtain rfl:V.ref h1=x:=Option.some.inj hx;obtain rfl:V.ref rd=y:=Option.some.inj hy;exact ix (n:=18) (aJ.of P7.rls) (aJ.of G7.rls) (aj G5.rls n1).symm qR
    ·obtain rfl:V.ref h2=x:=Option.some.inj hx;obtain rfl:V.ref td=y:=Option.some.inj hy;exact ix (n:=18) (aJ.of P7.tns) (aJ.of G7.tns) (aj G5.tns n2).symm qS
    ·obtain rfl:V.ref h3=x:=Option.some.inj hx;obtain rfl:V.ref ed=y:=Option.some.inj hy;exact ix (n:=18) (aJ.of P7.ens) (aJ.of G7.ens) (aj G5.ens n3).symm qS
    ·cases hx
  have k0:=P7.kds.at_;have k1:=P7.rls;have k2:=P7.tns;have k3:=P7.ens;have nd':h0≠h1/\h0≠h2/\h0≠h3/\h1≠h2/\h1≠h3/\h2≠h3:=by simp only [JZ,Jy,JC,or_false,not_or] at nd;exact ⟨nd.1.1,nd.1.2.1,nd.1.2.2,nd.2.1.1,nd.2.1.2,nd.2.2.1⟩
  obtain ⟨d01,d02,d03,d12,d13,d23⟩:=nd';refine eW (λ σ' H'=>(∃o10,σ'=[oR a,oJ wi,oJ hi,oR b,oR pl,oJ c,oT st,none,oR hl,oR gx,o10,none,none,none,none,none])/\ah H5 H'/\eQ cG H' gx b (ks.map strV) (rRefs us) (pRefs ts) (pRefs es) st) (λ K' hK=>?_) ?_
  ·have A1e:∀y,y≠h0->(upd H7 h0 (.lst (ks.map strV++[.non]))) y=H7 y:=λ y n=>au n;generalize hA1:upd H7 h0 (.lst (ks.map strV++[.non]))=A1 at A1e;have A2e:∀y,y≠h1->(upd A1 h1 (.lst (rRefs us++[.non]))) y=A1 y:=λ y n=>au n;generalize hA2:upd A1 h1 (.lst (rRefs us++[.non]))=A2 at A2e;have A3e:∀y,y≠h2->(upd A2 h2 (.lst (pRefs ts++[.non]))) y=A2 y:=λ y n=>au n;generalize hA3:upd A2 h2 (.lst (pRefs ts++[.non]))=A3 at A3e;have A4e:∀y,y≠h3->(upd A3 h3 (.lst (pRefs es++[.non]))) y=A3 y:=λ y n=>au n;generalize hA4:upd A3 h3 (.lst (pRefs es++[.non]))=A4 at A4e;have rl:=G.rl;have kl6:=G.kds.l6;have tl6:=G.tg.len;have el6:=G.eg.len;have at0:=P7.at_;refine oa (K:=K) (λ v H'=>v=.ref hl/\H'=H7) (λ Q q=>aa rfl _ (q _ _ ⟨rfl,rfl⟩)) ?_;rintro _ _ ⟨rfl,e7⟩;obtain rfl:=e7.symm;refine ⟨hl,[.ref h0,.ref h1,.ref h2,.ref h3],rfl,aJ.of at0,λ i σ' H'=>(∃o10,σ'=[oR a,oJ wi,oJ hi,oR b,oR pl,oJ c,oT st,none,oR hl,oR gx,o10,none,none,none,none,none])/\H'=(match i with | 0=>H' | 1=>A1 | 2=>A2 | 3=>A3 | _=>A4)/\(i=0->H'=H7),⟨⟨_,rfl⟩,rfl,λ _=>rfl⟩,?_,?_,?_⟩
   ·rintro i σ' H' hi' ⟨_,e,e0⟩
    rcases i with _ | _ | _ | _ | i
    ·rw [e0 rfl];exact aJ.of at0
    ·have e:H'=A1:=e;rw [e];exact aJ.of (by rw [A1e _ l0];exact at0)
    ·have e:H'=A2:=e;rw [e];exact aJ.of (by rw [A2e _ l1,A1e _ l0];exact at0)
    ·have e:H'=A3:=e;rw [e];exact aJ.of (by rw [A3e _ l2,A2e _ l1,A1e _ l0];exact at0)
    ·have e:H'=A4:=e;rw [e];exact aJ.of (by rw [A4e _ l3,A3e _ l2,A2e _ l1,A1e _ l0];exact at0)
   ·rintro i x σ' H' hx ⟨⟨o10,rfl⟩,e,e0⟩
    rcases i with _ | _ | _ | _ | i
    ·obtain rfl:V.ref h0=x:=Option.some.inj hx;obtain rfl:=e0 rfl;exact ig (aa rfl) ao k0 (by rw [Jx,sizeLine_eq];omega) ⟨⟨_,rfl⟩,hA1,λ h=>by cases h⟩
    ·obtain rfl:V.ref h1=x:=Option.some.inj hx;obtain rfl:=e;exact ig (aa rfl) ao (by rw [A1e _ d01.symm];exact k1) (by rw [Jx,sizeLine_eq];omega) ⟨⟨_,rfl⟩,hA2,λ h=>by cases h⟩
    ·obtain rfl:V.ref h2=x:=Option.some.inj hx;obtain rfl:=e;exact ig (aa rfl) ao (by rw [A2e _ d12.symm,A1e _ d02.symm];exact k2) (by rw [Jx,sizeLine_eq];omega) ⟨⟨_,rfl⟩,hA3,λ h=>by cases h⟩
    ·obtain rfl:V.ref h3=x:=Option.some.inj hx;obtain rfl:=e;exact ig (aa rfl) ao (by rw [A3e _ d23.symm,A2e _ d13.symm,A1e _ d03.symm];exact k3) (by rw [Jx,sizeLine_eq];omega) ⟨⟨_,rfl⟩,hA4,λ h=>by cases h⟩
    ·cases hx
   ·rintro σ' H' ⟨ho,e,_⟩;obtain rfl:H'=A4:=e;have old:∀y,y≠h0->y≠h1->y≠h2->y≠h3->H' y=H7 y:=λ y a0 a1 a2 a3=>by rw [A4e _ a3,A3e _ a2,A2e _ a1,A1e _ a0]
    refine hK _ _ ⟨ho,λ y o h=>?_,gm.keep λ y o n h=>?_⟩
    ·rw [old y (aj h n0) (aj h n1) (aj h n2) (aj h n3)];exact (s6.trans s7) _ _ h
    ·rw [old y (aj P6.kds.at_ n).symm (aj P6.rls n).symm (aj P6.tns n).symm (aj P6.ens n).symm];exact h
  rintro _ H8 ⟨⟨o10,rfl⟩,s58,GA⟩;refine bj (λ v H'=> ∃(pl kd rd td ed:Addr) (ks:List Nat) (us:List (bC×Addr)) (ts es:List ((Str×Str)×Addr)),v=.ref pl/\jj H' pl kd rd td ed ks us ts es/\ah H8 H') (λ Q z=>e6 (ac (aa rfl) (ac ao ay)) ⟨a,ns,40,rfl,((s24.trans s5).trans s58).seq hS,by decide,by decide,λ pl kd rd td ed ks us ts es H' G _ _ _ _ _ s=>z _ _ ⟨pl,kd,rd,td,ed,ks,us,ts,es,rfl,G,s⟩⟩) ?_;rintro _ H9 ⟨pl',kd',rd',td',ed',ks',us',ts',es',rfl,G9,s9⟩;refine bj (λ v H'=> ∃x,v=.ref x/\Hw cG H9 H' x b (ks'.map strV) (rRefs us') (pRefs ts') (pRefs es') "even"/\ah H9 H') (λ Q z=>?_) ?_
  ·have L9:aJ K H9 pl' [.ref kd',.ref rd',.ref td',.ref ed']:=aJ.of G9.at_;exact IZ (ak (aa rfl) (ak (bg (x:=.ref kd') (aa rfl) ao (.inl L9) rfl) (ak (bg (x:=.ref rd') (aa rfl) ao (.inl L9) rfl) (ak (bg (x:=.ref td') (aa rfl) ao (.inl L9) rfl) (ak (bg (x:=.ref ed') (aa rfl) ao (.inl L9) rfl) (ak ao (aR λ x dx nx ndx ne=>uC G9 (by decide) nx ndx ne λ H' gm s=>z _ _ ⟨x,rfl,gm,s⟩)))))))
  rintro _ H10 ⟨gy,rfl,gm',s10⟩;have GB:=gm'.keep (H2:=H10) λ y o _ h=>h;have s80:=s9.trans s10;have GA10:=GA.same s80;have G10:=G5.same (s58.trans s80);have G10':=G9.same s10;have O10:=O.same ((s4.trans s5).trans (s58.trans s80));refine oS λ kl hkl=>?_;have sk:ah H10 (upd H10 kl (.lst [])):=(ah.refl H10).upd hkl;have ek:(upd H10 kl (.lst [])) kl=some (.lst []):=ae;generalize upd H10 kl (.lst [])=H11 at sk ek ⊢;refine eW (λ σ' H'=> ∃els o14 o15,σ'=[oR a,oJ wi,oJ hi,oR b,oR pl,oJ c,oT st,none,oR hl,oR gx,o10,oR pl',oR gy,oR kl,o14,o15]/\fc H' kl els/\els.length<=44) (λ K' hK=>?_) ?_
  ·refine nZ 2 (λ Q q=>(ac ao ay) _ q) (by decide) (by decide)
    (λ i σ' H'=> ∃els o14 o15,σ'=[oR a,oJ wi,oJ hi,oR b,oR pl,oJ c,oT st,none,oR hl,oR gx,o10,oR pl',oR gy,oR kl,o14,o15]/\ah H10 H'/\fc H' kl els/\els.length<=22*i)
    ⟨[],_,_,rfl,sk,⟨ek,λ e he=>by cases he⟩,KW _⟩ ?_ (λ σ' H' h=>?_)
   ·rintro i _ L0 hi' ⟨els,o14,o15,rfl,t0,KO,z0⟩;have i2:i<2:=hi';show bu _ _ _ [oR a,oJ wi,oJ hi,oR b,oR pl,oJ c,oT st,none,oR hl,oR gx,o10,oR pl',oR gy,oR kl,oJ (0+(i:Int)),o15] L0;generalize 0+(i:Int)=turn;refine bx (gv (aX (cg (bA (aa rfl) ao ⟨by decide,by decide⟩) (aa rfl)) ao (by decide)) ao) ?_;generalize decide ((c / 81+turn) % 2=1)=bit;refine bX (λ b H'=>b=false/\ah H10 H'/\∃els',fc H' kl els'/\els'.length<=els.length+11) (λ Q z=>?_) (λ H' h=>by cases h.1) (λ L1 h=>?_)
    ·exact cy (ac (aa rfl) (ac (aa rfl) (ac (aa rfl) (ac (aa rfl) (ac (aa rfl) (ac (aa rfl) ay)))))) ⟨H10,gx,b,pl,kl,kd,rd,td,ed,st,bit,ks,us,ts,es,wi,hi,hs,els,rfl,t0,hkl,GA10,O10,G10,KO,by omega,λ els' H' s kk ll=>z _ _ ⟨rfl,s,els',kk,ll⟩⟩
    obtain ⟨_,t1,els1,K1,z1⟩:=h;refine uG (λ b H'=>b=false/\ah H10 H'/\∃els',fc H' kl els'/\els'.length<=els1.length+11) (λ Q z=>?_) (λ H' h=>by cases h.1) (λ L2 h=>?_)
    ·exact cy (ac (aa rfl) (ac (aa rfl) (ac (aa rfl) (ac ao (ac (aa rfl) (ac (uY (aa rfl)) ay)))))) ⟨H10,gy,b,pl',kl,kd',rd',td',ed',"even",!bit,ks',us',ts',es',wi,hi,hs,els1,rfl,t1,hkl,GB,O10,G10',K1,by omega,λ els' H' s kk ll=>z _ _ ⟨rfl,s,els',kk,ll⟩⟩
    obtain ⟨_,t2,els2,K2,z2⟩:=h;exact ⟨els2,_,_,rfl,t2,K2,by omega⟩
   ·obtain ⟨els,o14,o15,e,_,kk,z⟩:=h;exact hK _ _ ⟨els,o14,o15,e,kk,by have:(2:Int).toNat=2:=rfl;omega⟩
  rintro _ H12 ⟨els,o14,o15,rfl,KO,l12⟩;show dw _ _ _ _;refine dG (d:=kl) (xs:=els) (rest:=[]) (aa rfl) (aJ.of KO.at_) (by rw [sizeLine_eq];omega) rfl (λ _=>false) (λ v=>v) (λ x hx=>?_) (λ x hx h=>by cases h) (λ d' hd'=>?_)
  ·obtain ⟨t,f,c,zs,rfl,_,_,_,h5,h6,h7,h8⟩:=KO.all x hx;show Tv _ _ _ (!true);exact bW (Co (bg (aa rfl) ao (.inr (eE.of h5)) (bJ (j:=0) rfl)) (bg (aa rfl) ao (.inr (eE.of h5)) (bJ (j:=1) rfl)) (oh (aJ.of h6) (aJ.of h7) h8))
  ·have e:(els.filter λ _=>false).map (λ v=>v)=[]:=by simp
   rw [e];refine ⟨K7 _,λ q2 hq2=>?_⟩;show aY K .Eq (V.ref d') (V.ref q2) _ _;rw [qx];have ne:d'≠q2:=aj ae hq2;exact ⟨true,ve (xs:=[]) (aJ.of (by rw [au ne,ae])) (aJ.of ae) rfl,k _⟩
end
end K06
namespace L2
open PySem PySem.W PyProof.Rows
theorem tD {q:Program}{loose:List Str}{XP:(Str->Option Value)->Heap->Prop}{YP:World->Heap->Prop}{α:Type}{Yf:Shared->α}{Ya:World->α}{r:RowW}{d:DefRec}{kwd:List (Str×Expr)}{run:Value->List Value->Sem Value}
  (hY:∀(w:World) (s₀ s₁:Shared),Yf s₀=Ya w->(∀b o,s₀.heap.get? b=some o->s₁.heap.get? b=some o)->YP w s₁.heap) (h:WalkO q loose XP YP r d kwd run):PySem.W.WalkX q loose XP Yf Ya r d kwd run:=
 λ w s₀ s₁ mg mb G y a o pm cd doc dV kV ho hd hcd hD hmg hg args vals as L hpre hlay hrd hwl hlo=>h w s₀ s₁ mg mb G (hY w s₀ s₁ y L.keeps) a o pm cd doc dV kV ho hd hcd hD hmg hg args vals as hpre hlay hrd hwl hlo
theorem CY {P:List Value->Prop}(h:∀a0:Value,P [a0]):∀us:List Value,us.length=1->P us
 | [a0],_=>h a0
theorem oK {P:List Value->Prop}(h:∀a0 a1:Value,P [a0,a1]):∀us:List Value,us.length=2->P us
 | [a0,a1],_=>h a0 a1
theorem vN {P:List Value->Prop}(h:∀a0 a1 a2:Value,P [a0,a1,a2]):∀us:List Value,us.length=3->P us
 | [a0,a1,a2],_=>h a0 a1 a2
theorem ln4 {P:List Value->Prop}(h:∀a0 a1 a2 a3:Value,P [a0,a1,a2,a3]):∀us:List Value,us.length=4->P us
 | [a0,a1,a2,a3],_=>h a0 a1 a2 a3
theorem ln6 {P:List Value->Prop}(h:∀a0 a1 a2 a3 a4 a5:Value,P [a0,a1,a2,a3,a4,a5]):∀us:List Value,us.length=6->P us
 | [a0,a1,a2,a3,a4,a5],_=>h a0 a1 a2 a3 a4 a5
theorem ln7 {P:List Value->Prop}(h:∀a0 a1 a2 a3 a4 a5 a6:Value,P [a0,a1,a2,a3,a4,a5,a6]):∀us:List Value,us.length=7->P us
 | [a0,a1,a2,a3,a4,a5,a6],_=>h a0 a1 a2 a3 a4 a5 a6
end L2
namespace L2
open PySem PySem.W PyProof.Rows
def oO:Nat->List Obj->Nat->Nat->PySem.W.BT
 | 0,_,_,_=>.nil
 | f+1,l,a,b=>(l[b]?).elim .nil λ o=>.node o (oO f l (2*a) (a+b)) (oO f l (2*a) (2*a+b))
def toT (s:Shared):SharedT:=⟨oO 12 s.heap.objs.toList 1 0,s.heap.objs.size,s.heap.life,s.gens,s.drawn,s.toks,s.os⟩
theorem GQ {p q:Program}{loose:List Str}{Xt:Shared->Bool}{α:Type}{Yf:Shared->α}{Ya:World->α}{N:Nat}{g0:Bool}{H₀:Params->Heap}{gs₀:Array GenState}{d₀:Drawn}{k₀ m₀:Nat}{ann:Option Value}{n0 nb n nf:Nat}
  {b:List Stmt} {env:Env} {qp p0 p1 p2:Pos} {sa:World->OsState->Shared} {sb sc:World->OsState->SharedT} {sf:World->OsState->Shared}
  (open_:∀w:World,(fencedOpening treeTable p w N).map (λ s=>(s.heap,s.gens,s.drawn,s.toks))=some (H₀ w.params,gs₀,d₀,k₀))
  (size:∀w:World,((H₀ w.params).isNs mainGlobals&&gs₀.size == 0,(H₀ w.params).objs.size,(H₀ w.params).nsMap mainGlobals "__annotations__")=(true,m₀,ann))
  (pre:∀w os,topGo treeTable p w m₀ ann n0 ⟨H₀ w.params,gs₀,d₀,k₀,os⟩ (topStub p)=some (sa w os,⟨denote treeTable (.body b env),.body b env,p0,[topFrame qp]⟩))
  (block:∀w os,segRun treeTable p w m₀ ann 1 nb (sa w os) (blockOf b env (.body b env) p0 [topFrame qp])=some (.next,(sb w os).abs,.body b env,p1))
  (main:∀w os,segRunT treeTable p w m₀ ann 1 n (sb w os) (piecesOf b env (.body b env) p1 [topFrame qp])=some (.next,sc w os,.body b env,p2))
  (fin:∀w os,topRun treeTable p w m₀ ann nf (sc w os).abs ⟨doneF .next,.body b env,p2,[topFrame qp]⟩=some (sf w os))
  (le:Nat.ble (n0+(nb+(n+nf))) N=true)
  (looks:∀w os,((staticsOk (importedModules p.main.body) (H₀ w.params) (sf w os).heap&&namesBound p (sf w os).heap&&gensDone (sf w os)&&laidKept (H₀ w.params) (sf w os).heap),
    openSeen q loose (importedModules p.main.body) Xt g0 (sf w os),Yf (sf w os))=(true,openGood q loose,Ya w)):LeftO p q loose Xt Yf Ya N g0:=λ w=>by
 obtain ⟨⟨h,gs,d,k,os⟩,e,e'⟩:=LD.mp (open_ w);obtain ⟨rfl,rfl,rfl,rfl⟩:h=H₀ w.params/\gs=gs₀/\d=d₀/\k=k₀:=by simpa using e'
 obtain ⟨z1,z2,z3⟩:_/\_/\_:=by simpa only [Prod.mk.injEq] using size w
 obtain ⟨l1,l2,l3⟩:_/\_/\_:=by simpa only [Prod.mk.injEq] using looks w os
 have r1:=piece_app (rest:=[]) (segRun_of (main w os)) (piece_nil (fin w os));rw [JR] at r1;have r3:=go_top (pre w os) (piece_block (block w os) r1);have r:=topRun_mono (N - (n0+(nb+(n+nf)))) _ _ _ _ r3;rw [show n0+(nb+(n+nf))+(N - (n0+(nb+(n+nf))))=N by have:=Lk le;omega] at r;have t:topFrom treeTable p w N ⟨H₀ w.params,gs,d,k,os⟩=some (sf w os):=by
  unfold topFrom;dsimp only;rw [z1,z2,z3,r];show (match staticsOk (importedModules p.main.body) (H₀ w.params) (sf w os).heap&&namesBound p (sf w os).heap&&gensDone (sf w os)&&laidKept (H₀ w.params) (sf w os).heap with | true=>_ | false=>_)=_
  rw [l1]
 unfold openEnds;rw [e];show (topFrom treeTable p w N _).map _=_;rw [t];exact congrArg some (Prod.ext l2 l3)
abbrev Hf (name qual:Str) (params:Arguments) (body:List Stmt) (scope:Scope) (globals:Addr) (closure:List (Str×Addr)) (dV kV doc pm:Value) (an:Option Addr) (cdv ct:Value) (bl:Addr):FuncData:=
 {name,qualname:=qual,params,body:=.stmts body,scope,globals,closure,defaults:=dV,kwdefaults:=kV,doc,pyModule:=pm,annotations:=an,code:=cdv,closureTuple:=ct,builtins:=bl}
noncomputable def stT (t:PySem.W.BT) (n k:Nat) (P:Params) (os:OsState):SharedT:=⟨t,n,(boot_heap P).life,Array.mk [],boot_drawn,k,os⟩
theorem sy {p q:Program}{loose:List Str}{Xt:Shared->Bool}{α:Type}{Yf:Shared->α}{Ya:World->α}{N:Nat}{g0:Bool}{H₀:Params->Heap}{gs₀:Array GenState}{d₀:Drawn}{k₀ m₀:Nat}{ann:Option Value}{n0 nb n:Nat}
  {b:List Stmt} {env:Env} {qp p0 p1:Pos} {sa:World->OsState->Shared} {sb:World->OsState->SharedT} {sf:World->OsState->Shared}
  (open_:∀w:World,(fencedOpening treeTable p w N).map (λ s=>(s.heap,s.gens,s.drawn,s.toks))=some (H₀ w.params,gs₀,d₀,k₀))
  (size:∀w:World,((H₀ w.params).isNs mainGlobals&&gs₀.size == 0,(H₀ w.params).objs.size,(H₀ w.params).nsMap mainGlobals "__annotations__")=(true,m₀,ann))
  (pre:∀w os,topGo treeTable p w m₀ ann n0 ⟨H₀ w.params,gs₀,d₀,k₀,os⟩ (topStub p)=some (sa w os,⟨denote treeTable (.body b env),.body b env,p0,[topFrame qp]⟩))
  (block:∀w os,segRun treeTable p w m₀ ann 1 nb (sa w os) (blockOf b env (.body b env) p0 [topFrame qp])=some (.next,(sb w os).abs,.body b env,p1))
  (main:∀w os,topRun treeTable p w m₀ ann n (sb w os).abs (restOf b env (.body b env) p1 [topFrame qp])=some (sf w os))
  (le:Nat.ble (n0+(nb+n)) N=true)
  (looks:∀w os,((staticsOk (importedModules p.main.body) (H₀ w.params) (sf w os).heap&&namesBound p (sf w os).heap&&gensDone (sf w os)&&laidKept (H₀ w.params) (sf w os).heap),
    openSeen q loose (importedModules p.main.body) Xt g0 (sf w os),Yf (sf w os))=(true,openGood q loose,Ya w)):LeftO p q loose Xt Yf Ya N g0:=λ w=>by
 obtain ⟨⟨h,gs,d,k,os⟩,e,e'⟩:=LD.mp (open_ w);obtain ⟨rfl,rfl,rfl,rfl⟩:h=H₀ w.params/\gs=gs₀/\d=d₀/\k=k₀:=by simpa using e'
 obtain ⟨z1,z2,z3⟩:_/\_/\_:=by simpa only [Prod.mk.injEq] using size w
 obtain ⟨l1,l2,l3⟩:_/\_/\_:=by simpa only [Prod.mk.injEq] using looks w os
 have r3:=go_top (pre w os) (piece_block (block w os) (main w os));have r:=topRun_mono (N - (n0+(nb+n))) _ _ _ _ r3;rw [show n0+(nb+n)+(N - (n0+(nb+n)))=N by have:=Lk le;omega] at r;have t:topFrom treeTable p w N ⟨H₀ w.params,gs,d,k,os⟩=some (sf w os):=by
  unfold topFrom;dsimp only;rw [z1,z2,z3,r];show (match staticsOk (importedModules p.main.body) (H₀ w.params) (sf w os).heap&&namesBound p (sf w os).heap&&gensDone (sf w os)&&laidKept (H₀ w.params) (sf w os).heap with | true=>_ | false=>_)=_
  rw [l1]
 unfold openEnds;rw [e];show (topFrom treeTable p w N _).map _=_;rw [t];exact congrArg some (Prod.ext l2 l3)
def qP (as:List Addr) (s:Shared):List (Option Obj):=as.map s.heap.get?
def qO (K:Params->Frag) (w:World):List (Option Obj):=(K w.params).map λ p=>some p.2
theorem G0 {K:Params->Frag}{as:List Addr}(e:∀P,as=(K P).map (·.1)) (w:World) (s₀ s₁:Shared) (y:qP as s₀=qO K w) (k:∀b o,s₀.heap.get? b=some o->s₁.heap.get? b=some o):(K w.params).In s₁.heap:=
 InK.keeps w s₀.heap s₁.heap (InK.of e w s₀ y) k
end L2
namespace K06
open PySem L2
abbrev bb (x:Array Value) (n:Nat):Obj:=⟨.type "tuple",none,.seq x n,#[]⟩
noncomputable abbrev fo (a b:Str) (s:Stmt):Obj:=⟨.none,none,.func (L2.Hf a b (eY s) (dt s) (am s) 0 [] .none .none .none .none none .none .none 0),#[]⟩
abbrev iF (a b:Str) (n m l:Nat) (i j k o:Int) (r:Nat) (f:Bool) (p:Int) (q x y z:Nat) (u v:Int) (e:Nat):Obj:=⟨.type "code",none,.fields #[.str a n,.str b m,.str "/claim/cut.py" l,.int i 0,.int j 0,.int 0 0,.int k 0,.int o 0,.ref r,.bool f,.int p 0,.ref q,.none,.ref x,.ref y,.ref z,.int u 0,.int v 0,.str "/claim/cut.py" e],#[]⟩
abbrev rk (a b:Str) (n m l:Nat) (i j k o:Int) (r:Nat) (f:Bool) (p:Int) (q:Nat) (u v:Int) (e:Nat):Obj:=⟨.type "code",none,.fields #[.str a n,.str b m,.str "/claim/cut.py" l,.int i 0,.int j 0,.int 0 0,.int k 0,.int o 0,.ref r,.bool f,.int p 0,.ref q,.none,.none,.none,.none,.int u 0,.int v 0,.str "/claim/cut.py" e],#[]⟩
noncomputable abbrev fu (a b:Str) (s:Stmt) (m:Str) (n c:Nat):Obj:=⟨.type "function",none,.func (LR a b (eY s) (dt s) (am s) .none .none .none (.str m n) none (.ref c) .none),#[]⟩
abbrev du (x:Array Value):Obj:=⟨.none,none,.fields x,#[]⟩
abbrev oM (x:Array Value):Obj:=⟨.type "code",none,.fields x,#[]⟩
abbrev aM (P:Params) (x:Str) (n:Nat) (v:Value):DictEntry:=⟨PyData.keyHash P x,.str x n,v⟩
abbrev aO (x:Obj):PySem.W.BT:=.node x .nil .nil
abbrev aB (x:Obj) (a b:PySem.W.BT):PySem.W.BT:=.node x a b
abbrev cm:Value:=.int 0 0
abbrev gW (n:Nat):Value:=.str "/claim/cut.py" n
abbrev aT (n:Int):Value:=.int n 0
abbrev hP:Program:=PySem.Challenge.pw_playboard_k06_games
noncomputable def hQ:Program:={hP with main:={hP.main with body:=bI 0::bI 2::bI 3::bI 4::bI 5::bI 6::bI 7::bI 8::bI 9::bI 10::bI 11::bI 13::bI 14::bI 15::bI 17::bI 18::bI 19::bI 20::bI 21::bI 22::bI 23::bI 24::bI 25::bI 26::bI 27::bI 28::bI 29::bI 30::bI 31::bI 32::bI 33::bI 34::bI 36::bI 38::bI 39::bI 40::bI 42::bI 43::bI 44::bI 45::bI 46::bI 47::bI 48::bI 49::bI 50::bI 51::bI 52::bI 53::bI 54::bI 55::bI 56::bI 57::bI 58::[]}}
noncomputable section
variable (P:Params)
def zo3:Obj:=⟨(.type "dict"),none,(.dict #[aM P "__name__" 165 (.str "law_playboard_k06_games" 628),aM P "__doc__" 166 .none,aM P "__package__" 167 .none,aM P "__loader__" 168 (.builtin "__main__.__loader__#opaque"),aM P "__spec__" 169 .none,aM P "__annotations__" 170 (.ref 6),aM P "__builtins__" 171 (.ref 4),aM P "__file__" 173 (gW 172),aM P "__cached__" 174 .none,aM P "_wall" 193 (.ref 21),aM P "PlayError" 213 (.ref 31),aM P "BadBoard" 229 (.ref 44),aM P "BadGame" 245 (.ref 56),aM P "BadLine" 270 (.ref 75),aM P "BadPlace" 286 (.ref 87),aM P "NoMove" 302 (.ref 99),aM P "TooWide" 318 (.ref 111),aM P "NoWord" 334 (.ref 123),aM P "Over" 350 (.ref 135),aM P "NothingBack" 366 (.ref 147),aM P "is_whole" 375 (.ref 156),aM P "is_letter" 382 (.ref 163),aM P "is_among" 391 (.ref 170),aM P "SORTS" 397 (.ref 171),aM P "AIMS" 401 (.ref 172),aM P "END_WORDS" 404 (.ref 173),aM P "STUCK_WORDS" 408 (.ref 174),aM P "MOST_KINDS" 410 (.int 6 409),aM P "MOST_RULES" 412 (.int 24 411),aM P "MOST_PAIRS" 414 (.int 6 413),aM P "is_word" 422 (.ref 181),aM P "is_tuple_of" 430 (.ref 188),aM P "is_list_of" 439 (.ref 195),aM P "is_step" 449 (.ref 202),aM P "is_rule" 459 (.ref 209),aM P "is_pair" 468 (.ref 216),aM P "are_pairs" 474 (.ref 221),aM P "is_turns" 480 (.ref 226),aM P "is_ends" 488 (.ref 233),aM P "are_kinds" 494 (.ref 238),aM P "are_rules" 500 (.ref 243),aM P "Game" 555 (.ref 272),aM P "LONGEST" 559 (.int 8 558),aM P "are_holes" 565 (.ref 281),aM P "Board" 627 (.ref 322),aM P "_law_at" 638 (.ref 333),aM P "_law_whole" 645 (.ref 340),aM P "_law_word" 655 (.ref 347),aM P "_law_side" 662 (.ref 354),aM P "_law_holes" 675 (.ref 361),aM P "_law_kinds" 681 (.ref 366),aM P "_law_rule" 694 (.ref 373),aM P "_law_rules" 700 (.ref 378),aM P "_law_turns" 706 (.ref 383),aM P "_law_ends" 719 (.ref 390),aM P "_law_bent" 725 (.ref 395),aM P "_law_said" 735 (.ref 402),aM P "_law_turned" 741 (.ref 407),aM P "_law_lists" 749 (.ref 414),aM P "_law_right" 755 (.ref 419),aM P "_law_parts" 766 (.ref 426),aM P "law" 772 (.ref 431)] 62),#[]⟩
def IN:Obj:=bb #[] 0
def IM:Obj:=du #[(aT 1),cm,(.ref 20),(aT 5),cm,(.ref 27),(aT 7),cm,(.ref 40),(aT 9),cm,(.ref 52),(aT 11),cm,(.ref 64),(aT 16),cm,(.ref 83),(aT 18),cm,(.ref 95),(aT 20),cm,(.ref 107),(aT 22),cm,(.ref 119),(aT 24),cm,(.ref 131),(aT 26),cm,(.ref 143),(aT 29),cm,(.ref 155),(aT 31),cm,(.ref 162),(aT 33),cm,(.ref 169),(aT 43),cm,(.ref 180),(aT 45),cm,(.ref 187),(aT 47),cm,(.ref 194),(aT 49),cm,(.ref 201),(aT 54),cm,(.ref 208),(aT 64),cm,(.ref 215),(aT 66),cm,(.ref 220),(aT 68),cm,(.ref 225),(aT 75),cm,(.ref 232),(aT 77),cm,(.ref 237),(aT 81),cm,(.ref 242),(aT 84),cm,(.ref 249),(aT 111),cm,(.ref 280),(aT 117),cm,(.ref 287),(aT 141),cm,(.ref 332),(aT 146),cm,(.ref 339),(aT 148),cm,(.ref 346),(aT 159),cm,(.ref 353),(aT 163),cm,(.ref 360),(aT 175),cm,(.ref 365),(aT 181),cm,(.ref 372),(aT 194),cm,(.ref 377),(aT 200),cm,(.ref 382),(aT 207),cm,(.ref 389),(aT 214),cm,(.ref 394),(aT 232),cm,(.ref 401),(aT 238),cm,(.ref 406),(aT 241),cm,(.ref 413),(aT 243),cm,(.ref 418),(aT 260),cm,(.ref 425),(aT 265),cm,(.ref 430)]
def IL:Obj:=rk "<module>" "<module>" 182 183 184 1 0 0 0 11 false 181 12 185 1 186
def IK:Obj:=⟨(.type "frame"),none,.plain,#[(some (.ref 13)),(some (.ref 3)),(some (.ref 3)),none,(some (.str "__main__" 164)),none,(some (.ref 0))]⟩
def Fp:Obj:=bb #[] 0
def IJ:Obj:=du #[]
def Fh:Obj:=bb #[(.str "k" 190)] 0
def Fe:Obj:=bb #[] 0
def II:Obj:=fo "_wall" "_wall" qw
def E8:Obj:=iF "_wall" "_wall" 187 188 189 1 1 0 3 15 true 181 16 17 18 19 191 1 192
def E4:Obj:=fu "_wall" "_wall" qw "__main__" 164 20
def EY:Obj:=bb #[(.type "ValueError")] 0
def IH:Obj:=⟨(.type "builtin_function_or_method"),none,(.fields #[(.builtin "type.__prepare__"),(.type "type")]),#[]⟩
def IG:Obj:=⟨(.type "dict"),none,(.dict #[aM P "__module__" 203 (.str "playboard.errors" 194),aM P "__qualname__" 205 (.str "PlayError" 204),aM P "__firstlineno__" 207 (.int 5 206),aM P "__static_attributes__" 208 (.ref 29)] 4),#[]⟩
def IF:Obj:=bb #[] 0
def IE:Obj:=du #[]
def ID:Obj:=rk "PlayError" "PlayError" 198 199 200 5 0 0 0 25 false 181 26 201 5 202
def IC:Obj:=⟨(.type "frame"),none,.plain,#[(some (.ref 27)),(some (.ref 3)),(some (.ref 24)),none,(some (.str "playboard.errors" 194)),none,(some (.ref 0))]⟩
def Eo:Obj:=bb #[] 0
def Ei:Obj:=⟨(.type "dict"),none,(.dict #[aM P "__module__" 203 (.str "playboard.errors" 194),aM P "__firstlineno__" 207 (.int 5 206),aM P "__static_attributes__" 208 (.ref 29),aM P "__weakref__" 210 (.ref 32),aM P "__doc__" 211 .none] 3),#[]⟩
def Ee:Obj:=⟨(.type "type"),none,(.cls ⟨"PlayError",[(.type "ValueError")],[(.ref 31),(.type "ValueError"),(.type "Exception"),(.type "BaseException"),(.type "object")],30,"PlayError",true,[],[(.ref 44),(.ref 56),(.ref 75),(.ref 87),(.ref 99),(.ref 111),(.ref 123),(.ref 135),(.ref 147)],false,none,false⟩),#[(some (.ref 22)),none,(some (.str "PlayError" 196)),(some (.str "PlayError" 204)),(some (.builtin "ValueError.__new__")),(some (.bool true))]⟩
def Ea:Obj:=⟨(.type "getset_descriptor"),none,(.fields #[(.str "__weakref__" 209),(.ref 31),(.builtin "ExceptionGroup.__weakref__"),.none]),#[]⟩
def IB:Obj:=⟨(.type "super"),none,(.fields #[(.ref 31),(.ref 31),(.ref 31)]),#[]⟩
def IA:Obj:=⟨(.type "builtin_function_or_method"),none,(.fields #[(.builtin "object.__init_subclass__"),(.ref 31)]),#[]⟩
def DV:Obj:=bb #[(.ref 31)] 0
def Iz:Obj:=⟨(.type "builtin_function_or_method"),none,(.fields #[(.builtin "type.__prepare__"),(.type "type")]),#[]⟩
def Iy:Obj:=⟨(.type "dict"),none,(.dict #[aM P "__module__" 221 (.str "playboard.errors" 194),aM P "__qualname__" 223 (.str "BadBoard" 222),aM P "__firstlineno__" 225 (.int 7 224),aM P "__static_attributes__" 226 (.ref 42)] 4),#[]⟩
def Ix:Obj:=bb #[] 0
def Iw:Obj:=du #[]
def Iv:Obj:=rk "BadBoard" "BadBoard" 216 217 218 7 0 0 0 38 false 181 39 219 7 220
def Iu:Obj:=⟨(.type "frame"),none,.plain,#[(some (.ref 40)),(some (.ref 3)),(some (.ref 37)),none,(some (.str "playboard.errors" 194)),none,(some (.ref 0))]⟩
def Dw:Obj:=bb #[] 0
def Dr:Obj:=⟨(.type "dict"),none,(.dict #[aM P "__module__" 221 (.str "playboard.errors" 194),aM P "__firstlineno__" 225 (.int 7 224),aM P "__static_attributes__" 226 (.ref 42),aM P "__doc__" 227 .none] 2),#[]⟩
def Dq:Obj:=⟨(.type "type"),none,(.cls ⟨"BadBoard",[(.ref 31)],[(.ref 44),(.ref 31),(.type "ValueError"),(.type "Exception"),(.type "BaseException"),(.type "object")],43,"BadBoard",true,[],[],false,none,false⟩),#[(some (.ref 35)),none,(some (.str "BadBoard" 214)),(some (.str "BadBoard" 222)),(some (.builtin "ValueError.__new__")),(some (.bool true))]⟩
def Ir:Obj:=⟨(.type "super"),none,(.fields #[(.ref 44),(.ref 44),(.ref 44)]),#[]⟩
def Iq:Obj:=⟨(.type "builtin_function_or_method"),none,(.fields #[(.builtin "object.__init_subclass__"),(.ref 44)]),#[]⟩
def Dp:Obj:=bb #[(.ref 31)] 0
def Ip:Obj:=⟨(.type "builtin_function_or_method"),none,(.fields #[(.builtin "type.__prepare__"),(.type "type")]),#[]⟩
def Io:Obj:=⟨(.type "dict"),none,(.dict #[aM P "__module__" 237 (.str "playboard.errors" 194),aM P "__qualname__" 239 (.str "BadGame" 238),aM P "__firstlineno__" 241 (.int 9 240),aM P "__static_attributes__" 242 (.ref 54)] 4),#[]⟩
def Im:Obj:=bb #[] 0
def Il:Obj:=du #[]
def Ik:Obj:=rk "BadGame" "BadGame" 232 233 234 9 0 0 0 50 false 181 51 235 9 236
def Ij:Obj:=⟨(.type "frame"),none,.plain,#[(some (.ref 52)),(some (.ref 3)),(some (.ref 49)),none,(some (.str "playboard.errors" 194)),none,(some (.ref 0))]⟩
def Do:Obj:=bb #[] 0
def Dn:Obj:=⟨(.type "dict"),none,(.dict #[aM P "__module__" 237 (.str "playboard.errors" 194),aM P "__firstlineno__" 241 (.int 9 240),aM P "__static_attributes__" 242 (.ref 54),aM P "__doc__" 243 .none] 2),#[]⟩
def Dm:Obj:=⟨(.type "type"),none,(.cls ⟨"BadGame",[(.ref 31)],[(.ref 56),(.ref 31),(.type "ValueError"),(.type "Exception"),(.type "BaseException"),(.type "object")],55,"BadGame",true,[],[],false,none,false⟩),#[(some (.ref 47)),none,(some (.str "BadGame" 230)),(some (.str "BadGame" 238)),(some (.builtin "ValueError.__new__")),(some (.bool true))]⟩
def Ii:Obj:=⟨(.type "super"),none,(.fields #[(.ref 56),(.ref 56),(.ref 56)]),#[]⟩
def Ih:Obj:=⟨(.type "builtin_function_or_method"),none,(.fields #[(.builtin "object.__init_subclass__"),(.ref 56)]),#[]⟩
def Dl:Obj:=bb #[(.ref 31)] 0
def Ig:Obj:=⟨(.type "builtin_function_or_method"),none,(.fields #[(.builtin "type.__prepare__"),(.type "type")]),#[]⟩
def Ie:Obj:=⟨(.type "dict"),none,(.dict #[aM P "__module__" 253 (.str "playboard.errors" 194),aM P "__qualname__" 255 (.str "BadLine" 254),aM P "__firstlineno__" 257 (.int 11 256),aM P "__init__" 265 (.ref 72),aM P "__static_attributes__" 267 (.ref 73)] 5),#[]⟩
def Ic:Obj:=bb #[] 0
def Ib:Obj:=du #[(aT 13),(aT 4),(.ref 71)]
def Ia:Obj:=rk "BadLine" "BadLine" 248 249 250 11 0 0 0 62 false 181 63 251 11 252
def HZ:Obj:=⟨(.type "frame"),none,.plain,#[(some (.ref 64)),(some (.ref 3)),(some (.ref 61)),none,(some (.str "playboard.errors" 194)),none,(some (.ref 0))]⟩
def Dk:Obj:=bb #[] 0
def HY:Obj:=du #[]
def Dj:Obj:=bb #[(.str "self" 261),(.str "at" 262)] 0
def Di:Obj:=bb #[] 0
def HX:Obj:=fo "__init__" "BadLine.__init__" eI
def Dh:Obj:=iF "__init__" "BadLine.__init__" 258 259 260 13 2 0 3 66 true 181 67 68 69 70 263 13 264
def Dg:Obj:=fu "__init__" "BadLine.__init__" eI "playboard.errors" 194 71
def Df:Obj:=bb #[(.str "at" 266)] 0
def De:Obj:=⟨(.type "dict"),none,(.dict #[aM P "__module__" 253 (.str "playboard.errors" 194),aM P "__firstlineno__" 257 (.int 11 256),aM P "__init__" 265 (.ref 72),aM P "__static_attributes__" 267 (.ref 73),aM P "__doc__" 268 .none] 2),#[]⟩
def Dd:Obj:=⟨(.type "type"),none,(.cls ⟨"BadLine",[(.ref 31)],[(.ref 75),(.ref 31),(.type "ValueError"),(.type "Exception"),(.type "BaseException"),(.type "object")],74,"BadLine",true,[],[],false,none,false⟩),#[(some (.ref 59)),none,(some (.str "BadLine" 246)),(some (.str "BadLine" 254)),(some (.builtin "ValueError.__new__")),(some (.bool true))]⟩
def HW:Obj:=⟨(.type "super"),none,(.fields #[(.ref 75),(.ref 75),(.ref 75)]),#[]⟩
def HV:Obj:=⟨(.type "builtin_function_or_method"),none,(.fields #[(.builtin "object.__init_subclass__"),(.ref 75)]),#[]⟩
def Dc:Obj:=bb #[(.ref 31)] 0
def HU:Obj:=⟨(.type "builtin_function_or_method"),none,(.fields #[(.builtin "type.__prepare__"),(.type "type")]),#[]⟩
def HS:Obj:=⟨(.type "dict"),none,(.dict #[aM P "__module__" 278 (.str "playboard.errors" 194),aM P "__qualname__" 280 (.str "BadPlace" 279),aM P "__firstlineno__" 282 (.int 16 281),aM P "__static_attributes__" 283 (.ref 85)] 4),#[]⟩
def HR:Obj:=bb #[] 0
def HQ:Obj:=du #[]
def HP:Obj:=rk "BadPlace" "BadPlace" 273 274 275 16 0 0 0 81 false 181 82 276 16 277
def HN:Obj:=⟨(.type "frame"),none,.plain,#[(some (.ref 83)),(some (.ref 3)),(some (.ref 80)),none,(some (.str "playboard.errors" 194)),none,(some (.ref 0))]⟩
def Db:Obj:=bb #[] 0
def Da:Obj:=⟨(.type "dict"),none,(.dict #[aM P "__module__" 278 (.str "playboard.errors" 194),aM P "__firstlineno__" 282 (.int 16 281),aM P "__static_attributes__" 283 (.ref 85),aM P "__doc__" 284 .none] 2),#[]⟩
def C9:Obj:=⟨(.type "type"),none,(.cls ⟨"BadPlace",[(.ref 31)],[(.ref 87),(.ref 31),(.type "ValueError"),(.type "Exception"),(.type "BaseException"),(.type "object")],86,"BadPlace",true,[],[],false,none,false⟩),#[(some (.ref 78)),none,(some (.str "BadPlace" 271)),(some (.str "BadPlace" 279)),(some (.builtin "ValueError.__new__")),(some (.bool true))]⟩
def HM:Obj:=⟨(.type "super"),none,(.fields #[(.ref 87),(.ref 87),(.ref 87)]),#[]⟩
def HL:Obj:=⟨(.type "builtin_function_or_method"),none,(.fields #[(.builtin "object.__init_subclass__"),(.ref 87)]),#[]⟩
def C8:Obj:=bb #[(.ref 31)] 0
def HK:Obj:=⟨(.type "builtin_function_or_method"),none,(.fields #[(.builtin "type.__prepare__"),(.type "type")]),#[]⟩
def HJ:Obj:=⟨(.type "dict"),none,(.dict #[aM P "__module__" 294 (.str "playboard.errors" 194),aM P "__qualname__" 296 (.str "NoMove" 295),aM P "__firstlineno__" 298 (.int 18 297),aM P "__static_attributes__" 299 (.ref 97)] 4),#[]⟩
def HI:Obj:=bb #[] 0
def HH:Obj:=du #[]
def HG:Obj:=rk "NoMove" "NoMove" 289 290 291 18 0 0 0 93 false 181 94 292 18 293
def HF:Obj:=⟨(.type "frame"),none,.plain,#[(some (.ref 95)),(some (.ref 3)),(some (.ref 92)),none,(some (.str "playboard.errors" 194)),none,(some (.ref 0))]⟩
def C7:Obj:=bb #[] 0
def C6:Obj:=⟨(.type "dict"),none,(.dict #[aM P "__module__" 294 (.str "playboard.errors" 194),aM P "__firstlineno__" 298 (.int 18 297),aM P "__static_attributes__" 299 (.ref 97),aM P "__doc__" 300 .none] 2),#[]⟩
def C5:Obj:=⟨(.type "type"),none,(.cls ⟨"NoMove",[(.ref 31)],[(.ref 99),(.ref 31),(.type "ValueError"),(.type "Exception"),(.type "BaseException"),(.type "object")],98,"NoMove",true,[],[],false,none,false⟩),#[(some (.ref 90)),none,(some (.str "NoMove" 287)),(some (.str "NoMove" 295)),(some (.builtin "ValueError.__new__")),(some (.bool true))]⟩
def FZ:Obj:=⟨(.type "super"),none,(.fields #[(.ref 99),(.ref 99),(.ref 99)]),#[]⟩
def FY:Obj:=⟨(.type "builtin_function_or_method"),none,(.fields #[(.builtin "object.__init_subclass__"),(.ref 99)]),#[]⟩
def AU:Obj:=bb #[(.ref 31)] 0
def FX:Obj:=⟨(.type "builtin_function_or_method"),none,(.fields #[(.builtin "type.__prepare__"),(.type "type")]),#[]⟩
def FW:Obj:=⟨(.type "dict"),none,(.dict #[aM P "__module__" 310 (.str "playboard.errors" 194),aM P "__qualname__" 312 (.str "TooWide" 311),aM P "__firstlineno__" 314 (.int 20 313),aM P "__static_attributes__" 315 (.ref 109)] 4),#[]⟩
def FV:Obj:=bb #[] 0
def FU:Obj:=du #[]
def FT:Obj:=rk "TooWide" "TooWide" 305 306 307 20 0 0 0 105 false 181 106 308 20 309
def FS:Obj:=⟨(.type "frame"),none,.plain,#[(some (.ref 107)),(some (.ref 3)),(some (.ref 104)),none,(some (.str "playboard.errors" 194)),none,(some (.ref 0))]⟩
def AT:Obj:=bb #[] 0
def AS:Obj:=⟨(.type "dict"),none,(.dict #[aM P "__module__" 310 (.str "playboard.errors" 194),aM P "__firstlineno__" 314 (.int 20 313),aM P "__static_attributes__" 315 (.ref 109),aM P "__doc__" 316 .none] 2),#[]⟩
def AR:Obj:=⟨(.type "type"),none,(.cls ⟨"TooWide",[(.ref 31)],[(.ref 111),(.ref 31),(.type "ValueError"),(.type "Exception"),(.type "BaseException"),(.type "object")],110,"TooWide",true,[],[],false,none,false⟩),#[(some (.ref 102)),none,(some (.str "TooWide" 303)),(some (.str "TooWide" 311)),(some (.builtin "ValueError.__new__")),(some (.bool true))]⟩
def FR:Obj:=⟨(.type "super"),none,(.fields #[(.ref 111),(.ref 111),(.ref 111)]),#[]⟩
def FQ:Obj:=⟨(.type "builtin_function_or_method"),none,(.fields #[(.builtin "object.__init_subclass__"),(.ref 111)]),#[]⟩
def AQ:Obj:=bb #[(.ref 31)] 0
def FP:Obj:=⟨(.type "builtin_function_or_method"),none,(.fields #[(.builtin "type.__prepare__"),(.type "type")]),#[]⟩
def FO:Obj:=⟨(.type "dict"),none,(.dict #[aM P "__module__" 326 (.str "playboard.errors" 194),aM P "__qualname__" 328 (.str "NoWord" 327),aM P "__firstlineno__" 330 (.int 22 329),aM P "__static_attributes__" 331 (.ref 121)] 4),#[]⟩
def FN:Obj:=bb #[] 0
def FM:Obj:=du #[]
def FL:Obj:=rk "NoWord" "NoWord" 321 322 323 22 0 0 0 117 false 181 118 324 22 325
def FK:Obj:=⟨(.type "frame"),none,.plain,#[(some (.ref 119)),(some (.ref 3)),(some (.ref 116)),none,(some (.str "playboard.errors" 194)),none,(some (.ref 0))]⟩
def AO:Obj:=bb #[] 0
def AN:Obj:=⟨(.type "dict"),none,(.dict #[aM P "__module__" 326 (.str "playboard.errors" 194),aM P "__firstlineno__" 330 (.int 22 329),aM P "__static_attributes__" 331 (.ref 121),aM P "__doc__" 332 .none] 2),#[]⟩
def AM:Obj:=⟨(.type "type"),none,(.cls ⟨"NoWord",[(.ref 31)],[(.ref 123),(.ref 31),(.type "ValueError"),(.type "Exception"),(.type "BaseException"),(.type "object")],122,"NoWord",true,[],[],false,none,false⟩),#[(some (.ref 114)),none,(some (.str "NoWord" 319)),(some (.str "NoWord" 327)),(some (.builtin "ValueError.__new__")),(some (.bool true))]⟩
def FJ:Obj:=⟨(.type "super"),none,(.fields #[(.ref 123),(.ref 123),(.ref 123)]),#[]⟩
def FI:Obj:=⟨(.type "builtin_function_or_method"),none,(.fields #[(.builtin "object.__init_subclass__"),(.ref 123)]),#[]⟩
def AK:Obj:=bb #[(.ref 31)] 0
def FH:Obj:=⟨(.type "builtin_function_or_method"),none,(.fields #[(.builtin "type.__prepare__"),(.type "type")]),#[]⟩
def FG:Obj:=⟨(.type "dict"),none,(.dict #[aM P "__module__" 342 (.str "playboard.errors" 194),aM P "__qualname__" 344 (.str "Over" 343),aM P "__firstlineno__" 346 (.int 24 345),aM P "__static_attributes__" 347 (.ref 133)] 4),#[]⟩
def FF:Obj:=bb #[] 0
def FE:Obj:=du #[]
def FD:Obj:=rk "Over" "Over" 337 338 339 24 0 0 0 129 false 181 130 340 24 341
def FC:Obj:=⟨(.type "frame"),none,.plain,#[(some (.ref 131)),(some (.ref 3)),(some (.ref 128)),none,(some (.str "playboard.errors" 194)),none,(some (.ref 0))]⟩
def AJ:Obj:=bb #[] 0
def AI:Obj:=⟨(.type "dict"),none,(.dict #[aM P "__module__" 342 (.str "playboard.errors" 194),aM P "__firstlineno__" 346 (.int 24 345),aM P "__static_attributes__" 347 (.ref 133),aM P "__doc__" 348 .none] 2),#[]⟩
def AH:Obj:=⟨(.type "type"),none,(.cls ⟨"Over",[(.ref 31)],[(.ref 135),(.ref 31),(.type "ValueError"),(.type "Exception"),(.type "BaseException"),(.type "object")],134,"Over",true,[],[],false,none,false⟩),#[(some (.ref 126)),none,(some (.str "Over" 335)),(some (.str "Over" 343)),(some (.builtin "ValueError.__new__")),(some (.bool true))]⟩
def FA:Obj:=⟨(.type "super"),none,(.fields #[(.ref 135),(.ref 135),(.ref 135)]),#[]⟩
def Fz:Obj:=⟨(.type "builtin_function_or_method"),none,(.fields #[(.builtin "object.__init_subclass__"),(.ref 135)]),#[]⟩
def AG:Obj:=bb #[(.ref 31)] 0
def Fy:Obj:=⟨(.type "builtin_function_or_method"),none,(.fields #[(.builtin "type.__prepare__"),(.type "type")]),#[]⟩
def Fx:Obj:=⟨(.type "dict"),none,(.dict #[aM P "__module__" 358 (.str "playboard.errors" 194),aM P "__qualname__" 360 (.str "NothingBack" 359),aM P "__firstlineno__" 362 (.int 26 361),aM P "__static_attributes__" 363 (.ref 145)] 4),#[]⟩
def Fw:Obj:=bb #[] 0
def Fv:Obj:=du #[]
def Fu:Obj:=rk "NothingBack" "NothingBack" 353 354 355 26 0 0 0 141 false 181 142 356 26 357
def Ft:Obj:=⟨(.type "frame"),none,.plain,#[(some (.ref 143)),(some (.ref 3)),(some (.ref 140)),none,(some (.str "playboard.errors" 194)),none,(some (.ref 0))]⟩
def AF:Obj:=bb #[] 0
def AE:Obj:=⟨(.type "dict"),none,(.dict #[aM P "__module__" 358 (.str "playboard.errors" 194),aM P "__firstlineno__" 362 (.int 26 361),aM P "__static_attributes__" 363 (.ref 145),aM P "__doc__" 364 .none] 2),#[]⟩
def AD:Obj:=⟨(.type "type"),none,(.cls ⟨"NothingBack",[(.ref 31)],[(.ref 147),(.ref 31),(.type "ValueError"),(.type "Exception"),(.type "BaseException"),(.type "object")],146,"NothingBack",true,[],[],false,none,false⟩),#[(some (.ref 138)),none,(some (.str "NothingBack" 351)),(some (.str "NothingBack" 359)),(some (.builtin "ValueError.__new__")),(some (.bool true))]⟩
def Fs:Obj:=⟨(.type "super"),none,(.fields #[(.ref 147),(.ref 147),(.ref 147)]),#[]⟩
def Fq:Obj:=⟨(.type "builtin_function_or_method"),none,(.fields #[(.builtin "object.__init_subclass__"),(.ref 147)]),#[]⟩
def AC:Obj:=bb #[] 0
def Fo:Obj:=du #[]
def AB:Obj:=bb #[(.str "thing" 372)] 0
def AA:Obj:=bb #[] 0
def Fn:Obj:=fo "is_whole" "is_whole" eG
def Az:Obj:=iF "is_whole" "is_whole" 369 370 371 29 1 0 3 150 true 181 151 152 153 154 373 29 374
def Ay:Obj:=fu "is_whole" "is_whole" eG "playboard.words" 367 155
def Ax:Obj:=bb #[] 0
def Fm:Obj:=du #[]
def Aw:Obj:=bb #[(.str "thing" 379)] 0
def Au:Obj:=bb #[] 0
def Fk:Obj:=fo "is_letter" "is_letter" dL
def At:Obj:=iF "is_letter" "is_letter" 376 377 378 31 1 0 3 157 true 181 158 159 160 161 380 31 381
def As:Obj:=fu "is_letter" "is_letter" dL "playboard.words" 367 162
def Ar:Obj:=bb #[] 0
def Fj:Obj:=du #[]
def Aq:Obj:=bb #[(.str "thing" 386),(.str "least" 387),(.str "most" 388)] 0
def Ap:Obj:=bb #[] 0
def Fi:Obj:=fo "is_among" "is_among" eH
def Ao:Obj:=iF "is_among" "is_among" 383 384 385 33 3 0 3 164 true 181 165 166 167 168 389 33 390
def An:Obj:=fu "is_among" "is_among" eH "playboard.words" 367 169
def Am:Obj:=bb #[(.str "leap" 394),(.str "slide" 395),(.str "jump" 396)] 0
def Al:Obj:=bb #[(.str "go" 398),(.str "hit" 399),(.str "any" 400)] 0
def Ak:Obj:=bb #[(.str "without" 402),(.str "home" 403)] 0
def Aj:Obj:=bb #[(.str "lost" 405),(.str "even" 406),(.str "won" 407)] 0
def Ai:Obj:=bb #[] 0
def Fg:Obj:=du #[]
def Ah:Obj:=bb #[(.str "thing" 418),(.str "words" 419)] 0
def Ag:Obj:=bb #[] 0
def Ff:Obj:=fo "is_word" "is_word" fC
def Af:Obj:=iF "is_word" "is_word" 415 416 417 43 2 0 3 175 true 181 176 177 178 179 420 43 421
def Ae:Obj:=fu "is_word" "is_word" fC "playboard.rules" 392 180
def Ad:Obj:=bb #[] 0
def Fd:Obj:=du #[]
def Ac:Obj:=bb #[(.str "thing" 426),(.str "many" 427)] 0
def Ab:Obj:=bb #[] 0
def Fc:Obj:=fo "is_tuple_of" "is_tuple_of" cL
def Aa:Obj:=iF "is_tuple_of" "is_tuple_of" 423 424 425 45 2 0 3 182 true 181 183 184 185 186 428 45 429
def zZ:Obj:=fu "is_tuple_of" "is_tuple_of" cL "playboard.rules" 392 187
def zY:Obj:=bb #[] 0
def Fb:Obj:=du #[]
def zX:Obj:=bb #[(.str "thing" 434),(.str "least" 435),(.str "most" 436)] 0
def zW:Obj:=bb #[] 0
def Fa:Obj:=fo "is_list_of" "is_list_of" di
def zV:Obj:=iF "is_list_of" "is_list_of" 431 432 433 47 3 0 3 189 true 181 190 191 192 193 437 47 438
def zU:Obj:=fu "is_list_of" "is_list_of" di "playboard.rules" 392 194
def zT:Obj:=bb #[] 0
def E9:Obj:=du #[]
def zS:Obj:=bb #[(.str "sort" 443),(.str "across" 444),(.str "up" 445),(.str "longest" 446)] 0
def zR:Obj:=bb #[] 0
def E7:Obj:=fo "is_step" "is_step" fE
def zQ:Obj:=iF "is_step" "is_step" 440 441 442 49 3 0 3 196 true 181 197 198 199 200 447 49 448
def zP:Obj:=fu "is_step" "is_step" fE "playboard.rules" 392 201
def zO:Obj:=bb #[] 0
def E6:Obj:=du #[]
def zN:Obj:=bb #[(.str "thing" 453),(.str "kinds" 454),(.str "sort" 455),(.str "aim" 456)] 0
def zM:Obj:=bb #[] 0
def E5:Obj:=fo "is_rule" "is_rule" fF
def zL:Obj:=iF "is_rule" "is_rule" 450 451 452 54 2 0 3 203 true 181 204 205 206 207 457 54 458
def zK:Obj:=fu "is_rule" "is_rule" fF "playboard.rules" 392 208
def zJ:Obj:=bb #[] 0
def E3:Obj:=du #[]
def zI:Obj:=bb #[(.str "thing" 463),(.str "firsts" 464),(.str "seconds" 465)] 0
def zH:Obj:=bb #[] 0
def E2:Obj:=fo "is_pair" "is_pair" fG
def zG:Obj:=iF "is_pair" "is_pair" 460 461 462 64 3 0 3 210 true 181 211 212 213 214 466 64 467
def zF:Obj:=fu "is_pair" "is_pair" fG "playboard.rules" 392 215
def zE:Obj:=bb #[] 0
def E1:Obj:=du #[]
def EZ:Obj:=fo "are_pairs" "are_pairs" cX
def zD:Obj:=oM #[(.str "are_pairs" 469),(.str "are_pairs" 470),(gW 471),(aT 66),(aT 3),cm,cm,(aT 3),(.ref 217),(.bool true),(aT 181),(.ref 218),.none,.none,.none,(.ref 219),(aT 472),(aT 66),(gW 473)]
def zC:Obj:=fu "are_pairs" "are_pairs" cX "playboard.rules" 392 220
def zB:Obj:=bb #[] 0
def EX:Obj:=du #[]
def EW:Obj:=fo "is_turns" "is_turns" cS
def zA:Obj:=oM #[(.str "is_turns" 475),(.str "is_turns" 476),(gW 477),(aT 68),(aT 2),cm,cm,(aT 3),(.ref 222),(.bool true),(aT 181),(.ref 223),.none,.none,.none,(.ref 224),(aT 478),(aT 68),(gW 479)]
def zz:Obj:=fu "is_turns" "is_turns" cS "playboard.rules" 392 225
def zy:Obj:=bb #[] 0
def EV:Obj:=du #[]
def zx:Obj:=bb #[(.str "thing" 484),(.str "kinds" 485)] 0
def zw:Obj:=bb #[] 0
def EU:Obj:=fo "is_ends" "is_ends" fH
def zv:Obj:=iF "is_ends" "is_ends" 481 482 483 75 2 0 3 227 true 181 228 229 230 231 486 75 487
def zu:Obj:=fu "is_ends" "is_ends" fH "playboard.rules" 392 232
def zt:Obj:=bb #[] 0
def ET:Obj:=du #[]
def ES:Obj:=fo "are_kinds" "are_kinds" cY
def zr:Obj:=oM #[(.str "are_kinds" 489),(.str "are_kinds" 490),(gW 491),(aT 77),(aT 1),cm,cm,(aT 3),(.ref 234),(.bool true),(aT 181),(.ref 235),.none,.none,.none,(.ref 236),(aT 492),(aT 77),(gW 493)]
def zq:Obj:=fu "are_kinds" "are_kinds" cY "playboard.rules" 392 237
def zp:Obj:=bb #[] 0
def ER:Obj:=du #[]
def EQ:Obj:=fo "are_rules" "are_rules" cW
def zo:Obj:=oM #[(.str "are_rules" 495),(.str "are_rules" 496),(gW 497),(aT 81),(aT 2),cm,cm,(aT 3),(.ref 239),(.bool true),(aT 181),(.ref 240),.none,.none,.none,(.ref 241),(aT 498),(aT 81),(gW 499)]
def zn:Obj:=fu "are_rules" "are_rules" cW "playboard.rules" 392 242
def EO:Obj:=bb #[] 0
def EN:Obj:=⟨(.type "builtin_function_or_method"),none,(.fields #[(.builtin "type.__prepare__"),(.type "type")]),#[]⟩
def EM:Obj:=⟨(.type "dict"),none,(.dict #[aM P "__module__" 510 (.str "playboard.games" 501),aM P "__qualname__" 512 (.str "Game" 511),aM P "__firstlineno__" 514 (.int 84 513),aM P "__init__" 527 (.ref 257),aM P "rules_of" 533 (.ref 262),aM P "turned" 541 (.ref 269),aM P "__static_attributes__" 548 (.ref 270)] 7),#[]⟩
def EL:Obj:=bb #[] 0
def EK:Obj:=du #[(aT 86),(aT 4),(.ref 256),(aT 104),(aT 4),(.ref 261),(aT 107),(aT 4),(.ref 268)]
def EJ:Obj:=rk "Game" "Game" 505 506 507 84 0 0 0 247 false 181 248 508 84 509
def EI:Obj:=⟨(.type "frame"),none,.plain,#[(some (.ref 249)),(some (.ref 3)),(some (.ref 246)),none,(some (.str "playboard.games" 501)),none,(some (.ref 0))]⟩
def zm:Obj:=bb #[] 0
def EH:Obj:=du #[]
def zk:Obj:=bb #[(.str "self" 518),(.str "board" 519),(.str "kinds" 520),(.str "rules" 521),(.str "turns" 522),(.str "ends" 523),(.str "stuck" 524)] 0
def zj:Obj:=bb #[] 0
def EG:Obj:=fo "__init__" "Game.__init__" bM
def zi:Obj:=iF "__init__" "Game.__init__" 515 516 517 86 7 0 3 251 true 181 252 253 254 255 525 86 526
def zh:Obj:=fu "__init__" "Game.__init__" bM "playboard.games" 501 256
def zg:Obj:=bb #[] 0
def EF:Obj:=du #[]
def EE:Obj:=fo "rules_of" "Game.rules_of" bL
def zf:Obj:=oM #[(.str "rules_of" 528),(.str "Game.rules_of" 529),(gW 530),(aT 104),(aT 2),cm,cm,(aT 3),(.ref 258),(.bool true),(aT 181),(.ref 259),.none,.none,.none,(.ref 260),(aT 531),(aT 104),(gW 532)]
def ze:Obj:=fu "rules_of" "Game.rules_of" bL "playboard.games" 501 261
def zd:Obj:=bb #[] 0
def ED:Obj:=du #[]
def zc:Obj:=bb #[(.str "self" 537),(.str "kind" 538)] 0
def zb:Obj:=bb #[] 0
def EC:Obj:=fo "turned" "Game.turned" cM
def za:Obj:=iF "turned" "Game.turned" 534 535 536 107 2 0 3 263 true 181 264 265 266 267 539 107 540
def y9:Obj:=fu "turned" "Game.turned" cM "playboard.games" 501 268
def y8:Obj:=bb #[(.str "board" 542),(.str "ends" 543),(.str "kinds" 544),(.str "rules" 545),(.str "stuck" 546),(.str "turns" 547)] 0
def y7:Obj:=⟨(.type "dict"),none,(.dict #[aM P "__module__" 510 (.str "playboard.games" 501),aM P "__firstlineno__" 514 (.int 84 513),aM P "__init__" 527 (.ref 257),aM P "rules_of" 533 (.ref 262),aM P "turned" 541 (.ref 269),aM P "__static_attributes__" 548 (.ref 270),aM P "__dict__" 550 (.ref 273),aM P "__weakref__" 552 (.ref 274),aM P "__doc__" 553 .none] 4),#[]⟩
def y6:Obj:=⟨(.type "type"),none,(.cls ⟨"Game",[(.type "object")],[(.ref 272),(.type "object")],271,"Game",true,[],[],false,none,false⟩),#[none,none,(some (.str "Game" 503)),(some (.str "Game" 511)),(some (.builtin "object.__new__")),(some (.bool true))]⟩
def y4:Obj:=⟨(.type "getset_descriptor"),none,(.fields #[(.str "__dict__" 549),(.ref 272),(.builtin "function.__dict__"),(.builtin "function.__dict__#set")]),#[]⟩
def y3:Obj:=⟨(.type "getset_descriptor"),none,(.fields #[(.str "__weakref__" 551),(.ref 272),(.builtin "ExceptionGroup.__weakref__"),.none]),#[]⟩
def EB:Obj:=⟨(.type "super"),none,(.fields #[(.ref 272),(.ref 272),(.ref 272)]),#[]⟩
def EA:Obj:=⟨(.type "builtin_function_or_method"),none,(.fields #[(.builtin "object.__init_subclass__"),(.ref 272)]),#[]⟩
def y0:Obj:=bb #[] 0
def Ez:Obj:=du #[]
def Ey:Obj:=fo "are_holes" "are_holes" cZ
def yZ:Obj:=oM #[(.str "are_holes" 560),(.str "are_holes" 561),(gW 562),(aT 111),(aT 2),cm,cm,(aT 3),(.ref 277),(.bool true),(aT 181),(.ref 278),.none,.none,.none,(.ref 279),(aT 563),(aT 111),(gW 564)]
def yY:Obj:=fu "are_holes" "are_holes" cZ "playboard.boards" 556 280
def Ex:Obj:=bb #[] 0
def Ew:Obj:=⟨(.type "builtin_function_or_method"),none,(.fields #[(.builtin "type.__prepare__"),(.type "type")]),#[]⟩
def Eu:Obj:=⟨(.type "dict"),none,(.dict #[aM P "__module__" 573 (.str "playboard.boards" 556),aM P "__qualname__" 575 (.str "Board" 574),aM P "__firstlineno__" 577 (.int 117 576),aM P "__init__" 583 (.ref 293),aM P "has" 591 (.ref 300),aM P "squares" 597 (.ref 305),aM P "moved" 607 (.ref 312),aM P "far_row" 615 (.ref 319),aM P "__static_attributes__" 620 (.ref 320)] 9),#[]⟩
def Et:Obj:=bb #[] 0
def Es:Obj:=du #[(aT 119),(aT 4),(.ref 292),(aT 129),(aT 4),(.ref 299),(aT 132),(aT 4),(.ref 304),(aT 135),(aT 4),(.ref 311),(aT 138),(aT 4),(.ref 318)]
def Er:Obj:=rk "Board" "Board" 568 569 570 117 0 0 0 285 false 181 286 571 117 572
def Ep:Obj:=⟨(.type "frame"),none,.plain,#[(some (.ref 287)),(some (.ref 3)),(some (.ref 284)),none,(some (.str "playboard.boards" 556)),none,(some (.ref 0))]⟩
def yX:Obj:=bb #[] 0
def En:Obj:=du #[]
def Em:Obj:=fo "__init__" "Board.__init__" bH
def yW:Obj:=oM #[(.str "__init__" 578),(.str "Board.__init__" 579),(gW 580),(aT 119),(aT 4),cm,cm,(aT 3),(.ref 289),(.bool true),(aT 181),(.ref 290),.none,.none,.none,(.ref 291),(aT 581),(aT 119),(gW 582)]
def yV:Obj:=fu "__init__" "Board.__init__" bH "playboard.boards" 556 292
def yU:Obj:=bb #[] 0
def Ek:Obj:=du #[]
def yT:Obj:=bb #[(.str "self" 587),(.str "square" 588)] 0
def yS:Obj:=bb #[] 0
def Ej:Obj:=fo "has" "Board.has" ja
def yR:Obj:=iF "has" "Board.has" 584 585 586 129 2 0 3 294 true 181 295 296 297 298 589 129 590
def yQ:Obj:=fu "has" "Board.has" ja "playboard.boards" 556 299
def yO:Obj:=bb #[] 0
def Eh:Obj:=du #[]
def Eg:Obj:=fo "squares" "Board.squares" fW
def yN:Obj:=oM #[(.str "squares" 592),(.str "Board.squares" 593),(gW 594),(aT 132),(aT 1),cm,cm,(aT 3),(.ref 301),(.bool true),(aT 181),(.ref 302),.none,.none,.none,(.ref 303),(aT 595),(aT 132),(gW 596)]
def yM:Obj:=fu "squares" "Board.squares" fW "playboard.boards" 556 304
def yL:Obj:=bb #[] 0
def Ef:Obj:=du #[]
def yJ:Obj:=bb #[(.str "self" 601),(.str "square" 602),(.str "across" 603),(.str "up" 604)] 0
def yI:Obj:=bb #[] 0
def Ed:Obj:=fo "moved" "Board.moved" gO
def yH:Obj:=iF "moved" "Board.moved" 598 599 600 135 4 0 3 306 true 181 307 308 309 310 605 135 606
def yG:Obj:=fu "moved" "Board.moved" gO "playboard.boards" 556 311
def yF:Obj:=bb #[] 0
def Ec:Obj:=du #[]
def yE:Obj:=bb #[(.str "self" 611),(.str "side" 612)] 0
def yD:Obj:=bb #[] 0
def Eb:Obj:=fo "far_row" "Board.far_row" fX
def yB:Obj:=iF "far_row" "Board.far_row" 608 609 610 138 2 0 3 313 true 181 314 315 316 317 613 138 614
def yz:Obj:=fu "far_row" "Board.far_row" fX "playboard.boards" 556 318
def yy:Obj:=bb #[(.str "firm" 616),(.str "high" 617),(.str "holes" 618),(.str "wide" 619)] 0
def yx:Obj:=⟨(.type "dict"),none,(.dict #[aM P "__module__" 573 (.str "playboard.boards" 556),aM P "__firstlineno__" 577 (.int 117 576),aM P "__init__" 583 (.ref 293),aM P "has" 591 (.ref 300),aM P "squares" 597 (.ref 305),aM P "moved" 607 (.ref 312),aM P "far_row" 615 (.ref 319),aM P "__static_attributes__" 620 (.ref 320),aM P "__dict__" 622 (.ref 323),aM P "__weakref__" 624 (.ref 324),aM P "__doc__" 625 .none] 4),#[]⟩
def yv:Obj:=⟨(.type "type"),none,(.cls ⟨"Board",[(.type "object")],[(.ref 322),(.type "object")],321,"Board",true,[],[],false,none,false⟩),#[none,none,(some (.str "Board" 566)),(some (.str "Board" 574)),(some (.builtin "object.__new__")),(some (.bool true))]⟩
def yu:Obj:=⟨(.type "getset_descriptor"),none,(.fields #[(.str "__dict__" 621),(.ref 322),(.builtin "function.__dict__"),(.builtin "function.__dict__#set")]),#[]⟩
def yt:Obj:=⟨(.type "getset_descriptor"),none,(.fields #[(.str "__weakref__" 623),(.ref 322),(.builtin "ExceptionGroup.__weakref__"),.none]),#[]⟩
def D9:Obj:=⟨(.type "super"),none,(.fields #[(.ref 322),(.ref 322),(.ref 322)]),#[]⟩
def D8:Obj:=⟨(.type "builtin_function_or_method"),none,(.fields #[(.builtin "object.__init_subclass__"),(.ref 322)]),#[]⟩
def yr:Obj:=bb #[] 0
def D7:Obj:=du #[]
def yq:Obj:=bb #[(.str "_law_script" 633),(.str "_law_k" 634),(.str "_law_cell" 635)] 0
def yp:Obj:=bb #[] 0
def D6:Obj:=fo "_law_at" "_law_at" fI
def yo:Obj:=iF "_law_at" "_law_at" 630 631 632 141 2 0 3 327 true 181 328 329 330 331 636 141 637
def yn:Obj:=fu "_law_at" "_law_at" fI "law_playboard_k06_games" 628 332
def D5:Obj:=bb #[] 0
def D4:Obj:=du #[]
def D3:Obj:=bb #[(.str "_law_thing" 642)] 0
def D2:Obj:=bb #[] 0
def D1:Obj:=fo "_law_whole" "_law_whole" ik
def D0:Obj:=iF "_law_whole" "_law_whole" 639 640 641 146 1 0 3 334 true 181 335 336 337 338 643 146 644
def DZ:Obj:=fu "_law_whole" "_law_whole" ik "law_playboard_k06_games" 628 339
def ym:Obj:=bb #[] 0
def DY:Obj:=du #[]
def yl:Obj:=bb #[(.str "_law_e" 649),(.str "_law_word_here" 650),(.str "_law_name" 651),(.str "_law_fits" 652)] 0
def yk:Obj:=bb #[] 0
def DX:Obj:=fo "_law_word" "_law_word" dM
def yj:Obj:=iF "_law_word" "_law_word" 646 647 648 148 1 0 3 341 true 181 342 343 344 345 653 148 654
def yi:Obj:=fu "_law_word" "_law_word" dM "law_playboard_k06_games" 628 346
def yh:Obj:=bb #[] 0
def DW:Obj:=du #[]
def yg:Obj:=bb #[(.str "_law_cell" 659)] 0
def yf:Obj:=bb #[] 0
def DU:Obj:=fo "_law_side" "_law_side" dN
def yd:Obj:=iF "_law_side" "_law_side" 656 657 658 159 1 0 3 348 true 181 349 350 351 352 660 159 661
def yb:Obj:=fu "_law_side" "_law_side" dN "law_playboard_k06_games" 628 353
def ya:Obj:=bb #[] 0
def DT:Obj:=du #[]
def x9:Obj:=bb #[(.str "_law_script" 666),(.str "_law_k" 667),(.str "_law_many" 668),(.str "_law_count" 669),(.str "_law_found" 670),(.str "_law_j" 671),(.str "_law_square" 672)] 0
def x8:Obj:=bb #[] 0
def DS:Obj:=fo "_law_holes" "_law_holes" dm
def x6:Obj:=iF "_law_holes" "_law_holes" 663 664 665 163 3 0 3 355 true 181 356 357 358 359 673 163 674
def x5:Obj:=fu "_law_holes" "_law_holes" dm "law_playboard_k06_games" 628 360
def x0:Obj:=bb #[] 0
def DR:Obj:=du #[]
def DQ:Obj:=fo "_law_kinds" "_law_kinds" cD
def xZ:Obj:=oM #[(.str "_law_kinds" 676),(.str "_law_kinds" 677),(gW 678),(aT 175),(aT 2),cm,cm,(aT 3),(.ref 362),(.bool true),(aT 181),(.ref 363),.none,.none,.none,(.ref 364),(aT 679),(aT 175),(gW 680)]
def xY:Obj:=fu "_law_kinds" "_law_kinds" cD "law_playboard_k06_games" 628 365
def xX:Obj:=bb #[] 0
def DP:Obj:=du #[]
def xW:Obj:=bb #[(.str "_law_cell" 685),(.str "_law_kinds_here" 686),(.str "_law_sort" 687),(.str "_law_far" 688),(.str "_law_aim" 689),(.str "_law_across" 690),(.str "_law_up" 691)] 0
def xV:Obj:=bb #[] 0
def DO:Obj:=fo "_law_rule" "_law_rule" dP
def xU:Obj:=iF "_law_rule" "_law_rule" 682 683 684 181 2 0 3 367 true 181 368 369 370 371 692 181 693
def xT:Obj:=fu "_law_rule" "_law_rule" dP "law_playboard_k06_games" 628 372
def xS:Obj:=bb #[] 0
def DN:Obj:=du #[]
def DM:Obj:=fo "_law_rules" "_law_rules" cC
def xR:Obj:=oM #[(.str "_law_rules" 695),(.str "_law_rules" 696),(gW 697),(aT 194),(aT 3),cm,cm,(aT 3),(.ref 374),(.bool true),(aT 181),(.ref 375),.none,.none,.none,(.ref 376),(aT 698),(aT 194),(gW 699)]
def xQ:Obj:=fu "_law_rules" "_law_rules" cC "law_playboard_k06_games" 628 377
def xP:Obj:=bb #[] 0
def DL:Obj:=du #[]
def DK:Obj:=fo "_law_turns" "_law_turns" cA
def xO:Obj:=oM #[(.str "_law_turns" 701),(.str "_law_turns" 702),(gW 703),(aT 200),(aT 3),cm,cm,(aT 3),(.ref 379),(.bool true),(aT 181),(.ref 380),.none,.none,.none,(.ref 381),(aT 704),(aT 200),(gW 705)]
def xN:Obj:=fu "_law_turns" "_law_turns" cA "law_playboard_k06_games" 628 382
def xM:Obj:=bb #[] 0
def DJ:Obj:=du #[]
def xL:Obj:=bb #[(.str "_law_script" 710),(.str "_law_k" 711),(.str "_law_kinds_here" 712),(.str "_law_cell" 713),(.str "_law_found" 714),(.str "_law_j" 715),(.str "_law_one" 716)] 0
def xK:Obj:=bb #[] 0
def DI:Obj:=fo "_law_ends" "_law_ends" dQ
def xJ:Obj:=iF "_law_ends" "_law_ends" 707 708 709 207 3 0 3 384 true 181 385 386 387 388 717 207 718
def xI:Obj:=fu "_law_ends" "_law_ends" dQ "law_playboard_k06_games" 628 389
def xH:Obj:=bb #[] 0
def DH:Obj:=du #[]
def DG:Obj:=fo "_law_bent" "_law_bent" cr
def xG:Obj:=oM #[(.str "_law_bent" 720),(.str "_law_bent" 721),(gW 722),(aT 214),(aT 2),cm,cm,(aT 3),(.ref 391),(.bool true),(aT 181),(.ref 392),.none,.none,.none,(.ref 393),(aT 723),(aT 214),(gW 724)]
def xF:Obj:=fu "_law_bent" "_law_bent" cr "law_playboard_k06_games" 628 394
def xE:Obj:=bb #[] 0
def DF:Obj:=du #[]
def xD:Obj:=bb #[(.str "_law_board" 729),(.str "_law_parts_here" 730),(.str "_law_stuck" 731),(.str "_law_e" 732)] 0
def xC:Obj:=bb #[] 0
def DE:Obj:=fo "_law_said" "_law_said" dO
def xB:Obj:=iF "_law_said" "_law_said" 726 727 728 232 3 0 3 396 true 181 397 398 399 400 733 232 734
def xA:Obj:=fu "_law_said" "_law_said" dO "law_playboard_k06_games" 628 401
def xz:Obj:=bb #[] 0
def DD:Obj:=du #[]
def DC:Obj:=fo "_law_turned" "_law_turned" cj
def xy:Obj:=oM #[(.str "_law_turned" 736),(.str "_law_turned" 737),(gW 738),(aT 238),(aT 2),cm,cm,(aT 3),(.ref 403),(.bool true),(aT 181),(.ref 404),.none,.none,.none,(.ref 405),(aT 739),(aT 238),(gW 740)]
def xx:Obj:=fu "_law_turned" "_law_turned" cj "law_playboard_k06_games" 628 406
def xw:Obj:=bb #[] 0
def DB:Obj:=du #[]
def xu:Obj:=bb #[(.str "_law_found" 745),(.str "_law_due" 746)] 0
def xt:Obj:=bb #[] 0
def Dz:Obj:=fo "_law_lists" "_law_lists" dk
def xr:Obj:=iF "_law_lists" "_law_lists" 742 743 744 241 2 0 3 408 true 181 409 410 411 412 747 241 748
def xp:Obj:=fu "_law_lists" "_law_lists" dk "law_playboard_k06_games" 628 413
def xo:Obj:=bb #[] 0
def Dy:Obj:=du #[]
def Dx:Obj:=fo "_law_right" "_law_right" cf
def xn:Obj:=oM #[(.str "_law_right" 750),(.str "_law_right" 751),(gW 752),(aT 243),(aT 6),cm,cm,(aT 3),(.ref 415),(.bool true),(aT 181),(.ref 416),.none,.none,.none,(.ref 417),(aT 753),(aT 243),(gW 754)]
def xm:Obj:=fu "_law_right" "_law_right" cf "law_playboard_k06_games" 628 418
def xl:Obj:=bb #[] 0
def Dv:Obj:=du #[]
def xk:Obj:=bb #[(.str "_law_script" 759),(.str "_law_k" 760),(.str "_law_kinds_here" 761),(.str "_law_rules_here" 762),(.str "_law_turns_here" 763)] 0
def xj:Obj:=bb #[] 0
def Du:Obj:=fo "_law_parts" "_law_parts" dj
def xi:Obj:=iF "_law_parts" "_law_parts" 756 757 758 260 2 0 3 420 true 181 421 422 423 424 764 260 765
def xh:Obj:=fu "_law_parts" "_law_parts" dj "law_playboard_k06_games" 628 425
def xg:Obj:=bb #[] 0
def Dt:Obj:=du #[]
def Ds:Obj:=fo "law" "law" gj
def xf:Obj:=oM #[(.str "law" 767),(.str "law" 768),(gW 769),(aT 265),(aT 1),cm,cm,(aT 3),(.ref 427),(.bool true),(aT 181),(.ref 428),.none,.none,.none,(.ref 429),(aT 770),(aT 265),(gW 771)]
def xb:Obj:=fu "law" "law" gj "law_playboard_k06_games" 628 430
end
noncomputable def hK (P:Params):Frag:=(nat_lit 2,Mr P)::(nat_lit 3,zo3 P)::(nat_lit 15,Fp)::(nat_lit 17,Fh)::(nat_lit 18,Fe)::(nat_lit 20,E8)::(nat_lit 21,E4)::(nat_lit 22,EY)::(nat_lit 29,Eo)::(nat_lit 30,Ei P)::(nat_lit 31,Ee)::(nat_lit 32,Ea)::(nat_lit 35,DV)::(nat_lit 42,Dw)::(nat_lit 43,Dr P)::(nat_lit 44,Dq)::(nat_lit 47,Dp)::(nat_lit 54,Do)::(nat_lit 55,Dn P)::(nat_lit 56,Dm)::(nat_lit 59,Dl)::(nat_lit 66,Dk)::(nat_lit 68,Dj)::(nat_lit 69,Di)::(nat_lit 71,Dh)::(nat_lit 72,Dg)::(nat_lit 73,Df)::(nat_lit 74,De P)::(nat_lit 75,Dd)::(nat_lit 78,Dc)::(nat_lit 85,Db)::(nat_lit 86,Da P)::(nat_lit 87,C9)::(nat_lit 90,C8)::(nat_lit 97,C7)::(nat_lit 98,C6 P)::(nat_lit 99,C5)::(nat_lit 102,AU)::(nat_lit 109,AT)::(nat_lit 110,AS P)::(nat_lit 111,AR)::(nat_lit 114,AQ)::(nat_lit 121,AO)::(nat_lit 122,AN P)::(nat_lit 123,AM)::(nat_lit 126,AK)::(nat_lit 133,AJ)::(nat_lit 134,AI P)::(nat_lit 135,AH)::(nat_lit 138,AG)::(nat_lit 145,AF)::(nat_lit 146,AE P)::(nat_lit 147,AD)::(nat_lit 150,AC)::(nat_lit 152,AB)::(nat_lit 153,AA)::(nat_lit 155,Az)::(nat_lit 156,Ay)::(nat_lit 157,Ax)::(nat_lit 159,Aw)::(nat_lit 160,Au)::(nat_lit 162,At)::(nat_lit 163,As)::(nat_lit 164,Ar)::(nat_lit 166,Aq)::(nat_lit 167,Ap)::(nat_lit 169,Ao)::(nat_lit 170,An)::(nat_lit 171,Am)::(nat_lit 172,Al)::(nat_lit 173,Ak)::(nat_lit 174,Aj)::(nat_lit 175,Ai)::(nat_lit 177,Ah)::(nat_lit 178,Ag)::(nat_lit 180,Af)::(nat_lit 181,Ae)::(nat_lit 182,Ad)::(nat_lit 184,Ac)::(nat_lit 185,Ab)::(nat_lit 187,Aa)::(nat_lit 188,zZ)::(nat_lit 189,zY)::(nat_lit 191,zX)::(nat_lit 192,zW)::(nat_lit 194,zV)::(nat_lit 195,zU)::(nat_lit 196,zT)::(nat_lit 198,zS)::(nat_lit 199,zR)::(nat_lit 201,zQ)::(nat_lit 202,zP)::(nat_lit 203,zO)::(nat_lit 205,zN)::(nat_lit 206,zM)::(nat_lit 208,zL)::(nat_lit 209,zK)::(nat_lit 210,zJ)::(nat_lit 212,zI)::(nat_lit 213,zH)::(nat_lit 215,zG)::(nat_lit 216,zF)::(nat_lit 217,zE)::(nat_lit 220,zD)::(nat_lit 221,zC)::(nat_lit 222,zB)::(nat_lit 225,zA)::(nat_lit 226,zz)::(nat_lit 227,zy)::(nat_lit 229,zx)::(nat_lit 230,zw)::(nat_lit 232,zv)::(nat_lit 233,zu)::(nat_lit 234,zt)::(nat_lit 237,zr)::(nat_lit 238,zq)::(nat_lit 239,zp)::(nat_lit 242,zo)::(nat_lit 243,zn)::(nat_lit 251,zm)::(nat_lit 253,zk)::(nat_lit 254,zj)::(nat_lit 256,zi)::(nat_lit 257,zh)::(nat_lit 258,zg)::(nat_lit 261,zf)::(nat_lit 262,ze)::(nat_lit 263,zd)::(nat_lit 265,zc)::(nat_lit 266,zb)::(nat_lit 268,za)::(nat_lit 269,y9)::(nat_lit 270,y8)::(nat_lit 271,y7 P)::(nat_lit 272,y6)::(nat_lit 273,y4)::(nat_lit 274,y3)::(nat_lit 277,y0)::(nat_lit 280,yZ)::(nat_lit 281,yY)::(nat_lit 289,yX)::(nat_lit 292,yW)::(nat_lit 293,yV)::(nat_lit 294,yU)::(nat_lit 296,yT)::(nat_lit 297,yS)::(nat_lit 299,yR)::(nat_lit 300,yQ)::(nat_lit 301,yO)::(nat_lit 304,yN)::(nat_lit 305,yM)::(nat_lit 306,yL)::(nat_lit 308,yJ)::(nat_lit 309,yI)::(nat_lit 311,yH)::(nat_lit 312,yG)::(nat_lit 313,yF)::(nat_lit 315,yE)::(nat_lit 316,yD)::(nat_lit 318,yB)::(nat_lit 319,yz)::(nat_lit 320,yy)::(nat_lit 321,yx P)::(nat_lit 322,yv)::(nat_lit 323,yu)::(nat_lit 324,yt)::(nat_lit 327,yr)::(nat_lit 329,yq)::(nat_lit 330,yp)::(nat_lit 332,yo)::(nat_lit 333,yn)::(nat_lit 341,ym)::(nat_lit 343,yl)::(nat_lit 344,yk)::(nat_lit 346,yj)::(nat_lit 347,yi)::(nat_lit 348,yh)::(nat_lit 350,yg)::(nat_lit 351,yf)::(nat_lit 353,yd)::(nat_lit 354,yb)::(nat_lit 355,ya)::(nat_lit 357,x9)::(nat_lit 358,x8)::(nat_lit 360,x6)::(nat_lit 361,x5)::(nat_lit 362,x0)::(nat_lit 365,xZ)::(nat_lit 366,xY)::(nat_lit 367,xX)::(nat_lit 369,xW)::(nat_lit 370,xV)::(nat_lit 372,xU)::(nat_lit 373,xT)::(nat_lit 374,xS)::(nat_lit 377,xR)::(nat_lit 378,xQ)::(nat_lit 379,xP)::(nat_lit 382,xO)::(nat_lit 383,xN)::(nat_lit 384,xM)::(nat_lit 386,xL)::(nat_lit 387,xK)::(nat_lit 389,xJ)::(nat_lit 390,xI)::(nat_lit 391,xH)::(nat_lit 394,xG)::(nat_lit 395,xF)::(nat_lit 396,xE)::(nat_lit 398,xD)::(nat_lit 399,xC)::(nat_lit 401,xB)::(nat_lit 402,xA)::(nat_lit 403,xz)::(nat_lit 406,xy)::(nat_lit 407,xx)::(nat_lit 408,xw)::(nat_lit 410,xu)::(nat_lit 411,xt)::(nat_lit 413,xr)::(nat_lit 414,xp)::(nat_lit 415,xo)::(nat_lit 418,xn)::(nat_lit 419,xm)::(nat_lit 420,xl)::(nat_lit 422,xk)::(nat_lit 423,xj)::(nat_lit 425,xi)::(nat_lit 426,xh)::(nat_lit 427,xg)::(nat_lit 430,xf)::(nat_lit 431,xb)::[]
noncomputable def hA:List Addr:=nat_lit 2::nat_lit 3::nat_lit 15::nat_lit 17::nat_lit 18::nat_lit 20::nat_lit 21::nat_lit 22::nat_lit 29::nat_lit 30::nat_lit 31::nat_lit 32::nat_lit 35::nat_lit 42::nat_lit 43::nat_lit 44::nat_lit 47::nat_lit 54::nat_lit 55::nat_lit 56::nat_lit 59::nat_lit 66::nat_lit 68::nat_lit 69::nat_lit 71::nat_lit 72::nat_lit 73::nat_lit 74::nat_lit 75::nat_lit 78::nat_lit 85::nat_lit 86::nat_lit 87::nat_lit 90::nat_lit 97::nat_lit 98::nat_lit 99::nat_lit 102::nat_lit 109::nat_lit 110::nat_lit 111::nat_lit 114::nat_lit 121::nat_lit 122::nat_lit 123::nat_lit 126::nat_lit 133::nat_lit 134::nat_lit 135::nat_lit 138::nat_lit 145::nat_lit 146::nat_lit 147::nat_lit 150::nat_lit 152::nat_lit 153::nat_lit 155::nat_lit 156::nat_lit 157::nat_lit 159::nat_lit 160::nat_lit 162::nat_lit 163::nat_lit 164::nat_lit 166::nat_lit 167::nat_lit 169::nat_lit 170::nat_lit 171::nat_lit 172::nat_lit 173::nat_lit 174::nat_lit 175::nat_lit 177::nat_lit 178::nat_lit 180::nat_lit 181::nat_lit 182::nat_lit 184::nat_lit 185::nat_lit 187::nat_lit 188::nat_lit 189::nat_lit 191::nat_lit 192::nat_lit 194::nat_lit 195::nat_lit 196::nat_lit 198::nat_lit 199::nat_lit 201::nat_lit 202::nat_lit 203::nat_lit 205::nat_lit 206::nat_lit 208::nat_lit 209::nat_lit 210::nat_lit 212::nat_lit 213::nat_lit 215::nat_lit 216::nat_lit 217::nat_lit 220::nat_lit 221::nat_lit 222::nat_lit 225::nat_lit 226::nat_lit 227::nat_lit 229::nat_lit 230::nat_lit 232::nat_lit 233::nat_lit 234::nat_lit 237::nat_lit 238::nat_lit 239::nat_lit 242::nat_lit 243::nat_lit 251::nat_lit 253::nat_lit 254::nat_lit 256::nat_lit 257::nat_lit 258::nat_lit 261::nat_lit 262::nat_lit 263::nat_lit 265::nat_lit 266::nat_lit 268::nat_lit 269::nat_lit 270::nat_lit 271::nat_lit 272::nat_lit 273::nat_lit 274::nat_lit 277::nat_lit 280::nat_lit 281::nat_lit 289::nat_lit 292::nat_lit 293::nat_lit 294::nat_lit 296::nat_lit 297::nat_lit 299::nat_lit 300::nat_lit 301::nat_lit 304::nat_lit 305::nat_lit 306::nat_lit 308::nat_lit 309::nat_lit 311::nat_lit 312::nat_lit 313::nat_lit 315::nat_lit 316::nat_lit 318::nat_lit 319::nat_lit 320::nat_lit 321::nat_lit 322::nat_lit 323::nat_lit 324::nat_lit 327::nat_lit 329::nat_lit 330::nat_lit 332::nat_lit 333::nat_lit 341::nat_lit 343::nat_lit 344::nat_lit 346::nat_lit 347::nat_lit 348::nat_lit 350::nat_lit 351::nat_lit 353::nat_lit 354::nat_lit 355::nat_lit 357::nat_lit 358::nat_lit 360::nat_lit 361::nat_lit 362::nat_lit 365::nat_lit 366::nat_lit 367::nat_lit 369::nat_lit 370::nat_lit 372::nat_lit 373::nat_lit 374::nat_lit 377::nat_lit 378::nat_lit 379::nat_lit 382::nat_lit 383::nat_lit 384::nat_lit 386::nat_lit 387::nat_lit 389::nat_lit 390::nat_lit 391::nat_lit 394::nat_lit 395::nat_lit 396::nat_lit 398::nat_lit 399::nat_lit 401::nat_lit 402::nat_lit 403::nat_lit 406::nat_lit 407::nat_lit 408::nat_lit 410::nat_lit 411::nat_lit 413::nat_lit 414::nat_lit 415::nat_lit 418::nat_lit 419::nat_lit 420::nat_lit 422::nat_lit 423::nat_lit 425::nat_lit 426::nat_lit 427::nat_lit 430::nat_lit 431::[]
noncomputable def hE:Env:={scope:=hP.main.scope,locals:=mainNs,globals:=mainNs,cells:=[],code:=(.ref 13),frame:=some 14}
noncomputable def hB:List Stmt:=PySem.W.behindTheImports hP
noncomputable abbrev hC:Code:=.body hB hE
noncomputable abbrev hN:Option Value:=(some (.ref 6))
noncomputable abbrev hF:List Frame:=[PySem.W.topFrame ⟨0,0,0,0⟩]
noncomputable def hS (w:World) (os:OsState):Shared:=⟨Mc w.params,Array.mk [],PySem.W.boot_drawn,PySem.W.boot_toks,os⟩
noncomputable def Hc (w:World) (os:OsState):Shared:=(PySem.W.topGo treeTable hP w 11 hN 12 (hS w os) (Ms hP)).elim (hS w os) λ x=>x.1
noncomputable def Hb (w:World) (os:OsState):PySem.W.SharedT:=toT ((Mt treeTable hP w 11 hN 1 1 (Hc w os) (Mu hB hE hC ⟨0,0,0,0⟩ hF)).elim (Hc w os) λ x=>x.2.1)
theorem hpre (w:World) (os:OsState):PySem.W.topGo treeTable hP w 11 hN 12 (hS w os) (Ms hP)=some (Hc w os,⟨denote treeTable hC,hC,⟨0,0,0,0⟩,hF⟩):=by kernel_rfl
theorem Jf (w:World) (os:OsState):Mt treeTable hP w 11 hN 1 1 (Hc w os) (Mu hB hE hC ⟨0,0,0,0⟩ hF)=some (.next,(Hb w os).abs,hC,⟨0,0,0,0⟩):=by kernel_rfl
noncomputable def hL1 (P:Params):PySem.W.BT:=aB (PySem.W.boot_o_0 P) (aB (PySem.W.boot_o_1 P) (aB (zo3 P) (aB (PySem.W.boot_o_7 P) (aB Fp (aB Ee (aB Ib (aB FH (aO EG) (aO xN)) (aB zX (aO yz) .nil)) (aB HG (aB Aw (aO Er) (aO xo)) (aB EX (aO yf) .nil))) (aB Dp (aB HU (aB Fu (aO (y7 P)) (aO xC)) (aB E5 (aO D4) .nil)) (aB AR (aB Ai (aO Eg) (aO xb)) (aB zp (aO xX) .nil)))) (aB IH (aB Iw (aB Dh (aB AH (aO zd) (aO xH)) (aB zR (aO yr) .nil)) (aB FX (aB Ap (aO Ek) (aO xj)) (aB EU (aO DS) .nil))) (aB (Dn P) (aB C9 (aB Fo (aO Ey) (aO xx)) (aB zG (aO yl) .nil)) (aB FL (aB Fd (aO yH) .nil) (aB EL (aO DN) .nil))))) (aB IN (aB II (aB DV (aB HY (aB FD (aO EF) (aO xK)) (aB zU (aO yu) .nil)) (aB C5 (aB As (aO Em) (aO xm)) (aB zy (aO ya) .nil))) (aB Il (aB HP (aB AD (aO EB) (aO xz)) (aB E3 (aO D0) .nil)) (aB FP (aB Ff (aO Ef) .nil) (aB zn (aO DO) .nil)))) (aB ID (aB (Dr P) (aB Dd (aB Fy (aO EC) (aO xF)) (aB zO (aO D6) .nil)) (aB FT (aB Am (aO yR) (aO xg)) (aB ET (aO DR) .nil))) (aB Dl (aB HK (aB Az (aO Ew) (aO xt)) (aB EZ (aO yi) .nil)) (aB AM (aB Aa (aO yE) .nil) (aB zm (aO xP) .nil)))))) (aB (PySem.W.boot_o_5 P) (aB (PySem.W.boot_o_9 P) (aB Fh (aB IB (aB HZ (aB FF (aO zh) (aO DJ)) (aB Fa (aO (yx P)) .nil)) (aB C7 (aB Fk (aO yX) (aO Dx)) (aB zA (aO yd) .nil))) (aB (Io P) (aB HR (aB AF (aO y4) (aO xB)) (aB zK (aO D2) .nil)) (aB FQ (aB Ah (aO yM) .nil) (aB EQ (aO xW) .nil)))) (aB IF (aB Iu (aB Df (aB Fz (aO zc) (aO DG)) (aB zQ (aO yq) .nil)) (aB FV (aB Ao (aO yS) (aO xi)) (aB zu (aO x5) .nil))) (aB Ii (aB HL (aB AA (aO yY) (aO DB)) (aB zE (aO DX) .nil)) (aB AO (aB Ab (aO yF) .nil) (aB EJ (aO xR) .nil))))) (aB IL (aB E4 (aB (Iy P) (aB Di (aB AJ (aO zf) (aO xJ)) (aB E9 (aO D9) .nil)) (aB FY (aB Fj (aO yV) (aO Dv)) (aB zx (aO x9) .nil))) (aB Ij (aB Db (aB Fq (aO y0) (aO DC)) (aB zH (aO ym) .nil)) (aB FN (aB Ae (aO yI) .nil) (aB EN (aO xT) .nil)))) (aB Eo (aB Ir (aB HV (aB Fw (aO y9) (aO DF)) (aB zN (aO yn) .nil)) (aB AT (aB Ak (aO yO) (aO Ds)) (aB zr (aO xZ) .nil))) (aB (Ie P) (aB HI (aB Ax (aO Et) (aO xr)) (aB zC (aO DW) .nil)) (aB FI (aB zY (aO Eb) .nil) (aB zk (aO DK) .nil))))))) (aB (Mr P) (aB (PySem.W.boot_o_4 P) (aB (PySem.W.boot_o_8 P) (aB IJ (aB Ea (aB Ia (aB (FG P) (aO zi) (aO xM)) (aB zW (aO yy) .nil)) (aB HF (aB Au (aO Ep) (aO Dy)) (aB EW (aO DU) .nil))) (aB Ip (aB (HS P) (aB Ft (aO y6) (aO DE)) (aB zL (aO D3) .nil)) (aB FR (aB Fg (aO yN) .nil) (aB ER (aO DP) .nil)))) (aB (IG P) (aB Iv (aB Dg (aB FA (aO ED) (aO DH)) (aB E7 (aO D7) .nil)) (aB (FW P) (aB Fi (aO yT) (aO Du)) (aB zv (aO x6) .nil))) (aB Dm (aB HM (aB AB (aO yZ) (aO xw)) (aB zF (aO yk) .nil)) (aB FK (aB Ac (aO yG) .nil) (aB EK (aO DM) .nil))))) (aB IM (aB E8 (aB Iz (aB Dj (aB FC (aO EE) (aO DI)) (aB zT (aO yt) .nil)) (aB FZ (aB Ar (aO yW) (aO xl)) (aB EV (aO DT) .nil))) (aB Ik (aB HN (aB Fs (aO EA) (aO DD)) (aB zI (aO DZ) .nil)) (aB (FO P) (aB Af (aO yJ) .nil) (aB EO (aO xU) .nil)))) (aB IC (aB Dq (aB HW (aB (Fx P) (aO za) (aO xE)) (aB E6 (aO yo) .nil)) (aB FS (aB Al (aO yQ) (aO Dt)) (aB ES (aO DQ) .nil))) (aB Ig (aB (HJ P) (aB Ay (aO (Eu P)) (aO Dz)) (aB zD (aO yh) .nil)) (aB FJ (aB zZ (aO yD) .nil) (aB EH (aO DL) .nil)))))) (aB (PySem.W.boot_o_6 P) (aB (PySem.W.boot_o_10 P) (aB Fe (aB IA (aB Dk (aB FE (aO zg) (aO xL)) (aB zV (aO yv) .nil)) (aB (C6 P) (aB At (aO En) (aO xn)) (aB zz (aO yb) .nil))) (aB Im (aB HQ (aB (AE P) (aO y3) (aO xA)) (aB zJ (aO D1) .nil)) (aB AQ (aB Ag (aO yL) .nil) (aB zo (aO xV) .nil)))) (aB IE (aB Dw (aB (De P) (aB AG (aO zb) (aO xG)) (aB zP (aO yp) .nil)) (aB FU (aB An (aO Ej) (aO xh)) (aB zt (aO x0) .nil))) (aB Ih (aB C8 (aB Fn (aO Ex) (aO xu)) (aB E1 (aO yj) .nil)) (aB (AN P) (aB Fc (aO Ec) .nil) (aB EI (aO xQ) .nil))))) (aB IK (aB EY (aB Ix (aB HX (aB (AI P) (aO ze) (aO xI)) (aB zS (aO D8) .nil)) (aB AU (aB Aq (aO yU) (aO xk)) (aB zw (aO x8) .nil))) (aB Do (aB (Da P) (aB AC (aO Ez) (aO xy)) (aB E2 (aO DY) .nil)) (aB FM (aB Ad (aO Ed) .nil) (aB (EM P) (aO xS) .nil)))) (aB (Ei P) (aB Iq (aB Dc (aB Fv (aO y8) (aO xD)) (aB zM (aO D5) .nil)) (aB (AS P) (aB Aj (aO Eh) (aO xf)) (aB zq (aO xY) .nil))) (aB Ic (aB HH (aB Fm (aO Es) (aO xp)) (aB zB (aO yg) .nil)) (aB AK (aB Fb (aO yB) .nil) (aB zj (aO xO) .nil)))))))
noncomputable def Jg (w:World) (os:OsState):PySem.W.SharedT:=stT (hL1 w.params) 432 773 w.params os
noncomputable def hT1:List Stmt:=(hB.drop 0).take 59
theorem GZ (w:World):(λ os=>PySem.W.segRunT treeTable hP w 11 hN 1 3883 (Hb w os) ⟨(execs hT1 hE).wrap Mh PySem.W.deadEnd id id,hC,⟨0,0,0,0⟩,hF⟩)=λ os=>some (Flow.next,(Jg w os),hC,⟨265,0,292,87⟩):=by
 rw [PySem.W.Fast.te10110043849684766642,PySem.W.Fast.te12563942051412417395,PySem.W.Fast.te14364793385576792824]
 kernel_rfl
noncomputable def wG (tr:(String->Option Builtin)->Program->World->Nat->Option Value->Nat->Shared->Thread->Option Shared) (tb:String->Option Builtin) (w:World) (os:OsState):Shared:=
 (tr tb hP w 11 hN 2 (Jg w os).abs ⟨Mh .next,hC,⟨265,0,292,87⟩,hF⟩).elim (hS w os) id
noncomputable def hX (s:Shared):Bool:=PySem.W.xlAt hQ [] s&&PySem.W.recOk (PySem.W.RowW.records PySem.Challenge.rw_playboard_k06_games.row.toRowW) s
theorem Je (w:World):(λ os=>LO treeTable hP w 11 hN 2 (Jg w os).abs ⟨Mh .next,hC,⟨265,0,292,87⟩,hF⟩)=λ os=>some (wG LO treeTable w os):=by
 rw [PySem.W.Fast.te14364793385576792824,PySem.W.Fast.te14082659384304107361]
 kernel_rfl
theorem Cj (w:World):(λ os=>(PySem.W.staticsOk (importedModules hP.main.body) (Mc w.params) (wG LO treeTable w os).heap&&PySem.W.namesBound hP (wG LO treeTable w os).heap&&PySem.W.gensDone (wG LO treeTable w os)&&PySem.W.laidKept (Mc w.params) (wG LO treeTable w os).heap))=λ os=>true:=by
 rw [PySem.W.Fast.te14364793385576792824,PySem.W.Fast.te14082659384304107361,PySem.W.Fast.te5923862056798008813]
 kernel_rfl
theorem Ci (w:World):(λ os=>PySem.W.openSeen hQ [] (importedModules hP.main.body) hX true (wG LO treeTable w os))=λ os=>PySem.W.openGood hQ []:=by
 rw [PySem.W.Fast.te14364793385576792824,PySem.W.Fast.te14082659384304107361,PySem.W.Fast.te4187177175401517315,PySem.W.Fast.te5923862056798008813]
 kernel_rfl
theorem Ch (w:World):(λ os=>qP hA (wG LO treeTable w os))=λ os=>qO hK w:=by
 rw [PySem.W.Fast.te14364793385576792824,PySem.W.Fast.te14082659384304107361]
 kernel_rfl
theorem hBe:hB=(hT1++[]):=by kernel_rfl
theorem Ha (w:World) (os:OsState):LO treeTable hP w 11 hN (3883+2) (Hb w os).abs (Mv hB hE hC ⟨0,0,0,0⟩ hF)=some (wG LO treeTable w os):=by have r:=PySem.W.piece_nil (env:=hE) (congrFun (Je w) os);have r:=PySem.W.piece_app (PySem.W.segRun_of (congrFun (GZ w) os)) r;exact (congrArg (λ l=>LO treeTable hP w 11 hN (3883+2) (Hb w os).abs (Mv l hE hC ⟨0,0,0,0⟩ hF)) hBe).trans r
theorem hleft:PySem.W.LeftO hP hQ [] hX (qP hA) (qO hK) 7890:=
 sy (n0:=12) (nb:=1) (n:=(3883+2)) (qp:=⟨0,0,0,0⟩) (p0:=⟨0,0,0,0⟩) (p1:=⟨0,0,0,0⟩) (H₀:=Mc) (m₀:=11) (ann:=hN) (b:=hB) (env:=hE) (sa:=Hc) (sb:=Hb) (sf:=λ w os=>(wG LO treeTable w os))
  (PySem.W.boot_open (by kernel_rfl) (by decide+kernel) (λ s=>by kernel_rfl)) (λ w=>by kernel_rfl) hpre Jf Ha (by decide+kernel) (λ w os=>by rw [congrFun (Cj w) os,congrFun (Ci w) os,congrFun (Ch w) os])
end K06
namespace K06
open PySem L2
theorem mC (P:Program) (w:World) (base:Heap) {K:Frag}{h:Heap}{mg:Str->Option Value}{name q:Str}{st:Stmt}{ps:List Str}{k:Nat}{sp:Sp}{f:Addr}{fd:FuncData}(X:K.In h) (G:h.Ns mainGlobals mg) (a:LH K mainGlobals name=some (some (.ref f))) (F:ce K name q st f fd) (b:fg K fd ps []) (o:bz P w K mg base eP k f fd ps sp):fv P w K mg base name ps k sp:=⟨f,_,o,LL X G a,F.kp,b⟩
noncomputable abbrev ζL (o:Value) (d:Option Addr) (a b:Str) (s:Stmt) (k c p:Value) (n:Option Addr) (e t:Value) (l:Array (Option Value)):Obj:=⟨o,d,.func (LR a b (eY s) (dt s) (am s) .none k c p n e t),l⟩
theorem all_mk {l:PySem.W.OpenLaw}{w:World}{K:Frag}{h:Heap}{mg:Str->Option Value}{fa f1 f2 f3 f4 f5 f6 f7 f8 f9 f10 f11 f12 f13 f14 f15 f16 f17 f18 f19 f20 f21 f22 f23 f24 f25 f26 f27 f28 f29 f30 f31 f32 f33 f34 f35 cBoard cGame cPlayError cBadBoard cBadGame cBadLine cBadPlace cNoMove cTooWide cNoWord cOver cNothingBack aS aA aE aW:Addr}(X:K.In h) (G:h.Ns mainGlobals mg) (hfa:mg "law"=some (.ref fa))
  {od35 an35:Option Addr} {sl35:Array (Option Value)} {oc35 kV35 dc35 pm35 cd35 ct35:Value} {d1 d2 d3 d4 d5 d6 d7 d8 d9 d10 d11 d12 d13 d14 d15 d16 d17 d18 d19 d20 d21 d22 d23 d24 d25 d26 d27 d28 d29 d30 d31 d32 d33 d34:FuncData} {u0 u1 u2 u3:Value}
  (aCBoard:LH K mainGlobals "Board"=some (some (.ref cBoard)))
  (aCGame:LH K mainGlobals "Game"=some (some (.ref cGame)))
  (aEPlayError:LH K mainGlobals "PlayError"=some (some (.ref cPlayError)))
  (aEBadBoard:LH K mainGlobals "BadBoard"=some (some (.ref cBadBoard)))
  (aEBadGame:LH K mainGlobals "BadGame"=some (some (.ref cBadGame)))
  (aEBadLine:LH K mainGlobals "BadLine"=some (some (.ref cBadLine)))
  (aEBadPlace:LH K mainGlobals "BadPlace"=some (some (.ref cBadPlace)))
  (aENoMove:LH K mainGlobals "NoMove"=some (some (.ref cNoMove)))
  (aETooWide:LH K mainGlobals "TooWide"=some (some (.ref cTooWide)))
  (aENoWord:LH K mainGlobals "NoWord"=some (some (.ref cNoWord)))
  (aEOver:LH K mainGlobals "Over"=some (some (.ref cOver)))
  (aENothingBack:LH K mainGlobals "NothingBack"=some (some (.ref cNothingBack)))
  (a1:LH K mainGlobals "is_whole"=some (some (.ref f1)))
  (F1:ce K "is_whole" "is_whole" eG f1 d1)
  (a2:LH K mainGlobals "is_letter"=some (some (.ref f2)))
  (F2:ce K "is_letter" "is_letter" dL f2 d2)
  (a3:LH K mainGlobals "is_among"=some (some (.ref f3)))
  (F3:ce K "is_among" "is_among" eH f3 d3)
  (a4:LH K mainGlobals "is_word"=some (some (.ref f4)))
  (F4:ce K "is_word" "is_word" fC f4 d4)
  (a5:LH K mainGlobals "is_tuple_of"=some (some (.ref f5)))
  (F5:ce K "is_tuple_of" "is_tuple_of" cL f5 d5)
  (a6:LH K mainGlobals "is_list_of"=some (some (.ref f6)))
  (F6:ce K "is_list_of" "is_list_of" di f6 d6)
  (a7:LH K mainGlobals "is_step"=some (some (.ref f7)))
  (F7:ce K "is_step" "is_step" fE f7 d7)
  (a8:LH K mainGlobals "is_rule"=some (some (.ref f8)))
  (F8:ce K "is_rule" "is_rule" fF f8 d8)
  (a9:LH K mainGlobals "is_pair"=some (some (.ref f9)))
  (F9:ce K "is_pair" "is_pair" fG f9 d9)
  (a10:LH K mainGlobals "are_pairs"=some (some (.ref f10)))
  (F10:ce K "are_pairs" "are_pairs" cX f10 d10)
  (a11:LH K mainGlobals "is_turns"=some (some (.ref f11)))
  (F11:ce K "is_turns" "is_turns" cS f11 d11)
  (a12:LH K mainGlobals "is_ends"=some (some (.ref f12)))
  (F12:ce K "is_ends" "is_ends" fH f12 d12)
  (a13:LH K mainGlobals "are_kinds"=some (some (.ref f13)))
  (F13:ce K "are_kinds" "are_kinds" cY f13 d13)
  (a14:LH K mainGlobals "are_rules"=some (some (.ref f14)))
  (F14:ce K "are_rules" "are_rules" cW f14 d14)
  (a15:LJ K (.ref cGame) "__init__"=some (some (.ref f15))) (iF15:LU K (.ref f15)=true)
  (F15:ce K "__init__" "Game.__init__" bM f15 d15)
  (a16:LJ K (.ref cGame) "rules_of"=some (some (.ref f16))) (iF16:LU K (.ref f16)=true)
  (F16:ce K "rules_of" "Game.rules_of" bL f16 d16)
  (a17:LJ K (.ref cGame) "turned"=some (some (.ref f17))) (iF17:LU K (.ref f17)=true)
  (F17:ce K "turned" "Game.turned" cM f17 d17)
  (a18:LH K mainGlobals "are_holes"=some (some (.ref f18)))
  (F18:ce K "are_holes" "are_holes" cZ f18 d18)
  (a19:LJ K (.ref cBoard) "__init__"=some (some (.ref f19))) (iF19:LU K (.ref f19)=true)
  (F19:ce K "__init__" "Board.__init__" bH f19 d19)
  (a20:LH K mainGlobals "_law_at"=some (some (.ref f20)))
  (F20:ce K "_law_at" "_law_at" fI f20 d20)
  (a21:LH K mainGlobals "_law_word"=some (some (.ref f21)))
  (F21:ce K "_law_word" "_law_word" dM f21 d21)
  (a22:LH K mainGlobals "_law_side"=some (some (.ref f22)))
  (F22:ce K "_law_side" "_law_side" dN f22 d22)
  (a23:LH K mainGlobals "_law_holes"=some (some (.ref f23)))
  (F23:ce K "_law_holes" "_law_holes" dm f23 d23)
  (a24:LH K mainGlobals "_law_kinds"=some (some (.ref f24)))
  (F24:ce K "_law_kinds" "_law_kinds" cD f24 d24)
  (a25:LH K mainGlobals "_law_rule"=some (some (.ref f25)))
  (F25:ce K "_law_rule" "_law_rule" dP f25 d25)
  (a26:LH K mainGlobals "_law_rules"=some (some (.ref f26)))
  (F26:ce K "_law_rules" "_law_rules" cC f26 d26)
  (a27:LH K mainGlobals "_law_turns"=some (some (.ref f27)))
  (F27:ce K "_law_turns" "_law_turns" cA f27 d27)
  (a28:LH K mainGlobals "_law_ends"=some (some (.ref f28)))
  (F28:ce K "_law_ends" "_law_ends" dQ f28 d28)
  (a29:LH K mainGlobals "_law_bent"=some (some (.ref f29)))
  (F29:ce K "_law_bent" "_law_bent" cr f29 d29)
  (a30:LH K mainGlobals "_law_said"=some (some (.ref f30)))
  (F30:ce K "_law_said" "_law_said" dO f30 d30)
  (a31:LH K mainGlobals "_law_turned"=some (some (.ref f31)))
  (F31:ce K "_law_turned" "_law_turned" cj f31 d31)
  (a32:LH K mainGlobals "_law_lists"=some (some (.ref f32)))
  (F32:ce K "_law_lists" "_law_lists" dk f32 d32)
  (a33:LH K mainGlobals "_law_right"=some (some (.ref f33)))
  (F33:ce K "_law_right" "_law_right" cf f33 d33)
  (a34:LH K mainGlobals "_law_parts"=some (some (.ref f34)))
  (F34:ce K "_law_parts" "_law_parts" dj f34 d34)
  (a35:LH K mainGlobals "law"=some (some (.ref f35)))
  (l35:K.lookup f35=some (ζL oc35 od35 "law" "law" gj kV35 dc35 pm35 an35 cd35 ct35 sl35)) (c35:Mb K cd35 "law"=true) (k35:LP K (.ref f35)=true)
  (pgXBoard:LW K cBoard Str.empty=true)
  (hdXBoard:LX K cBoard=true)
  (poXBoard:L8 K cBoard=true)
  (saXBoard:LJ K (.ref cBoard) "__setattr__"=some (some (.builtin "object.__setattr__")))
  (mkXBoard:Ma K cBoard=true)
  (kcXBoard:LP K (.ref cBoard)=true)
  (naBoardwide:LJ K (.ref cBoard) "wide"=some none)
  (naBoardhigh:LJ K (.ref cBoard) "high"=some none)
  (naBoardholes:LJ K (.ref cBoard) "holes"=some none)
  (naBoardfirm:LJ K (.ref cBoard) "firm"=some none)
  (pgXGame:LW K cGame Str.empty=true)
  (hdXGame:LX K cGame=true)
  (poXGame:L8 K cGame=true)
  (saXGame:LJ K (.ref cGame) "__setattr__"=some (some (.builtin "object.__setattr__")))
  (mkXGame:Ma K cGame=true)
  (kcXGame:LP K (.ref cGame)=true)
  (naGameboard:LJ K (.ref cGame) "board"=some none)
  (naGamekinds:LJ K (.ref cGame) "kinds"=some none)
  (naGamerules:LJ K (.ref cGame) "rules"=some none)
  (naGameturns:LJ K (.ref cGame) "turns"=some none)
  (naGameends:LJ K (.ref cGame) "ends"=some none)
  (naGamestuck:LJ K (.ref cGame) "stuck"=some none)
  (xq:L4 K cBadGame [.type "ValueError",.type "Exception",.type "BaseException",.type "object"] "ValueError.__new__"=true)
  (xga:LJ K (.ref cBadGame) "__getattribute__"=some (some (.builtin "BaseException.__getattribute__")))
  (xgh:LJ K (.ref cBadGame) "__getattr__"=some none)
  (xha:LJ K (.ref cBadGame) "__class__"=some (some (.builtin "object.__class__")))
  (xhn:Mm K (.builtin "object.__class__") "__get__"=some (some (.builtin "getset_descriptor.__get__")))
  (xtk:Mn K (.builtin "object.__class__")=some true)
  (xhm:LY K cBadGame (.type "object")=some true)
  (xhb:LY K cBadGame (.type "BaseException")=some true)
  (xem:L5 K (.ref cBadGame) (.ref cPlayError)=some true)
  (xv:LK K (.ref cBadGame) (.type "ValueError")=some true)
  (xkBadBoard:LK K (.ref cBadGame) (.ref cBadBoard)=some false)
  (xkBadGame:LK K (.ref cBadGame) (.ref cBadGame)=some true)
  (xkBadLine:LK K (.ref cBadGame) (.ref cBadLine)=some false)
  (xkBadPlace:LK K (.ref cBadGame) (.ref cBadPlace)=some false)
  (xkNoMove:LK K (.ref cBadGame) (.ref cNoMove)=some false)
  (xkTooWide:LK K (.ref cBadGame) (.ref cTooWide)=some false)
  (xkNoWord:LK K (.ref cBadGame) (.ref cNoWord)=some false)
  (xkOver:LK K (.ref cBadGame) (.ref cOver)=some false)
  (xkNothingBack:LK K (.ref cBadGame) (.ref cNothingBack)=some false)
  (z0:LH K mainGlobals "isinstance"=some none)
  (z1:LH K mainGlobals "int"=some none)
  (z2:LH K mainGlobals "bool"=some none)
  (z3:LH K mainGlobals "str"=some none)
  (z4:LH K mainGlobals "list"=some none)
  (z5:LH K mainGlobals "tuple"=some none)
  (z6:LH K mainGlobals "len"=some none)
  (z7:LH K mainGlobals "range"=some none)
  (z8:LH K mainGlobals "all"=some none)
  (z9:LH K mainGlobals "any"=some none)
  (z10:LH K mainGlobals "set"=some none)
  (z11:LH K mainGlobals "sorted"=some none)
  (z12:LH K mainGlobals "min"=some none)
  (z13:LH K mainGlobals "dict"=some none)
  (z14:LH K mainGlobals "zip"=some none)
  (z15:LH K mainGlobals "enumerate"=some none)
  (z16:LH K mainGlobals "ValueError"=some none)
  (kg0:LH K mainGlobals "MOST_PAIRS"=some (some u0)) (rv0:aQ (.int 6) u0)
  (kg1:LH K mainGlobals "MOST_KINDS"=some (some u1)) (rv1:aQ (.int 6) u1)
  (kg2:LH K mainGlobals "MOST_RULES"=some (some u2)) (rv2:aQ (.int 24) u2)
  (kg3:LH K mainGlobals "LONGEST"=some (some u3)) (rv3:aQ (.int 8) u3)
  {tO0:Value} {tD0:Option Addr} {tI0:Array Value} {tN0:Nat} {tS0:Array (Option Value)} (kt0:LH K mainGlobals "SORTS"=some (some (.ref aS))) (lt0:K.lookup aS=some ⟨tO0,tD0,.seq tI0 tN0,tS0⟩) (ctp0:tO0=.type "tuple") (zt0:tI0.size<=sizeLine) (vt0:aU ([V.str "leap",V.str "slide",V.str "jump"]) tI0.toList)
  {tO1:Value} {tD1:Option Addr} {tI1:Array Value} {tN1:Nat} {tS1:Array (Option Value)} (kt1:LH K mainGlobals "AIMS"=some (some (.ref aA))) (lt1:K.lookup aA=some ⟨tO1,tD1,.seq tI1 tN1,tS1⟩) (ctp1:tO1=.type "tuple") (zt1:tI1.size<=sizeLine) (vt1:aU ([V.str "go",V.str "hit",V.str "any"]) tI1.toList)
  {tO2:Value} {tD2:Option Addr} {tI2:Array Value} {tN2:Nat} {tS2:Array (Option Value)} (kt2:LH K mainGlobals "END_WORDS"=some (some (.ref aE))) (lt2:K.lookup aE=some ⟨tO2,tD2,.seq tI2 tN2,tS2⟩) (ctp2:tO2=.type "tuple") (zt2:tI2.size<=sizeLine) (vt2:aU ([V.str "without",V.str "home"]) tI2.toList)
  {tO3:Value} {tD3:Option Addr} {tI3:Array Value} {tN3:Nat} {tS3:Array (Option Value)} (kt3:LH K mainGlobals "STUCK_WORDS"=some (some (.ref aW))) (lt3:K.lookup aW=some ⟨tO3,tD3,.seq tI3 tN3,tS3⟩) (ctp3:tO3=.type "tuple") (zt3:tI3.size<=sizeLine) (vt3:aU ([V.str "lost",V.str "even",V.str "won"]) tI3.toList):
  ∃fd:FuncData,(∀(s:Shared) (v:Value),BindsTo s fd ⟨[v],[]⟩ [("_law_script",v)])/\∀base:Heap,K.In base->base.Ns mainGlobals mg->bz l.prog w K mg base eP 9 fa fd ["_law_script"] (qo K):=by
 have e:=hfa.symm.trans (LL X G a35);cases e;have T:Txt mg aS aA aE aW:=⟨LM X G z0,LM X G z1,LM X G z2,LM X G z3,LM X G z4,LM X G z5,LM X G z6,LM X G z7,LM X G z8,LM X G z9,LM X G z10,LM X G z11,LM X G z12,LM X G z13,LM X G z14,LM X G z15,LM X G z16,⟨_,LL X G kg0,rv0⟩,⟨_,LL X G kg1,rv1⟩,⟨_,LL X G kg2,rv2⟩,⟨_,LL X G kg3,rv3⟩,⟨_,LL X G kt0,rfl⟩,⟨_,LL X G kt1,rfl⟩,⟨_,LL X G kt2,rfl⟩,⟨_,LL X G kt3,rfl⟩⟩;have hT_SORTS:∀H,eC K H aS ["leap","slide","jump"]:=λ H=>.inr (.inr ⟨_,tI0,tN0,lt0,ctp0,rfl,zt0,vt0⟩);have hT_AIMS:∀H,eC K H aA ["go","hit","any"]:=λ H=>.inr (.inr ⟨_,tI1,tN1,lt1,ctp1,rfl,zt1,vt1⟩);have hT_END_WORDS:∀H,eC K H aE ["without","home"]:=λ H=>.inr (.inr ⟨_,tI2,tN2,lt2,ctp2,rfl,zt2,vt2⟩);have hT_STUCK_WORDS:∀H,eC K H aW ["lost","even","won"]:=λ H=>.inr (.inr ⟨_,tI3,tN3,lt3,ctp3,rfl,zt3,vt3⟩);have b1:=F1.binds (ps:=["thing"]) λ _ _ _ _ _ _=>L2.CY (λ _=>rfl);have b2:=F2.binds (ps:=["thing"]) λ _ _ _ _ _ _=>L2.CY (λ _=>rfl);have b3:=F3.binds (ps:=["thing","least","most"]) λ _ _ _ _ _ _=>L2.vN (λ _ _ _=>rfl);have b4:=F4.binds (ps:=["thing","words"]) λ _ _ _ _ _ _=>L2.oK (λ _ _=>rfl);have b5:=F5.binds (ps:=["thing","many"]) λ _ _ _ _ _ _=>L2.oK (λ _ _=>rfl);have b6:=F6.binds (ps:=["thing","least","most"]) λ _ _ _ _ _ _=>L2.vN (λ _ _ _=>rfl);have b7:=F7.binds (ps:=["sort","across","up"]) λ _ _ _ _ _ _=>L2.vN (λ _ _ _=>rfl);have b8:=F8.binds (ps:=["thing","kinds"]) λ _ _ _ _ _ _=>L2.oK (λ _ _=>rfl);have b9:=F9.binds (ps:=["thing","firsts","seconds"]) λ _ _ _ _ _ _=>L2.vN (λ _ _ _=>rfl);have b10:=F10.binds (ps:=["thing","firsts","seconds"]) λ _ _ _ _ _ _=>L2.vN (λ _ _ _=>rfl);have b11:=F11.binds (ps:=["thing","kinds"]) λ _ _ _ _ _ _=>L2.oK (λ _ _=>rfl);have b12:=F12.binds (ps:=["thing","kinds"]) λ _ _ _ _ _ _=>L2.oK (λ _ _=>rfl);have b13:=F13.binds (ps:=["thing"]) λ _ _ _ _ _ _=>L2.CY (λ _=>rfl);have b14:=F14.binds (ps:=["thing","kinds"]) λ _ _ _ _ _ _=>L2.oK (λ _ _=>rfl);have b15:=F15.binds (ps:=["self","board","kinds","rules","turns","ends","stuck"]) λ _ _ _ _ _ _=>L2.ln7 (λ _ _ _ _ _ _ _=>rfl);have b16:=F16.binds (ps:=["self","kind"]) λ _ _ _ _ _ _=>L2.oK (λ _ _=>rfl);have b17:=F17.binds (ps:=["self","kind"]) λ _ _ _ _ _ _=>L2.oK (λ _ _=>rfl);have b18:=F18.binds (ps:=["thing","many"]) λ _ _ _ _ _ _=>L2.oK (λ _ _=>rfl);have b19:=F19.binds (ps:=["self","wide","high","holes"]) λ _ _ _ _ _ _=>L2.ln4 (λ _ _ _ _=>rfl);have b20:=F20.binds (ps:=["_law_script","_law_k"]) λ _ _ _ _ _ _=>L2.oK (λ _ _=>rfl);have b21:=F21.binds (ps:=["_law_e"]) λ _ _ _ _ _ _=>L2.CY (λ _=>rfl);have b22:=F22.binds (ps:=["_law_cell"]) λ _ _ _ _ _ _=>L2.CY (λ _=>rfl);have b23:=F23.binds (ps:=["_law_script","_law_k","_law_many"]) λ _ _ _ _ _ _=>L2.vN (λ _ _ _=>rfl);have b24:=F24.binds (ps:=["_law_script","_law_k"]) λ _ _ _ _ _ _=>L2.oK (λ _ _=>rfl);have b25:=F25.binds (ps:=["_law_cell","_law_kinds_here"]) λ _ _ _ _ _ _=>L2.oK (λ _ _=>rfl);have b26:=F26.binds (ps:=["_law_script","_law_k","_law_kinds_here"]) λ _ _ _ _ _ _=>L2.vN (λ _ _ _=>rfl);have b27:=F27.binds (ps:=["_law_script","_law_k","_law_kinds_here"]) λ _ _ _ _ _ _=>L2.vN (λ _ _ _=>rfl);have b28:=F28.binds (ps:=["_law_script","_law_k","_law_kinds_here"]) λ _ _ _ _ _ _=>L2.vN (λ _ _ _=>rfl);have b29:=F29.binds (ps:=["_law_cell","_law_parts_here"]) λ _ _ _ _ _ _=>L2.oK (λ _ _=>rfl);have b30:=F30.binds (ps:=["_law_board","_law_parts_here","_law_stuck"]) λ _ _ _ _ _ _=>L2.vN (λ _ _ _=>rfl);have b31:=F31.binds (ps:=["_law_turns_here","_law_kind"]) λ _ _ _ _ _ _=>L2.oK (λ _ _=>rfl);have b32:=F32.binds (ps:=["_law_found","_law_due"]) λ _ _ _ _ _ _=>L2.oK (λ _ _=>rfl);have b33:=F33.binds (ps:=["_law_game","_law_board","_law_parts_here","_law_stuck","_law_kept","_law_bit"]) λ _ _ _ _ _ _=>L2.ln6 (λ _ _ _ _ _ _=>rfl);have b34:=F34.binds (ps:=["_law_script","_law_k"]) λ _ _ _ _ _ _=>L2.oK (λ _ _=>rfl);have F35:=aZ (st:=gj) l35 c35 k35;have b35:=F35.binds (ps:=["_law_script"]) λ _ _ _ _ _ _=>L2.CY (λ _=>rfl);have cl_Board:oH K cBoard:=⟨pgXBoard,hdXBoard,poXBoard,saXBoard⟩;have cl_Game:oH K cGame:=⟨pgXGame,hdXGame,poXGame,saXGame⟩;refine ⟨LR "law" "law" (eY gj) (dt gj) (am gj) .none kV35 dc35 pm35 an35 cd35 ct35,λ s v=>.of_eq rfl,λ base _ _=>?_⟩;have C_is_whole:=mC l.prog w base X G a1 F1 b1 (nH F1 T);have C_is_letter:=mC l.prog w base X G a2 F2 b2 (l8 F2 T);have C_is_among:=mC l.prog w base X G a3 F3 b3 (nJ F3 T ⟨C_is_whole⟩);have C_is_word:=mC l.prog w base X G a4 F4 b4 (pq F4 T);have C_is_tuple_of:=mC l.prog w base X G a5 F5 b5 (jB F5 T);have C_is_list_of:=mC l.prog w base X G a6 F6 b6 (j3 F6 T);have C_is_step:=mC l.prog w base X G a7 F7 b7 (pr F7 T ⟨C_is_among⟩);have R2:RG2 l.prog w K mg base:=⟨C_is_word,C_is_tuple_of⟩;have R3:RG3 l.prog w K mg base:={toRG2:=R2,is_step:=C_is_step};have C_is_rule:=mC l.prog w base X G a8 F8 b8 (pv F8 T hT_SORTS hT_AIMS R3);have C_is_pair:=mC l.prog w base X G a9 F9 b9 (pw F9 T R2);have C_are_pairs:=mC l.prog w base X G a10 F10 b10 (ma F10 T ⟨C_is_list_of,C_is_pair⟩);have C_is_ends:=mC l.prog w base X G a12 F12 b12 (px F12 T hT_END_WORDS ⟨C_are_pairs⟩);have C_is_turns:=mC l.prog w base X G a11 F11 b11 (nI F11 T ⟨C_are_pairs⟩);have G1:Ju l.prog w K mg base:=⟨C_is_list_of,C_is_letter,C_is_rule⟩;have C_are_kinds:=mC l.prog w base X G a13 F13 b13 (md F13 T G1);have C_are_rules:=mC l.prog w base X G a14 F14 b14 (l9 F14 T G1);have G2:Jt l.prog w K mg base:=⟨C_are_kinds,C_are_rules,C_is_turns,C_is_ends,C_is_word⟩;have GC:vK K cGame:=⟨cl_Game,naGameboard,naGamekinds,naGamerules,naGameturns,naGameends,naGamestuck⟩;have C_Game:oF l.prog w K mg base "Game" cGame _ _ _:=⟨f15,_,⟨mkXGame,a15,iF15,kcXGame⟩,kc F15 T hT_STUCK_WORDS GC G2,LL X G aCGame,b15⟩;have X_Game:Jr l.prog w K mg base "Game" cGame _ _ _:=⟨f15,_,⟨mkXGame,a15,iF15,kcXGame⟩,kb (cG:=cGame) F15 T hT_STUCK_WORDS (LL X G aEBadGame) xq G2,LL X G aCGame,b15⟩;have C_Game_rules_of:vH l.prog w K mg base cGame "rules_of" _ _ _:=⟨⟨f16,_,iN F16 T GC,⟨a16,iF16,F16.kp⟩,b16⟩,cl_Game⟩;have C_Game_turned:vH l.prog w K mg base cGame "turned" _ _ _:=⟨⟨f17,_,jD F17 T GC,⟨a17,iF17,F17.kp⟩,b17⟩,cl_Game⟩;have DA:CA l.prog w K mg base:=⟨CJ C_is_among⟩;have C_are_holes:=mC l.prog w base X G a18 F18 b18 (me F18 T DA);have DB2:CB2 l.prog w K mg base:={toCA:=DA,are_holes:=C_are_holes};have BC:tf K cBoard:=⟨cl_Board,naBoardwide,naBoardhigh,naBoardholes,naBoardfirm⟩;have C_Board:oF l.prog w K mg base "Board" cBoard _ _ _:=⟨f19,_,⟨mkXBoard,a19,iF19,kcXBoard⟩,ke F19 T BC DB2,LL X G aCBoard,b19⟩;have C__law_at:=mC l.prog w base X G a20 F20 b20 (pz F20 T);have C__law_side:=mC l.prog w base X G a22 F22 b22 (mh F22 T);have A1:L1 l.prog w K mg base:=⟨C__law_at⟩;have C__law_holes:=mC l.prog w base X G a23 F23 b23 (ka F23 T A1);have XC:PySem.W.ExcC K cBadGame:=⟨xga,xgh,xha,xhn,xtk,xhm,xhb,pS xhm⟩;have AL:AlC mg K cBadGame false true false false false false false false false:=⟨XC,⟨_,LL X G aEBadBoard,xkBadBoard⟩,⟨_,LL X G aEBadGame,xkBadGame⟩,⟨_,LL X G aEBadLine,xkBadLine⟩,⟨_,LL X G aEBadPlace,xkBadPlace⟩,⟨_,LL X G aENoMove,xkNoMove⟩,⟨_,LL X G aETooWide,xkTooWide⟩,⟨_,LL X G aENoWord,xkNoWord⟩,⟨_,LL X G aEOver,xkOver⟩,⟨_,LL X G aENothingBack,xkNothingBack⟩,xv,rfl⟩;have N__law_word:CQ l.prog w K mg base "_law_word" _ _ _:=⟨f21,_,mf F21 T AL,LL X G a21,F21.kp,b21⟩;have C__law_said:=mC l.prog w base X G a30 F30 b30 (mi F30 T (LL X G aEPlayError) xem ⟨X_Game,N__law_word⟩);have C__law_kinds:=mC l.prog w base X G a24 F24 b24 (j9 F24 T A1);have C__law_rule:=mC l.prog w base X G a25 F25 b25 (mj F25 T);have C__law_rules:=mC l.prog w base X G a26 F26 b26 (j5 F26 T {toL1:=A1,_law_rule:=C__law_rule});have C__law_turns:=mC l.prog w base X G a27 F27 b27 (j4 F27 T A1);have C__law_ends:=mC l.prog w base X G a28 F28 b28 (ml F28 T A1);have C__law_parts:=mC l.prog w base X G a34 F34 b34 (j7 F34 T ⟨C__law_kinds,C__law_rules,C__law_turns,C__law_ends⟩);have C__law_bent:=mC l.prog w base X G a29 F29 b29 (mm F29 T);have C__law_turned:=mC l.prog w base X G a31 F31 b31 (jC F31 T);have C__law_lists:=mC l.prog w base X G a32 F32 b32 (j8 F32 T);have C__law_right:=mC l.prog w base X G a33 F33 b33 (j6 F33 T GC BC ⟨C__law_lists,C__law_turned,C_Game_rules_of,C_Game_turned⟩);have C:CL l.prog w K mg base cBoard cGame:={_law_at:=C__law_at,_law_side:=C__law_side,_law_holes:=C__law_holes,_law_parts:=C__law_parts,_law_bent:=C__law_bent,_law_said:=C__law_said,_law_right:=C__law_right,Board:=C_Board,Game:=C_Game};exact B0 F35 T C
theorem walk {l:PySem.W.OpenLaw}{q:Program}{loose:List Str}{XP:(Str->Option Value)->Heap->Prop}{YP:World->Heap->Prop}{d:DefRec}{K:Params->Frag}(hn:l.most=some 63) (hdf:d.params.defaults=[])
  (hY:∀(w:World) (h:Heap),YP w h->(K w.params).In h)
  (F:∀(w:World) (mg:Str->Option Value) (fa:Addr) (h:Heap),(K w.params).In h->h.Ns mainGlobals mg->mg d.name=some (.ref fa)->
   ∃fd:FuncData,(∀(s:Shared) (u:Value),BindsTo s fd ⟨[u],[]⟩ [("_law_script",u)])/\∀base:Heap,(K w.params).In base->base.Ns mainGlobals mg->bz l.prog w (K w.params) mg base eP 9 fa fd ["_law_script"] (qo (K w.params))):
  PySem.W.WalkO q loose XP YP l.row.toRowW d [] (λ f vs=>PySem.call f vs):=
 L2.vR (n:=63) (k:=9) (x:="_law_script") (CX:=λ _=>eP) (sp:=λ w=>qo (K w.params)) hn (by decide) hdf ⟨rfl,by decide,by decide⟩ hY F (λ _ _ a ns hl _ hS=>⟨a,ns,rfl,hS,hl,λ _=>rfl⟩) λ _ _ _ _ _ z=>z
end K06
open PySem PySem.W PyProof.Rows
set_option maxRecDepth 100000 in
set_option maxHeartbeats 0 in
theorem PySem.Challenge.cw_playboard_k06_games_holds : PySem.Challenge.rw_playboard_k06_games.Holds := by
 w_on
 o_law
 refine PySem.W.holds_openX (q:=K06.hQ) (loose:=[]) (Xt:=K06.hX) (XP:=PySem.W.XL K06.hQ []) (Yf:=L2.qP K06.hA) (Ya:=L2.qO K06.hK) K06.hleft (λ s e=>PySem.W.xl_of s (Lz.mp e).1) PySem.W.XL.keeps (by rfl) (by rfl) (by rfl) (λ s e=>PySem.W.recFacts_of (Lz.mp e).2) (by rfl) (by first | assumption | decide+kernel) (by decide+kernel) ⟨rfl,rfl,rfl,rfl,rfl,by decide+kernel⟩ ?hw ?hc
 (case hw=>w_witness2)
 k_fill
 refine L2.tD (L2.G0 (λ _=>by kernel_rfl)) ?_;refine K06.walk (l:=PySem.Challenge.rw_playboard_k06_games) rfl rfl (λ w h Y=>Y) ?F
 case F=>
  intro w mg fa h KX G hmg
  refine' K06.all_mk KX G hmg ?aCBoard ?aCGame ?aEPlayError ?aEBadBoard ?aEBadGame ?aEBadLine ?aEBadPlace ?aENoMove ?aETooWide ?aENoWord ?aEOver ?aENothingBack ?a1 ?F1 ?a2 ?F2 ?a3 ?F3 ?a4 ?F4 ?a5 ?F5 ?a6 ?F6 ?a7 ?F7 ?a8 ?F8 ?a9 ?F9 ?a10 ?F10 ?a11 ?F11 ?a12 ?F12 ?a13 ?F13 ?a14 ?F14 ?a15 ?iF15 ?F15 ?a16 ?iF16 ?F16 ?a17 ?iF17 ?F17 ?a18 ?F18 ?a19 ?iF19 ?F19 ?a20 ?F20 ?a21 ?F21 ?a22 ?F22 ?a23 ?F23 ?a24 ?F24 ?a25 ?F25 ?a26 ?F26 ?a27 ?F27 ?a28 ?F28 ?a29 ?F29 ?a30 ?F30 ?a31 ?F31 ?a32 ?F32 ?a33 ?F33 ?a34 ?F34 ?a35 ?l35 ?c35 ?k35 ?pgXBoard ?hdXBoard ?poXBoard ?saXBoard ?mkXBoard ?kcXBoard ?naBoardwide ?naBoardhigh ?naBoardholes ?naBoardfirm ?pgXGame ?hdXGame ?poXGame ?saXGame ?mkXGame ?kcXGame ?naGameboard ?naGamekinds ?naGamerules ?naGameturns ?naGameends ?naGamestuck ?xq ?xga ?xgh ?xha ?xhn ?xtk ?xhm ?xhb ?xem ?xv ?xkBadBoard ?xkBadGame ?xkBadLine ?xkBadPlace ?xkNoMove ?xkTooWide ?xkNoWord ?xkOver ?xkNothingBack ?z0 ?z1 ?z2 ?z3 ?z4 ?z5 ?z6 ?z7 ?z8 ?z9 ?z10 ?z11 ?z12 ?z13 ?z14 ?z15 ?z16 ?kg0 ?rv0 ?kg1 ?rv1 ?kg2 ?rv2 ?kg3 ?rv3 ?kt0 ?lt0 ?ctp0 ?zt0 ?vt0 ?kt1 ?lt1 ?ctp1 ?zt1 ?vt1 ?kt2 ?lt2 ?ctp2 ?zt2 ?vt2 ?kt3 ?lt3 ?ctp3 ?zt3 ?vt3
  (case aCBoard=>k_is)
  (case aCGame=>k_is)
  (case aEPlayError=>k_is)
  (case aEBadBoard=>k_is)
  (case aEBadGame=>k_is)
  (case aEBadLine=>k_is)
  (case aEBadPlace=>k_is)
  (case aENoMove=>k_is)
  (case aETooWide=>k_is)
  (case aENoWord=>k_is)
  (case aEOver=>k_is)
  (case aENothingBack=>k_is)
  (case a1=>k_is)
  (case F1=>exact L2.aZ (by k_is) (by k_is) (by k_is))
  (case a2=>k_is)
  (case F2=>exact L2.aZ (by k_is) (by k_is) (by k_is))
  (case a3=>k_is)
  (case F3=>exact L2.aZ (by k_is) (by k_is) (by k_is))
  (case a4=>k_is)
  (case F4=>exact L2.aZ (by k_is) (by k_is) (by k_is))
  (case a5=>k_is)
  (case F5=>exact L2.aZ (by k_is) (by k_is) (by k_is))
  (case a6=>k_is)
  (case F6=>exact L2.aZ (by k_is) (by k_is) (by k_is))
  (case a7=>k_is)
  (case F7=>exact L2.aZ (by k_is) (by k_is) (by k_is))
  (case a8=>k_is)
  (case F8=>exact L2.aZ (by k_is) (by k_is) (by k_is))
  (case a9=>k_is)
  (case F9=>exact L2.aZ (by k_is) (by k_is) (by k_is))
  (case a10=>k_is)
  (case F10=>exact L2.aZ (by k_is) (by k_is) (by k_is))
  (case a11=>k_is)
  (case F11=>exact L2.aZ (by k_is) (by k_is) (by k_is))
  (case a12=>k_is)
  (case F12=>exact L2.aZ (by k_is) (by k_is) (by k_is))
  (case a13=>k_is)
  (case F13=>exact L2.aZ (by k_is) (by k_is) (by k_is))
  (case a14=>k_is)
  (case F14=>exact L2.aZ (by k_is) (by k_is) (by k_is))
  (case a15=>k_is)
  (case iF15=>k_is)
  (case F15=>exact L2.aZ (by k_is) (by k_is) (by k_is))
  (case a16=>k_is)
  (case iF16=>k_is)
  (case F16=>exact L2.aZ (by k_is) (by k_is) (by k_is))
  (case a17=>k_is)
  (case iF17=>k_is)
  (case F17=>exact L2.aZ (by k_is) (by k_is) (by k_is))
  (case a18=>k_is)
  (case F18=>exact L2.aZ (by k_is) (by k_is) (by k_is))
  (case a19=>k_is)
  (case iF19=>k_is)
  (case F19=>exact L2.aZ (by k_is) (by k_is) (by k_is))
  (case a20=>k_is)
  (case F20=>exact L2.aZ (by k_is) (by k_is) (by k_is))
  (case a21=>k_is)
  (case F21=>exact L2.aZ (by k_is) (by k_is) (by k_is))
  (case a22=>k_is)
  (case F22=>exact L2.aZ (by k_is) (by k_is) (by k_is))
  (case a23=>k_is)
  (case F23=>exact L2.aZ (by k_is) (by k_is) (by k_is))
  (case a24=>k_is)
  (case F24=>exact L2.aZ (by k_is) (by k_is) (by k_is))
  (case a25=>k_is)
  (case F25=>exact L2.aZ (by k_is) (by k_is) (by k_is))
  (case a26=>k_is)
  (case F26=>exact L2.aZ (by k_is) (by k_is) (by k_is))
  (case a27=>k_is)
  (case F27=>exact L2.aZ (by k_is) (by k_is) (by k_is))
  (case a28=>k_is)
  (case F28=>exact L2.aZ (by k_is) (by k_is) (by k_is))
  (case a29=>k_is)
  (case F29=>exact L2.aZ (by k_is) (by k_is) (by k_is))
  (case a30=>k_is)
  (case F30=>exact L2.aZ (by k_is) (by k_is) (by k_is))
  (case a31=>k_is)
  (case F31=>exact L2.aZ (by k_is) (by k_is) (by k_is))
  (case a32=>k_is)
  (case F32=>exact L2.aZ (by k_is) (by k_is) (by k_is))
  (case a33=>k_is)
  (case F33=>exact L2.aZ (by k_is) (by k_is) (by k_is))
  (case a34=>k_is)
  (case F34=>exact L2.aZ (by k_is) (by k_is) (by k_is))
  (case a35=>k_is)
  (case l35=>k_is)
  (case c35=>k_is)
  (case k35=>k_is)
  (case pgXBoard=>k_is)
  (case hdXBoard=>k_is)
  (case poXBoard=>k_is)
  (case saXBoard=>k_is)
  (case mkXBoard=>k_is)
  (case kcXBoard=>k_is)
  (case naBoardwide=>k_is)
  (case naBoardhigh=>k_is)
  (case naBoardholes=>k_is)
  (case naBoardfirm=>k_is)
  (case pgXGame=>k_is)
  (case hdXGame=>k_is)
  (case poXGame=>k_is)
  (case saXGame=>k_is)
  (case mkXGame=>k_is)
  (case kcXGame=>k_is)
  (case naGameboard=>k_is)
  (case naGamekinds=>k_is)
  (case naGamerules=>k_is)
  (case naGameturns=>k_is)
  (case naGameends=>k_is)
  (case naGamestuck=>k_is)
  (case xq=>kernel_rfl)
  (case xga=>k_is)
  (case xgh=>k_is)
  (case xha=>k_is)
  (case xhn=>k_is)
  (case xtk=>k_is)
  (case xhm=>k_is)
  (case xhb=>k_is)
  (case xem=>kernel_rfl)
  (case xv=>kernel_rfl)
  (case xkBadBoard=>kernel_rfl)
  (case xkBadGame=>kernel_rfl)
  (case xkBadLine=>kernel_rfl)
  (case xkBadPlace=>kernel_rfl)
  (case xkNoMove=>kernel_rfl)
  (case xkTooWide=>kernel_rfl)
  (case xkNoWord=>kernel_rfl)
  (case xkOver=>kernel_rfl)
  (case xkNothingBack=>kernel_rfl)
  (case z0=>k_is)
  (case z1=>k_is)
  (case z2=>k_is)
  (case z3=>k_is)
  (case z4=>k_is)
  (case z5=>k_is)
  (case z6=>k_is)
  (case z7=>k_is)
  (case z8=>k_is)
  (case z9=>k_is)
  (case z10=>k_is)
  (case z11=>k_is)
  (case z12=>k_is)
  (case z13=>k_is)
  (case z14=>k_is)
  (case z15=>k_is)
  (case z16=>k_is)
  (case kg0=>k_is)
  (case rv0=>exact ⟨_,rfl⟩)
  (case kg1=>k_is)
  (case rv1=>exact ⟨_,rfl⟩)
  (case kg2=>k_is)
  (case rv2=>exact ⟨_,rfl⟩)
  (case kg3=>k_is)
  (case rv3=>exact ⟨_,rfl⟩)
  (case kt0=>k_is)
  (case lt0=>k_is)
  (case ctp0=>rfl)
  (case zt0=>decide)
  (case vt0=>exact .cons ⟨_,rfl⟩ (.cons ⟨_,rfl⟩ (.cons ⟨_,rfl⟩ (.nil))))
  (case kt1=>k_is)
  (case lt1=>k_is)
  (case ctp1=>rfl)
  (case zt1=>decide)
  (case vt1=>exact .cons ⟨_,rfl⟩ (.cons ⟨_,rfl⟩ (.cons ⟨_,rfl⟩ (.nil))))
  (case kt2=>k_is)
  (case lt2=>k_is)
  (case ctp2=>rfl)
  (case zt2=>decide)
  (case vt2=>exact .cons ⟨_,rfl⟩ (.cons ⟨_,rfl⟩ (.nil)))
  (case kt3=>k_is)
  (case lt3=>k_is)
  (case ctp3=>rfl)
  (case zt3=>decide)
  (case vt3=>exact .cons ⟨_,rfl⟩ (.cons ⟨_,rfl⟩ (.cons ⟨_,rfl⟩ (.nil))))
