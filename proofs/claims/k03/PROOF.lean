import PyProof.Rows.All
import Wide.All
import OpenK.AllK
import Wide.FinOn
import Lean
import PyProof.EqAt
import PyProof.EqKinds
import PyProof.TupleCall
import KE.KIntText
import KE.IntTextLaws
import KE.IntText
import KE.KRevIter
import KE.KEqDict
import PyProof.ZipIter
import PyProof.Draws
import PyProof.EnumMake
import PyProof.ListStr
import PyProof.Seq
import PyProof.TupleIter
import PyProof.StationsW
import PyProof.Rows.Catch
import PyProof.ToksMono
import PyProof.Rows.TupIter
import PyProof.AttrMissHeap
import KE.KDictOf
import PyProof.SetScanFacts
import PyProof.SetKind
import PyProof.CollectWalk
import PyProof.FactsAll.set
import PyProof.StrLoop
import PyProof.TupleKey
import KE.KSortTup
import PyProof.Rows.SortWalk
import PyProof.Rows.SortStr
import PyProof.NeKinds
import PyProof.ListRange
import OpenK.ZGo
import PySem.Challenge.RW_playboard_k03_boards
set_option Elab.async false
set_option linter.all false
open List renaming length_map → CZ, mem_cons → C1, size_toArray → C2, mem_cons_self → C3, getElem?_eq_getElem → C4, mem_append_right → C5, mem_map → C6, mem_cons_of_mem → C7, all_cons → C8, mem_singleton → C9, not_mem_nil → Da, getElem?_map → Db, length_append → Dc, append_nil → Dd, mem_append → De, mem_of_getElem? → Df, length_range → Dg, length_cons → Dh, map_map → Di, lookup_cons → Dj, getElem?_eq_some_iff → Dk, mem_filterMap → Dl, length_take → Dm, all_eq_true → Dn, getD_eq_getElem?_getD → Do, map_congr_left → Dp, map_append → Dq, mem_range → Dr, map_cons → Ds, nodup_cons → Dt, take_of_length_le → Du, getElem?_range → Dv, filterMap_cons → Dw, of_mem_zip → Dx, length_drop → Dy, length_filter_le → Dz, filter_eq_self → DA, length_singleton → DB, drop_zero → DC, nodup_append → DD, any_eq_true → DE, map_id → DF, mem_append_left → DG, getElem?_set_self → DH, getElem?_set_ne → DI, any_eq_false → DJ, getElem?_replicate → DK, getElem?_eq_none → DL, filter_congr → DM, getElem?_cons_zero → DN, getElem?_cons_succ → DO, set_cons_zero → DP, set_cons_succ → DQ, pairwise_cons → DR
open Nat renaming le_refl → DS, ne_of_lt → DT, le_trans → DU, zero_le → DV, lt_of_lt_of_le → DW, le_succ → DX, lt_irrefl → DY, ne_of_gt → DZ, le_of_eq → D0, lt_succ_self → D4, le_of_lt → D5, succ_ne_self → D6, le_of_ble_eq_true → D7
open Int renaming mul_le_mul → D8, emod_nonneg → D9, emod_lt_of_pos → Ea, toNat_natCast → Eb, mul_comm → Ec, zero_add → Ed
open Bool renaming false_ne_true → Ee, and_eq_true → Ef, eq_iff_iff → Eg, false_eq_true → Eh, and_false → Ei, not_eq_true' → Ej, and_eq_true_iff → Ek, or_eq_false_iff → Em, not_eq_false' → En
open Array renaming length_toList → Eo, getElem?_eq_some_iff → Ep, getElem?_toList → Er
open Option renaming map_eq_some_iff → Es, isSome_iff_exists → Et, getD_none → Eu
open PySem.W renaming nsIn → Ew, kitOne → Ex, findIn → Ey, mg_of → Ez, mg_none_of → EA, kia_one → EB, topRun → EC, emptyDict → ED, keepIn → EE, fnOf → EF, instObj → EG, isFn → EH, hideAll_get → EI, plainGet → EJ, mroIn → EK, callWith_K → EL, excIn → EM, exmOne → EN, lookIn → EO, hasDictIn → EQ, codeIn → ER, boot_heap → ES, methodObj → ET, plainGet_of → EU, plainOver → EV, takerIn → EW, makesIn → EX, cellsFrom_some → EY, doneF → EZ, hideAll → E1, of_hideAll → E2, handedIn → E3, specialIn → E4, takesIn → E5, kitx_list → E6, kitx_dict → E7, codeRec_of → E8, methodCall_KW → E9, boot_o_2 → Fa, topStub → Fb, segRun → Fc, blockOf → Fd, restOf → Fe
open PySem.W (Frag)
set_option maxRecDepth 100000
set_option maxHeartbeats 4000000
namespace L2
open PySem PySem.Spec PyProof.Rows
abbrev Key:=Sum Int Str
def vX:Key->Value->Bool
 | .inl k,v=>Value.isInt k v
 | .inr x,v=>Value.isStrOf x v
def CD (w:World):Key->Int
 | .inl k=>hashInt k
 | .inr x=>hashStr w x
theorem bw:∀{k:Key}{v:Value},vX k v=true->(∃i t,k=Sum.inl i/\v=Value.int i t)\/(∃x t,k=Sum.inr x/\v=Value.str x t)
 | .inl i,v,h=>by obtain ⟨t,e⟩:=Value.isInt_shape (k:=i) (v:=v) h;exact .inl ⟨i,t,rfl,e⟩
 | .inr x,v,h=>by obtain ⟨t,e⟩:=Value.isStrOf_shape (x:=x) (v:=v) h;exact .inr ⟨x,t,rfl,e⟩
theorem wX (a b:Int):decide ((Sum.inl a:Key)=Sum.inl b)=(a == b):=by
 by_cases e:a=b
 ·subst e;simp
 ·have h:¬(Sum.inl a:Key)=Sum.inl b:=λ q=>e (Sum.inl.inj q);rw [decide_eq_false h];exact (beq_eq_false_iff_ne.mpr e).symm
theorem wU (a b:Str):decide ((Sum.inr a:Key)=Sum.inr b)=decide (a=b):=by
 by_cases e:a=b
 ·subst e;simp
 ·have h:¬(Sum.inr a:Key)=Sum.inr b:=λ q=>e (Sum.inr.inj q);rw [decide_eq_false h,decide_eq_false e]
theorem wW (a:Int) (b:Str):decide ((Sum.inl a:Key)=Sum.inr b)=false:=decide_eq_false (λ q=>nomatch q)
theorem wV (a:Str) (b:Int):decide ((Sum.inr a:Key)=Sum.inl b)=false:=decide_eq_false (λ q=>nomatch q)
def mq (prog:Program) (w:World):PySem.KeyKind prog w Key where
 is:=vX
 hash:=CD w
 inj:=λ v a b ha hb=>by
  rcases bw ha with ⟨i,t,rfl,rfl⟩ | ⟨x,t,rfl,rfl⟩
  ·rcases bw hb with ⟨j,u,rfl,e⟩ | ⟨y,u,rfl,e⟩
   ·injection e with e1 _;rw [e1]
   ·exact nomatch e
  ·rcases bw hb with ⟨j,u,rfl,e⟩ | ⟨y,u,rfl,e⟩
   ·exact nomatch e
   ·injection e with e1 _;rw [e1]
 byValue:=λ k v h=>by
   rcases bw h with ⟨i,t,rfl,rfl⟩ | ⟨x,t,rfl,rfl⟩<;>rfl
 pyHash:=λ hv h=>by
  rcases bw hv with ⟨i,t,rfl,rfl⟩ | ⟨x,t,rfl,rfl⟩
  ·exact wpAny_pyHash_int h
  ·exact wpAny_pyHash_str h
 eqBool:=λ hu hv h=>by
  rcases bw hu with ⟨i,t,rfl,rfl⟩ | ⟨x,t,rfl,rfl⟩
  ·rcases bw hv with ⟨j,u,rfl,rfl⟩ | ⟨y,u,rfl,rfl⟩
   ·rw [wX] at h;exact wpAny_eqBool_int h
   ·rw [wW] at h;exact SeqAt.EqAt.int_str i t y u _ _ _ _ h
  ·rcases bw hv with ⟨j,u,rfl,rfl⟩ | ⟨y,u,rfl,rfl⟩
   ·rw [wV] at h;exact SeqAt.EqAt.str_int x t j u _ _ _ _ h
   ·rw [wU] at h;exact wpAny_eqBool_str h
 «strs» :=λ k x t v h=>by
  rcases bw h with ⟨i,u,rfl,e⟩ | ⟨y,u,rfl,e⟩
  ·exact nomatch e
  ·injection e with e1 _;subst e1;cases v<;>rfl
end L2
namespace L2
open PySem PySem.Spec PyProof.Rows
inductive V where
 | non | bl (b:Bool) | int (i:Int) | str (x:Str) | byt (b:Array UInt8) | flt (b:UInt64) | ref (a:Addr) | ty (n:String)
 deriving DecidableEq
def aK:V->Value->Prop
 | .non,u=>u=Value.none
 | .bl b,u=>u=Value.bool b
 | .int i,u=> ∃t,u=Value.int i t
 | .str x,u=> ∃t,u=Value.str x t
 | .byt b,u=> ∃t,u=Value.bytes b t
 | .flt b,u=> ∃t,u=Value.float b t
 | .ref a,u=>u=Value.ref a
 | .ty n,u=>u=Value.type n
abbrev aF:List V->List Value->Prop:=Paired aK
theorem aF.length {xs:List V}{us:List Value}(r:aF xs us):xs.length=us.length:=Paired.length r
theorem aF.get:∀{xs:List V}{us:List Value}{i:Nat}{x:V},aF xs us->xs[i]? =some x->∃u,us[i]? =some u/\aK x u
 | _,_,_,_,.nil,e=>by simp at e
 | _,_,0,_,.cons r _,e=>by simp at e;subst e;exact ⟨_,rfl,r⟩
 | _,_,i+1,x,.cons _ t,e=>by obtain ⟨u,h1,h2⟩:=aF.get (i:=i) (x:=x) t (by simpa using e);exact ⟨u,by simpa using h1,h2⟩
theorem aF.set {x:V}{u:Value}(r:aK x u):∀{xs:List V}{us:List Value}(i:Nat),aF xs us->aF (xs.set i x) (us.set i u)
 | _,_,_,.nil=>.nil
 | _,_,0,.cons _ t=>.cons r t
 | _,_,i+1,.cons q t=>.cons q (aF.set r i t)
theorem aF.append:∀{xs ys:List V}{us ws:List Value},aF xs us->aF ys ws->aF (xs++ys) (us++ws)
 | _,_,_,_,.nil,s=>s
 | _,_,_,_,.cons r t,s=>.cons r (aF.append t s)
theorem aF.take:∀{xs:List V}{us:List Value}(n:Nat),aF xs us->aF (xs.take n) (us.take n)
 | _,_,0,_=>.nil
 | _,_,_+1,.nil=>.nil
 | _,_,n+1,.cons r t=>.cons r (aF.take n t)
theorem aF.drop:∀{xs:List V}{us:List Value}(n:Nat),aF xs us->aF (xs.drop n) (us.drop n)
 | _,_,0,r=>r
 | _,_,_+1,.nil=>.nil
 | _,_,n+1,.cons _ t=>aF.drop n t
def ip:Option V->Option Value->Prop
 | some v,some u=>aK v u
 | none,none=>True
 | _,_=>False
def KV {κ:Type}:List (κ×V)->List (κ×Value)->Prop:=Paired λ (p:κ×V) (q:κ×Value)=>p.1=q.1/\aK p.2 q.2
def kV:Key->V
 | .inl i=>.int i
 | .inr x=>.str x
inductive HO where
 | lst (xs:List V)
 | tup (xs:List V)
 | dK (kvs:List (Key×V)) | dT (kvs:List (List Key×V))
 | set (S:Int->Bool) (n:Nat)
 | ins (C dx:Addr) (fs:List (Str×V))
 | own (x:Addr)
 | xd (fs:List (Str×V))
 | met (f x:Addr)
 | rng (lo hi:Int)
 | frz (o:Obj) (u:HO)
 | tbl (ps:Array Value)
 | ext (φ:Heap->Prop)
abbrev Hp:=Addr->Option HO
def upd (H:Hp) (a:Addr) (o:HO):Hp:=λ b=>if b=a then some o else H b
theorem ac {H:Hp}{a:Addr}{o:HO}:upd H a o a=some o:=by unfold upd;rw [if_pos rfl]
theorem ak {H:Hp}{a b:Addr}{o:HO}(h:b≠a):upd H a o b=H b:=by unfold upd;rw [if_neg h]
theorem aj {H:Hp}{a b:Addr}{o:HO}(h:H a=some o) (h':H b=none):a≠b:=by intro e;subst e;rw [h] at h';cases h'
section
variable (P:Program) (w:World)
def bi (H:Hp) (h:Heap) (a:Addr):HO->Prop
 | .lst xs=>xs.length<=sizeLine/\∃(its:List Value) (n:Nat),aF xs its/\h.get? a=some {cls:=.type "list",data:=.seq its.toArray n}
 | .tup xs=>xs.length<=sizeLine/\∃its:List Value,aF xs its/\IsTup h a its.toArray
 | .dK kvs=>kvs.length<=sizeLine/\(a == sysModules)=false/\∃vs,KV kvs vs/\h.DictOf (mq P w) a vs
 | .dT kvs=>kvs.length<=sizeLine/\(a == sysModules)=false/\∃xs:List (List Key×Addr×Value),
   Paired (λ (p:List Key×V) (q:List Key×Addr×Value)=>p.1=q.1/\H q.2.1=some (.tup (p.1.map kV))/\aK p.2 q.2.2) kvs xs/\
   ∃o es ep,h.get? a=some o/\o.ExactDict/\o.data=.dict es ep/\es.toList=xs.map (entryOfKey (tupleKind (mq P w)))/\(xs.map (·.1)).Nodup
 | .set S n=>h.SetOf (intKind P w) a S n
 | .ins C dx fs=>H dx=some (.own a)/\fs.length<=1000/\dx≠a/\h.get? a=some (EG C dx)/\
   ∃mA,h.Ns1 dx mA/\(∀f,ip (fs.lookup f) (mA f))/\PySem.Within mA (fs.map (·.1))
 | .own _=> ∃o,h.get? a=some o
 | .xd fs=> ∃mA,h.Ns1 a mA/\∀f,ip (fs.lookup f) (mA f)
 | .rng lo hi=> ∃t u v,h.get? a=some {cls:=.type "range",data:=.fields #[.int lo t,.int hi u,.int 1 v]}
 | .frz o u=>h.get? a=some o/\bi H h a u
 | .tbl ps=>h.get? a=some {cls:=.none,data:=.fields ps}
 | .met f x=>h.get? a=some (ET (.ref f) (.ref x))
 | .ext φ=>φ h/\(∃o,h.get? a=some o)/\∀h1 h2:Heap,φ h1->(∀o,h1.get? a=some o->h2.get? a=some o)->φ h2
def gi (H:Hp) (h:Heap):Prop:= ∀a o,H a=some o->bi P w H h a o
end
section
variable {P:Program}{w:World}{H H':Hp}{h h':Heap}{a:Addr}{o:HO}
theorem bi.lt (x:bi P w H h a o):a<h.objs.size:=by
 cases o with
 | lst xs=>obtain ⟨_,_,_,_,e⟩:=x;exact Heap.lt_size e
 | tup xs=>obtain ⟨_,_,_,p⟩:=x;exact p.lt
 | dK kvs=>obtain ⟨_,_,_,_,o,_,_,e,_⟩:=x;exact Heap.lt_size e
 | dT kvs=>obtain ⟨_,_,_,_,o,_,_,e,_⟩:=x;exact Heap.lt_size e
 | set S n=>obtain ⟨o,_,_,_,e,_⟩:=x;exact Heap.lt_size e
 | ins C dx fs=>obtain ⟨_,_,_,e,_⟩:=x;exact Heap.lt_size e
 | own y=>obtain ⟨_,e⟩:=x;exact Heap.lt_size e
 | xd fs=>obtain ⟨_,⟨_,_,_,e,_⟩,_⟩:=x;exact Heap.lt_size e
 | rng lo hi=>obtain ⟨_,_,_,e⟩:=x;exact Heap.lt_size e
 | frz ob u=>obtain ⟨e,_⟩:=x;exact Heap.lt_size e
 | tbl ps=>exact Heap.lt_size (show h.get? a=some _ from x)
 | met f y=>exact Heap.lt_size (show h.get? a=some _ from x)
 | ext φ=>obtain ⟨_,⟨_,e⟩,_⟩:=x;exact Heap.lt_size e
theorem Paired.mapP {α β:Type}{F G:α->β->Prop}:∀{l₁:List α}{l₂:List β},Paired F l₁ l₂->(∀a b,F a b->G a b)->Paired G l₁ l₂
 | _,_,.nil,_=>.nil
 | _,_,.cons r t,f=>.cons (f _ _ r) (Paired.mapP t f)
theorem bi.stay (x:bi P w H h a o) (k:∀b u,(b=a\/H b=some (.own a))->h.get? b=some u->h'.get? b=some u)
  (ho:∀b,H b=some (.own a)->H' b=some (.own a)) (ht:∀b xs,H b=some (.tup xs)->H' b=some (.tup xs)):bi P w H' h' a o:=by
 induction o with
 | lst xs=>obtain ⟨z,its,n,r,e⟩:=x;exact ⟨z,its,n,r,k _ _ (.inl rfl) e⟩
 | tup xs=>obtain ⟨z,its,r,ob,e,c⟩:=x;exact ⟨z,its,r,ob,k _ _ (.inl rfl) e,c⟩
 | dK kvs=>obtain ⟨z,y,vs,r,ob,es,ep,e,c⟩:=x;exact ⟨z,y,vs,r,ob,es,ep,k _ _ (.inl rfl) e,c⟩
 | dT kvs=>
   obtain ⟨z,y,xs,r,ob,es,ep,e,c⟩:=x;exact ⟨z,y,xs,Paired.mapP r λ p q z=>⟨z.1,ht _ _ z.2.1,z.2.2⟩,ob,es,ep,k _ _ (.inl rfl) e,c⟩
 | set S n=>obtain ⟨ob,es,ep,t,e,c⟩:=x;exact ⟨ob,es,ep,t,k _ _ (.inl rfl) e,c⟩
 | ins C dx fs=>
   obtain ⟨d,z,ne,e,mA,⟨od,es,ep,e2,c⟩,r⟩:=x;exact ⟨ho _ d,z,ne,k _ _ (.inl rfl) e,mA,⟨od,es,ep,k _ _ (.inr d) e2,c⟩,r⟩
 | own y=>obtain ⟨ob,e⟩:=x;exact ⟨ob,k _ _ (.inl rfl) e⟩
 | xd fs=>obtain ⟨mA,⟨od,es,ep,e,c⟩,r⟩:=x;exact ⟨mA,⟨od,es,ep,k _ _ (.inl rfl) e,c⟩,r⟩
 | rng lo hi=>obtain ⟨t,u,v,e⟩:=x;exact ⟨t,u,v,k _ _ (.inl rfl) e⟩
 | frz ob u ih=>obtain ⟨e,q⟩:=x;exact ⟨k _ _ (.inl rfl) e,ih q⟩
 | tbl ps=>
   have e:h.get? a=some {cls:=.none,data:=.fields ps}:=x;show h'.get? a=some {cls:=.none,data:=.fields ps};exact k a _ (.inl rfl) e
 | met f y=>
   have e:h.get? a=some (ET (.ref f) (.ref y)):=x;show h'.get? a=some (ET (.ref f) (.ref y));exact k a _ (.inl rfl) e
 | ext φ=>obtain ⟨p,⟨o,e⟩,st⟩:=x;exact ⟨st _ _ p λ o q=>k _ _ (.inl rfl) q,⟨o,k _ _ (.inl rfl) e⟩,st⟩
theorem gi.lt (x:gi P w H h) (e:H a=some o):a<h.objs.size:=(x a o e).lt
theorem gi.fresh (x:gi P w H h) (e:h.objs.size<=a):H a=none:=by
 cases q:H a with
 | none=>rfl
 | some u=>exact absurd (DW (x.lt q) e) (DY _)
theorem gi.kept (x:gi P w H h) (k:∀b u,h.get? b=some u->h'.get? b=some u):gi P w H h':=λ a o e=>
 (x a o e).stay (λ b u _ q=>k b u q) (λ _ q=>q) λ _ _ q=>q
theorem gi.laid (x:gi P w H h) (k:∀b u,h.get? b=some u->h'.get? b=some u) (hp:h.objs.size<=a) (new:bi P w (upd H a o) h' a o):gi P w (upd H a o) h':=λ b u e=>by
 have hn:=x.fresh hp
 by_cases hb:b=a
 ·subst hb;rw [ac] at e;cases e;exact new
 ·rw [ak hb] at e;exact (x b u e).stay (λ c v _ q=>k c v q) (λ c q=>by rw [ak (aj q hn)];exact q) λ c xs q=>by rw [ak (aj q hn)];exact q
end
def Rd (H:Hp) (a:Addr) (u:HO):Prop:=H a=some u\/∃o,H a=some (.frz o u)
theorem Rd.ok {P:Program}{w:World}{H:Hp}{h:Heap}{a:Addr}{u:HO}(r:Rd H a u) (x:gi P w H h):bi P w H h a u:=by
 rcases r with r | ⟨o,r⟩
 ·exact x a u r
 ·obtain ⟨_,q⟩:=x a _ r;exact q
def Bm:Option HO->Prop
 | some (.lst _)=>True
 | some (.dK _)=>True
 | some (.dT _)=>True
 | some (.set _ _)=>True
 | some (.ins _ _ _)=>True
 | some (.ext _)=>True
 | _=>False
section
variable {P:Program}{w:World}{H:Hp}{h h':Heap}{x e:Addr}{o':HO}
theorem gi.write (ok:gi P w H h) (mu:Bm (H x)) (he:e=x\/H e=some (.own x)) (k:∀b u,b≠e->h.get? b=some u->h'.get? b=some u) (heo:∃u,h'.get? e=some u)
  (new:bi P w (upd H x o') h' x o'):gi P w (upd H x o') h':=λ b u q=>by
 have nown:∀c y,H c=some (.own y)->c≠x:=λ c y r z=>by subst z;rw [r] at mu;exact mu
 have ntup:∀c xs,H c=some (.tup xs)->c≠x:=λ c xs r z=>by subst z;rw [r] at mu;exact mu
 by_cases hb:b=x
 ·subst hb;rw [ac] at q;cases q;exact new
 ·rw [ak hb] at q
  by_cases hbe:b=e
  ·have q':H b=some (.own x):=by
    rcases he with z | z
    ·exact absurd (hbe.trans z) hb
    ·rw [hbe];exact z
   rw [q] at q';cases q';obtain ⟨v,hv⟩:=heo;exact ⟨v,by rw [hbe];exact hv⟩
  ·refine (ok b u q).stay (λ c v hc r=>k c v ?_ r) (λ c r=>by rw [ak (nown c b r)];exact r) λ c xs r=>by rw [ak (ntup c xs r)];exact r
   rcases hc with rfl | hc
   ·exact hbe
   ·rintro rfl
    rcases he with z | z
    ·exact nown c b hc z
    ·rw [hc] at z;cases z;exact hb rfl
end
structure Un (fs ex:List Addr) (H H':Hp) (h h':Heap):Prop where
 keep:∀b o,h.get? b=some o->H b=none->b∉fs->b∉ex->h'.get? b=some o
 slot:∀b o,h.get? b=some o->H b=none->b∈fs->b∉ex->∃sl,h'.get? b=some {o with slots:=sl}
 free:∀b o,h.get? b=some o->H b=none->b∉ex->H' b=none
 there:∀b o,h.get? b=some o->b∉ex->∃o',h'.get? b=some o'
 tups:∀b xs,H b=some (.tup xs)->H' b=some (.tup xs)
 frzs:∀b o u,H b=some (.frz o u)->H' b=some (.frz o u)
 tbls:∀b ps,H b=some (.tbl ps)->∃more,H' b=some (.tbl (ps++more))
section
variable {fs fs' ex ex':List Addr}{H H1 H2:Hp}{h h1 h2 h':Heap}{a x e:Addr}{o:HO}
theorem Un.any (u:Un fs ex H H1 h h1) {b:Addr}{ob:Obj}(q:h.get? b=some ob) (n:H b=none) (hx:b∉ex):∃sl,h1.get? b=some {ob with slots:=sl}:=by
 by_cases hb:b∈fs
 ·exact u.slot b ob q n hb hx
 ·exact ⟨ob.slots,u.keep b ob q n hb hx⟩
theorem Un.kept (k:∀b u,h.get? b=some u->h'.get? b=some u):Un fs ex H H h h':=
 ⟨λ b ob q _ _ _=>k b ob q,λ b ob q _ _ _=>⟨ob.slots,k b ob q⟩,λ _ _ _ n _=>n,λ b ob q _=>⟨ob,k b ob q⟩,λ _ _ q=>q,λ _ _ _ q=>q,λ _ ps q=>⟨#[],by rw [q];simp⟩⟩
theorem Un.refl:Un fs ex H H h h:=Un.kept λ _ _ q=>q
theorem Un.laid (k:∀b u,h.get? b=some u->h'.get? b=some u) (hp:h.objs.size<=a) (hn:H a=none):Un fs ex H (upd H a o) h h' where
 keep:=λ b u q _ _ _=>k b u q
 slot:=λ b u q _ _ _=>⟨u.slots,k b u q⟩
 free:=λ b u q n _=>by rw [ak (DT (DW (Heap.lt_size q) hp))];exact n
 there:=λ b u q _=>⟨u,k b u q⟩
 tups:=λ b xs q=>by rw [ak (aj q hn)];exact q
 frzs:=λ b u xs q=>by rw [ak (aj q hn)];exact q
 tbls:=λ b ps q=>⟨#[],by rw [ak (aj q hn),q];simp⟩
theorem Un.write (mu:Bm (H x)) (he:e=x\/H e=some (.own x)) (k:∀b u,b≠e->h.get? b=some u->h'.get? b=some u) (heo:∃u,h'.get? e=some u):Un fs ex H (upd H x o) h h':=by
 have hx:∀b,H b=none->b≠x:=λ b n z=>by subst z;rw [n] at mu;exact mu
 have hb:∀b,H b=none->b≠e:=λ b n z=>by
  subst z
  rcases he with r | r
  ·exact hx b n r
  ·rw [n] at r;cases r
 have hm:∀b u,H b=some u->¬Bm (some u)->b≠x:=λ b u q nm z=>by subst z;rw [q] at mu;exact nm mu
 refine ⟨λ b u q n _ _=>k b u (hb b n) q,λ b u q n _ _=>⟨u.slots,k b u (hb b n) q⟩,λ b u q n _=>by rw [ak (hx b n)];exact n,λ b u q _=>?_,
  λ b xs q=>by rw [ak (hm b _ q λ z=>z)];exact q,λ b u xs q=>by rw [ak (hm b _ q λ z=>z)];exact q,λ b ps q=>⟨#[],by rw [ak (hm b _ q λ z=>z),q];simp⟩⟩
 by_cases hbe:b=e
 ·subst hbe;exact heo
 ·exact ⟨u,k b u hbe q⟩
end
def Bf (h:Heap) (H:Hp):List Addr:=(List.range h.objs.size).filter λ a=>(H a).isSome
def jx (h:Heap) (H:Hp):Heap:=E1 h (Bf h H)
theorem nV (h:Heap) (H:Hp):(jx h H).objs.size=h.objs.size:=PySem.W.hideAll_size _ _
theorem pU {h:Heap}{H:Hp}{b:Addr}{o:Obj}(e:h.get? b=some o) (n:H b=none):(jx h H).get? b=some o:=
 EI _ e λ hm=>by have q:(H b).isSome=true:=(List.mem_filter.mp hm).2;rw [n] at q;simp at q
theorem rA {h:Heap}{H:Hp}{b:Addr}{o:Obj}(e:(jx h H).get? b=some o):h.get? b=some o/\H b=none:=by
 have e':h.get? b=some o:=E2 (Bf h H) e;refine ⟨e',?_⟩;cases q:H b with
 | none=>rfl
 | some x=>
   have hm:b∈Bf h H:=List.mem_filter.mpr ⟨Dr.mpr (Heap.lt_size e'),by simp [q]⟩;have z:(jx h H).get? b=none:=PySem.W.hideAll_none (Bf h H) hm;rw [z] at e;cases e
def sh (g h:Heap) (L:Addr):List (Addr×Obj):=(List.range h.objs.size).filterMap λ a=>if a=L\/(g.get? a).isSome=true then none else (h.get? a).map λ o=>(a,o)
def rest (g h:Heap) (L d:Addr):List (Addr×Obj):=(sh g h L).filter λ p=>decide (p.1≠d)
end L2
namespace L2
open PySem PySem.Spec PyProof.Rows
structure Mod (K:Frag) (mg:Str->Option Value) (base:Heap):Prop where
 kin:K.In base
 glob:base.Ns mainGlobals mg
 blt:∃mb,base.Ns builtinsNs mb/\∀x:Str,x≠"__name__"->mb x=bootBuiltins x
 nolimit:base.NoLimit
structure Cx where
 prog:Program
 w:World
 K:Frag
 mg:Str->Option Value
 base:Heap
 A:Around
 N:List Str
 s₀:Shared
 H₀:Hp
 env:Env
 outer:List Env
 stack:List Env
 ex:List Addr
 fn:Str->Bool
 calm:Bool
 pn:List (Addr×Obj)
 xe:Value->Shared->Prop
def e7 (l:List Env):List Addr:=l.filterMap (·.frame)
abbrev Cx.fs (X:Cx):List Addr:=e7 X.outer
def Bl (sc:Scope) (x:Str):Prop:=sc.names.lookup x=some .local\/sc.names.lookup x=some .cell\/sc.names.lookup x=some .free
def xM (sc:Scope) (x:Str):Prop:=sc.names.lookup x=some .local\/sc.names.lookup x=some .cell
def CV (env:Env) (h:Heap) (m:Str->Option Value) (x:Str) (u:Value):Prop:=
 (env.kindOf x=some .local/\m x=some u)\/((env.kindOf x=some .cell\/env.kindOf x=some .free)/\∃c,env.cells.lookup x=some c/\h.IsCell c (some u))
structure Cx.Ok (X:Cx):Prop where
 mod:Mod X.K X.mg X.base
 kind:X.env.scope.kind=.function
 glob:X.env.globals=mainGlobals
 blt:X.env.builtins=builtinsNs
 above:X.s₀.heap.objs.size<=X.env.locals
 inj:∀x y c,X.env.cells.lookup x=some c->X.env.cells.lookup y=some c->x=y
 has:∀x,(X.env.kindOf x=some .cell\/X.env.kindOf x=some .free)->∃c,X.env.cells.lookup x=some c
 cab:∀x c,X.fn x=true->X.env.cells.lookup x=some c->X.s₀.heap.objs.size<=c
 hd:X.calm=true->X.A.handled=none
 frames:X.A.frames=some X.stack
 stk:X.stack=X.outer\/(X.stack=X.env::X.outer/\X.env.frame=some X.env.locals)
 exf:∀b∈X.ex,b≠X.env.locals/\∀x c,X.env.cells.lookup x=some c->c≠b
 bs:∀b o,X.base.get? b=some o->X.s₀.heap.get? b=some o/\X.H₀ b=none
 bsz:X.base.objs.size<=X.s₀.heap.objs.size
 noex:∀b o,X.base.get? b=some o->b∉X.ex
 exfs:∀b∈X.ex,b∉X.fs
 funs:X.s₀.heap.FunFrames X.base X.outer
 frf:∀b∈X.fs,X.H₀ b=none
structure au (X:Cx) (pins:List (Addr×Obj)) (σ:List (Option V)) (H:Hp) (s:Shared):Prop where
 ok:X.Ok
 os:s.os=X.s₀.os
 bare:AllBare s.gens
 base:Un X.fs X.ex X.H₀ H X.s₀.heap s.heap
 loc:∃m,s.heap.Ns X.env.locals m/\∀(i:Nat) (x:Str) (v:V),X.N[i]? =some x->σ[i]? =some (some v)->Bl X.env.scope x->∃u,aK v u/\CV X.env s.heap m x u
 cell:∀x c,X.env.cells.lookup x=some c->∃v,s.heap.IsCell c v
 free:H X.env.locals=none
 freeC:∀x c,X.env.cells.lookup x=some c->H c=none
 pin:∀p∈X.pn++pins,s.heap.get? p.1=some p.2/\H p.1=none/\p.1≠X.env.locals/\p.1∉X.fs/\∀v,p.2.data≠.cell v
 hok:gi X.prog X.w H s.heap
 len:σ.length=X.N.length
section
variable {X:Cx}{pins:List (Addr×Obj)}{σ:List (Option V)}{H H':Hp}{s:Shared}{h':Heap}
theorem Cx.Ok.nofr (ok:X.Ok) {b:Addr}{o:Obj}(e:X.base.get? b=some o):b∉X.fs:=λ hb=>by have:=(ok.funs.mem hb).1;rw [e] at this;cases this
theorem au.bs (I:au X pins σ H s):∀b o,X.base.get? b=some o->s.heap.get? b=some o/\H b=none:=λ b o e=>
 ⟨I.base.keep b o (I.ok.bs b o e).1 (I.ok.bs b o e).2 (I.ok.nofr e) (I.ok.noex b o e),I.base.free b o (I.ok.bs b o e).1 (I.ok.bs b o e).2 (I.ok.noex b o e)⟩
theorem au.bk (I:au X pins σ H s):∀b o,X.base.get? b=some o->s.heap.get? b=some o:=λ b o e=>(I.bs b o e).1
theorem au.mod (I:au X pins σ H s):Mod X.K X.mg X.base:=I.ok.mod
theorem au.kIn (I:au X pins σ H s):X.K.In s.heap:=I.ok.mod.kin.keeps I.bk
theorem au.lt (I:au X pins σ H s):X.env.locals<s.heap.objs.size:=let ⟨_,hn,_⟩:=I.loc;hn.lt
theorem au.sz (I:au X pins σ H s):X.s₀.heap.objs.size<=s.heap.objs.size:=DU I.ok.above (D5 I.lt)
theorem au.nofs (I:au X pins σ H s) {a:Addr}(h:s.heap.objs.size<=a):a∉X.fs:=λ hb=>by obtain ⟨_,o,ho,_⟩:=I.ok.funs.mem hb;exact absurd (DW (Heap.lt_size ho) (DU I.sz h)) (DY _)
theorem au.cne (I:au X pins σ H s):∀x c,X.env.cells.lookup x=some c->c≠X.env.locals:=λ x c e z=>by obtain ⟨v,o,ho,hd⟩:=I.cell x c e;obtain ⟨m,⟨o',es,ep,ho',hd',_⟩,_⟩:=I.loc;rw [z,ho'] at ho;cases ho;rw [hd'] at hd;cases hd
theorem au.funs (I:au X pins σ H s):s.heap.FunFrames X.base X.outer:=by
 have all:∀(l:List Env),(∀b∈e7 l,b∈X.fs)->X.s₀.heap.FunFrames X.base l->s.heap.FunFrames X.base l:=by
  intro l
  induction l with
  | nil=>intro _ _;trivial
  | cons env r ih=>
    intro hs hl;obtain ⟨hk,⟨L,o,hf,hn,ho,hd⟩,hr⟩:=hl;have hL:L∈X.fs:=hs L (by unfold e7;rw [Dw,hf];exact C3);obtain ⟨sl,e⟩:=I.base.slot L o ho (I.ok.frf L hL) hL λ z=>I.ok.exfs L z hL;exact ⟨hk,⟨L,_,hf,hn,e,hd⟩,ih (λ b hb=>hs b (by unfold e7;rw [Dw,hf];exact C7 _ hb)) hr⟩
 exact all X.outer (λ _ hb=>hb) I.ok.funs
theorem au.stack (I:au X pins σ H s):s.heap.FunFrames X.base X.stack:=by
 rcases I.ok.stk with e | ⟨e,hf⟩
 ·rw [e];exact I.funs
 ·rw [e];obtain ⟨m,hn,_⟩:=I.loc;refine .cons (by rw [I.ok.kind];decide) hf hn ?_ I.funs;exact Heap.get?_none_of_le (DU I.ok.bsz I.ok.above)
theorem au.stkSub (I:au X pins σ H s):∀b∈e7 X.stack,b∈X.env.locals::X.fs:=λ b hb=>by
 rcases I.ok.stk with e | ⟨e,hf⟩
 ·rw [e] at hb;exact C7 _ hb
 ·rw [e] at hb;unfold e7 at hb;rw [Dw,hf] at hb;exact hb
theorem au.stkFree (I:au X pins σ H s):∀b∈e7 X.stack,H b=none:=λ b hb=>by
 rcases C1.mp (I.stkSub b hb) with e | hb
 ·rw [e];exact I.free
 ·obtain ⟨_,o,ho,_⟩:=I.ok.funs.mem hb;exact I.base.free b o ho (I.ok.frf b hb) λ z=>I.ok.exfs b z hb
theorem au.step {g':Array GenState}{t':Nat}{d':Drawn}{ch:List Addr}(I:au X pins σ H s)
  (hch:∀b∈ch,(b∈X.ex\/X.s₀.heap.objs.size<=b)/\b≠X.env.locals/\(∀x c,X.env.cells.lookup x=some c->c≠b)/\∀p∈X.pn++pins,p.1≠b)
  (keep:∀b o,b≠X.env.locals->b∉X.fs->b∉ch->s.heap.get? b=some o->H b=none->h'.get? b=some o)
  (slot:∀b o,b≠X.env.locals->b∈X.fs->b∉ch->s.heap.get? b=some o->H b=none->∃sl,h'.get? b=some {o with slots:=sl}) (free:∀b o,b∉ch->s.heap.get? b=some o->H b=none->H' b=none)
  (there:∀b o,b∉ch->s.heap.get? b=some o->∃o',h'.get? b=some o')
  (tups:∀b xs,H b=some (.tup xs)->H' b=some (.tup xs)) (frzs:∀b o u,H b=some (.frz o u)->H' b=some (.frz o u)) (tbls:∀b ps,H b=some (.tbl ps)->∃more,H' b=some (.tbl (ps++more)))
  (ns:∀m,s.heap.Ns X.env.locals m->h'.Ns X.env.locals m) (hok:gi X.prog X.w H' h') (hg:AllBare g'):
  au X pins σ H' {s with heap:=h',gens:=g',drawn:=d',toks:=t'}:=by
 have neL:∀b o,X.s₀.heap.get? b=some o->b≠X.env.locals:=λ b o e=>DT (DW (Heap.lt_size e) I.ok.above);have neC:∀b o,X.s₀.heap.get? b=some o->b∉X.ex->b∉ch:=λ b o e hx hb=>by
  rcases (hch b hb).1 with z | z
  ·exact hx z
  ·exact absurd (DW (Heap.lt_size e) z) (DY _)
 have cellK:∀x c,X.env.cells.lookup x=some c->∀v,s.heap.IsCell c v->h'.IsCell c v:=λ x c e v ⟨o,ho,hd⟩=>by
  have nch:c∉ch:=λ z=>(hch c z).2.2.1 x c e rfl
  by_cases hc:c∈X.fs
  ·obtain ⟨sl,q⟩:=slot c o (I.cne x c e) hc nch ho (I.freeC x c e);exact ⟨_,q,hd⟩
  ·exact ⟨o,keep c o (I.cne x c e) hc nch ho (I.freeC x c e),hd⟩
 refine ⟨I.ok,I.os,hg,⟨λ b o e n hb hx=>?_,λ b o e n hb hx=>?_,λ b o e n hx=>?_,λ b o e hx=>?_,λ b xs e=>tups b xs (I.base.tups b xs e),λ b o xs e=>frzs b o xs (I.base.frzs b o xs e),λ b ps e=>?_⟩,?_,λ x c e=>?_,?_,λ x c e=>?_,λ p hp=>?_,hok,I.len⟩
 ·exact keep b o (neL b o e) hb (neC b o e hx) (I.base.keep b o e n hb hx) (I.base.free b o e n hx)
 ·obtain ⟨sl,e1⟩:=I.base.slot b o e n hb hx;obtain ⟨sl',e2⟩:=slot b _ (neL b o e) hb (neC b o e hx) e1 (I.base.free b o e n hx);exact ⟨sl',e2⟩
 ·obtain ⟨o',e1⟩:=I.base.there b o e hx;exact free b o' (neC b o e hx) e1 (I.base.free b o e n hx)
 ·obtain ⟨o',e1⟩:=I.base.there b o e hx;exact there b o' (neC b o e hx) e1
 ·obtain ⟨m1,e1⟩:=I.base.tbls b ps e;obtain ⟨m2,e2⟩:=tbls b _ e1;exact ⟨m1++m2,by rw [e2,Array.append_assoc]⟩
 ·obtain ⟨m,hn,hl⟩:=I.loc;refine ⟨m,ns m hn,λ i x v e1 e2 e3=>?_⟩;obtain ⟨u,r,l⟩:=hl i x v e1 e2 e3;refine ⟨u,r,?_⟩
  rcases l with l | ⟨k,c,e,z⟩
  ·exact .inl l
  ·exact .inr ⟨k,c,e,cellK x c e _ z⟩
 ·obtain ⟨v,z⟩:=I.cell x c e;exact ⟨v,cellK x c e v z⟩
 ·obtain ⟨m,⟨o,_,_,ho,_⟩,_⟩:=I.loc;exact free _ o (λ z=>(hch _ z).2.1 rfl) ho I.free
 ·obtain ⟨v,o,ho,hd⟩:=I.cell x c e;exact free c o (λ z=>(hch c z).2.2.1 x c e rfl) ho (I.freeC x c e)
 ·obtain ⟨e,n,ne,nf,d⟩:=I.pin p hp;have nch:p.1∉ch:=λ z=>(hch p.1 z).2.2.2 p hp rfl;exact ⟨keep p.1 p.2 ne nf nch e n,free p.1 p.2 nch e n,ne,nf,d⟩
theorem au.un {t':Nat}(I:au X pins σ H s) (u:Un X.fs [] H H' s.heap h') (hok:gi X.prog X.w H' h'):au X pins σ H' {s with heap:=h',toks:=t'}:=by
 obtain ⟨m,⟨o,es,ep,ho,r⟩,_⟩:=id I.loc;obtain ⟨sl,hL⟩:=u.any ho I.free (by simp);exact I.step (g':=s.gens) (d':=s.drawn) (ch:=[]) (λ _ z=>nomatch z) (λ b o _ hb _ e n=>u.keep b o e n hb (by simp)) (λ b o _ hb _ e n=>u.slot b o e n hb (by simp)) (λ b o _ e n=>u.free b o e n (by simp)) (λ b o _ e=>u.there b o e (by simp)) u.tups u.frzs u.tbls (λ m' hm=>by
  obtain ⟨o',es',ep',ho',r'⟩:=hm;rw [ho] at ho';cases ho';exact ⟨_,es',ep',hL,r'⟩) hok I.bare
theorem au.call {g':Array GenState}{t':Nat}{d':Drawn}{ch:List Addr}(I:au X pins σ H s) (u:Un (e7 X.stack) ch H H' s.heap h') (hok:gi X.prog X.w H' h') (hg:AllBare g')
  (hch:∀b∈ch,(b∈X.ex\/X.s₀.heap.objs.size<=b)/\b≠X.env.locals/\(∀x c,X.env.cells.lookup x=some c->c≠b)/\∀p∈X.pn++pins,p.1≠b):
  au X pins σ H' {s with heap:=h',gens:=g',drawn:=d',toks:=t'}:=by
 obtain ⟨m,⟨o,es,ep,ho,r⟩,_⟩:=id I.loc;obtain ⟨sl,hL⟩:=u.any ho I.free λ z=>(hch _ z).2.1 rfl;exact I.step (ch:=ch) hch (λ b o hL hb hc e n=>u.keep b o e n (λ z=>(C1.mp (I.stkSub b z)).elim hL hb) hc) (λ b o _ _ hc e n=>u.any e n hc) (λ b o hc e n=>u.free b o e n hc) (λ b o hc e=>u.there b o e hc) u.tups u.frzs u.tbls (λ m' hm=>by
  obtain ⟨o',es',ep',ho',r'⟩:=hm;rw [ho] at ho';cases ho';exact ⟨_,es',ep',hL,r'⟩) hok hg
theorem au.turned {t':Nat}{it:Addr}(I:au X pins σ H s) (k:∀b o,b≠it->s.heap.get? b=some o->h'.get? b=some o) (hn:H it=none) (hL:it≠X.env.locals)
  (h1:it∈X.ex\/X.s₀.heap.objs.size<=it) (h2:∀x c,X.env.cells.lookup x=some c->c≠it) (h3:∀p∈X.pn++pins,p.1≠it):au X pins σ H {s with heap:=h',toks:=t'}:=by
 have nit:∀b u,H b=some u->b≠it:=λ b u e z=>by rw [z,hn] at e;cases e
 refine I.step (g':=s.gens) (d':=s.drawn) (ch:=[it]) (λ b hb=>?_) (λ b o _ _ hc e _=>k b o (λ z=>hc (by simp [z])) e) (λ b o _ _ hc e _=>⟨o.slots,k b o (λ z=>hc (by simp [z])) e⟩) (λ _ _ _ _ n=>n)
  (λ b o hc e=>⟨o,k b o (λ z=>hc (by simp [z])) e⟩) (λ _ _ e=>e) (λ _ _ _ e=>e) (λ b ps e=>⟨#[],by rw [e];simp⟩) (λ m hm=>?_) (λ b u e=>?_) I.bare
 ·have e:b=it:=by simpa using hb
  subst e;exact ⟨h1,hL,h2,h3⟩
 ·obtain ⟨o,es,ep,ho,r⟩:=hm;exact ⟨o,es,ep,k _ o (Ne.symm hL) ho,r⟩
 ·refine (I.hok b u e).stay (λ c v hc q=>k c v ?_ q) (λ _ q=>q) λ _ _ q=>q
  rcases hc with z | z
  ·rw [z];exact nit b u e
  ·exact nit c _ z
theorem au.tok (I:au X pins σ H s) (t:Nat):au X pins σ H {s with toks:=t}:=I.un (h':=s.heap) (t':=t) Un.refl I.hok
theorem au.kept {t':Nat}(I:au X pins σ H s) (k:∀b u,s.heap.get? b=some u->h'.get? b=some u):au X pins σ H {s with heap:=h',toks:=t'}:=I.un (Un.kept k) (I.hok.kept k)
theorem au.laid {a:Addr}{o:HO}{t':Nat}(I:au X pins σ H s) (k:∀b u,s.heap.get? b=some u->h'.get? b=some u) (hp:s.heap.objs.size<=a) (new:bi X.prog X.w (upd H a o) h' a o):
  au X pins σ (upd H a o) {s with heap:=h',toks:=t'}:=I.un (Un.laid k hp (I.hok.fresh hp)) (I.hok.laid k hp new)
theorem au.write {x e:Addr}{o:HO}{t':Nat}(I:au X pins σ H s) (mu:Bm (H x)) (he:e=x\/H e=some (.own x)) (k:∀b u,b≠e->s.heap.get? b=some u->h'.get? b=some u) (heo:∃u,h'.get? e=some u)
  (new:bi X.prog X.w (upd H x o) h' x o):au X pins σ (upd H x o) {s with heap:=h',toks:=t'}:=I.un (Un.write mu he k heo) (I.hok.write mu he k heo new)
theorem au.pins_of {pins':List (Addr×Obj)}(I:au X pins σ H s) (h:∀p∈pins',s.heap.get? p.1=some p.2/\H p.1=none/\p.1≠X.env.locals/\p.1∉X.fs/\∀v,p.2.data≠.cell v):au X pins' σ H s:=
 ⟨I.ok,I.os,I.bare,I.base,I.loc,I.cell,I.free,I.freeC,λ p hp=>(De.mp hp).elim (λ z=>I.pin p (DG _ z)) (h p),I.hok,I.len⟩
theorem kD {N:List Str}(hN:N.Nodup) {i j:Nat}{x:Str}(a:N[i]? =some x) (b:N[j]? =some x):i=j:=by obtain ⟨h1,e1⟩:=Dk.mp a;obtain ⟨h2,e2⟩:=Dk.mp b;exact (List.getElem_inj hN).mp (e1.trans e2.symm)
theorem ir {M:Model}{A:Around}{E:Value->Shared->Prop}{i:Nat}{x:Str}{v:V}{u:Value}{Q:Unit->Shared->Prop}(I:au X pins σ H s) (hN:X.N.Nodup) (hi:X.N[i]? =some x) (hx:xM X.env.scope x) (r:aK v u)
  (h:∀s',au X pins (σ.set i (some v)) H s'->(∃a,Heap.SameBut a s.heap s'.heap/\(a=X.env.locals\/X.env.cells.lookup x=some a))->Q () s') (hf:X.fn x=true\/X.env.scope.names.lookup x=some .local:=by first | exact .inl rfl | exact .inr rfl | assumption):wpAny M A (storeName X.env x u) Q E s:=by
 obtain ⟨m,hn,hl⟩:=id I.loc;have hcls:(X.env.scope.kind == .class||(X.env.scope.kind == .module&&X.env.locals != X.env.globals))=false:=by rw [I.ok.kind];rfl
 have hiσ:i<σ.length:=by rw [I.len];exact (Dk.mp hi).1
 have cne:=I.cne;have tracked:∀{a:Addr} {h':Heap},(∃o,s.heap.get? a=some o/\H a=none)->Heap.SameBut a s.heap h'->gi X.prog X.w H h':=λ {a h'} ha hs b ob e=>by
  obtain ⟨_,_,hfree⟩:=ha;refine (I.hok b ob e).stay (λ c w' hc q=>(hs.2 c ?_).trans q) (λ _ q=>q) λ _ _ q=>q;rintro rfl
  rcases hc with rfl | hc
  ·rw [hfree] at e;cases e
  ·rw [hfree] at hc;cases hc
 rcases hx with hk | hk
 ·refine wpAny_storeName_local hk hn (λ h' hn' hs=>?_) hcls;obtain ⟨oL,_,_,hoL,_⟩:=id hn;refine h _ ⟨I.ok,I.os,I.bare,⟨λ b o e n hb hx=>?_,λ b o e n hb hx=>?_,I.base.free,λ b o e hx=>?_,I.base.tups,I.base.frzs,I.base.tbls⟩,⟨_,hn',λ j y v' e1 e2 e3=>?_⟩,λ y c e=>?_,I.free,I.freeC,λ p hp=>?_,tracked ⟨oL,hoL,I.free⟩ hs,by simpa using I.len⟩ ⟨_,hs,.inl rfl⟩
  ·exact (hs.2 b (DT (DW (Heap.lt_size e) I.ok.above))).trans (I.base.keep b o e n hb hx)
  ·obtain ⟨sl,e1⟩:=I.base.slot b o e n hb hx;exact ⟨sl,(hs.2 b (DT (DW (Heap.lt_size e) I.ok.above))).trans e1⟩
  ·obtain ⟨o',e1⟩:=I.base.there b o e hx;exact ⟨o',(hs.2 b (DT (DW (Heap.lt_size e) I.ok.above))).trans e1⟩
  ·by_cases hj:j=i
   ·subst hj;rw [hi] at e1;cases e1;rw [DH hiσ] at e2;cases e2;exact ⟨u,r,.inl ⟨hk,by simp⟩⟩
   ·rw [DI (Ne.symm hj)] at e2;obtain ⟨u',r',q⟩:=hl j y v' e1 e2 e3;refine ⟨u',r',?_⟩
    rcases q with ⟨k,e⟩ | ⟨k,c,e,z⟩
    ·refine .inl ⟨k,?_⟩;have:y≠x:=λ e=>hj (kD hN e1 (e▸hi));simp [this,e]
    ·exact .inr ⟨k,c,e,z.sameBut hs (cne y c e)⟩
  ·obtain ⟨w',z⟩:=I.cell y c e;exact ⟨w',z.sameBut hs (cne y c e)⟩
  ·obtain ⟨e,n,ne,nf,d⟩:=I.pin p hp;exact ⟨(hs.2 p.1 ne).trans e,n,ne,nf,d⟩
 ·have hfn:X.fn x=true:=by
   rcases hf with z | z
   ·exact z
   ·rw [z] at hk;cases hk
  obtain ⟨c,hc⟩:=I.ok.has x (.inl hk);obtain ⟨w',z⟩:=I.cell x c hc;refine wpAny_storeName_cell I.ok.kind hk hc z (λ h' hc' hs=>?_);obtain ⟨oc,hoc,hocd⟩:=id z;refine h {s with heap:=h'} ⟨I.ok,I.os,I.bare,⟨λ b o e n hb hx=>?_,λ b o e n hb hx=>?_,I.base.free,λ b o e hx=>?_,I.base.tups,I.base.frzs,I.base.tbls⟩,⟨m,hn.sameBut hs (Ne.symm (cne x c hc)),λ j y v' e1 e2 e3=>?_⟩,λ y c' e=>?_,I.free,I.freeC,λ p hp=>?_,tracked ⟨oc,hoc,I.freeC x c hc⟩ hs,by simpa using I.len⟩ ⟨c,hs,.inr hc⟩
  ·exact (hs.2 b (DT (DW (Heap.lt_size e) (I.ok.cab x c hfn hc)))).trans (I.base.keep b o e n hb hx)
  ·obtain ⟨sl,e1⟩:=I.base.slot b o e n hb hx;exact ⟨sl,(hs.2 b (DT (DW (Heap.lt_size e) (I.ok.cab x c hfn hc)))).trans e1⟩
  ·obtain ⟨o',e1⟩:=I.base.there b o e hx;exact ⟨o',(hs.2 b (DT (DW (Heap.lt_size e) (I.ok.cab x c hfn hc)))).trans e1⟩
  ·by_cases hj:j=i
   ·subst hj;rw [hi] at e1;cases e1;rw [DH hiσ] at e2;cases e2;exact ⟨u,r,.inr ⟨.inl hk,c,hc,hc'⟩⟩
   ·rw [DI (Ne.symm hj)] at e2;obtain ⟨u',r',q⟩:=hl j y v' e1 e2 e3;refine ⟨u',r',?_⟩
    rcases q with q | ⟨k,c',e,z'⟩
    ·exact .inl q
    ·refine .inr ⟨k,c',e,z'.sameBut hs ?_⟩;rintro rfl;exact hj (kD hN e1 (I.ok.inj _ _ _ e hc▸hi))
  ·by_cases hcc:c'=c
   ·subst hcc;exact ⟨_,hc'⟩
   ·obtain ⟨w2,z2⟩:=I.cell y c' e;exact ⟨w2,z2.sameBut hs hcc⟩
  ·obtain ⟨e,n,ne,nf,d⟩:=I.pin p hp;refine ⟨(hs.2 p.1 ?_).trans e,n,ne,nf,d⟩;intro q;rw [q,hoc] at e;have q':oc=p.2:=Option.some.inj e;exact d w' (by rw [<-q'];exact hocd)
theorem gE {M:Model}{A:Around}{E:Value->Shared->Prop}{i:Nat}{x:Str}{v:V}{u:Value}{Q:Unit->Shared->Prop}(I:au X pins σ H s) (hN:X.N.Nodup) (hi:X.N[i]? =some x) (hx:xM X.env.scope x) (r:aK v u)
  (h:∀s',au X pins (σ.set i (some v)) H s'->Q () s') (hf:X.fn x=true\/X.env.scope.names.lookup x=some .local:=by first | exact .inl rfl | exact .inr rfl | assumption):wpAny M A (storeName X.env x u) Q E s:=
 ir I hN hi hx r (λ s' I' _=>h s' I') hf
theorem au.call' {s':Shared}{ch:List Addr}(I:au X pins σ H s) (ho:s'.os=s.os) (u:Un (e7 X.stack) ch H H' s.heap s'.heap) (hok:gi X.prog X.w H' s'.heap) (hg:AllBare s'.gens)
  (hch:∀b∈ch,(b∈X.ex\/X.s₀.heap.objs.size<=b)/\b≠X.env.locals/\(∀x c,X.env.cells.lookup x=some c->c≠b)/\∀p∈X.pn++pins,p.1≠b):au X pins σ H' s':=by
 obtain ⟨h',g',d',t',o'⟩:=s';have e:o'=s.os:=ho;subst e;exact I.call (g':=g') (t':=t') (d':=d') u hok hg hch
end
abbrev XK:=Value->Option Addr->Hp->Prop
abbrev St:=List (Option V)
abbrev oR (a:Addr):Option V:=some (.ref a)
abbrev oJ (a:Int):Option V:=some (.int a)
abbrev oT (a:Str):Option V:=some (.str a)
abbrev VK:=V->Hp->Prop
abbrev TE:=St->Hp->VK->Prop
abbrev TT:=St->Hp->(Bool->Hp->Prop)->Prop
abbrev TA:=St->Hp->(List V->Hp->Prop)->Prop
structure cb where
 nx:St->Hp->Prop
 rt:VK
 bk:St->Hp->Prop:=λ _ _=>False
 ct:St->Hp->Prop:=λ _ _=>False
abbrev TS:=cb->St->Hp->Prop
def EP (X:Cx) (pins:List (Addr×Obj)) (σ:St) (Q:VK) (u:Value) (s':Shared):Prop:= ∃v H',au X pins σ H' s'/\aK v u/\Q v H'
def TP (X:Cx) (pins:List (Addr×Obj)) (σ:St) (Q:Bool->Hp->Prop) (b:Bool) (s':Shared):Prop:= ∃H',au X pins σ H' s'/\Q b H'
def AP (X:Cx) (pins:List (Addr×Obj)) (σ:St) (Q:List V->Hp->Prop) (us:List Value) (s':Shared):Prop:= ∃vs H',au X pins σ H' s'/\aF vs us/\Q vs H'
def SP (X:Cx) (pins:List (Addr×Obj)) (D:cb) (f:Flow) (s':Shared):Prop:=
 match f with
 | .next=> ∃σ' H',au X pins σ' H' s'/\D.nx σ' H'
 | .brk=> ∃σ' H',au X pins σ' H' s'/\D.bk σ' H'
 | .cont=> ∃σ' H',au X pins σ' H' s'/\D.ct σ' H'
 | .ret u=> ∃v σ' H',au X pins σ' H' s'/\aK v u/\D.rt v H'
def PE (X:Cx) (e:Expr) (t:TE):Prop:=
 ∀(pins:List (Addr×Obj)) (s:Shared) (σ:St) (H:Hp) (Q:VK),au X pins σ H s->t σ H Q->wpAny (model X.prog X.w) X.A (eval e X.env) (EP X pins σ Q) X.xe s
def PT (X:Cx) (e:Expr) (t:TT):Prop:=
 ∀(pins:List (Addr×Obj)) (s:Shared) (σ:St) (H:Hp) (Q:Bool->Hp->Prop),au X pins σ H s->t σ H Q->wpAny (model X.prog X.w) X.A (isTrue e X.env (eval e X.env)) (TP X pins σ Q) X.xe s
def PW (X:Cx) (e:Expr) (t:TT):Prop:=
 ∀(whole:Sem Value) (pins:List (Addr×Obj)) (s:Shared) (σ:St) (H:Hp) (Q:Bool->Hp->Prop),au X pins σ H s->t σ H Q->wpAny (model X.prog X.w) X.A (isTrue e X.env whole) (TP X pins σ Q) X.xe s
theorem PW.pt {X:Cx}{e:Expr}{t:TT}(h:PW X e t):PT X e t:=h _
def PA (X:Cx) (es:List Expr) (t:TA):Prop:=
 ∀(pos:Pos) (pins:List (Addr×Obj)) (s:Shared) (σ:St) (H:Hp) (Q:List V->Hp->Prop),au X pins σ H s->t σ H Q->wpAny (model X.prog X.w) X.A (spliced (backTo pos (starEach es X.env))) (AP X pins σ Q) X.xe s
def PS (X:Cx) (st:Stmt) (t:TS):Prop:=
 ∀(pins:List (Addr×Obj)) (s:Shared) (σ:St) (H:Hp) (D:cb),au X pins σ H s->t D σ H->wpAny (model X.prog X.w) X.A (exec st X.env) (SP X pins D) X.xe s
def jO (X:Cx) (st:List Stmt) (t:TS):Prop:=
 ∀(pins:List (Addr×Obj)) (s:Shared) (σ:St) (H:Hp) (D:cb),au X pins σ H s->t D σ H->wpAny (model X.prog X.w) X.A (execs st X.env) (SP X pins D) X.xe s
theorem bx {α:Type}{t:Sem α}{Q Q':α->Shared->Prop}{M:Model}{A:Around}{E:Value->Shared->Prop}{s:Shared}(h:wpAny M A t Q E s) (hQ:∀a s,Q a s->Q' a s):wpAny M A t Q' E s:=wpAny_mono h hQ λ _ _ x=>x
end L2
namespace L2
open PySem PySem.Spec PyProof.Rows
section
variable {X:Cx}
theorem bin {a b:Expr}{ta tb:TE}(ha:PE X a ta) (hb:PE X b tb) {pins:List (Addr×Obj)}{s:Shared}{σ:St}{H:Hp}{R:V->V->Hp->Prop}(I:au X pins σ H s) (h:ta σ H λ x H1=>tb σ H1 λ y H2=>R x y H2)
  {α:Type} {Q:α->Shared->Prop} {f:Value->Value->Sem α}
  (hf:∀v u s2 x y H2,au X pins σ H2 s2->aK x v->aK y u->R x y H2->wpAny (model X.prog X.w) X.A (f v u) Q X.xe s2):
  wpAny (model X.prog X.w) X.A (eval a X.env) (λ v s₁=>wpAny (model X.prog X.w) X.A (eval b X.env) (λ u s₂=>wpAny (model X.prog X.w) X.A (f v u) Q X.xe s₂) X.xe s₁) X.xe s:=by
 refine bx (ha pins s σ H _ I h) λ v s1 ⟨x,H1,I1,r1,q1⟩=>?_;refine bx (hb pins s1 σ H1 _ I1 q1) λ u s2 ⟨y,H2,I2,r2,q2⟩=>?_;exact hf v u s2 x y H2 I2 r1 r2 q2
def Cq (i:Nat):TE:=λ σ H Q=> ∃v,σ[i]? =some (some v)/\Q v H
def tC (v:V):TE:=λ _ H Q=>Q v H
theorem wE {i:Nat}{x:Str}{pos:Pos}(hN:X.N[i]? =some x) (hv:Bl X.env.scope x) (hd:(x == ("__debug__":Str))=false:=by decide) (hcd:(x == ("__classdict__":Str))=false:=by decide):PE X (.Name x pos) (Cq i):=by
 intro pins s σ H Q I h;obtain ⟨v,e,h⟩:=h;obtain ⟨m,hn,hl⟩:=I.loc;obtain ⟨u,r,l⟩:=hl i x v hN e hv;have fin:EP X pins σ Q u s:=⟨v,H,I,r,h⟩
 rcases l with ⟨hk,hm⟩ | ⟨hk,c,hc,hcell⟩
 ·exact wpAny_Name (wpAny_loadName_local I.ok.kind hk hn hm fin) hd
 ·rcases hk with hk | hk
  ·exact wpAny_Name (wpAny_loadName_cell I.ok.kind hk hc hcell fin) hd
  ·exact wpAny_Name (wpAny_loadName_free I.ok.kind hk hc hcell fin hcd) hd
theorem ag {i j pos}:PE X (.Constant (.int i) j pos) (tC (.int i)):=λ _ _ _ H _ I h=>wpAny_Constant_int ⟨.int i,H,I.tok _,⟨_,rfl⟩,h⟩
theorem bR {b j pos}:PE X (.Constant (.bool b) j pos) (tC (.bl b)):=λ _ _ _ H _ I h=>Constant_bool ⟨.bl b,H,I,rfl,h⟩
theorem da {j pos}:PE X (.Constant .none j pos) (tC .non):=λ _ _ _ H _ I h=>Constant_none ⟨.non,H,I,rfl,h⟩
theorem bP {x j pos}:PE X (.Constant (.str x) j pos) (tC (.str x)):=λ _ _ _ H _ I h=>Calls.Constant_str ⟨.str x,H,I.tok _,⟨_,rfl⟩,h⟩
def Gl (X:Cx) (x:Str):Prop:=X.env.kindOf x=some .globalImplicit
theorem dL {E:Value->Shared->Prop}{pins:List (Addr×Obj)}{s:Shared}{σ:St}{H:Hp}{x:Str}{u:Value}{pos:Pos}{Q:Value->Shared->Prop}(I:au X pins σ H s) (hg:Gl X x) (hm:X.mg x=some u) (h:Q u s)
  (hd:(x == ("__debug__":Str))=false:=by decide):wpAny (model X.prog X.w) X.A (eval (.Name x pos) X.env) Q E s:=
 Calls.Name_function_global I.ok.kind hg (Calls.loadGlobal_global (by rw [I.ok.glob];exact I.mod.glob.keeps I.bk) hm h) hd
theorem d0 {E:Value->Shared->Prop}{pins:List (Addr×Obj)}{s:Shared}{σ:St}{H:Hp}{x:Str}{u:Value}{pos:Pos}{Q:Value->Shared->Prop}(I:au X pins σ H s) (hg:Gl X x) (hm:X.mg x=none) (hv:bootBuiltins x=some u) (h:Q u s)
  (hn:x≠"__name__":=by decide) (hd:(x == ("__debug__":Str))=false:=by decide):wpAny (model X.prog X.w) X.A (eval (.Name x pos) X.env) Q E s:=by
 obtain ⟨mb,h1,h2⟩:=I.mod.blt;exact Calls.Name_function_global I.ok.kind hg (Calls.loadGlobal_builtin (by rw [I.ok.glob];exact I.mod.glob.keeps I.bk) hm (by rw [I.ok.blt];exact h1.keeps I.bk) ((h2 x hn).trans hv) h) hd
theorem rg {x:Str}{v:V}{u:Value}{pos:Pos}(hg:Gl X x) (hm:X.mg x=some u) (r:aK v u) (hd:(x == ("__debug__":Str))=false:=by decide):PE X (.Name x pos) (tC v):=
 λ _ _ _ H _ I h=>dL I hg hm ⟨v,H,I,r,h⟩ hd
theorem mn {x:Str}{v:V}{u:Value}{pos:Pos}(hg:Gl X x) (hm:X.mg x=none) (hv:bootBuiltins x=some u) (r:aK v u) (hn:x≠"__name__":=by decide) (hd:(x == ("__debug__":Str))=false:=by decide):PE X (.Name x pos) (tC v):=
 λ _ _ _ H _ I h=>d0 I hg hm hv ⟨v,H,I,r,h⟩ hn hd
variable {a b:Expr}{ta tb:TE}{pos:Pos}
def tB (t:TE):TT:=λ σ H Q=>t σ H λ x H1=> ∃c,x=.bl c/\Q c H1
variable {tA tB':TT}{rest:List Expr}
def na (t u:TT):TT:=λ σ H Q=>t σ H λ c H1=>if c=true then u σ H1 Q else Q false H1
def xG (t u:TT):TT:=λ σ H Q=>t σ H λ c H1=>if c=true then Q true H1 else u σ H1 Q
def jV (t:TT):TT:=λ σ H Q=>t σ H λ c H1=>Q (!c) H1
theorem fm (ha:PT X a tA):PW X (.BoolOp .And [a] pos) tA:=by
 intro wh pins s σ H Q I h;refine isTrue_and (bx (ha pins s σ H Q I h) λ c s1 e=>?_);cases c with
 | true=>exact isTrue_and_nil e
 | false=>exact e
theorem cZ (ha:PT X a tA):PW X (.BoolOp .Or [a] pos) tA:=by
 intro wh pins s σ H Q I h;refine isTrue_or (bx (ha pins s σ H Q I h) λ c s1 e=>?_);cases c with
 | false=>exact isTrue_or_nil e
 | true=>exact e
theorem gH (ha:PT X a tA) (hb:PW X (.BoolOp .And (b::rest) pos) tB'):PW X (.BoolOp .And (a::b::rest) pos) (na tA tB'):=by
 intro wh pins s σ H Q I h;refine isTrue_and (bx (ha pins s σ H _ I h) λ c s1 ⟨H1,I1,q1⟩=>?_);cases c with
 | true=>exact hb wh pins s1 σ H1 Q I1 q1
 | false=>exact ⟨H1,I1,q1⟩
theorem dE (ha:PT X a tA) (hb:PW X (.BoolOp .Or (b::rest) pos) tB'):PW X (.BoolOp .Or (a::b::rest) pos) (xG tA tB'):=by
 intro wh pins s σ H Q I h;refine isTrue_or (bx (ha pins s σ H _ I h) λ c s1 ⟨H1,I1,q1⟩=>?_);cases c with
 | true=>exact ⟨H1,I1,q1⟩
 | false=>exact hb wh pins s1 σ H1 Q I1 q1
theorem bg (ha:PT X a tA):PT X (.UnaryOp .Not a pos) (jV tA):=by intro pins s σ H Q I h;exact isTrue_not (ha pins s σ H (λ c H1=>Q (!c) H1) I h)
theorem eZ {op}{t:TE}(h:PE X a t):PE X (.BoolOp op [a] pos) t:=λ pins s σ H Q I hw=>BoolOp_one (h pins s σ H Q I hw)
def Bg (t:TT) (ta tb:TE):TE:=λ σ H Q=>t σ H λ c H1=>if c=true then ta σ H1 Q else tb σ H1 Q
theorem kv {c:Expr}(hc:PT X c tA) (ha:PE X a ta) (hb:PE X b tb):PE X (.IfExp c a b pos) (Bg tA ta tb):=by
 intro pins s σ H Q I h;refine wpAny_IfExp (bx (hc pins s σ H _ I h) λ d s1 ⟨H1,I1,q1⟩=>?_);cases d with
 | true=>exact ha pins s1 σ H1 Q I1 q1
 | false=>exact hb pins s1 σ H1 Q I1 q1
end
end L2
namespace L2
open PySem PySem.Spec PyProof.Rows
def aH (K:Frag) (H:Hp) (a:Addr) (xs:List V):Prop:=
 Rd H a (.lst xs)\/
  ∃(o:Obj) (its:Array Value) (n:Nat),K.lookup a=some o/\o.cls=.type "list"/\o.dict=none/\o.data=.seq its n/\its.size<=sizeLine/\aF xs its.toList
def dQ (K:Frag) (H:Hp) (a:Addr) (xs:List V):Prop:=
 Rd H a (.tup xs)\/
  ∃(o:Obj) (its:Array Value) (n:Nat),K.lookup a=some o/\o.cls=.type "tuple"/\o.data=.seq its n/\its.size<=sizeLine/\aF xs its.toList
def CP:Value->Option V
 | .none=>some .non
 | .bool b=>some (.bl b)
 | .int i _=>some (.int i)
 | .str x _=>some (.str x)
 | .bytes b _=>some (.byt b)
 | .float b _=>some (.flt b)
 | .ref a=>some (.ref a)
 | .type n=>some (.ty n)
 | _=>none
theorem aK.abs {x:V}{u:Value}(r:aK x u):CP u=some x:=by
 cases x with
 | non=>cases r;rfl
 | bl _=>cases r;rfl
 | int _=>obtain ⟨t,rfl⟩:=r;rfl
 | str _=>obtain ⟨t,rfl⟩:=r;rfl
 | byt _=>obtain ⟨t,rfl⟩:=r;rfl
 | flt _=>obtain ⟨t,rfl⟩:=r;rfl
 | ref _=>cases r;rfl
 | ty _=>cases r;rfl
theorem aK.inj {x y:V}{u:Value}(r:aK x u) (q:aK y u):x=y:=Option.some.inj (r.abs.symm.trans q.abs)
theorem aF.inj:∀{xs ys:List V}{us:List Value},aF xs us->aF ys us->xs=ys
 | _,_,_,.nil,.nil=>rfl
 | _,_,_,.cons r t,.cons r' t'=>by rw [r.inj r',aF.inj t t']
section
variable {X:Cx}{pins:List (Addr×Obj)}{σ:St}{H:Hp}{s:Shared}{a:Addr}{xs ys:List V}
theorem aH.of {K:Frag}(h:H a=some (.lst xs)):aH K H a xs:=.inl (.inl h)
theorem dQ.of {K:Frag}(h:H a=some (.tup xs)):dQ K H a xs:=.inl (.inl h)
theorem au.list (I:au X pins σ H s) (h:aH X.K H a xs):∃its:List Value,aF xs its/\PlainL s.heap a its.toArray/\xs.length<=sizeLine:=by
 rcases h with h | ⟨o,its,n,hk,hc,hd,hs,hz,r⟩
 ·obtain ⟨z,its,n,r,e⟩:=h.ok I.hok;exact ⟨its,r,⟨_,n,e,rfl,rfl,rfl⟩,z⟩
 ·refine ⟨its.toList,r,⟨o,n,I.kIn a o hk,hc,hd,by simpa using hs⟩,?_⟩;have e:=r.length;simp only [Eo] at e;omega
theorem au.tuple (I:au X pins σ H s) (h:dQ X.K H a xs):∃its:List Value,aF xs its/\IsTup s.heap a its.toArray/\xs.length<=sizeLine:=by
 rcases h with h | ⟨o,its,n,hk,hc,hs,hz,r⟩
 ·obtain ⟨z,its,r,p⟩:=h.ok I.hok;exact ⟨its,r,p,z⟩
 ·refine ⟨its.toList,r,⟨o,I.kIn a o hk,hc,n,by simpa using hs⟩,?_⟩;have e:=r.length;simp only [Eo] at e;omega
theorem au.list_inj (I:au X pins σ H s) (h:aH X.K H a xs) (h':aH X.K H a ys):xs=ys:=by
 obtain ⟨its,r,⟨o,n,e,_,_,d⟩,_⟩:=I.list h;obtain ⟨its',r',⟨o',n',e',_,_,d'⟩,_⟩:=I.list h';rw [e] at e';cases e';rw [d] at d';injection d' with d1 _;have:its=its':=by simpa using congrArg Array.toList d1
 subst this;exact r.inj r'
end
abbrev Cx.wish (X:Cx) (E:Value->Shared->Prop):Cx:={X with xe:=E}
abbrev Cx.nox (X:Cx):Cx:=X.wish λ _ _=>False
theorem Cx.Ok.wish {X:Cx}(ok:X.Ok) (E:Value->Shared->Prop):(X.wish E).Ok:=
 ⟨ok.mod,ok.kind,ok.glob,ok.blt,ok.above,ok.inj,ok.has,ok.cab,ok.hd,ok.frames,ok.stk,ok.exf,ok.bs,ok.bsz,ok.noex,ok.exfs,ok.funs,ok.frf⟩
theorem Cx.Ok.unwish {X:Cx}{E:Value->Shared->Prop}(ok:(X.wish E).Ok):X.Ok:=
 ⟨ok.mod,ok.kind,ok.glob,ok.blt,ok.above,ok.inj,ok.has,ok.cab,ok.hd,ok.frames,ok.stk,ok.exf,ok.bs,ok.bsz,ok.noex,ok.exfs,ok.funs,ok.frf⟩
section
variable {X:Cx}{pins:List (Addr×Obj)}{σ:St}{H:Hp}{s:Shared}{E:Value->Shared->Prop}
theorem au.wish (I:au X pins σ H s) (E:Value->Shared->Prop):au (X.wish E) pins σ H s:=⟨I.ok.wish E,I.os,I.bare,I.base,I.loc,I.cell,I.free,I.freeC,I.pin,I.hok,I.len⟩
theorem au.unwish (I:au (X.wish E) pins σ H s):au X pins σ H s:=⟨I.ok.unwish,I.os,I.bare,I.base,I.loc,I.cell,I.free,I.freeC,I.pin,I.hok,I.len⟩
theorem SP.unwish {D:cb}{f:Flow}{s':Shared}(h:SP (X.wish E) pins D f s'):SP X pins D f s':=by
 cases f with
 | next=>obtain ⟨σ',H',I,q⟩:=h;exact ⟨σ',H',I.unwish,q⟩
 | brk=>obtain ⟨σ',H',I,q⟩:=h;exact ⟨σ',H',I.unwish,q⟩
 | cont=>obtain ⟨σ',H',I,q⟩:=h;exact ⟨σ',H',I.unwish,q⟩
 | ret u=>obtain ⟨v,σ',H',I,r,q⟩:=h;exact ⟨v,σ',H',I.unwish,r,q⟩
theorem jO.nox {st:List Stmt}{t:TS}(h:jO X.nox st t):jO X st t:=λ pins s σ H D I hw=>
 wpAny_mono (h pins s σ H D (I.wish _) hw) (λ _ _ q=>q.unwish) λ _ _ z=>False.elim z
end
section
variable {X:Cx}{st:Stmt}{rest:List Stmt}{t u:TS}{e:Expr}{te:TE}{pos:Pos}
def gk:TS:=λ D σ H=>D.nx σ H
def bC (t u:TS):TS:=λ D σ H=>t {D with nx:=u D} σ H
theorem aE:jO X [] gk:=λ _ _ σ H _ I h=>wpAny_execs_nil ⟨σ,H,I,h⟩
theorem af (h1:PS X st t) (h2:jO X rest u):jO X (st::rest) (bC t u):=by
 intro pins s σ H D I h;refine wpAny_execs_cons (bx (h1 pins s σ H {D with nx:=u D} I h) λ f s1 q=>?_);cases f with
 | next=>
   obtain ⟨σ',H',I',q⟩:=q;exact h2 pins s1 σ' H' D I' q
 | ret v=>exact q
 | brk=>exact q
 | cont=>exact q
theorem ap (h1:PS X st t):jO X [st] t:=by
 intro pins s σ H D I h;refine wpAny_execs_cons (bx (h1 pins s σ H D I h) λ f s1 q=>?_);cases f with
 | next=>exact wpAny_execs_nil q
 | ret v=>exact q
 | brk=>exact q
 | cont=>exact q
theorem au.quiet {pins:List (Addr×Obj)}{σ:St}{H:Hp}{s:Shared}(I:au X pins σ H s):interactive X.env=false:=by simp [interactive,I.ok.kind]
def gl (te:TE):TS:=λ D σ H=>te σ H λ _ H1=>D.nx σ H1
theorem gy (he:PE X e te) (hs:swapsWith e none pos.line X.env=pure false:=by rfl):PS X (.Expr e pos) (gl te):=by intro pins s σ H D I h;exact wpAny_Expr_any (bx (he pins s σ H _ I h) λ v s1 ⟨x,H1,I1,r1,q1⟩=>⟨σ,H1,I1,q1⟩) I.quiet hs
def cU (te:TE):TS:=λ D σ H=>te σ H D.rt
theorem aA (he:PE X e te):PS X (.Return (some e) pos) (cU te):=by intro pins s σ H D I h;exact wpAny_Return_some (bx (he pins s σ H _ I h) λ v s1 ⟨x,H1,I1,r1,q1⟩=>⟨x,σ,H1,I1,r1,q1⟩)
def iL (c:TT) (t u:TS):TS:=λ D σ H=>c σ H λ b H1=>if b=true then t D σ H1 else u D σ H1
theorem bn {c:Expr}{a b:List Stmt}{tc:TT}(hc:PT X c tc) (ha:jO X a t) (hb:jO X b u):PS X (.If c a b pos) (iL tc t u):=by
 intro pins s σ H D I h;refine wpAny_If (bx (hc pins s σ H _ I h) λ d s1 ⟨H1,I1,q1⟩=>?_);cases d with
 | true=>exact ha pins s1 σ H1 D I1 q1
 | false=>exact hb pins s1 σ H1 D I1 q1
def oF:TS:=λ _ _ _=>False
theorem ku:PS X st oF:=λ _ _ _ _ _ _ h=>h.elim
theorem ny {sts:List Stmt}:jO X sts oF:=λ _ _ _ _ _ _ h=>h.elim
end
abbrev TG:=V->St->Hp->(St->Hp->Prop)->Prop
abbrev qH:=List V->St->Hp->(St->Hp->Prop)->Prop
def PG (X:Cx) (target:Expr) (t:TG):Prop:=
 ∀(pins:List (Addr×Obj)) (s:Shared) (σ:St) (H:Hp) (v:V) (u:Value) (Q:St->Hp->Prop),au X pins σ H s->aK v u->t v σ H Q->
  wpAny (model X.prog X.w) X.A (assign target X.env u) (λ _ s'=> ∃σ' H',au X pins σ' H' s'/\Q σ' H') X.xe s
def xC (X:Cx) (ts:List Expr) (t:qH):Prop:=
 ∀(pins:List (Addr×Obj)) (s:Shared) (σ:St) (H:Hp) (vs:List V) (us:List Value) (Q:St->Hp->Prop),au X pins σ H s->aF vs us->t vs σ H Q->
  wpAny (model X.prog X.w) X.A (assignInOrder ((assignEach ts X.env).map (·.2)) us) (λ _ s'=> ∃σ' H',au X pins σ' H' s'/\Q σ' H') X.xe s
abbrev xA:=V->V->V->Hp->(Hp->Prop)->Prop
def Ba (X:Cx) (t:xA):Prop:=
 ∀(pins:List (Addr×Obj)) (s:Shared) (σ:St) (H:Hp) (o i v:V) (ov iv u:Value) (Q:Hp->Prop),au X pins σ H s->aK o ov->aK i iv->aK v u->t o i v H Q->
  wpAny (model X.prog X.w) X.A (setItem ov iv u) (λ _ s'=> ∃H',au X pins σ H' s'/\Q H') X.xe s
section
variable {X:Cx}{pos:Pos}
def gName (i:Nat):TG:=λ v σ H Q=>Q (σ.set i (some v)) H
theorem bN {i:Nat}{x:Str}(hN:X.N.Nodup) (hi:X.N[i]? =some x) (hx:xM X.env.scope x) (hf:X.fn x=true\/X.env.scope.names.lookup x=some .local:=by first | exact .inl rfl | exact .inr rfl | assumption):PG X (.Name x pos) (gName i):=by intro pins s σ H v u Q I r h;exact wpAny_assign_Name (gE I hN hi hx r (λ s' I'=>⟨_,H,I',h⟩) hf)
def pY:qH:=λ vs σ H Q=>vs=[]/\Q σ H
def fv (t:TG) (u:qH):qH:=λ vs σ H Q=> ∃v r,vs=v::r/\t v σ H λ σ' H'=>u r σ' H' Q
theorem gA:xC X [] pY:=by intro pins s σ H vs us Q I r h;obtain ⟨e,h⟩:=h;subst e;cases r;exact assignInOrder_nil ⟨σ,H,I,h⟩
theorem cK {e:Expr}{es:List Expr}{t:TG}{u:qH}(h1:PG X e t) (h2:xC X es u)
  (hs:(assignEach (e::es) X.env).map (·.2)=assign e X.env::(assignEach es X.env).map (·.2):=by rfl):xC X (e::es) (fv t u):=by
 intro pins s σ H vs us Q I r h;obtain ⟨v,vr,e1,h⟩:=h;subst e1;cases r with
 | cons r rr=>
   rw [hs];refine assignInOrder_cons (bx (h1 pins s σ H _ _ _ I r h) λ _ s1 ⟨σ1,H1,I1,q1⟩=>?_);exact h2 pins s1 σ1 H1 _ _ Q I1 rr q1
def rH (K:Frag) (n:Nat) (t:qH):TG:=λ v σ H Q=> ∃a xs,v=.ref a/\dQ K H a xs/\xs.length=n/\t xs σ H Q
theorem wD {es:List Expr}{k:Nat}{t:qH}{n:Nat}(hc:X.calm=true) (h:xC X es t)
  (hn:(assignEach es X.env).length=n:=by rfl) (hst:(assignEach es X.env).findIdx? (·.1)=none:=by rfl):PG X (.Tuple es k pos) (rH X.K n t):=by
 intro pins s σ H v u Q I r hw;obtain ⟨a,xs,e1,hq,hl,hw⟩:=hw;subst e1;cases r;obtain ⟨its,rv,ht,hz⟩:=I.tuple hq;refine assign_Tuple_tuple (I.ok.hd hc) ht (by simp [hn,<-hl,rv.length]) hst λ h' hx=>?_;have I1:au X pins σ H {s with heap:=h'}:=I.kept (t':=s.toks) λ b o e=>hx b o (DT (Heap.lt_size e)) e;exact h pins _ σ H xs _ Q I1 (by simpa using rv) hw
def gSub (to ti:TE) (t:xA):TG:=λ v σ H Q=>to σ H λ o H1=>ti σ H1 λ i H2=>t o i v H2 λ H3=>Q σ H3
theorem pF {o i:Expr}{to ti:TE}{t:xA}(ho:PE X o to) (hi:PE X i ti) (hs:Ba X t)
  (ha:∀v,assign (.Subscript o i pos) X.env v=(do
   let ov<-holding [v] (eval o X.env)
   let iv<-holding [v,ov] (eval i X.env)
   standAt pos
   holding [v,ov,iv] (setItem ov iv v)
   release [v,ov,iv] []):=by intro _;rfl):PG X (.Subscript o i pos) (gSub to ti t):=by
 intro pins s σ H v u Q I r h;rw [ha];refine wpAny_bind (wpAny_holding (bx (ho pins s σ H _ I h) λ ov s1 ⟨x,H1,I1,r1,q1⟩=>?_));refine wpAny_bind (wpAny_holding (bx (hi pins s1 σ H1 _ I1 q1) λ iv s2 ⟨y,H2,I2,r2,q2⟩=>?_));refine wpAny_bind (wpAny_standAt (wpAny_bind (wpAny_holding (bx (hs pins s2 σ H2 x y v ov iv u _ I2 r1 r2 r q2) λ _ s3 ⟨H3,I3,q3⟩=>?_))));exact wpAny_release ⟨σ,H3,I3,q3⟩
def tAsg (te:TE) (g:TG):TS:=λ D σ H=>te σ H λ x H1=>g x σ H1 D.nx
theorem pC {tg e:Expr}{te:TE}{g:TG}(he:PE X e te) (hg:PG X tg g) (hs:swapsWithSole [tg] e pos.line X.env=pure false:=by rfl) (hw:swappedStores [tg] e X.env=pure none:=by rfl)
  (h1:(assignEach [tg] X.env).map (·.2)=[assign tg X.env]:=by rfl):PS X (.Assign [tg] e pos) (tAsg te g):=by
 intro pins s σ H D I h;refine wpAny_Assign_stores (bx (he pins s σ H _ I h) λ v s1 ⟨x,H1,I1,r1,q1⟩=>?_) hs hw;rw [h1];exact bx (hg pins s1 σ H1 x v _ I1 r1 q1) λ _ s2 q=>q
theorem aC {i:Nat}{x:Str}{e:Expr}{te:TE}{pos':Pos}(hN:X.N.Nodup) (hi:X.N[i]? =some x) (hx:xM X.env.scope x) (he:PE X e te) (hs:swapsWith e (some (.Name x pos')) pos.line X.env=pure false:=by rfl) (hf:X.fn x=true\/X.env.scope.names.lookup x=some .local:=by first | exact .inl rfl | exact .inr rfl | assumption):
  PS X (.Assign [.Name x pos'] e pos) (tAsg te (gName i)):=by
 intro pins s σ H D I h;refine wpAny_Assign_Name (bx (he pins s σ H _ I h) λ v s1 ⟨y,H1,I1,r1,q1⟩=>?_) hs;exact gE I1 hN hi hx r1 (λ s2 I2=>⟨_,H1,I2,q1⟩) hf
end
section
variable {X:Cx}{pos:Pos}
end
structure It where
 go:Nat->Hp->Prop
 yld:Nat->Hp->V->Hp->Prop
 stop:Nat->Hp->Prop
def eB (X:Cx) (pins:List (Addr×Obj)) (H:Hp) (b:Addr):Prop:=
 H b=none/\b≠X.env.locals/\b∉X.fs/\(b∈X.ex\/X.s₀.heap.objs.size<=b)/\(∀x c,X.env.cells.lookup x=some c->c≠b)/\∀p∈X.pn++pins,p.1≠b
theorem au.fpOk {X:Cx}{pins:List (Addr×Obj)}{σ:St}{H H':Hp}{s:Shared}{b:Addr}(I:au X pins σ H s) (hb:s.heap.objs.size<=b) (hn:H' b=none):eB X pins H' b:=by
 refine ⟨hn,DZ (DW I.lt hb),I.nofs hb,.inr (DU I.sz hb),λ x c e z=>?_,λ p hp z=>?_⟩
 ·obtain ⟨v,q⟩:=I.cell x c e;exact absurd (DW q.lt (by rw [z];exact hb)) (DY _)
 ·exact absurd (DW (Heap.lt_size (I.pin p hp).1) (by rw [z];exact hb)) (DY _)
structure qC (P:Program) (w:World) (K:Frag) (tg:Expr) (J:It) (fp:List Addr) (it:Addr) (tn:Nat->Heap->Prop):Prop where
 mem:it∈fp
 obj:∀i h,tn i h->∀b∈fp,∃o,h.get? b=some o/\∀v,o.data≠.cell v
 keep:∀i h h',tn i h->(∀b∈fp,∀o,h.get? b=some o->h'.get? b=some o)->tn i h'
 item:∀(X:Cx),X.prog=P->X.w=w->X.K=K->X.calm=true->∀(i:Nat) (pins:List (Addr×Obj)) (s:Shared) (σ:St) (H:Hp) (E:Value->Shared->Prop),au X pins σ H s->(∀b∈fp,eB X pins H b)->tn i s.heap->J.go i H->
  wpAny (model P w) X.A (pyNext (.ref it)) (λ r s1=> ∃u,r=some u/\
   wpAny (model P w) X.A (letOwnedTupleGo tg (.ref it) u) (λ _ s2=> ∃x H',au X pins σ H' s2/\aK x u/\J.yld i H x H'/\tn (i+1) s2.heap/\∀b∈fp,H' b=none) E s1) E s
 done:∀(X:Cx),X.prog=P->X.w=w->X.K=K->X.calm=true->∀(i:Nat) (pins:List (Addr×Obj)) (s:Shared) (σ:St) (H:Hp) (E:Value->Shared->Prop),au X pins σ H s->(∀b∈fp,eB X pins H b)->tn i s.heap->J.stop i H->
   wpAny (model P w) X.A (pyNext (.ref it)) (λ r s1=>r=none/\au X pins σ H s1) E s
 self:∀(A:Around) (i:Nat) (s:Shared) (Q:Value->Shared->Prop) (E:Value->Shared->Prop),tn i s.heap->Q (.ref it) s->wpAny (model P w) A (pyIter (.ref it)) Q E s
abbrev TI:=St->Hp->(It->Hp->Prop)->Prop
def CT (X:Cx) (pins:List (Addr×Obj)) (σ:St) (tg:Expr) (R:It->Hp->Prop) (itv:Value) (s2:Shared):Prop:=
 ∃(it:Addr) (fp:List Addr) (tn:Nat->Heap->Prop) (J:It) (H':Hp),itv=.ref it/\au X pins σ H' s2/\qC X.prog X.w X.K tg J fp it tn/\tn 0 s2.heap/\(∀b∈fp,eB X pins H' b)/\R J H'
def PI (X:Cx) (tg iter:Expr) (wi:TI):Prop:=
 ∀(pins:List (Addr×Obj)) (s:Shared) (σ:St) (H:Hp) (R:It->Hp->Prop),au X pins σ H s->wi σ H R->
  wpAny (model X.prog X.w) X.A (eval iter X.env) (λ v s1=>wpAny (model X.prog X.w) X.A (pyIter v) (CT X pins σ tg R) X.xe s1) X.xe s
theorem pV {M:Model}{A:Around}{E:Value->Shared->Prop}{s:Shared}{tg:Expr}{it:Addr}{u:Value}{o:Obj}{n:String}{vs:Array Value}{Q:Unit->Shared->Prop}(ho:s.heap.get? it=some o) (hc:o.cls=.type n) (hd:o.data=.fields vs)
  (hn:["enumerate","zip","dict_itemiterator","dict_reverseitemiterator","odict_iterator","itertools.zip_longest","itertools.pairwise"].contains n=false) (hQ:Q () s):wpAny M A (letOwnedTupleGo tg (.ref it) u) Q E s:=by
 unfold letOwnedTupleGo;cases tg<;>first
  | exact wpAny_pure hQ
  | (cases u<;>first
    | exact wpAny_pure hQ
    | (refine wpAny_bind (wpAny_load ho ?_)
       rw [hc,hd];show wpAny M A (if (["enumerate","zip","dict_itemiterator","dict_reverseitemiterator","odict_iterator","itertools.zip_longest","itertools.pairwise"].contains n&&vs[0]? == some (rawInt _))=true then _ else _) Q E s;rw [if_neg (by intro h;rw [hn,Bool.false_and] at h;cases h)];exact wpAny_pure hQ))
def Bc (K:Frag) (a:Addr):It:=
 ⟨λ i H=> ∃xs x,aH K H a xs/\xs[i]? =some x,λ i H x H'=>H'=H/\∀xs,aH K H a xs->xs[i]? =some x,λ i H=> ∃xs,aH K H a xs/\xs.length<=i⟩
def xN (lo:Int) (n:Nat):It:=⟨λ i _=>i<n,λ i H x H'=>H'=H/\x=.int (lo+i),λ i _=>n<=i⟩
theorem m8 {P:Program}{w:World}{K:Frag}{tg:Expr}(a it:Addr):qC P w K tg (Bc K a) [it] it (λ i h=>h.IsListIter it a i) where
 mem:=by simp
 obj:=λ i h st b hb=>by
  have e:b=it:=by simpa using hb
  subst e;obtain ⟨o,e,c,d⟩:=st;exact ⟨o,e,λ v z=>by rw [d] at z;cases z⟩
 keep:=λ i h h' st k=>st.at λ o e=>k it (by simp) o e
 item:=by intro X hP hw hK hc i pins s σ H E I hf st hg;subst hP hw hK;obtain ⟨xs,x,hq,hx⟩:=hg;obtain ⟨its,rv,p,hz⟩:=I.list hq;obtain ⟨u,hu,ru⟩:=rv.get hx;obtain ⟨f0,f1,f2,f3,f4,f5⟩:=hf it (by simp);refine wpAny_pyNext_list_item st p.isList (x:=u) (by simpa using hu) λ h' st' sb=>?_;have I1:au X pins σ H {s with heap:=h'}:=I.turned (t':=s.toks) (λ b o hb e=>(sb.2 b hb).trans e) f0 f1 f3 f4 f5;obtain ⟨o,e,c,d⟩:=id st';exact ⟨u,rfl,pV (s:={s with heap:=h'}) e c d (by decide) ⟨x,H,I1,ru,⟨rfl,λ ys hy=>by rw [I.list_inj hy hq];exact hx⟩,st',λ b hb=>(hf b hb).1⟩⟩
 done:=by intro X hP hw hK hc i pins s σ H E I hf st hg;subst hP hw hK;obtain ⟨xs,hq,hx⟩:=hg;obtain ⟨its,rv,p,hz⟩:=I.list hq;obtain ⟨f0,f1,f2,f3,f4,f5⟩:=hf it (by simp);have hl:=rv.length;exact wpAny_pyNext_list_end (I.ok.hd hc) st p.isList (by simp;omega) λ h' eb=>⟨rfl,I.turned (t':=s.toks) (λ b o hb e=>eb b o hb e) f0 f1 f3 f4 f5⟩
 self:=λ _ _ _ _ _ st h=>wpAny_pyIter_listiter st h
theorem k7 {P:Program}{w:World}{K:Frag}{tg:Expr}(it:Addr) (lo:Int) (n:Nat):qC P w K tg (xN lo n) [it] it (λ i h=>IsRangeIter h it (lo+(i:Nat)*1) ((n:Int) - (i:Nat)) 1) where
 mem:=by simp
 obj:=λ i h st b hb=>by
  have e:b=it:=by simpa using hb
  subst e;exact ⟨_,st,λ v z=>by
   have z':Data.fields _=Data.cell v:=z;cases z'⟩
 keep:=λ i h h' st k=>k it (by simp) _ st
 item:=by intro X hP hw hK hc i pins s σ H E I hf st hg;subst hP hw hK;obtain ⟨f0,f1,f2,f3,f4,f5⟩:=hf it (by simp);have W:=Walks.range (prog:=X.prog) (w:=X.w) (I.ok.hd hc) it lo 1 n;refine W.item i s _ _ hg st λ v h' tk hv st' kk=>?_;obtain ⟨t,rfl⟩:=hv;have I1:au X pins σ H {s with heap:=h',toks:=tk}:=I.turned (λ b o hb e=>kk b o (by simpa using hb) e) f0 f1 f3 f4 f5;refine ⟨_,rfl,pV (s:={s with heap:=h',toks:=tk}) (n:="range_iterator") st' rfl rfl (by decide) ⟨.int (lo+i),H,I1,⟨t,?_⟩,⟨rfl,rfl⟩,st',λ b hb=>(hf b hb).1⟩⟩;rw [Int.mul_one]
 done:=by intro X hP hw hK hc i pins s σ H E I hf st hg;subst hP hw hK;obtain ⟨f0,f1,f2,f3,f4,f5⟩:=hf it (by simp);exact wpAny_pyNext_range_end (I.ok.hd hc) st (by have:n<=i:=hg;omega) λ h' eb=>⟨rfl,I.turned (t':=s.toks) (λ b o hb e=>eb b o hb e) f0 f1 f3 f4 f5⟩
 self:=λ _ _ _ _ _ st h=>wpAny_pyIter_rangeiter st h
end L2
namespace L2
open PySem PySem.Spec PyProof.Rows
section
variable {X:Cx}{tg:Expr}
def mG (K:Frag) (tl:TE):TI:=λ σ H R=>tl σ H λ x H1=> ∃a,x=.ref a/\(∃xs,aH K H1 a xs)/\R (Bc K a) H1
theorem rc {l:Expr}{tl:TE}(hl:PE X l tl):PI X tg l (mG X.K tl):=by
 intro pins s σ H R I h;refine bx (hl pins s σ H _ I h) λ v s1 ⟨x,H1,I1,r1,q1⟩=>?_;obtain ⟨a,e,⟨xs,hq⟩,q⟩:=q1;subst e;cases r1;obtain ⟨its,rv,p,hz⟩:=I1.list hq;refine wpAny_pyIter_list p.isList ?_;refine ⟨s1.heap.objs.size,[s1.heap.objs.size],_,_,H1,rfl,I1.kept (t':=s1.toks) λ b o e=>Heap.get?_push_of_some _ e,m8 a _,⟨_,Heap.get?_push_size _ rfl,rfl,rfl⟩,λ b hb=>?_,q⟩;have e:b=s1.heap.objs.size:=by simpa using hb
 subst e;exact I1.fpOk (DS _) (I1.hok.fresh (DS _))
theorem pb {pins:List (Addr×Obj)}{σ:St}{H:Hp}{s:Shared}{R:It->Hp->Prop}{E:Value->Shared->Prop}{lo hi:Int}{t u v:Tok}{tk:Nat}(I:au X pins σ H s) (h1: -(2 ^ 62)<=lo) (h2:lo<2 ^ 62) (h3: -(2 ^ 62)<=hi) (h4:hi<2 ^ 62)
  (q:R (xN lo (hi - lo).toNat) H):wpAny (model X.prog X.w) X.A (pyIter (.ref s.heap.objs.size)) (CT X pins σ tg R) E {s with heap:=s.heap.push {cls:=.type "range",data:=.fields #[.int lo t,.int hi u,.int 1 v]},toks:=tk}:=by
 refine wpAny_pyIter_range (IsRange.new ..) (small_one h1 h2 h3 h4) ?_;have I1:au X pins σ H {s with heap:=s.heap.push {cls:=.type "range",data:=.fields #[.int lo t,.int hi u,.int 1 v]},toks:=tk}:=I.kept λ b o e=>Heap.get?_push_of_some _ e;refine ⟨(s.heap.push {cls:=.type "range",data:=.fields #[.int lo t,.int hi u,.int 1 v]}).objs.size,[(s.heap.push {cls:=.type "range",data:=.fields #[.int lo t,.int hi u,.int 1 v]}).objs.size],_,_,H,rfl,
  I1.kept (t':=tk) λ b o e=>Heap.get?_push_of_some _ e,k7 _ lo (hi - lo).toNat,?_,λ b hb=>?_,q⟩
 ·have e1:lo+((0:Nat):Int)*1=lo:=by simp
  have e2:(((hi - lo).toNat:Nat):Int) - ((0:Nat):Int)=Builtin.Range.rangeSize lo hi 1:=by rw [rangeSize_one];split<;>omega
  show IsRangeIter _ _ (lo+((0:Nat):Int)*1) ((((hi - lo).toNat:Nat):Int) - ((0:Nat):Int)) 1;rw [e1,e2];exact Heap.get?_push_size _ rfl
 ·have e:b=(s.heap.push {cls:=.type "range",data:=.fields #[.int lo t,.int hi u,.int 1 v]}).objs.size:=by simpa using hb
  subst e;exact I1.fpOk (DS _) (I1.hok.fresh (DS _))
def mF (ta:TA):TI:=λ σ H R=>ta σ H λ vs H1=> ∃j:Int,vs=[.int j]/\-(2 ^ 62)<=j/\j<2 ^ 62/\R (xN 0 j.toNat) H1
theorem nA {a:Expr}{ta:TA}{p pos:Pos}(hg:Gl X "range") (hm:X.mg "range"=none) (ha:PA X [a] ta) (hs:starEach [a] X.env=[(false,eval a X.env)]:=by rfl):PI X tg (.Call (.Name "range" p) [a] [] pos) (mF ta):=by
 intro pins s σ H R I h;refine Call_ (d0 I hg hm boot_range (PyProof.Rows.callWith_type1 (bx (ha pos pins s σ H _ I h) λ us s1 ⟨vs,H1,I1,r1,q1⟩=>?_) hs rfl));obtain ⟨j,e,q1,q2,q⟩:=q1;subst e;cases r1 with
 | cons r rr=>
   cases rr;obtain ⟨t,rfl⟩:=r;exact call_range_1 (pb I1 (by omega) (by omega) q1 q2 (by simpa using q))
def tFor (wi:TI) (g:TG) (tb:TS):TS:=λ D σ H=>wi σ H λ J H1=> ∃W:Nat->Nat->St->Hp->Prop,(∃m,W 0 m σ H1)/\∀i m σ H,W i m σ H->
 (J.stop i H/\D.nx σ H)\/(J.go i H/\∃N:St->Hp->Prop,(∀σ' H',N σ' H'->∃m',m'<m/\W (i+1) m' σ' H')/\∀x H',J.yld i H x H'->g x σ H' λ σ2 H2=>tb {D with nx:=N,ct:=N,bk:=D.nx} σ2 H2)
def dJ (fp:List Addr) (h:Heap):List (Addr×Obj):=fp.filterMap λ b=>(h.get? b).map λ o=>(b,o)
theorem db {fp:List Addr}{h:Heap}{b:Addr}{o:Obj}(hb:b∈fp) (e:h.get? b=some o):(b,o)∈dJ fp h:=Dl.mpr ⟨b,hb,by rw [e];rfl⟩
theorem ix {fp:List Addr}{h:Heap}{p:Addr×Obj}(hp:p∈dJ fp h):p.1∈fp/\h.get? p.1=some p.2:=by
 obtain ⟨b,hb,e⟩:=Dl.mp hp;cases q:h.get? b with
 | none=>rw [q] at e;cases e
 | some o=>
   rw [q] at e;have e':(b,o)=p:=Option.some.inj e;subst e';exact ⟨hb,q⟩
theorem au.pinned {pins:List (Addr×Obj)}{σ:St}{H:Hp}{s:Shared}{fp:List Addr}(I:au X pins σ H s) (hf:∀b∈fp,eB X pins H b) (ho:∀b∈fp,∃o,s.heap.get? b=some o/\∀v,o.data≠.cell v):au X (pins++dJ fp s.heap) σ H s:=
 I.pins_of λ p hp=>(De.mp hp).elim (λ z=>I.pin p (C5 _ z)) λ z=>by obtain ⟨hb,e⟩:=ix z;obtain ⟨f0,f1,f2,_⟩:=hf p.1 hb;obtain ⟨o,e',d⟩:=ho p.1 hb;rw [e] at e';cases e';exact ⟨e,f0,f1,f2,d⟩
theorem au.unpinned {pins pl:List (Addr×Obj)}{σ:St}{H:Hp}{s:Shared}(I:au X (pins++pl) σ H s):au X pins σ H s:=I.pins_of λ p hp=>I.pin p (C5 _ (DG _ hp))
theorem eY {iter:Expr}{body:List Stmt}{wi:TI}{g:TG}{tb:TS}{pos:Pos}(hp:PassesOwn (model X.prog X.w) X.A X.env X.xe) (hc:X.calm=true) (hi:PI X tg iter wi) (hg:PG X tg g) (hb:jO X body tb)
  (hs:∀x,foldedSetIterable iter X.env x=pure x:=by intro _;rfl):PS X (.For tg iter body [] pos) (tFor wi g tb):=by
 intro pins s σ H D I h;refine wpAny_For (bx (hi pins s σ H _ I h) λ v s1 h1=>bx h1 λ itv s2 h2=>?_) hs;obtain ⟨it,fp,tn,J,H2,e,I2,T,st2,f2,W,⟨m0,w0⟩,turn⟩:=h2;subst e;have stat:∀{H':Hp},(∀b∈fp,H' b=none)->∀b∈fp,eB X pins H' b:=λ hn b hb=>⟨hn b hb,(f2 b hb).2⟩;refine codeAny_forLoop_any (λ n s'=> ∃i σ' H',au X pins σ' H' s'/\tn i s'.heap/\(∀b∈fp,H' b=none)/\W i n σ' H') ?_ m0 ⟨0,σ,H2,I2,st2,λ b hb=>(f2 b hb).1,w0⟩;rintro n s3 ⟨i,σ3,H3,I3,st3,fr3,w3⟩
 rcases turn i n σ3 H3 w3 with ⟨stop,qn⟩ | ⟨go,N,hN,step⟩
 ·refine wpAny_passesOwn hp (bx (T.done X rfl rfl rfl hc i pins s3 σ3 H3 X.xe I3 (stat fr3) st3 stop) λ r s4 ⟨hr,I4⟩=>?_);subst hr;exact wpAny_execs_nil ⟨σ3,H3,I4,qn⟩
 ·refine wpAny_passesOwn hp (bx (T.item X rfl rfl rfl hc i pins s3 σ3 H3 X.xe I3 (stat fr3) st3 go) λ r s4 ⟨u,hr,h4⟩=>?_);subst hr;refine wpAny_passesOwn hp (bx h4 λ _ s5 ⟨x,H5,I5,r5,y5,st5,fr5⟩=>?_);have I5':=I5.pinned (stat fr5) (T.obj _ _ st5);refine wpAny_passesOwn hp (bx (hg _ s5 σ3 H5 x u _ I5' r5 (step x H5 y5)) λ _ s6 ⟨σ6,H6,I6,q6⟩=>?_);refine wpAny_passesOwn hp (bx (hb _ s6 σ6 H6 _ I6 q6) λ f s7 q7=>?_);have again:∀{σ7:St} {H7:Hp},au X (pins++dJ fp s5.heap) σ7 H7 s7->N σ7 H7->∃m,m<n/\∃i σ' H',au X pins σ' H' s7/\tn i s7.heap/\(∀b∈fp,H' b=none)/\W i m σ' H':=λ {σ7 H7} I7 n7=>by obtain ⟨m',hm,w7⟩:=hN σ7 H7 n7;refine ⟨m',hm,i+1,σ7,H7,I7.unpinned,T.keep _ _ _ st5 λ b hb o e=>(I7.pin (b,o) (C5 _ (C5 _ (db hb e)))).1,λ b hb=>?_,w7⟩;obtain ⟨o,e,d⟩:=T.obj _ _ st5 b hb;exact (I7.pin (b,o) (C5 _ (C5 _ (db hb e)))).2.1
  cases f with
  | next=>obtain ⟨σ7,H7,I7,n7⟩:=q7;exact again I7 n7
  | cont=>obtain ⟨σ7,H7,I7,n7⟩:=q7;exact again I7 n7
  | brk=>obtain ⟨σ7,H7,I7,q7⟩:=q7;exact ⟨σ7,H7,I7.unpinned,q7⟩
  | ret v=>obtain ⟨x7,σ7,H7,I7,r7,q7⟩:=q7;exact ⟨x7,σ7,H7,I7.unpinned,r7,q7⟩
end
theorem pZ {K:Frag}{a:Addr}{xs:List V}{g:TG}{tb:TS}{D:cb}{σ:St}{H:Hp}(Pv:Nat->St->Hp->Prop) (h0:Pv 0 σ H) (hl:∀i σ H,i<=xs.length->Pv i σ H->aH K H a xs)
  (hs:∀i x σ H,xs[i]? =some x->Pv i σ H->g x σ H λ σ2 H2=>tb {D with nx:=Pv (i+1),ct:=Pv (i+1),bk:=D.nx} σ2 H2) (hd:∀σ H,Pv xs.length σ H->D.nx σ H):
  ∃W:Nat->Nat->St->Hp->Prop,(∃m,W 0 m σ H)/\∀i m σ H,W i m σ H->
   ((Bc K a).stop i H/\D.nx σ H)\/((Bc K a).go i H/\∃N:St->Hp->Prop,(∀σ' H',N σ' H'->∃m',m'<m/\W (i+1) m' σ' H')/\∀x H',(Bc K a).yld i H x H'->g x σ H' λ σ2 H2=>tb {D with nx:=N,ct:=N,bk:=D.nx} σ2 H2):=by
 refine ⟨λ i m σ H=>m=xs.length - i/\i<=xs.length/\Pv i σ H,⟨xs.length,by simp,DV _,h0⟩,?_⟩;rintro i m σ H ⟨rfl,hi,p⟩;have q:=hl i σ H hi p
 by_cases hlt:i<xs.length
 ·refine .inr ⟨⟨xs,xs[i],q,by simp [hlt]⟩,Pv (i+1),λ σ' H' p'=>⟨xs.length - (i+1),by omega,rfl,hlt,p'⟩,λ x H' y=>?_⟩;obtain ⟨e,y⟩:=y;subst e;exact hs i x σ _ (y xs q) p
 ·have e:i=xs.length:=by omega
  subst e;exact .inl ⟨⟨xs,q,DS _⟩,hd σ H p⟩
theorem nZ {lo:Int}{n:Nat}{g:TG}{tb:TS}{D:cb}{σ:St}{H:Hp}(Pv:Nat->St->Hp->Prop) (h0:Pv 0 σ H)
  (hs:∀i σ H,i<n->Pv i σ H->g (.int (lo+i)) σ H λ σ2 H2=>tb {D with nx:=Pv (i+1),ct:=Pv (i+1),bk:=D.nx} σ2 H2) (hd:∀σ H,Pv n σ H->D.nx σ H):
  ∃W:Nat->Nat->St->Hp->Prop,(∃m,W 0 m σ H)/\∀i m σ H,W i m σ H->
   ((xN lo n).stop i H/\D.nx σ H)\/((xN lo n).go i H/\∃N:St->Hp->Prop,(∀σ' H',N σ' H'->∃m',m'<m/\W (i+1) m' σ' H')/\∀x H',(xN lo n).yld i H x H'->g x σ H' λ σ2 H2=>tb {D with nx:=N,ct:=N,bk:=D.nx} σ2 H2):=by
 refine ⟨λ i m σ H=>m=n - i/\i<=n/\Pv i σ H,⟨n,by simp,DV _,h0⟩,?_⟩;rintro i m σ H ⟨rfl,hi,p⟩
 by_cases hlt:i<n
 ·refine .inr ⟨hlt,Pv (i+1),λ σ' H' p'=>⟨n - (i+1),by omega,rfl,hlt,p'⟩,λ x H' y=>?_⟩;obtain ⟨e,y⟩:=y;subst e y;exact hs i σ _ hlt p
 ·have e:i=n:=by omega
  subst e;exact .inl ⟨DS _,hd σ H p⟩
end L2
namespace L2
open PySem PySem.Spec PyProof.Rows
abbrev R2:=V->V->Hp->VK->Prop
def eS (X:Cx) (f:Value->Value->Sem Value) (r:R2):Prop:=
 ∀(pins:List (Addr×Obj)) (s:Shared) (σ:St) (H:Hp) (x y:V) (v u:Value) (Q:VK),au X pins σ H s->aK x v->aK y u->r x y H Q->
  wpAny (model X.prog X.w) X.A (f v u) (EP X pins σ Q) X.xe s
def CQ (X:Cx) (f:Value->Sem Value) (r:V->Hp->VK->Prop):Prop:=
 ∀(pins:List (Addr×Obj)) (s:Shared) (σ:St) (H:Hp) (x:V) (v:Value) (Q:VK),au X pins σ H s->aK x v->r x H Q->
  wpAny (model X.prog X.w) X.A (f v) (EP X pins σ Q) X.xe s
def aP (X:Cx) (f:Value) (r:List V->Hp->VK->Prop):Prop:=
 ∀(pins:List (Addr×Obj)) (s:Shared) (σ:St) (H:Hp) (xs:List V) (us:List Value) (Q:VK),au X pins σ H s->aF xs us->r xs H Q->
  wpAny (model X.prog X.w) X.A (call f us) (EP X pins σ Q) X.xe s
def wj (r:R2) (ta tb:TE):TE:=λ σ H Q=>ta σ H λ x H1=>tb σ H1 λ y H2=>r x y H2 Q
def rI (C:Int->Int->Prop) (g:Int->Int->V):R2:=λ x y H Q=> ∃i j,x=.int i/\y=.int j/\C i j/\Q (g i j) H
def vN (g:Int->Int->V):R2:=λ x y H Q=> ∃i j,x=.int i/\y=.int j/\Q (g i j) H
def rU (g:Int->V):V->Hp->VK->Prop:=λ x H Q=> ∃i,x=.int i/\Q (g i) H
section
variable {X:Cx}{a b c:Expr}{ta tb tc:TE}{pos:Pos}
theorem xw (ha:PE X a ta) (hb:PE X b tb) {pins:List (Addr×Obj)}{s:Shared}{σ:St}{H:Hp}{R:V->V->Hp->Prop}(I:au X pins σ H s)
  (h:ta σ H λ x H1=>tb σ H1 λ y H2=>R x y H2) {Q:Value->Shared->Prop} {f:Value->Value->Sem Value}
  (hf:∀v u s2 x y H2,au X pins σ H2 s2->aK x v->aK y u->R x y H2->wpAny (model X.prog X.w) X.A (f v u) Q X.xe s2):
  wpAny (model X.prog X.w) X.A (eval a X.env) (λ v s₁=>wpAny (model X.prog X.w) X.A (eval b X.env) (λ u s₂=>wpAny (model X.prog X.w) X.A (f v u) Q X.xe s₂) X.xe s₁) X.xe s:=by
 refine bx (ha pins s σ H _ I h) λ v s1 ⟨x,H1,I1,r1,q1⟩=>?_;refine bx (hb pins s1 σ H1 _ I1 q1) λ u s2 ⟨y,H2,I2,r2,q2⟩=>?_;exact hf v u s2 x y H2 I2 r1 r2 q2
theorem vR {op:Operator}{r:R2}(ho:eS X (binaryOp op) r) (ha:PE X a ta) (hb:PE X b tb):PE X (.BinOp a op b pos) (wj r ta tb):=by intro pins s σ H Q I h;exact wpAny_BinOp (xw ha hb I h λ v u s2 x y H2 I2 rx ry q=>ho pins s2 σ H2 x y v u Q I2 rx ry q)
theorem Bh {f:Value->Value->Sem Value}{C:Int->Int->Prop}{g:Int->Int->Int}
  (rule:∀(i j:Int) (t u:Tok) (s:Shared) (Q:Value->Shared->Prop) (E:Value->Shared->Prop),C i j->Q (.int (g i j) s.toks) {s with toks:=s.toks+1}->wpAny (model X.prog X.w) X.A (f (.int i t) (.int j u)) Q E s):
  eS X f (rI C λ i j=>.int (g i j)):=by
 intro pins s σ H x y v u Q I rx ry h;obtain ⟨i,j,rfl,rfl,hc,q⟩:=h;obtain ⟨t,rfl⟩:=rx;obtain ⟨t',rfl⟩:=ry;exact rule i j t t' s _ _ hc ⟨.int (g i j),H,I.tok _,⟨_,rfl⟩,q⟩
theorem AF {f:Value->Value->Sem Value}{g:Int->Int->Int}
  (rule:∀(i j:Int) (t u:Tok) (s:Shared) (Q:Value->Shared->Prop) (E:Value->Shared->Prop),Q (.int (g i j) s.toks) {s with toks:=s.toks+1}->wpAny (model X.prog X.w) X.A (f (.int i t) (.int j u)) Q E s):
  eS X f (vN λ i j=>.int (g i j)):=by
 intro pins s σ H x y v u Q I rx ry h;obtain ⟨i,j,rfl,rfl,q⟩:=h;obtain ⟨t,rfl⟩:=rx;obtain ⟨t',rfl⟩:=ry;exact rule i j t t' s _ _ ⟨.int (g i j),H,I.tok _,⟨_,rfl⟩,q⟩
theorem rz {f:Value->Value->Sem Value}{g:Int->Int->Bool}
  (rule:∀(i j:Int) (t u:Tok) (s:Shared) (Q:Value->Shared->Prop) (E:Value->Shared->Prop),Q (.bool (g i j)) s->wpAny (model X.prog X.w) X.A (f (.int i t) (.int j u)) Q E s):
  eS X f (vN λ i j=>.bl (g i j)):=by
 intro pins s σ H x y v u Q I rx ry h;obtain ⟨i,j,rfl,rfl,q⟩:=h;obtain ⟨t,rfl⟩:=rx;obtain ⟨t',rfl⟩:=ry;exact rule i j t t' s _ _ ⟨.bl (g i j),H,I,rfl,q⟩
def ss (i j:Int):Prop:=0<j/\j<1073741824
def sj (i j:Int):Prop:=0<=j/\j<=1000000/\i.natAbs<2 ^ 64
def ox (i j:Int):Prop:=(-(2 ^ 64)<i/\i<2 ^ 64)\/(-(2 ^ 64)<j/\j<2 ^ 64)
theorem ox.ok {i j:Int}(h:ox i j):IntMulOk i j:=by
 rcases h with ⟨h1,h2⟩ | ⟨h1,h2⟩
 ·exact .of_left (intBits_le_64 h1 h2)
 ·exact .of_right (intBits_le_64 h1 h2)
theorem wO:eS X (binaryOp .Add) (vN λ i j=>.int (i+j)):=AF λ _ _ _ _ _ _ _ q=>add_int q
theorem wF:eS X (binaryOp .Sub) (vN λ i j=>.int (i - j)):=AF λ _ _ _ _ _ _ _ q=>sub_int q
theorem wI:eS X (binaryOp .Mult) (rI ox λ i j=>.int (i*j)):=Bh λ _ _ _ _ _ _ _ hc q=>mul_int q hc.ok
theorem rq:eS X (binaryOp .FloorDiv) (rI ss λ i j=>.int (i / j)):=Bh λ i j _ _ _ _ _ hc q=>by have h1:(0:Int)<j:=hc.1;have h2:j<1073741824:=hc.2;exact floordiv_int (by omega) (by rw [Int.fdiv_eq_ediv_of_nonneg i (by omega)];exact q) (.inl (PyProof.noPylong_small (by omega)))
theorem wJ:eS X (binaryOp .Mod) (rI (λ _ j=>0<j) λ i j=>.int (i % j)):=Bh λ i j _ _ _ _ _ hc q=>by have h1:(0:Int)<j:=hc;exact mod_int' (by omega) (by rw [Int.fmod_eq_emod_of_nonneg i (by omega)];exact q)
theorem wG:eS X (binaryOp .Pow) (rI sj λ i j=>.int (i ^ j.toNat)):=Bh λ _ _ _ _ _ _ _ hc q=>pow_int_small hc.1 hc.2.1 hc.2.2 q
theorem unI {f:Value->Sem Value}{g:Int->Int}
  (rule:∀(i:Int) (t:Tok) (s:Shared) (Q:Value->Shared->Prop) (E:Value->Shared->Prop),Q (.int (g i) s.toks) {s with toks:=s.toks+1}->wpAny (model X.prog X.w) X.A (f (.int i t)) Q E s):
  CQ X f (rU λ i=>.int (g i)):=by
 intro pins s σ H x v Q I rx h;obtain ⟨i,rfl,q⟩:=h;obtain ⟨t,rfl⟩:=rx;exact rule i t s _ _ ⟨.int (g i),H,I.tok _,⟨_,rfl⟩,q⟩
theorem wa:CQ X (unaryOp .USub) (rU λ i=>.int (-i)):=unI λ _ _ _ _ _ q=>neg_int q
end
def scal:V->V->Bool
 | .non,.non=>true | .non,.int _=>true | .int _,.non=>true | .non,.bl _=>true | .bl _,.non=>true | .non,.str _=>true | .str _,.non=>true
 | .int _,.int _=>true | .bl _,.bl _=>true | .str _,.str _=>true | .byt _,.byt _=>true
 | .int _,.str _=>true | .str _,.int _=>true | .bl _,.str _=>true | .str _,.bl _=>true
 | _,_=>false
def rEq:R2:=λ x y H Q=>scal x y=true/\Q (.bl (decide (x=y))) H
def rNe:R2:=λ x y H Q=>scal x y=true/\Q (.bl (!decide (x=y))) H
theorem mS {i j:Int}:decide (V.int i=V.int j)=(i == j):=by rw [Eg];simp
theorem dec_bl {i j:Bool}:decide (V.bl i=V.bl j)=(i == j):=by rw [Eg];simp
theorem mR {i j:Str}:decide (V.str i=V.str j)=(i == j):=by rw [Eg];simp
theorem mT {i j:Array UInt8}:decide (V.byt i=V.byt j)=(i.toList == j.toList):=by rw [Eg];cases i;cases j;simp
section
variable {X:Cx}{a b c:Expr}{ta tb tc:TE}{pos:Pos}
theorem fin_bl {pins:List (Addr×Obj)}{σ:St}{H:Hp}{s:Shared}{Q:VK}{k k':Bool}(I:au X pins σ H s) (q:Q (.bl k) H) (e:k=k'):EP X pins σ Q (.bool k') s:=by subst e;exact ⟨.bl k,H,I,rfl,q⟩
theorem AE:eS X (compareOp .Eq) rEq:=by
 intro pins s σ H x y v u Q I rx ry h;obtain ⟨hs,q⟩:=h;cases x with
 | non=>
   cases rx;cases y with
   | non=>cases ry;exact PySem.EqNone.eq_none_none (fin_bl I q (by simp))
   | bl j=>cases ry;exact PySem.EqNone.eq_none_bool (fin_bl I q (by simp))
   | int j=>obtain ⟨t',rfl⟩:=ry;exact PySem.EqNone.eq_none_int (fin_bl I q (by simp))
   | str j=>obtain ⟨t',rfl⟩:=ry;exact PySem.EqNone.eq_none_str (fin_bl I q (by simp))
   | _=>exact absurd (show false=true from hs) Ee
 | bl i=>
   cases rx;cases y with
   | non=>cases ry;exact PySem.EqNone.eq_bool_none (fin_bl I q (by simp))
   | bl j=>cases ry;exact eq_bool (fin_bl I q dec_bl)
   | str j=>obtain ⟨t',rfl⟩:=ry;exact PySem.EqMixed.eq_bool_str (fin_bl I q (by simp))
   | _=>exact absurd (show false=true from hs) Ee
 | int i=>
   obtain ⟨t,rfl⟩:=rx;cases y with
   | non=>cases ry;exact PySem.EqNone.eq_int_none (fin_bl I q (by simp))
   | int j=>obtain ⟨t',rfl⟩:=ry;exact eq_int (fin_bl I q mS)
   | str j=>obtain ⟨t',rfl⟩:=ry;exact PySem.EqMixed.eq_int_str (fin_bl I q (by simp))
   | _=>exact absurd (show false=true from hs) Ee
 | str i=>
   obtain ⟨t,rfl⟩:=rx;cases y with
   | non=>cases ry;exact PySem.EqNone.eq_str_none (fin_bl I q (by simp))
   | bl j=>cases ry;exact PySem.EqMixed.eq_str_bool (fin_bl I q (by simp))
   | int j=>obtain ⟨t',rfl⟩:=ry;exact PySem.EqMixed.eq_str_int (fin_bl I q (by simp))
   | str j=>obtain ⟨t',rfl⟩:=ry;exact eq_str (fin_bl I q mR)
   | _=>exact absurd (show false=true from hs) Ee
 | byt i=>
   obtain ⟨t,rfl⟩:=rx;cases y with
   | byt j=>obtain ⟨t',rfl⟩:=ry;exact PySem.W.eq_bytes (fin_bl I q mT)
   | _=>exact absurd (show false=true from hs) Ee
 | _=>cases y<;>exact absurd (show false=true from hs) Ee
theorem Az:eS X (compareOp .NotEq) rNe:=by
 intro pins s σ H x y v u Q I rx ry h;obtain ⟨hs,q⟩:=h;cases x with
 | non=>
   cases rx;cases y with
   | non=>cases ry;exact PySem.EqNone.ne_none_none (fin_bl I q (by simp))
   | bl j=>cases ry;exact PySem.EqNone.ne_none_bool (fin_bl I q (by simp))
   | int j=>obtain ⟨t',rfl⟩:=ry;exact PySem.EqNone.ne_none_int (fin_bl I q (by simp))
   | str j=>obtain ⟨t',rfl⟩:=ry;exact PySem.EqNone.ne_none_str (fin_bl I q (by simp))
   | _=>exact absurd (show false=true from hs) Ee
 | bl i=>
   cases rx;cases y with
   | non=>cases ry;exact PySem.EqNone.ne_bool_none (fin_bl I q (by simp))
   | bl j=>cases ry;exact ne_bool (fin_bl I q (congrArg not dec_bl))
   | str j=>obtain ⟨t',rfl⟩:=ry;exact PySem.EqMixed.ne_bool_str (fin_bl I q (by simp))
   | _=>exact absurd (show false=true from hs) Ee
 | int i=>
   obtain ⟨t,rfl⟩:=rx;cases y with
   | non=>cases ry;exact PySem.EqNone.ne_int_none (fin_bl I q (by simp))
   | int j=>obtain ⟨t',rfl⟩:=ry;exact ne_int (fin_bl I q (congrArg not mS))
   | str j=>obtain ⟨t',rfl⟩:=ry;exact PySem.EqMixed.ne_int_str (fin_bl I q (by simp))
   | _=>exact absurd (show false=true from hs) Ee
 | str i=>
   obtain ⟨t,rfl⟩:=rx;cases y with
   | non=>cases ry;exact PySem.EqNone.ne_str_none (fin_bl I q (by simp))
   | bl j=>cases ry;exact PySem.EqMixed.ne_str_bool (fin_bl I q (by simp))
   | int j=>obtain ⟨t',rfl⟩:=ry;exact PySem.EqMixed.ne_str_int (fin_bl I q (by simp))
   | str j=>obtain ⟨t',rfl⟩:=ry;exact ne_str (fin_bl I q (congrArg not mR))
   | _=>exact absurd (show false=true from hs) Ee
 | byt i=>
   obtain ⟨t,rfl⟩:=rx;cases y with
   | byt j=>obtain ⟨t',rfl⟩:=ry;exact PySem.W.ne_bytes (fin_bl I q (congrArg not mT))
   | _=>exact absurd (show false=true from hs) Ee
 | _=>cases y<;>exact absurd (show false=true from hs) Ee
theorem AA:eS X (compareOp .Lt) (vN λ i j=>.bl (decide (i<j))):=rz λ _ _ _ _ _ _ _ q=>lt_int q
theorem AB:eS X (compareOp .LtE) (vN λ i j=>.bl (decide (i<=j))):=rz λ _ _ _ _ _ _ _ q=>le_int q
theorem AC:eS X (compareOp .Gt) (vN λ i j=>.bl (decide (j<i))):=rz λ _ _ _ _ _ _ _ q=>gt_int q
theorem AD:eS X (compareOp .GtE) (vN λ i j=>.bl (decide (j<=i))):=rz λ _ _ _ _ _ _ _ q=>ge_int q
theorem nE:eS X (compareOp .Lt) (λ x y H Q=> ∃i j,x=.str i/\y=.str j/\Q (.bl (decide (i.cps.toList<j.cps.toList))) H):=by intro pins s σ H x y v u Q I rx ry h;obtain ⟨i,j,rfl,rfl,q⟩:=h;obtain ⟨t,rfl⟩:=rx;obtain ⟨t',rfl⟩:=ry;exact lt_str (fin_bl I q rfl)
theorem nG:eS X (compareOp .In) (λ x y H Q=> ∃i j,x=.str i/\y=.str j/\Q (.bl (!(Builtin.Str.occurrences j i 0 j.length 1).isEmpty)) H):=by intro pins s σ H x y v u Q I rx ry h;obtain ⟨i,j,rfl,rfl,q⟩:=h;obtain ⟨t,rfl⟩:=rx;obtain ⟨t',rfl⟩:=ry;exact in_str (fin_bl I q rfl)
theorem wK:eS X (compareOp .Is) (λ x y H Q=>y=.non/\Q (.bl (decide (x=.non))) H):=by
 intro pins s σ H x y v u Q I rx ry h;obtain ⟨rfl,q⟩:=h;cases ry;refine is_none_gen (fin_bl I q ?_);cases x<;>first
  | (cases rx;rfl)
  | (obtain ⟨t,rfl⟩:=rx;rfl)
theorem rn:eS X (compareOp .IsNot) (λ x y H Q=>y=.non/\Q (.bl (!decide (x=.non))) H):=by
 intro pins s σ H x y v u Q I rx ry h;obtain ⟨rfl,q⟩:=h;cases ry;refine isnot_none_gen (fin_bl I q ?_);cases x<;>first
  | (cases rx;rfl)
  | (obtain ⟨t,rfl⟩:=rx;rfl)
theorem jl:eS X (compareOp .NotIn) (λ x y H Q=> ∃i j,x=.str i/\y=.str j/\Q (.bl (!(!(Builtin.Str.occurrences j i 0 j.length 1).isEmpty))) H):=by intro pins s σ H x y v u Q I rx ry h;obtain ⟨i,j,rfl,rfl,q⟩:=h;obtain ⟨t,rfl⟩:=rx;obtain ⟨t',rfl⟩:=ry;exact notIn_str (fin_bl I q rfl)
theorem jv (b:Expr) {op:CmpOp}(h:op≠.In:=by decide) (h2:op≠.NotIn:=by decide):behindInMarks op b=false:=by
 have e1:(op == CmpOp.In)=false:=by cases op<;>first | rfl | exact absurd rfl h
 have e2:(op == CmpOp.NotIn)=false:=by cases op<;>first | rfl | exact absurd rfl h2
 cases b<;>simp [behindInMarks,e1,e2]
theorem rj {op:CmpOp}{r:R2}(ho:eS X (compareOp op) r) (ha:PE X a ta) (hb:PE X b tb) (hm:behindInMarks op b=false):PE X (.Compare a [op] [b] pos) (wj r ta tb):=by intro pins s σ H Q I h;exact wpAny_Compare1 (xw ha hb I h λ v u s2 x y H2 I2 rx ry q=>ho pins s2 σ H2 x y v u Q I2 rx ry q) hm
theorem fY:(sizeLine:Nat)<2 ^ 63:=by rw [sizeLine_eq];decide
theorem ls:eS X (binaryOp .Add) (λ x y H Q=> ∃i j,x=.str i/\y=.str j/\i.length+j.length<=sizeLine/\Q (.str (i++j)) H):=by intro pins s σ H x y v u Q I rx ry h;obtain ⟨i,j,rfl,rfl,hz,q⟩:=h;obtain ⟨t,rfl⟩:=rx;obtain ⟨t',rfl⟩:=ry;exact add_str (λ t' tk=>⟨.str (i++j),H,I.tok _,⟨_,rfl⟩,q⟩) hz
theorem dz {x:V}{us:List Value}(r:aF [x] us):∃u,us=[u]/\aK x u:=by
 cases r with
 | cons r1 r2=>cases r2;exact ⟨_,rfl,r1⟩
theorem vD {x y:V}{us:List Value}(r:aF [x,y] us):∃u w',us=[u,w']/\aK x u/\aK y w':=by
 cases r with
 | cons r1 r2=>
   cases r2 with
   | cons r3 r4=>cases r4;exact ⟨_,_,rfl,r1,r3⟩
theorem on (hc:X.calm=true):aP X (.builtin "min") (λ xs H Q=> ∃i j,xs=[.int i,.int j]/\Q (.int (if j<i then j else i)) H):=by
 intro pins s σ H xs us Q I r h;obtain ⟨i,j,rfl,q⟩:=h;obtain ⟨u,w',rfl,⟨t,rfl⟩,⟨t',rfl⟩⟩:=vD r;refine min_two_ints (I.ok.hd hc) λ h' tk k=>⟨_,H,I.kept k,?_,q⟩
 by_cases hj:j<i
 ·rw [if_pos hj,if_pos hj];exact ⟨_,rfl⟩
 ·rw [if_neg hj,if_neg hj];exact ⟨_,rfl⟩
theorem oq:aP X (.type "int") (λ xs H Q=>(∃i,xs=[.int i]/\Q (.int i) H)\/∃k,xs=[.bl k]/\Q (.int (if k then 1 else 0)) H):=by
 intro pins s σ H xs us Q I r h
 rcases h with ⟨i,rfl,q⟩ | ⟨k,rfl,q⟩
 ·obtain ⟨u,rfl,t,rfl⟩:=dz r;exact call_int_int ⟨.int i,H,I,⟨_,rfl⟩,q⟩
 ·obtain ⟨u,rfl,r1⟩:=dz r;cases r1;exact call_int_bool ⟨.int (if k then 1 else 0),H,I.tok _,⟨_,rfl⟩,q⟩
theorem jF:aP X (.type "str") (λ xs H Q=> ∃i,xs=[.int i]/\i.natAbs.log2<1920/\Q (.str (toString i)) H):=by intro pins s σ H xs us Q I r h;obtain ⟨i,rfl,hz,q⟩:=h;obtain ⟨u,rfl,t,rfl⟩:=dz r;exact PySem.P.str_of_int hz ⟨.str _,H,I.tok _,⟨_,rfl⟩,q⟩
end
end L2
namespace L2
open PySem PySem.Spec PyProof.Rows
structure lX (h:Heap) (x dx C:Addr) (mA:Str->Option Value):Prop where
 obj:h.get? x=some (EG C dx)
 ns:h.Ns1 dx mA
 ne:dx≠x
theorem nO {h:Heap}{dx:Addr}{mA:Str->Option Value}(n:h.Ns1 dx mA):∃od,h.get? dx=some od/\∀name,EO name od=some (mA name):=by
 obtain ⟨o,es,ep,ho,hd,hk,_,hm⟩:=n;refine ⟨o,ho,λ name=>?_⟩;have e:=hm name;unfold nsFind findBy at e;rw [<-Array.find?_toList] at e;unfold EO;rw [hd];dsimp only;split
 ·rename_i y q;rw [q] at e;exact congrArg some e
 ·rename_i q;rw [q] at e;have a:es.toList.any (·.refKey)=false:=by rw [DJ];intro y hy;obtain ⟨z,t,hkey⟩:=hk y (Array.mem_toList_iff.mp hy);simp [DictEntry.refKey,hkey]
  have a':¬es.toList.any (·.refKey)=true:=by rw [a];exact Ee
  rw [if_neg a'];exact congrArg some e
theorem lX.look {h:Heap}{x dx C:Addr}{mA:Str->Option Value}(I:lX h x dx C mA):∃od,PySem.W.InstAt h x (EG C dx) C (some od)/\∀name,EO name od=some (mA name):=
 let ⟨od,ho,hl⟩:=nO I.ns
 ⟨od,⟨I.obj,rfl,rfl,ho⟩,hl⟩
section
variable {prog:Program}{w:World}{A:Around}{E:Value->Shared->Prop}{s:Shared}{K:Frag}{x dx C f:Addr}{mA:Str->Option Value}{name:Str}{v:Value}
theorem rG {expr:Bool}{Q:Value->Shared->Prop}(X:K.In s.heap) (I:lX s.heap x dx C mA) (hg:EJ K C name=true) (hh:EQ K C=true)
  (ha:Ey K (.ref C) name=some none) (hv:mA name=some v) (hv':E3 v=true) (h:Q v {s with toks:=s.toks+1}):
  wpAny (model prog w) A (getAttr (.ref x) name expr) Q E s:=by
 obtain ⟨od,J,hl⟩:=I.look;exact PySem.W.get_value X J (EU hg).1 (PySem.W.findObj_own hh ha rfl (by rw [hl,hv])) hv' h
theorem pW {pl:Sem Bool}{Q:Value×List Value->Shared->Prop}(X:K.In s.heap) (I:lX s.heap x dx C mA) (hg:EJ K C name=true)
  (hf:Ey K (.ref C) name=some (some (.ref f))) (ht:EH K (.ref f)=true) (hv:mA name=none) (h:Q (.ref f,[.ref x]) s):
  wpAny (model prog w) A (getMethod (.ref x) name pl) Q E s:=by
 obtain ⟨od,J,hl⟩:=I.look;exact PySem.W.method_fn X J (EU hg).1 (EU hg).2 hf (beq_iff_eq.mp ht) (by show (EO name od).map (·.isSome)=some false;rw [hl,hv];rfl) h
theorem qR {ns:List Str}{Q:Unit->Shared->Prop}(X:K.In s.heap) (I:lX s.heap x dx C mA)
  (hs:Ey K (.ref C) "__setattr__"=some (some (.builtin "object.__setattr__"))) (hp:EV K C=true) (ht:EW K C name=some none) (hh:EQ K C=true)
  (hw:PySem.Within mA ns) (hsz:ns.length<=sizeLine)
  (h:∀h',lX h' x dx C (λ y=>if y=name then some v else mA y)->Heap.SameBut dx s.heap h'->Q () {s with heap:=h',toks:=s.toks+2}):
  wpAny (model prog w) A (setAttr (.ref x) name v) Q E s:=by
 obtain ⟨od,J,hl⟩:=I.look;refine PySem.W.set_plain X J hs (PySem.W.osa_open (s:={s with toks:=s.toks+1}) (r:=none) X J hp ht λ b=>?_);obtain ⟨cd,hc,hd'⟩:=PySem.W.any_some hh;have hx:s.heap.get? x=some ⟨.ref C,some dx,.plain,#[]⟩:=I.obj;refine wpAny_bind (wpAny_pure (wpAny_bind (wpAny_bind (wpAny_loadPart hx (wpAny_bind (PySem.W.Looks.here (s:={s with toks:=s.toks+1}) (PySem.W.looks_clsIn X hc) ?_))))));rw [hd'];refine wpAny_pure (a:=some dx) (wpAny_bind (wpAny_pure (wpAny_bind ?_)));refine wpAny_nsSet1 (s:={s with toks:=s.toks+1}) I.ns λ h' hn2 hs2=>?_;obtain ⟨oD,esD,epD,hoD,hdD,hcD⟩:=hn2.count (PySem.Within.cons name v hw);refine wpAny_bind (wpAny_lookBehind hoD (by rw [hdD];exact pastItsLine_dict (DU hcD (by rw [Dh];omega))) ?_);exact wpAny_pure (h _ ⟨(hs2.2 _ (Ne.symm I.ne)).trans I.obj,hn2,I.ne⟩ hs2)
theorem kE {R:Result->Shared->Prop}{vs:List Value}{kw:List (Str×Value)}(X:K.In s.heap) (hm:EX K C=true)
  (hi:Ey K (.ref C) "__init__"=some (some (.ref f))) (hf:PySem.W.typeIn K (.ref f)=some (.type "function"))
  (h:codeAny (model prog w) (A.under (.builtin "type.__call__" ⟨.ref C::vs,kw⟩)) (.call (.ref f) ⟨.ref (s.heap.objs.size+1)::vs,kw⟩) (PySem.W.InitBack (s.heap.objs.size+1) R)
   {s with heap:=(s.heap.push ED).push (EG C s.heap.objs.size)}):
  codeAny (model prog w) A (.call (.ref C) ⟨vs,kw⟩) R s:=by
 obtain ⟨hh,g,d,t,os⟩:=s;exact PySem.W.make_core (PySem.W.makes_of X hm) (PySem.W.looks_findIn X hi) (λ self=>PySem.W.bind_fn X self hf) (.inl rfl) h
end
def putF (f:Str) (v:V):List (Str×V)->List (Str×V)
 | []=>[(f,v)]
 | (g,x)::r=>if g=f then (g,v)::r else (g,x)::putF f v r
theorem aD (f g:Str) (v:V):∀fs:List (Str×V),(putF f v fs).lookup g=if g=f then some v else fs.lookup g
 | []=>by
   show List.lookup g [(f,v)]=_
   by_cases h:g=f
   ·have hb:(g == f)=true:=beq_iff_eq.mpr h;simp only [List.lookup,hb,if_pos h]
   ·have hb:(g == f)=false:=beq_eq_false_iff_ne.mpr h;simp only [List.lookup,hb,if_neg h]
 | (k,x)::r=>by
   have ih:=aD f g v r;rw [show putF f v ((k,x)::r)=(if k=f then (k,v)::r else (k,x)::putF f v r) from rfl]
   by_cases hk:k=f
   ·rw [if_pos hk]
    by_cases h:g=k
    ·have hb:(g == k)=true:=beq_iff_eq.mpr h;simp only [List.lookup,hb,if_pos (h.trans hk)]
    ·have hb:(g == k)=false:=beq_eq_false_iff_ne.mpr h;simp only [List.lookup,hb,if_neg (λ e:g=f=>h (e.trans hk.symm))]
   ·rw [if_neg hk]
    by_cases h:g=k
    ·have hb:(g == k)=true:=beq_iff_eq.mpr h;simp only [List.lookup,hb,if_neg (λ e:g=f=>hk (h.symm.trans e))]
    ·have hb:(g == k)=false:=beq_eq_false_iff_ne.mpr h;simp only [List.lookup,hb];exact ih
theorem fZ (f:Str) (v:V):∀fs:List (Str×V),f∈(putF f v fs).map (·.1)/\∀g,g∈fs.map (·.1)->g∈(putF f v fs).map (·.1)
 | []=>⟨by simp [putF],λ g h=>by simp at h⟩
 | (k,x)::r=>by
   obtain ⟨i1,i2⟩:=fZ f v r;rw [show putF f v ((k,x)::r)=(if k=f then (k,v)::r else (k,x)::putF f v r) from rfl]
   by_cases hk:k=f
   ·rw [if_pos hk];subst hk;exact ⟨by simp,λ g h=>by simpa using h⟩
   ·rw [if_neg hk];refine ⟨?_,λ g h=>?_⟩
    ·rw [Ds];exact C7 _ i1
    ·rw [Ds] at h ⊢
     rcases C1.mp h with e | e
     ·exact C1.mpr (.inl e)
     ·exact C7 _ (i2 g e)
theorem cL (f:Str) (v:V):∀fs:List (Str×V),(putF f v fs).length<=fs.length+1
 | []=>by simp [putF]
 | (k,x)::r=>by
   have ih:=cL f v r;rw [show putF f v ((k,x)::r)=(if k=f then (k,v)::r else (k,x)::putF f v r) from rfl]
   by_cases hk:k=f
   ·rw [if_pos hk,Dh,Dh];omega
   ·rw [if_neg hk,Dh,Dh];omega
theorem ip.some_of {v:V}{o:Option Value}(r:ip (some v) o):∃u,o=some u/\aK v u:=by
 cases o with
 | none=>exact (show False from r).elim
 | some u=>exact ⟨u,rfl,r⟩
theorem ip.none_of {o:Option Value}(r:ip none o):o=none:=by
 cases o with
 | none=>rfl
 | some u=>exact (show False from r).elim
theorem nY {v:V}{u:Value}(r:aK v u):E3 u=true:=by
 cases v with
 | non=>cases (show u=Value.none from r);rfl
 | bl b=>cases (show u=Value.bool b from r);rfl
 | int i=>obtain ⟨t,e⟩:=(show∃t,u=Value.int i t from r);cases e;rfl
 | str x=>obtain ⟨t,e⟩:=(show∃t,u=Value.str x t from r);cases e;rfl
 | byt b=>obtain ⟨t,e⟩:=(show∃t,u=Value.bytes b t from r);cases e;rfl
 | flt b=>obtain ⟨t,e⟩:=(show∃t,u=Value.float b t from r);cases e;rfl
 | ref a=>cases (show u=Value.ref a from r);rfl
 | ty n=>cases (show u=Value.type n from r);rfl
section
variable {P:Program}{w:World}{H H':Hp}{h h':Heap}{a C dx:Addr}{fs fs':List (Str×V)}
theorem gB (hok:gi P w H h) (e:H a=some (.ins C dx fs)):∃mA,lX h a dx C mA/\(∀f,ip (fs.lookup f) (mA f))/\PySem.Within mA (fs.map (·.1))/\fs.length<=1000/\H dx=some (.own a):=by obtain ⟨d,z,ne,ob,mA,n,r,q⟩:=(show bi P w H h a (.ins C dx fs) from hok a _ e);exact ⟨mA,⟨ob,n,ne⟩,r,q,z,d⟩
end
structure m5 (K:Frag) (C:Addr):Prop where
 pg:EJ K C Str.empty=true
 hd:EQ K C=true
 po:EV K C=true
 sa:Ey K (.ref C) "__setattr__"=some (some (.builtin "object.__setattr__"))
theorem m5.get {K:Frag}{C:Addr}(c:m5 K C) (f:Str):EJ K C f=true:=c.pg
def cz (K:Frag) (C:Addr) (f:Str):Prop:=Ey K (.ref C) f=some none
theorem cz.taker {K:Frag}{C:Addr}{f:Str}(n:cz K C f):EW K C f=some none:=by unfold EW;rw [show Ey K (.ref C) f=some none from n];rfl
structure Bb (K:Frag) (C:Addr) (m:Str) (f:Addr):Prop where
 at_:Ey K (.ref C) m=some (some (.ref f))
 fn:EH K (.ref f)=true
 kp:EE K (.ref f)=true
section
variable {X:Cx}{pins:List (Addr×Obj)}{σ:St}{H:Hp}{s:Shared}{a C dx:Addr}{fs:List (Str×V)}{f:Str}{v:V}{A:Around}{E:Value->Shared->Prop}
theorem lH {b:Bool}{Q:Value->Shared->Prop}(I:au X pins σ H s) (e:H a=some (.ins C dx fs)) (c:m5 X.K C) (n:cz X.K C f) (l:fs.lookup f=some v)
  (h:∀u s',au X pins σ H s'->aK v u->Q u s'):wpAny (model X.prog X.w) A (getAttr (.ref a) f b) Q E s:=by
 obtain ⟨mA,O,r,_,_,_⟩:=gB I.hok e;obtain ⟨u,hu,ru⟩:=ip.some_of (v:=v) (o:=mA f) (by rw [<-l];exact r f);exact rG I.kIn O (c.get f) c.hd n hu (nY ru) (h u _ (I.tok _) ru)
theorem gS {m:Str}{g:Addr}{pl:Sem Bool}{Q:Value×List Value->Shared->Prop}(I:au X pins σ H s) (e:H a=some (.ins C dx fs)) (c:m5 X.K C) (k:Bb X.K C m g) (l:fs.lookup m=none)
  (h:Q (.ref g,[.ref a]) s):wpAny (model X.prog X.w) A (getMethod (.ref a) m pl) Q E s:=by
 obtain ⟨mA,O,r,_,_,_⟩:=gB I.hok e;have hn:mA m=none:=ip.none_of (by rw [<-l];exact r m);exact pW I.kIn O (c.get m) k.at_ k.fn hn h
theorem li {y:V}{u:Value}{Q:Unit->Shared->Prop}(I:au X pins σ H s) (e:H a=some (.ins C dx fs)) (c:m5 X.K C) (n:cz X.K C f) (hl:fs.length<1000) (ry:aK y u)
  (h:∀s',au X pins σ (upd H a (.ins C dx (putF f y fs))) s'->Q () s'):wpAny (model X.prog X.w) A (setAttr (.ref a) f u) Q E s:=by
 obtain ⟨mA,O,r,wi,_,ho⟩:=gB I.hok e;have hz:(fs.map (·.1)).length<=sizeLine:=by rw [CZ,sizeLine_eq];omega
 refine qR I.kIn O c.sa c.po n.taker c.hd wi hz λ h' O' sb=>h _ ?_;have hd:∃o,h'.get? dx=some o:=let ⟨o,_,_,e',_⟩:=O'.ns;⟨o,e'⟩;refine I.write (x:=a) (e:=dx) (by rw [e];exact True.intro) (.inr ho) (λ b q hb z=>(sb.2 b hb).trans z) hd ?_;refine ⟨by rw [ak O.ne];exact ho,?_,O.ne,O'.obj,_,O'.ns,λ g=>?_,λ g hg=>?_⟩
 ·have:=cL f y fs;omega
 ·show ip ((putF f y fs).lookup g) (if g=f then some u else mA g);rw [aD]
  by_cases q:g=f
  ·rw [if_pos q,if_pos q];exact ry
  ·rw [if_neg q,if_neg q];exact r g
 ·by_cases q:g=f
  ·rw [q];exact (fZ f y fs).1
  ·refine (fZ f y fs).2 g (wi g λ z=>hg ?_);show (if g=f then some u else mA g)=none;rw [if_neg q];exact z
theorem au.made (I:au X pins σ H s):au X pins σ (upd (upd H s.heap.objs.size (.own (s.heap.objs.size+1))) (s.heap.objs.size+1) (.ins C s.heap.objs.size []))
  {s with heap:=(s.heap.push ED).push (EG C s.heap.objs.size)}:=by
 have e1:(s.heap.push ED).get? s.heap.objs.size=some ED:=Heap.get?_push_size s.heap rfl;have e2:((s.heap.push ED).push (EG C s.heap.objs.size)).get? (s.heap.objs.size+1)=some (EG C s.heap.objs.size):=by
  have:=Heap.get?_push_size (s.heap.push ED) (o:=EG C s.heap.objs.size) rfl
  rwa [Heap.size_push] at this
 have e3:(s.heap.push ED).Ns s.heap.objs.size (λ _=>none):=⟨ED,#[],_,e1,rfl,(λ e he=>absurd he (by simp)),λ _=>rfl⟩;have I1:=I.laid (a:=s.heap.objs.size) (o:=.own (s.heap.objs.size+1)) (h':=s.heap.push ED) (t':=s.toks) (λ b u q=>Heap.get?_push_of_some _ q) (DS _) ⟨_,e1⟩;refine I1.laid (a:=s.heap.objs.size+1) (o:=.ins C s.heap.objs.size []) (t':=s.toks) (λ b u q=>Heap.get?_push_of_some _ q) (D0 (Heap.size_push _ _)) ?_;have ne:s.heap.objs.size≠s.heap.objs.size+1:=DT (D4 _);refine ⟨by rw [ak ne,ac],DV _,ne,e2,λ _=>none,(Heap.Ns1.of_empty e3).at λ o q=>Heap.get?_push_of_some _ q,λ _=>True.intro,λ y hy=>absurd rfl hy⟩
theorem r9 {prog:Program}{w:World}{env:Env}{e:Expr}{f:Str}{pos:Pos}{s:Shared}{Q:Value->Shared->Prop}(hb:attributeBase e f env (eval e env)=eval e env)
  (h:wpAny (model prog w) A (eval e env) (λ o s₁=>wpAny (model prog w) A (getAttr o f true) Q E s₁) E s):wpAny (model prog w) A (eval (.Attribute e f pos) env) Q E s:=
 Attribute_any_ h (by rw [arm_eval_Attribute,hb])
end
def o4 (K:Frag) (ta tv:TE) (f:Str):TS:=λ D σ H=>tv σ H λ y H1=>ta σ H1 λ x H2=> ∃a C dx fs,x=.ref a/\H2 a=some (.ins C dx fs)/\m5 K C/\cz K C f/\fs.length<1000/\
 D.nx σ (upd H2 a (.ins C dx (putF f y fs)))
section
variable {X:Cx}{o e value:Expr}{f:Str}{pos pos' tpos:Pos}{ta tv:TE}
theorem wC (ha:PE X o ta) (hv:PE X value tv) (hs:swapsWith value (some (.Attribute o f pos')) pos.line X.env=pure false):PS X (.Assign [.Attribute o f pos'] value pos) (o4 X.K ta tv f):=by intro pins s σ H D I h;refine plainObj_wpAny_Assign_Attribute (bx (hv pins s σ H _ I h) λ u s1 ⟨y,H1,I1,ry,q⟩=>bx (ha pins s1 σ H1 _ I1 q) λ ov s2 ⟨x,H2,I2,rx,a,C,dx,fs,ex,ea,c,n,l,q2⟩=>?_) hs;subst ex;obtain rfl:ov=Value.ref a:=rx;exact li I2 ea c n l ry λ s3 I3=>⟨σ,_,I3,q2⟩
end
section
variable {X:Cx}{pins:List (Addr×Obj)}{σ:St}{H:Hp}{s:Shared}{A:Around}{E:Value->Shared->Prop}{Q:Value->Shared->Prop}{c:Value}{b:Bool}
inductive gg (K:Frag) (H:Hp):V->Value->Prop where
 | non:gg K H .non (.type "NoneType")
 | bl (x:Bool):gg K H (.bl x) (.type "bool")
 | int (i:Int):gg K H (.int i) (.type "int")
 | str (x:Str):gg K H (.str x) (.type "str")
 | flt (x:UInt64):gg K H (.flt x) (.type "float")
 | lst {a:Addr} {xs:List V} (e:H a=some (.lst xs)):gg K H (.ref a) (.type "list")
 | frz {a:Addr} {o:Obj} {xs:List V} (e:H a=some (.frz o (.lst xs))):gg K H (.ref a) (.type "list")
 | tup {a:Addr} {xs:List V} (e:H a=some (.tup xs)):gg K H (.ref a) (.type "tuple")
 | dK {a:Addr} {kvs:List (Key×V)} (e:H a=some (.dK kvs)):gg K H (.ref a) (.type "dict")
 | dT {a:Addr} {kvs:List (List Key×V)} (e:H a=some (.dT kvs)):gg K H (.ref a) (.type "dict")
 | ins {a C dx:Addr} {fs:List (Str×V)} (e:H a=some (.ins C dx fs)) (cl:m5 K C) (ha:Ey K (.ref C) "__class__"=some (some (.builtin "object.__class__")))
   (hn:E4 K (.builtin "object.__class__") "__get__"=some (some (.builtin "getset_descriptor.__get__"))) (htk:E5 K (.builtin "object.__class__")=some true)
   (hm:EK K C (.type "object")=some true):gg K H (.ref a) (.ref C)
theorem nS {x:V}{u t:Value}(I:au X pins σ H s) (rx:aK x u) (ty:gg X.K H x t) (e:Ex X.K t c=some b) (h:∀tk,Q (.bool b) {s with toks:=tk}):
  wpAny (model X.prog X.w) A (call (.builtin "isinstance") [u,c]) Q E s:=by
 cases ty with
 | non=>cases (show u=Value.none from rx);exact EB PySem.W.kitx_none I.kIn True.intro e (λ z=>nomatch z) h
 | bl y=>cases (show u=Value.bool y from rx);exact EB PySem.W.kitx_bool I.kIn True.intro e (λ z=>nomatch z) h
 | int i=>obtain ⟨t,q⟩:=(show∃t,u=Value.int i t from rx);cases q;exact EB PySem.W.kitx_int I.kIn True.intro e (λ z=>nomatch z) h
 | str y=>obtain ⟨t,q⟩:=(show∃t,u=Value.str y t from rx);cases q;exact EB PySem.W.kitx_str I.kIn True.intro e (λ z=>nomatch z) h
 | flt y=>obtain ⟨t,q⟩:=(show∃t,u=Value.float y t from rx);cases q;exact EB PySem.W.kitx_float I.kIn True.intro e (λ z=>nomatch z) h
 | @lst a xs ea=>
   cases (show u=Value.ref a from rx);obtain ⟨_,_,n,_,h1⟩:=(show bi X.prog X.w H s.heap a (.lst xs) from I.hok a _ ea);exact EB E6 I.kIn ⟨_,h1,rfl⟩ e (λ z=>nomatch z) h
 | @frz a ob xs ea=>
   cases (show u=Value.ref a from rx);obtain ⟨_,_,_,n,_,h1⟩:=(show bi X.prog X.w H s.heap a (.frz ob (.lst xs)) from I.hok a _ ea);exact EB E6 I.kIn ⟨_,h1,rfl⟩ e (λ z=>nomatch z) h
 | @tup a xs ea=>
   cases (show u=Value.ref a from rx);obtain ⟨_,_,_,p⟩:=(show bi X.prog X.w H s.heap a (.tup xs) from I.hok a _ ea);obtain ⟨o,h1,h2,_⟩:=p;exact EB PySem.W.kitx_tuple I.kIn ⟨o,h1,h2⟩ e (λ z=>nomatch z) h
 | @dK a kvs ea=>
   cases (show u=Value.ref a from rx);obtain ⟨_,_,vs,_,p⟩:=(show bi X.prog X.w H s.heap a (.dK kvs) from I.hok a _ ea);obtain ⟨o,es,ep,h1,h2,_⟩:=p;exact EB E7 I.kIn ⟨o,h1,h2.1⟩ e (λ z=>nomatch z) h
 | @dT a kvs ea=>
   cases (show u=Value.ref a from rx);obtain ⟨_,_,xs,_,o,es,ep,h1,h2,_⟩:=(show bi X.prog X.w H s.heap a (.dT kvs) from I.hok a _ ea);exact EB E7 I.kIn ⟨o,h1,h2.1⟩ e (λ z=>nomatch z) h
 | @ins a C dx fs ea cl ha hn htk hm=>
   cases (show u=Value.ref a from rx);obtain ⟨mA,O,_⟩:=gB I.hok ea;obtain ⟨od,J,_⟩:=O.look;exact EB (PySem.W.kitx_own (cl.get _) cl.hd ha hn htk hm) I.kIn J e (λ z=>nomatch z) h
end
end L2
namespace L2
open PySem PySem.Spec PyProof.Rows
structure bQ (k:Nat) (A:Around):Prop where
 hd:A.handled=none
 dp:A.depth+3*k+5<recursionLimit
 un:A.units+16*k+200<cLine
theorem bQ.mono {j k:Nat}{A:Around}(r:bQ k A) (h:j<=k):bQ j A:=⟨r.hd,by have:=r.dp;omega,by have:=r.un;omega⟩
theorem bQ.deeper {k:Nat}{A:Around}(r:bQ (k+1) A) (env:Env):bQ k (A.deeper env):=
 ⟨r.hd,by have:=r.dp;show A.depth+1+3*k+5<_;omega,by have:=r.un;show A.units+3+16*k+200<_;omega⟩
theorem ly {A:Around}{C:Addr}{us:List Value}{kw:List (Str×Value)}:(A.under (.builtin "type.__call__" ⟨.ref C::us,kw⟩)).depth=A.depth+1:=by
 first | rfl | simp [Around.under,Code.weight,Code.isCreation,Code.isGuard,Code.isCaller,Code.frames,Code.isFrame,guardIds]
theorem lx {A:Around}{C:Addr}{us:List Value}{kw:List (Str×Value)}:(A.under (.builtin "type.__call__" ⟨.ref C::us,kw⟩)).units=A.units+1:=by
 first | rfl | simp [Around.under,Code.cUnits,Code.frames,Code.isFrame]
theorem bQ.make {k:Nat}{A:Around}(r:bQ (k+1) A) (C:Addr) (us:List Value) (kw:List (Str×Value)):bQ k (A.under (.builtin "type.__call__" ⟨.ref C::us,kw⟩)):=
 ⟨r.hd,by have:=r.dp;rw [ly];omega,by have:=r.un;rw [lx];omega⟩
theorem bQ.depth {k:Nat}{A:Around}(r:bQ k A):A.depth<recursionLimit:=by have:=r.dp;omega
theorem bQ.units {k:Nat}{A:Around}(r:bQ k A):A.units+64<cLine:=by have:=r.un;omega
def bY:TA:=λ _ H Q=>Q [] H
def aN (ta:TE) (tr:TA):TA:=λ σ H Q=>ta σ H λ x H1=>tr σ H1 λ xs H2=>Q (x::xs) H2
section
variable {X:Cx}{e:Expr}{es:List Expr}{te:TE}{t:TA}{pos:Pos}
theorem pa_nil:PA X [] bY:=λ _ _ _ _ H Q I h=>Calls.spliced_nil ⟨[],H,I,.nil,h⟩
theorem pa_cons (ha:PE X e te) (hr:PA X es t) (hs:starEach (e::es) X.env=(false,eval e X.env)::starEach es X.env:=by rfl):PA X (e::es) (aN te t):=by intro pos pins s σ H Q I h;rw [hs];show wpAny _ _ (spliced ((false,eval e X.env)::backTo pos (starEach es X.env))) _ _ s;refine Calls.spliced_cons (bx (ha pins s σ H _ I h) λ u s1 ⟨x,H1,I1,r1,q1⟩=>?_);exact bx (hr pos pins s1 σ H1 _ I1 q1) λ us s2 ⟨xs,H2,I2,r2,q2⟩=>⟨x::xs,H2,I2,.cons r1 r2,q2⟩
def oE (t:TA):TE:=λ σ H Q=>t σ H λ xs H1=>xs.length<=sizeLine/\∀p,H1 p=none->Q (.ref p) (upd H1 p (.tup xs))
def oH (t:TA):TE:=λ σ H Q=>t σ H λ xs H1=>xs.length<=sizeLine/\∀p,H1 p=none->Q (.ref p) (upd H1 p (.lst xs))
theorem cM {x1}(h:PA X es t):PE X (.Tuple es x1 pos) (oE t):=by intro pins s σ H Q I hq;refine wpAny_Tuple_spliced (bx (h pos pins s σ H _ I hq) λ us s1 ⟨xs,H1,I1,r,z,q⟩=>⟨by rw [<-r.length];exact z,?_⟩);have hf:H1 s1.heap.objs.size=none:=I1.hok.fresh (DS _);refine ⟨.ref s1.heap.objs.size,upd H1 s1.heap.objs.size (.tup xs),I1.laid (t':=s1.toks) (λ b u e=>Heap.get?_push_of_some _ e) (DS _) ?_,rfl,q _ hf⟩;exact ⟨z,us,r,⟨_,Heap.get?_push_size _ rfl,rfl,_,rfl⟩⟩
theorem aJ (h:PA X es t):PE X (.List es pos) (oH t):=by intro pins s σ H Q I hq;refine wpAny_List_spliced (bx (h pos pins s σ H _ I hq) λ us s1 ⟨xs,H1,I1,r,z,q⟩=>⟨by rw [<-r.length];exact z,?_⟩);have hf:H1 s1.heap.objs.size=none:=I1.hok.fresh (DS _);refine ⟨.ref s1.heap.objs.size,upd H1 s1.heap.objs.size (.lst xs),I1.laid (t':=s1.toks) (λ b u e=>Heap.get?_push_of_some _ e) (DS _) ?_,rfl,q _ hf⟩;exact ⟨z,us,0,r,Heap.get?_push_size _ rfl⟩
end
abbrev Sp:=List V->Hp->VK->XK->Prop
abbrev m6:=List Env->Hp->Shared->XK->Value->Shared->Prop
structure jP (P:Program) (w:World) (K:Frag) (mg:Str->Option Value) (base:Heap) (A:Around) (outer:List Env) (s:Shared) (H:Hp):Prop where
 frames:A.frames=some outer
 mod:Mod K mg base
 bs:∀b o,base.get? b=some o->s.heap.get? b=some o/\H b=none
 bsz:base.objs.size<=s.heap.objs.size
 funs:s.heap.FunFrames base outer
 frf:∀b∈e7 outer,H b=none
 hok:gi P w H s.heap
 bare:AllBare s.gens
def CE (outer:List Env) (P:Program) (w:World) (H:Hp) (s:Shared) (Q:VK) (u:Value) (s':Shared):Prop:=
 ∃v H',s'.os=s.os/\AllBare s'.gens/\Un (e7 outer) [] H H' s.heap s'.heap/\gi P w H' s'.heap/\aK v u/\Q v H'
def CR (CX:m6) (outer:List Env) (P:Program) (w:World) (H:Hp) (s:Shared) (Q:VK) (E:XK) (r:Result) (s':Shared):Prop:=
 match r with
 | .ok (.ret u)=>CE outer P w H s Q u s'
 | .ok _=>False
 | .error e=>CX outer H s E e s'
structure bp (P:Program) (w:World) (K:Frag) (mg:Str->Option Value) (base:Heap) (CX:m6) (k:Nat) (f:Addr) (fd:FuncData) (ps:List Str) (sp:Sp):Prop where
 len:∀vs H Q E,sp vs H Q E->vs.length=ps.length
 run:∀(A:Around) (outer:List Env) (s:Shared) (H:Hp) (args:Args) (us:List Value) (vs:List V) (Q:VK) (E:XK),bQ k A->jP P w K mg base A outer s H->BindsTo s fd args (ps.zip us)->aF vs us->sp vs H Q E->
  codeAny (model P w) A (.call (.ref f) args) (CR CX outer P w H s Q E) s
theorem bp.imp {P:Program}{w:World}{K:Frag}{mg:Str->Option Value}{base:Heap}{CX:m6}{k:Nat}{f:Addr}{fd:FuncData}{ps:List Str}{sp sp':Sp}(F:bp P w K mg base CX k f fd ps sp)
  (h:∀vs H Q E,sp' vs H Q E->sp vs H Q E):bp P w K mg base CX k f fd ps sp':=
 ⟨λ vs H Q E q=>F.len vs H Q E (h _ _ _ _ q),λ A outer s H args us vs Q E hr he hb hv hs=>F.run A outer s H args us vs Q E hr he hb hv (h _ _ _ _ hs)⟩
theorem jP.make {P:Program}{w:World}{K:Frag}{mg:Str->Option Value}{base:Heap}{A:Around}{outer:List Env}{s:Shared}{H:Hp}(e:jP P w K mg base A outer s H) (C:Addr) (us:List Value) (kw:List (Str×Value)):
  jP P w K mg base (A.under (.builtin "type.__call__" ⟨.ref C::us,kw⟩)) outer s H:=⟨by first | exact e.frames | (simpa [Around.under,Code.envs,Code.isFrame,pushEnvs] using e.frames),e.mod,e.bs,e.bsz,e.funs,e.frf,e.hok,e.bare⟩
section
variable {X:Cx}{pins:List (Addr×Obj)}{σ:St}{H:Hp}{s s':Shared}
theorem au.env0 (I:au X pins σ H s):jP X.prog X.w X.K X.mg X.base X.A X.stack s H:=
 ⟨I.ok.frames,I.ok.mod,I.bs,DU I.ok.bsz I.sz,I.stack,I.stkFree,I.hok,I.bare⟩
theorem au.after {Q:VK}{u:Value}(I:au X pins σ H s) (h:CE X.stack X.prog X.w H s Q u s'):EP X pins σ Q u s':=by obtain ⟨v,H',os,bare,un,hok,r,q⟩:=h;obtain ⟨hh,g,d,t,os'⟩:=s';obtain rfl:os'=s.os:=os;exact ⟨v,H',I.call (h':=hh) (g':=g) (d':=d) (t':=t) (ch:=[]) un hok bare (λ b z=>absurd z (by simp)),r,q⟩
end
def oK (sp:Sp) (dvs:List V) (E:XK) (t:TA):TE:=λ σ H Q=>t σ H λ vs H1=>sp (vs++dvs) H1 Q E
def oG (C:Addr) (sp:Sp) (dvs:List V) (E:XK) (t:TA):TE:=λ σ H Q=>t σ H λ vs H1=> ∀x dx,H1 x=none->H1 dx=none->dx≠x->
 sp (.ref x::(vs++dvs)) (upd (upd H1 dx (.own x)) x (.ins C dx [])) (λ v H2=>v=.non/\Q (.ref x) H2) E
def dq (K:Frag) (fd:FuncData) (ps:List Str) (ds:List Value):Prop:=
 ∀(s:Shared) (us:List Value),K.In s.heap->(us++ds).length=ps.length->BindsTo s fd ⟨us,[]⟩ (ps.zip (us++ds))
theorem dq.all {K:Frag}{fd:FuncData}{ps:List Str}(h:∀us:List Value,us.length=ps.length->bindArgs fd ⟨us,[]⟩=pure (ps.zip us)):dq K fd ps []:=λ s us _ hl=>by rw [Dd] at hl ⊢;exact .of_eq (h us hl)
def hJ (CX:m6) (X:Cx) (E:XK):Prop:= ∀(pins:List (Addr×Obj)) (σ:St) (H:Hp) (s:Shared) (e:Value) (s':Shared),au X pins σ H s->CX X.stack H s E e s'->X.xe e s'
section
variable {X:Cx}{CX:m6}{k:Nat}{f C:Addr}{fd:FuncData}{ps:List Str}{sp:Sp}{dvs:List V}{ds:List Value}{E:XK}{x m:Str}{p pos apos:Pos}{e o:Expr}{es:List Expr}{ta:TE}{t:TA}
theorem lj {pins:List (Addr×Obj)}{σ:St}{H:Hp}{s:Shared}{Q:VK}{us:List Value}{vs:List V}(F:bp X.prog X.w X.K X.mg X.base CX k f fd ps sp) (hr:bQ k X.A) (hb:dq X.K fd ps ds) (hd:aF dvs ds) (hx:hJ CX X E)
  (I:au X pins σ H s) (r:aF vs us) (h:sp (vs++dvs) H Q E):wpAny (model X.prog X.w) X.A (call (.ref f) us) (EP X pins σ Q) X.xe s:=by
 have r2:aF (vs++dvs) (us++ds):=r.append hd;have hl:(us++ds).length=ps.length:=by rw [<-r2.length];exact F.len _ _ _ _ h
 refine wpAny_call (codeAny_mono (F.run X.A X.stack s H ⟨us,[]⟩ (us++ds) (vs++dvs) Q E hr I.env0 (hb s us I.kIn hl) r2 h) λ r s' hq=>?_);cases r with
 | error e=>exact hx pins σ H s e s' I hq
 | ok fl=>
   cases fl with
   | ret u=>exact I.after hq
   | next=>exact False.elim hq
   | brk=>exact False.elim hq
   | cont=>exact False.elim hq
theorem rk (F:bp X.prog X.w X.K X.mg X.base CX k f fd ps sp) (hr:bQ k X.A) (hg:Gl X x) (hm:X.mg x=some (.ref f)) (hk:EE X.K (.ref f)=true) (hb:dq X.K fd ps ds) (hd:aF dvs ds) (hx:hJ CX X E)
  (ha:PA X (e::es) t) (hdb:(x == ("__debug__":Str))=false:=by decide) (he:starEach (e::es) X.env=(false,eval e X.env)::starEach es X.env:=by rfl) (hpl:(backTo pos (starEach es X.env)).any (·.1)=false:=by rfl):
  PE X (.Call (.Name x p) (e::es) [] pos) (oK sp dvs E t):=by
 intro pins s σ H Q I h;refine wpAny_Call_Name_kw (dL I hg hm ?_ hdb);refine EL (h₀:=X.base) I.ok.mod.kin hk (bx (ha pos pins s σ H _ I h) λ us s1 ⟨vs,H1,I1,r,q⟩=>⟨I1.kIn,?_⟩) he hpl;exact lj F hr hb hd hx I1 r q
structure Mk (K:Frag) (C f:Addr):Prop where
 makes:EX K C=true
 init:Ey K (.ref C) "__init__"=some (some (.ref f))
 fn:EH K (.ref f)=true
 kp:EE K (.ref C)=true
theorem pa {pins:List (Addr×Obj)}{σ:St}{H:Hp}{s:Shared}{Q:VK}{us:List Value}{vs:List V}(M:Mk X.K C f) (F:bp X.prog X.w X.K X.mg X.base CX k f fd ps sp) (hr:bQ (k+1) X.A) (hb:dq X.K fd ps ds) (hd:aF dvs ds)
  (hx:hJ CX X E) (I:au X pins σ H s) (r:aF vs us)
  (h:∀x dx,H x=none->H dx=none->dx≠x->sp (.ref x::(vs++dvs)) (upd (upd H dx (.own x)) x (.ins C dx [])) (λ v H2=>v=.non/\Q (.ref x) H2) E):
  wpAny (model X.prog X.w) X.A (call (.ref C) us) (EP X pins σ Q) X.xe s:=by
 have hq:=h (s.heap.objs.size+1) s.heap.objs.size (I.hok.fresh (DX _)) (I.hok.fresh (DS _)) (DT (D4 _));have I2:=au.made (C:=C) I;have r2:aF (V.ref (s.heap.objs.size+1)::(vs++dvs)) (Value.ref (s.heap.objs.size+1)::(us++ds)):=.cons rfl (r.append hd);have hl:(Value.ref (s.heap.objs.size+1)::us++ds).length=ps.length:=by have e:=r2.length;rw [F.len _ _ _ _ hq] at e;exact e.symm
 refine wpAny_call (kE (f:=f) I.kIn M.makes M.init (beq_iff_eq.mp M.fn) (codeAny_mono (F.run _ X.stack _ _ ⟨Value.ref (s.heap.objs.size+1)::us,[]⟩ (Value.ref (s.heap.objs.size+1)::(us++ds)) _ _ E (hr.make C us [])
  (I2.env0.make C us []) (hb _ (Value.ref (s.heap.objs.size+1)::us) I2.kIn hl) r2 hq) λ r s' hq'=>?_))
 cases r with
 | error e=>exact hx pins σ _ _ e s' I2 hq'
 | ok fl=>
   cases fl with
   | ret u=>
     obtain ⟨v,H',I3,rv,ev,q3⟩:=I2.after hq';subst ev;exact ⟨rv,⟨V.ref (s.heap.objs.size+1),H',I3,rfl,q3⟩⟩
   | next=>exact False.elim hq'
   | brk=>exact False.elim hq'
   | cont=>exact False.elim hq'
theorem rf (M:Mk X.K C f) (F:bp X.prog X.w X.K X.mg X.base CX k f fd ps sp) (hr:bQ (k+1) X.A) (hg:Gl X x) (hm:X.mg x=some (.ref C)) (hb:dq X.K fd ps ds) (hd:aF dvs ds) (hx:hJ CX X E)
  (ha:PA X (e::es) t) (hdb:(x == ("__debug__":Str))=false:=by decide) (he:starEach (e::es) X.env=(false,eval e X.env)::starEach es X.env:=by rfl) (hpl:(backTo pos (starEach es X.env)).any (·.1)=false:=by rfl):
  PE X (.Call (.Name x p) (e::es) [] pos) (oG C sp dvs E t):=by
 intro pins s σ H Q I h;refine wpAny_Call_Name_kw (dL I hg hm ?_ hdb);refine EL (h₀:=X.base) I.ok.mod.kin M.kp (bx (ha pos pins s σ H _ I h) λ us s1 ⟨vs,H1,I1,r,q⟩=>⟨I1.kIn,?_⟩) he hpl;exact pa M F hr hb hd hx I1 r q
end
section
variable {X:Cx}{CX:m6}{k:Nat}{f C:Addr}{fd:FuncData}{ps ks:List Str}{sp:Sp}{E:XK}{x m:Str}{p pos apos kpos:Pos}{e o:Expr}{es:List Expr}{kws:List Keyword}{te ta:TE}{t tk:TA}{nm:Option Str}
variable {g:List Value->List Value->List Value}{gV:List V->List V->List V}
end
structure aB (N P:List Str) (sc:Scope):Prop where
 kind:sc.kind=.function
 co:sc.isCoroutine=false
 gen:sc.isGenerator=false
 nd:N.Nodup
 pre:N.take P.length=P
 par:∀x∈P,sc.names.lookup x=some .local\/sc.names.lookup x=some .cell
 nofree:∀y∈sc.names,y.2≠.free
theorem iE {kindOf:Str->Option NameKind}{x:Str}:∀{binds:List (Str×Value)}{m:Str->Option Value},(∀v,(x,v)∉binds)->bindL kindOf binds m x=m x
 | [],_,_=>rfl
 | (n,v)::r,m,h=>by
   unfold bindL;rw [iE λ w hw=>h w (C7 _ hw)];split
   ·have:x≠n:=by rintro rfl;exact h v C3
    simp [this]
   ·rfl
theorem iG {kindOf:Str->Option NameKind}{x:Str}:∀{binds:List (Str×Value)}{m:Str->Option Value},(∀v,(x,v)∉binds)->bindC kindOf binds m x=m x
 | [],_,_=>rfl
 | (n,v)::r,m,h=>by
   unfold bindC;rw [iG λ w hw=>h w (C7 _ hw)];split
   ·rfl
   ·have:x≠n:=by rintro rfl;exact h v C3
    simp [this]
theorem iF {kindOf:Str->Option NameKind}{x:Str}{v:Value}:∀{P:List Str}{vs:List Value}{i:Nat}{m:Str->Option Value},P.Nodup->P[i]? =some x->vs[i]? =some v->kindOf x=some .local->
  bindL kindOf (P.zip vs) m x=some v
 | [],_,_,_,_,h,_,_=>by simp at h
 | _::_,[],_,_,_,_,h,_=>by simp at h
 | p::P,w::vs,0,m,nd,h1,h2,hk=>by simp at h1 h2;subst h1;subst h2;show bindL kindOf ((p,w)::P.zip vs) m p=_;unfold bindL;rw [iE λ v hv=>(Dt.mp nd).1 (Dx hv).1,if_pos hk];simp
 | p::P,w::vs,i+1,m,nd,h1,h2,hk=>by show bindL kindOf ((p,w)::P.zip vs) m x=_;unfold bindL;exact iF (i:=i) (Dt.mp nd).2 (by simpa using h1) (by simpa using h2) hk
theorem iH {kindOf:Str->Option NameKind}{x:Str}{v:Value}:∀{P:List Str}{vs:List Value}{i:Nat}{m:Str->Option Value},P.Nodup->P[i]? =some x->vs[i]? =some v->kindOf x≠some .local->
  bindC kindOf (P.zip vs) m x=some v
 | [],_,_,_,_,h,_,_=>by simp at h
 | _::_,[],_,_,_,_,h,_=>by simp at h
 | p::P,w::vs,0,m,nd,h1,h2,hk=>by simp at h1 h2;subst h1;subst h2;show bindC kindOf ((p,w)::P.zip vs) m p=_;unfold bindC;rw [iG λ v hv=>(Dt.mp nd).1 (Dx hv).1,if_neg hk];simp
 | p::P,w::vs,i+1,m,nd,h1,h2,hk=>by show bindC kindOf ((p,w)::P.zip vs) m x=_;unfold bindC;exact iH (i:=i) (Dt.mp nd).2 (by simpa using h1) (by simpa using h2) hk
def dB (N:List Str) (vs:List V):St:=vs.map some++List.replicate (N.length - vs.length) none
def fB (CX:m6) (P:Program) (w:World) (K:Frag) (mg:Str->Option Value) (base:Heap) (N:List Str) (qual:Str) (scope:Scope) (f:Addr) (cd:Value) (A:Around) (outer:List Env) (s:Shared) (H:Hp) (E:XK):Cx where
 prog:=P
 w:=w
 K:=K
 mg:=mg
 base:=base
 A:=A.deeper (envOfC qual scope s.heap.objs.size f cd)
 N:=N
 s₀:=s
 H₀:=H
 env:=envOfC qual scope s.heap.objs.size f cd
 outer:=outer
 stack:=envOfC qual scope s.heap.objs.size f cd::outer
 ex:=[]
 calm:=true
 fn:=λ _=>true
 pn:=[]
 xe:=λ e s'=>wpAny (model P w) (A.deeper (envOfC qual scope s.heap.objs.size f cd)) (leaving (envOfC qual scope s.heap.objs.size f cd) e) (λ _ s''=>CX outer H s E e s'') (λ e' s''=>CX outer H s E e' s'') s'
theorem kT {sc:Scope}{n:Nat}{x:Str}(h:sc.names.lookup x=some .cell):∃c,(cellsFrom n sc.names []).lookup x=some c:=by have q:=EY sc.names n [] (.inl h);exact Et.mp q
theorem iy {CX:m6}{P:Program}{w:World}{K:Frag}{mg:Str->Option Value}{base:Heap}{N ps:List Str}{qual:Str}{scope:Scope}{f:Addr}{cd:Value}{A:Around}{outer:List Env}{s s1:Shared}{H:Hp}{E:XK}{us:List Value}{vs:List V}
  (S:aB N ps scope) (hd:A.handled=none) (e0:jP P w K mg base A outer s H) (hl:vs.length=ps.length) (r:aF vs us)
  (x:InCallC s s.heap.objs.size (bindL (envOfC qual scope s.heap.objs.size f cd).kindOf (ps.zip us) λ _=>none) (cellsFrom (s.heap.objs.size+1) scope.names []) (bindC (envOfC qual scope s.heap.objs.size f cd).kindOf (ps.zip us) λ _=>none) s1):
  au (fB CX P w K mg base N qual scope f cd A outer s H E) [] (dB N vs) H s1:=by
 have hpl:ps.length<=N.length:=by have:=congrArg List.length S.pre;rw [Dm] at this;omega
 obtain ⟨h1,tk,rfl,hk⟩:=x.done;have noA:∀b:Addr,b∉(fB CX P w K mg base N qual scope f cd A outer s H E).ex:=λ b z=>absurd (show b∈([]:List Addr) from z) (by simp);refine ⟨⟨e0.mod,S.kind,rfl,rfl,DS _,λ y z c h1 h2=>?_,λ y hy=>?_,λ y c _ h=>?_,λ _=>hd,Around.frames_deeper e0.frames,.inr ⟨rfl,rfl⟩,λ b z=>absurd z (noA b),e0.bs,e0.bsz,λ b _ _=>noA b,λ b z=>absurd z (noA b),e0.funs,e0.frf⟩,
  rfl,e0.bare,Un.kept hk,⟨_,x.toInCall.ns,λ i y v h1 h2 h3=>?_⟩,λ y c h=>⟨_,x.cell y c h⟩,e0.hok.fresh (DS _),λ y c h=>?_,λ p hp=>absurd (show p∈([]:List (Addr×Obj)) from hp) (by simp),e0.hok.kept hk,?_⟩
 ·exact name_of_addr x.apart (PySem.mem_of_lookup h1) (PySem.mem_of_lookup h2)
 ·have hy:scope.names.lookup y=some .cell\/scope.names.lookup y=some .free:=hy
  rcases hy with hy | hy
  ·exact kT hy
  ·exact absurd rfl (S.nofree _ (PySem.mem_of_lookup hy))
 ·exact D5 (x.above y c (PySem.mem_of_lookup h))
 ·have hi:i<vs.length:=by
   unfold dB at h2
   by_cases hi:i<vs.length
   ·exact hi
   ·rw [List.getElem?_append_right (by simpa using hi)] at h2;rw [DK] at h2;split at h2<;>cases h2
  have ha:vs[i]? =some v:=by
   unfold dB at h2;rw [List.getElem?_append_left (by simpa using hi),Db] at h2;cases e:vs[i]? with
   | none=>rw [e] at h2;cases h2
   | some a=>rw [e] at h2;cases h2;rfl
  obtain ⟨u,hu,rv⟩:=r.get ha;have hp:ps[i]? =some y:=by rw [<-S.pre,List.getElem?_take_of_lt (by omega)];exact h1
  have ndP:ps.Nodup:=by rw [<-S.pre];exact S.nd.sublist (List.take_sublist _ _)
  refine ⟨u,rv,?_⟩
  rcases S.par y (Df hp) with k | k
  ·exact .inl ⟨k,iF ndP hp hu k⟩
  ·obtain ⟨c,e⟩:=kT (n:=s.heap.objs.size+1) k;refine .inr ⟨.inl k,c,e,?_⟩;have q:=x.cell y c e;rw [iH ndP hp hu (by show scope.names.lookup y≠_;rw [k];decide)] at q;exact q
 ·exact e0.hok.fresh (D5 (x.above y c (PySem.mem_of_lookup h)))
 ·unfold dB;show _=N.length;rw [Dc,CZ,List.length_replicate];omega
theorem vZ {CX:m6}{P:Program}{w:World}{K:Frag}{mg:Str->Option Value}{base:Heap}{k:Nat}{f:Addr}{name qual:Str}{params:Arguments}{body:List Stmt}{scope:Scope}{dV kV doc pm cdv ct oc:Value}{an od:Option Addr}
  {osl:Array (Option Value)} {N ps:List Str} {sp:Sp} (lk:K.lookup f=some ⟨oc,od,.func (EF name qual params body scope dV kV doc pm an cdv ct),osl⟩) (hcd:ER K cdv qual=true) (S:aB N ps scope)
  (len:∀vs H Q E,sp vs H Q E->vs.length=ps.length)
  (hbody:∀(A:Around) (outer:List Env) (s:Shared) (H:Hp) (vs:List V) (Q:VK) (E:XK),bQ k (A.deeper (envOfC qual scope s.heap.objs.size f cdv))->sp vs H Q E->
   ∃t,jO (fB CX P w K mg base N qual scope f cdv A outer s H E) body t/\t {nx:=λ _ H'=>Q .non H',rt:=Q} (dB N vs) H):
  bp P w K mg base CX (k+1) f (EF name qual params body scope dV kV doc pm an cdv ct) ps sp:=by
 refine ⟨len,λ A outer s H args us vs Q E hr e0 hb r hsp=>?_⟩;have hl:=len _ _ _ _ hsp;have KX:K.In s.heap:=e0.mod.kin.keeps λ b o e=>(e0.bs b o e).1;have lim:s.heap.NoLimit:=e0.mod.nolimit.keeps λ b o e=>(e0.bs b o e).1;have hkind:∀y∈ps.zip us,scope.names.lookup y.1=some .local\/(scope.names.lookup y.1=some .cell/\((cellsFrom (s.heap.objs.size+1) scope.names []).lookup y.1).isSome=true):=λ ⟨n,v⟩ hy=>by
  rcases S.par n (Dx hy).1 with q | q
  ·exact .inl q
  ·exact .inr ⟨q,EY _ _ _ (.inl q)⟩
 refine codeAny_call_function hr.depth (KX _ _ lk) rfl S.co S.gen rfl (E8 KX hcd) (hb _ _ _ _ ?_);refine wpAny_newFunctionEnv_cells S.kind hkind λ env he s1 x=>?_;subst he;refine ⟨lim.keeps x.toInCall.keep,codeAny_func ?_⟩;obtain ⟨t,ht,hq⟩:=hbody A outer s H vs Q E (hr.deeper _) hsp;have I:au (fB CX P w K mg base N qual scope f cdv A outer s H E) [] (dB N vs) H s1:=iy S hr.hd e0 hl r x;refine wpAny_mono (ht [] s1 (dB N vs) H _ I hq) (λ fl s' hs=>?_) λ e s' hs=>hs;have fin:∀{σ':St} {H':Hp} {v:V} {u:Value},au (fB CX P w K mg base N qual scope f cdv A outer s H E) [] σ' H' s'->aK v u->Q v H'->CE outer P w H s Q u s':=
  λ {σ' H' v u} J rv q=>⟨v,H',J.os,J.bare,J.base,J.hok,rv,q⟩
 cases fl with
 | ret u=>
   obtain ⟨v,σ',H',J,rv,q⟩:=hs;exact fin J rv q
 | next=>
   obtain ⟨σ',H',J,q⟩:=hs;exact fin (v:=V.non) (u:=Value.none) J rfl q
 | brk=>
   obtain ⟨_,_,_,q⟩:=hs;exact False.elim q
 | cont=>
   obtain ⟨_,_,_,q⟩:=hs;exact False.elim q
end L2
namespace L2
open PySem PySem.Spec PyProof.Rows
section
variable {X:Cx}{x:Str}{p pos:Pos}{e:Expr}{es:List Expr}{t:TA}{id T:String}{r:List V->Hp->VK->Prop}
def tCB (r:List V->Hp->VK->Prop) (t:TA):TE:=λ σ H Q=>t σ H λ vs H1=>r vs H1 Q
theorem pJ (hc:aP X (.builtin id) r) (hg:Gl X x) (hm:X.mg x=none) (hv:bootBuiltins x=some (.builtin id)) (ha:PA X (e::es) t) (hn:x≠"__name__":=by decide) (hdb:(x == ("__debug__":Str))=false:=by decide)
  (he:starEach (e::es) X.env=(false,eval e X.env)::starEach es X.env:=by rfl) (hpl:(backTo pos (starEach es X.env)).any (·.1)=false:=by rfl):PE X (.Call (.Name x p) (e::es) [] pos) (tCB r t):=by
 intro pins s σ H Q I h;refine wpAny_Call_Name_kw (d0 I hg hm hv ?_ hn hdb);exact PyProof.Rows.callWith_builtin1 (bx (ha pos pins s σ H _ I h) λ us s1 ⟨vs,H1,I1,r1,q1⟩=>hc pins s1 σ H1 vs us Q I1 r1 q1) he hpl
theorem nB (hc:aP X (.type T) r) (hg:Gl X x) (hm:X.mg x=none) (hv:bootBuiltins x=some (.type T)) (ha:PA X (e::es) t) (hn:x≠"__name__":=by decide) (hdb:(x == ("__debug__":Str))=false:=by decide)
  (he:starEach (e::es) X.env=(false,eval e X.env)::starEach es X.env:=by rfl) (hpl:(backTo pos (starEach es X.env)).any (·.1)=false:=by rfl):PE X (.Call (.Name x p) (e::es) [] pos) (tCB r t):=by
 intro pins s σ H Q I h;refine wpAny_Call_Name_kw (d0 I hg hm hv ?_ hn hdb);exact PyProof.Rows.callWith_type1 (bx (ha pos pins s σ H _ I h) λ us s1 ⟨vs,H1,I1,r1,q1⟩=>hc pins s1 σ H1 vs us Q I1 r1 q1) he hpl
end
end L2
namespace HT
open PySem PyProof.Rows
section
open PySem.SeqAt
open PySem.AutoSeq1 (wpAny_loadPart')
open PySem.MeetsSeq PySem.MeetsSeq2 PySem.MeetsSeq3
end
section
variable {prog:Program}{w:World}{A:Around}{E:Value->Shared->Prop}{s:Shared}
def sIx (n d:Nat):Option Int->Nat
 | none=>d
 | some v=>if v<0 then (v+(n:Int)).toNat else min v.toNat n
theorem sIx_none (n d:Nat):sIx n d none=d:=rfl
theorem sIx_nat (n d k:Nat):sIx n d (some (k:Int))=min k n:=by show (if (k:Int)<0 then ((k:Int)+(n:Int)).toNat else min (k:Int).toNat n)=min k n;rw [if_neg (by omega),Eb]
theorem sIx_le (n d:Nat) (hd:d<=n) (o:Option Int):sIx n d o<=n:=by
 cases o with
 | none=>exact hd
 | some v=>
   show (if v<0 then (v+(n:Int)).toNat else min v.toNat n)<=n
   by_cases hv:v<0
   ·rw [if_pos hv];omega
   ·rw [if_neg hv];exact Nat.min_le_right _ _
end
end HT
namespace L2
open PySem PySem.Spec PyProof.Rows
abbrev TO:=St->Hp->(Option Int->Hp->Prop)->Prop
def PO (X:Cx) (e:Option Expr) (t:TO):Prop:=
 ∀(pins:List (Addr×Obj)) (s:Shared) (σ:St) (H:Hp) (Q:Option Int->Hp->Prop),au X pins σ H s->t σ H Q->
  wpAny (model X.prog X.w) X.A (evalPart e X.env) (λ u s'=> ∃o H',au X pins σ H' s'/\IsPart u o/\Q o H') X.xe s
def eE:TO:=λ _ H Q=>Q none H
theorem gR {ns:List Int}:∀{us:List Value},aF (ns.map V.int) us->IntsAre us ns:=by
 induction ns with
 | nil=>intro us r;rw [List.map_nil] at r;cases r;exact .nil
 | cons n ns ih=>
   intro us r;rw [Ds] at r;cases r with
   | cons r1 r2=>
     obtain ⟨t,e⟩:=r1;subst e;exact .cons n t (ih r2)
section
variable {X:Cx}{e:Expr}{te:TE}{lo hi:Option Expr}{tl th:TO}{pos p2:Pos}
theorem gz:PO X none eE:=by intro pins s σ H Q I h;rw [evalPart_none];exact wpAny_pure ⟨none,H,I,.none,h⟩
def oz (X:Cx) (r:V->Option Int->Option Int->Hp->VK->Prop):Prop:=
 ∀(pins:List (Addr×Obj)) (s:Shared) (σ:St) (H:Hp) (x:V) (v vl vu:Value) (lo hi:Option Int) (sl:Addr) (Q:VK),au X pins σ H s->aK x v->s.heap.IsSliceOf sl vl vu .none->IsPart vl lo->IsPart vu hi->r x lo hi H Q->
  ∃T id,typeLookup (.type T) "__getitem__"=pure (some (.builtin id))/\s.TypeIs v T/\wpAny (model X.prog X.w) X.A (getItem v (.ref sl)) (EP X pins σ Q) X.xe s
theorem oz.or {r r':V->Option Int->Option Int->Hp->VK->Prop}(h:oz X r) (h':oz X r'):oz X (λ x lo hi H Q=>r x lo hi H Q\/r' x lo hi H Q):=by
 intro pins s σ H x v vl vu lo hi sl Q I rx hs pl pu q
 rcases q with q | q
 ·exact h pins s σ H x v vl vu lo hi sl Q I rx hs pl pu q
 ·exact h' pins s σ H x v vl vu lo hi sl Q I rx hs pl pu q
def tSl (r:V->Option Int->Option Int->Hp->VK->Prop) (te:TE) (tl th:TO):TE:=λ σ H Q=>te σ H λ x H1=>tl σ H1 λ l H2=>th σ H2 λ u H3=>r x l u H3 Q
theorem pG {r:V->Option Int->Option Int->Hp->VK->Prop}(hr:oz X r) (he:PE X e te) (hl:PO X lo tl) (hu:PO X hi th):PE X (.Subscript e (.Slice lo hi none p2) pos) (tSl r te tl th):=by intro pins s σ H Q I h;refine Subscript_ (bx (he pins s σ H _ I h) λ v s1 ⟨x,H1,I1,r1,q1⟩=>?_);refine wpAny_Slice (bx (hl pins s1 σ H1 _ I1 q1) λ vl s2 ⟨l,H2,I2,pl,q2⟩=>bx (hu pins s2 σ H2 _ I2 q2) λ vu s3 ⟨u,H3,I3,pu,q3⟩=>?_);rw [evalPart_none];refine wpAny_pure ?_;have I4:au X pins σ H3 {s3 with heap:=s3.heap.push {cls:=.type "slice",data:=.fields #[vl,vu,.none]}}:=I3.kept (t':=s3.toks) λ b ob q=>Heap.get?_push_of_some _ q;obtain ⟨T,id,hT,ht,hg⟩:=hr pins {s3 with heap:=s3.heap.push {cls:=.type "slice",data:=.fields #[vl,vu,.none]}} σ H3 x v vl vu l u s3.heap.objs.size Q I4 r1 (Heap.IsSliceOf.new ..) pl pu q3;show wpAny (model X.prog X.w) X.A (subscriptTail e (.Slice lo hi none p2) v (.ref s3.heap.objs.size)) (EP X pins σ Q) X.xe {s3 with heap:=s3.heap.push {cls:=.type "slice",data:=.fields #[vl,vu,.none]}};exact tail_any (ops:=[.ref s3.heap.objs.size,v]) ht hT hg (by with_unfolding_all rfl)
def gY (xs:List V) (lo hi:Option Int):List V:=(xs.drop (HT.sIx xs.length 0 lo)).take (HT.sIx xs.length xs.length hi - HT.sIx xs.length 0 lo)
theorem kP (xs:List V) (lo hi:Option Int):(gY xs lo hi).length<=xs.length:=by unfold gY;rw [Dm,Dy];omega
end
end L2
namespace L2
open PySem PySem.Spec PyProof.Rows
def ixN (n:Nat) (i:Int):Option Nat:=if 0<=i then (if i<n then some i.toNat else none) else if -(n:Int)<=i then some (i+n).toNat else none
def k4 {α:Type}(xs:List α) (i:Int):Option α:=(ixN xs.length i).bind λ j=>xs[j]?
theorem mz {n:Nat}{i:Int}{j:Nat}(h:ixN n i=some j):seqIndex? i n=some j/\j<n/\-(n:Int)<=i/\i<n:=by
 unfold ixN at h
 by_cases h0:0<=i
 ·rw [if_pos h0] at h
  by_cases h1:i<n
  ·rw [if_pos h1] at h;have e:i.toNat=j:=Option.some.inj h;exact ⟨by rw [seqIndex_of h0 h1,e],by omega,by omega,h1⟩
  ·rw [if_neg h1] at h;cases h
 ·rw [if_neg h0] at h
  by_cases h1: -(n:Int)<=i
  ·rw [if_pos h1] at h;have e:(i+n).toNat=j:=Option.some.inj h;exact ⟨by rw [seqIndex_neg (by omega) h1,e],by omega,h1,by omega⟩
  ·rw [if_neg h1] at h;cases h
theorem jM {α:Type}{xs:List α}{i:Int}{v:α}(h:k4 xs i=some v):∃j,seqIndex? i xs.length=some j/\xs[j]? =some v/\j<xs.length/\-(xs.length:Int)<=i/\i<xs.length:=by
 unfold k4 at h;cases e:ixN xs.length i with
 | none=>rw [e] at h;cases h
 | some j=>
   rw [e] at h;obtain ⟨h1,h2,h3,h4⟩:=mz e;exact ⟨j,h1,h,h2,h3,h4⟩
theorem fJ {α:Type}{xs:List α}{j:Nat}{v:α}(h:xs[j]? =some v):k4 xs (j:Int)=some v:=by
 have hj:j<xs.length:=(Dk.mp h).1;have e:ixN xs.length (j:Int)=some j:=by unfold ixN;rw [if_pos (by omega),if_pos (by omega)];simp
 unfold k4;rw [e];exact h
def jN (b:Expr):Prop:= ∀o i,subscripted b false o i=operate [o,i] (getItem o i)
def mY (X:Cx) (r:R2):Prop:=
 ∀(value slice:Expr) (pins:List (Addr×Obj)) (s:Shared) (σ:St) (H:Hp) (x y:V) (v u:Value) (Q:VK),au X pins σ H s->aK x v->aK y u->r x y H Q->
  subscripted slice false v u=operate [v,u] (getItem v u)->wpAny (model X.prog X.w) X.A (subscriptTail value slice v u) (EP X pins σ Q) X.xe s
def MtR (X:Cx) (id:String) (r:V->List V->Hp->VK->Prop):Prop:=
 ∀(pins:List (Addr×Obj)) (s:Shared) (σ:St) (H:Hp) (x:V) (xs:List V) (v:Value) (us:List Value) (Q:VK),au X pins σ H s->aK x v->aF xs us->r x xs H Q->
  wpAny (model X.prog X.w) X.A (call (.builtin id) (v::us)) (EP X pins σ Q) X.xe s
section
variable {X:Cx}{a b:Expr}{ta tb:TE}{pos:Pos}
theorem mY.or {r r':R2}(h:mY X r) (h':mY X r'):mY X (λ x y H Q=>r x y H Q\/r' x y H Q):=by
 intro value slice pins s σ H x y v u Q I rx ry q hs
 rcases q with q | q
 ·exact h value slice pins s σ H x y v u Q I rx ry q hs
 ·exact h' value slice pins s σ H x y v u Q I rx ry q hs
theorem Ay {r:R2}(hr:mY X r) (ha:PE X a ta) (hb:PE X b tb) (hs:jN b):PE X (.Subscript a b pos) (wj r ta tb):=by intro pins s σ H Q I h;exact Subscript_ (xw ha hb I h λ v u s2 x y H2 I2 rx ry q=>hr a b pins s2 σ H2 x y v u Q I2 rx ry q (hs _ _))
def Aw (K:Frag):R2:=λ x y H Q=> ∃p xs i v,x=.ref p/\y=.int i/\aH K H p xs/\k4 xs i=some v/\Q v H
def At (K:Frag):R2:=λ x y H Q=> ∃p xs i v,x=.ref p/\y=.int i/\dQ K H p xs/\k4 xs i=some v/\Q v H
def Au:R2:=λ x y H Q=> ∃z i c,x=.str z/\y=.int i/\z.length<=sizeLine/\k4 z.cps.toList i=some c/\Q (.str ⟨#[c]⟩) H
theorem rD:mY X (Aw X.K):=by
 intro value slice pins s σ H x y v u Q I rx ry h hs;obtain ⟨p,xs,i,z,rfl,rfl,hq,he,q⟩:=h;cases rx;obtain ⟨t,rfl⟩:=ry;obtain ⟨its,r,pl,hz⟩:=I.list hq;obtain ⟨j,h1,h2,h3,h4,h5⟩:=jM he;obtain ⟨w,ew,rw'⟩:=r.get h2;have hl:=r.length;have hn:=fY;have fin:EP X pins σ Q w s:=⟨z,H,I,rw',q⟩
 by_cases h0:0<=i
 ·have hj:i.toNat=j:=by rw [seqIndex_of h0 h5] at h1;exact Option.some.inj h1
  exact item_listR pl.isList h0 (by omega) (by rw [hj];simpa using ew) fin hs
 ·have hj:(i+(its.toArray.size:Int)).toNat=j:=by rw [seqIndex_neg (by omega) h4] at h1;rw [C2,<-hl];exact Option.some.inj h1
  exact subscriptTail_builtinR (x:=w) pl.isList.typeIs slot_list_getitem.lookup
   (wpAny_getItem_list_neg (Q:=λ r s'=>r=w/\EP X pins σ Q r s') pl.isList (by omega) (by rw [C2]<;>omega) (by omega) (by rw [hj];simpa using ew) ⟨rfl,fin⟩) hs
theorem w4:mY X (At X.K):=by
 intro value slice pins s σ H x y v u Q I rx ry h hs;obtain ⟨p,xs,i,z,rfl,rfl,hq,he,q⟩:=h;cases rx;obtain ⟨t,rfl⟩:=ry;obtain ⟨its,r,pl,hz⟩:=I.tuple hq;obtain ⟨j,h1,h2,h3,h4,h5⟩:=jM he;obtain ⟨w,ew,rw'⟩:=r.get h2;have hl:=r.length;have hn:=fY;have fin:EP X pins σ Q w s:=⟨z,H,I,rw',q⟩;exact subscriptTail_builtinR (x:=w) pl.typeIs slot_tuple_getitem.lookup
  (getItem_tuple (j:=j) (Q:=λ r s'=>r=w/\EP X pins σ Q r s') pl (by omega) (by omega) (by rw [C2,<-hl];exact h1) (by simpa using ew) ⟨rfl,fin⟩) hs
theorem w5:mY X Au:=by
 intro value slice pins s σ H x y v u Q I rx ry h hs;obtain ⟨z,i,c,rfl,rfl,hz,he,q⟩:=h;obtain ⟨t,rfl⟩:=rx;obtain ⟨t',rfl⟩:=ry;obtain ⟨j,h1,h2,h3,h4,h5⟩:=jM he;have hl:z.cps.toList.length=z.length:=by simp [Str.length]
 rw [hl] at h1 h4 h5;have hn:=fY;exact tail_any (typeIs_str s z t) slot_str_getitem.lookup (getItem_str (c:=c) (by
  have e1:decide (i< -(2 ^ 63:Int))=false:=decide_eq_false (by omega);have e2:decide (i≥2 ^ 63)=false:=decide_eq_false (by omega);rw [e1,e2,Bool.or_false]) (by rw [h1];simpa using h2) ⟨.str ⟨#[c]⟩,H,I.tok _,⟨_,rfl⟩,q⟩) hs
def rIx (K:Frag):R2:=λ x y H Q=>Aw K x y H Q\/At K x y H Q\/Au x y H Q
theorem w6:mY X (rIx X.K):=rD.or (w4.or w5)
theorem lv (its:List Value) (n j:Nat) (u:Value):Obj.mapSeq (·.setIfInBounds j u) {cls:=.type "list",data:=.seq its.toArray n}={cls:=.type "list",data:=.seq (its.set j u).toArray n}:=by simp [Obj.mapSeq]
theorem au.lst {pins:List (Addr×Obj)}{σ:St}{H:Hp}{s:Shared}{p:Addr}{xs:List V}(I:au X pins σ H s) (h:H p=some (.lst xs)):
  ∃(its:List Value) (n:Nat),aF xs its/\s.heap.get? p=some {cls:=.type "list",data:=.seq its.toArray n}/\xs.length<=sizeLine:=by
 obtain ⟨z,its,n,r,e⟩:=I.hok p _ h;exact ⟨its,n,r,e,z⟩
theorem au.lstUpd {pins:List (Addr×Obj)}{σ:St}{H:Hp}{s:Shared}{p:Addr}{xs ys:List V}{its its':List Value}{n n':Nat}{f:Obj->Obj}(I:au X pins σ H s) (h:H p=some (.lst xs))
  (ho:s.heap.get? p=some {cls:=.type "list",data:=.seq its.toArray n}) (hf:f {cls:=.type "list",data:=.seq its.toArray n}={cls:=.type "list",data:=.seq its'.toArray n'}) (r:aF ys its') (hz:ys.length<=sizeLine) (t:Nat):
  au X pins σ (upd H p (.lst ys)) {s with heap:=s.heap.update p f,toks:=t}:=by
 have e:(s.heap.update p f).get? p=some {cls:=.type "list",data:=.seq its'.toArray n'}:=by rw [Heap.get?_update_self f ho (by rw [hf]<;>rfl),hf]
 refine I.write (x:=p) (e:=p) (by rw [h];trivial) (.inl rfl) (λ b u hb q=>(Heap.get?_update_other _ _ (Ne.symm hb)).trans q) ⟨_,e⟩ ?_;exact ⟨hz,its',n',r,e⟩
def vM:V->V->V->Hp->(Hp->Prop)->Prop:=λ o i v H Q=> ∃p xs k j,o=.ref p/\i=.int k/\H p=some (.lst xs)/\ixN xs.length k=some j/\Q (upd H p (.lst (xs.set j v)))
theorem j1:Ba X vM:=by
 intro pins s σ H o i v ov iv u Q I ro ri rv h;obtain ⟨p,xs,k,j,rfl,rfl,hp,hj,q⟩:=h;cases ro;obtain ⟨t,rfl⟩:=ri;obtain ⟨its,n,r,ho,hz⟩:=I.lst hp;obtain ⟨h1,h2,h3,h4⟩:=mz hj;have hl:=r.length;have hn:=fY;have I':au X pins σ (upd H p (.lst (xs.set j v))) {s with heap:=s.heap.update p (Obj.mapSeq (·.setIfInBounds j u))}:=
  I.lstUpd hp ho (lv its n j u) (r.set rv j) (by rw [List.length_set];exact hz) s.toks
 by_cases h0:0<=k
 ·have hk:k.toNat=j:=by rw [seqIndex_of h0 h4] at h1;exact Option.some.inj h1
  exact PySem.W.ki_setAt ho h0 (by omega) (by rw [C2,<-hl];exact h4) (by rw [hk];exact ⟨_,I',q⟩)
 ·have hk:(k+(its.toArray.size:Int)).toNat=j:=by rw [seqIndex_neg (by omega) h3] at h1;rw [C2,<-hl];exact Option.some.inj h1
  exact PySem.W.ki_setBack ho (by omega) (by rw [C2,<-hl];exact h3) (by omega) (by rw [hk];exact ⟨_,I',q⟩)
theorem iN (lo hi:Option Int) (n:Nat):(sliceBounds lo hi none n).1=((HT.sIx n 0 lo:Nat):Int)/\(sliceBounds lo hi none n).2.1=((HT.sIx n n hi:Nat):Int)/\(sliceBounds lo hi none n).2.2=1:=by
 refine ⟨?_,?_,rfl⟩
 ·cases lo with
  | none=>simp [sliceBounds,HT.sIx]
  | some i=>
    simp only [sliceBounds,HT.sIx,Eu,show (1:Int) > 0 by decide,if_true]
    by_cases h:i<0
    ·simp only [h,if_true]<;>omega
    ·simp only [h,if_false]<;>omega
 ·cases hi with
  | none=>simp [sliceBounds,HT.sIx]
  | some i=>
    simp only [sliceBounds,HT.sIx,Eu,show (1:Int) > 0 by decide,if_true]
    by_cases h:i<0
    ·simp only [h,if_true]<;>omega
    ·simp only [h,if_false]<;>omega
theorem hU (its:List Value) (lo hi:Option Int):slicePick its.toArray lo hi none=((its.drop (HT.sIx its.length 0 lo)).take (HT.sIx its.length its.length hi - HT.sIx its.length 0 lo)).toArray:=by obtain ⟨h1,h2,h3⟩:=iN lo hi its.toArray.size;unfold slicePick;rw [h1,h2,h3];simp only [sliceRange_one,pick_run,C2]<;>rfl
def Cv (K:Frag):V->Option Int->Option Int->Hp->VK->Prop:=λ x lo hi H Q=> ∃a xs,x=.ref a/\aH K H a xs/\∀p,H p=none->Q (.ref p) (upd H p (.lst (gY xs lo hi)))
theorem qQ:oz X (Cv X.K):=by intro pins s σ H x v vl vu lo hi sl Q I rx hs pl pu h;obtain ⟨a,xs,rfl,hx,q⟩:=h;cases rx;obtain ⟨its,r,ht,hz⟩:=I.list hx;have hlen:=r.length;refine ⟨"list",_,slot_list_getitem.lookup,ht.isList.typeIs,?_⟩;refine wpAny_getItem_list_slice ht.isList hs pl pu .none (by simp) ?_ (by rw [C2]<;>omega);rw [hU,<-hlen];refine ⟨.ref s.heap.objs.size,_,I.laid (t':=s.toks) (o:=.lst (gY xs lo hi)) (λ b ob q=>Heap.get?_push_of_some _ q) (DS _) ?_,rfl,q _ (I.hok.fresh (DS _))⟩;exact ⟨DU (kP xs lo hi) hz,_,0,(r.drop (HT.sIx xs.length 0 lo)).take (HT.sIx xs.length xs.length hi - HT.sIx xs.length 0 lo),Heap.get?_push_size _ rfl⟩
def flatV:V->Bool
 | .non=>true
 | .bl _=>true
 | .int _=>true
 | .str _=>true
 | _=>false
def eqV:V->V->Bool
 | .non,.non=>true
 | .bl a,.bl b=>a == b
 | .bl a,.int b=>(if a then 1 else 0) == b
 | .int a,.bl b=>a == (if b then 1 else 0)
 | .int a,.int b=>a == b
 | .str a,.str b=>a == b
 | _,_=>false
theorem qi {A:Around}{s:Shared}{y x:V}{u v:Value}(ry:aK y u) (rx:aK x v) (fy:flatV y=true) (fx:flatV x=true):SeqAt.EqAt A s u v (eqV y x):=by
 cases y with
 | non=>
   cases ry;cases x with
   | non=>cases rx;exact SeqAt.EqAt.same _
   | bl b=>cases rx;exact SeqAt.EqAt.none_bool b
   | int b=>obtain ⟨t,rfl⟩:=rx;exact SeqAt.EqAt.none_int b t
   | str b=>obtain ⟨t,rfl⟩:=rx;exact SeqAt.EqAt.none_str b t
   | _=>exact absurd (show false=true from fx) Ee
 | bl a=>
   cases ry;cases x with
   | non=>cases rx;exact SeqAt.EqAt.bool_none a
   | bl b=>cases rx;exact SeqAt.EqAt.bool_bool a b
   | int b=>obtain ⟨t,rfl⟩:=rx;exact SeqAt.EqAt.bool_int a b t
   | str b=>obtain ⟨t,rfl⟩:=rx;exact SeqAt.EqAt.bool_str a b t
   | _=>exact absurd (show false=true from fx) Ee
 | int a=>
   obtain ⟨t',rfl⟩:=ry;cases x with
   | non=>cases rx;exact SeqAt.EqAt.int_none a t'
   | bl b=>cases rx;exact SeqAt.EqAt.int_bool a t' b
   | int b=>obtain ⟨t,rfl⟩:=rx;exact SeqAt.EqAt.int_int a t' b t
   | str b=>obtain ⟨t,rfl⟩:=rx;exact SeqAt.EqAt.int_str a t' b t
   | _=>exact absurd (show false=true from fx) Ee
 | str a=>
   obtain ⟨t',rfl⟩:=ry;cases x with
   | non=>cases rx;exact SeqAt.EqAt.str_none a t'
   | bl b=>cases rx;exact SeqAt.EqAt.str_bool a t' b
   | int b=>obtain ⟨t,rfl⟩:=rx;exact SeqAt.EqAt.str_int a t' b t
   | str b=>obtain ⟨t,rfl⟩:=rx;exact SeqAt.EqAt.str_str a t' b t
   | _=>exact absurd (show false=true from fx) Ee
 | _=>exact absurd (show false=true from fy) Ee
def lL (x:V) (u:Value):Bool:=match u with
 | .none=>eqV .non x
 | .bool b=>eqV (.bl b) x
 | .int i _=>eqV (.int i) x
 | .str z _=>eqV (.str z) x
 | _=>false
theorem qg {x y:V}{u:Value}(r:aK y u) (f:flatV y=true):lL x u=eqV y x:=by
 cases y with
 | non=>cases r;rfl
 | bl b=>cases r;rfl
 | int i=>obtain ⟨t,rfl⟩:=r;rfl
 | str z=>obtain ⟨t,rfl⟩:=r;rfl
 | _=>exact absurd (show false=true from f) Ee
theorem fK {x:V}:∀{xs:List V}{us:List Value},aF xs us->xs.all flatV=true->us.any (lL x)=xs.any λ y=>eqV y x
 | _,_,.nil,_=>rfl
 | y::xs,u::us,.cons r t,f=>by rw [C8,Ef] at f;rw [List.any_cons,List.any_cons,qg r f.1,fK t f.2]
theorem dZ {A:Around}{s:Shared}{x:V}{v:Value}(rx:aK x v) (fx:flatV x=true):∀{xs:List V}{us:List Value},aF xs us->xs.all flatV=true->∀u∈us,SeqAt.EqAt A s u v (lL x u)
 | _,_,.nil,_=>λ u hu=>by cases hu
 | y::xs,u::us,.cons r t,f=>λ u' hu=>by
   rw [C8,Ef] at f
   rcases C1.mp hu with rfl | hu
   ·rw [qg r f.1];exact qi r rx f.1 fx
   ·exact dZ rx fx t f.2 u' hu
def Bj (x:V) (xs:List V):Bool:=xs.any λ y=>eqV y x
def mi (K:Frag) (neg:Bool):R2:=λ x y H Q=> ∃p xs,y=.ref p/\(aH K H p xs\/dQ K H p xs)/\flatV x=true/\xs.all flatV=true/\Q (.bl (if neg then !Bj x xs else Bj x xs)) H
theorem nH:eS X (compareOp .In) (mi X.K false):=by
 intro pins s σ H x y v u Q I rx ry h;obtain ⟨p,xs,rfl,hq,fx,fs,q⟩:=h;cases ry
 rcases hq with hq | hq
 ·obtain ⟨its,r,pl,hz⟩:=I.list hq;refine SeqAt.in_listAt (lL x) pl.isList (λ w hw=>dZ rx fx r fs w (by simpa using hw)) ⟨.bl _,H,I,rfl,?_⟩;rw [show its.toArray.any (lL x)=its.any (lL x) by simp,fK r fs];exact q
 ·obtain ⟨its,r,pl,hz⟩:=I.tuple hq;refine SeqAt.in_tupleAt (lL x) pl (λ w hw=>dZ rx fx r fs w (by simpa using hw)) ⟨.bl _,H,I,rfl,?_⟩;rw [show its.toArray.any (lL x)=its.any (lL x) by simp,fK r fs];exact q
theorem jm:eS X (compareOp .NotIn) (mi X.K true):=by
 intro pins s σ H x y v u Q I rx ry h;obtain ⟨p,xs,rfl,hq,fx,fs,q⟩:=h;cases ry
 rcases hq with hq | hq
 ·obtain ⟨its,r,pl,hz⟩:=I.list hq;refine SeqAt.notIn_listAt (lL x) pl.isList (λ w hw=>dZ rx fx r fs w (by simpa using hw)) ⟨.bl _,H,I,rfl,?_⟩;rw [show its.toArray.any (lL x)=its.any (lL x) by simp,fK r fs];exact q
 ·obtain ⟨its,r,pl,hz⟩:=I.tuple hq;refine SeqAt.notIn_tupleAt (lL x) pl (λ w hw=>dZ rx fx r fs w (by simpa using hw)) ⟨.bl _,H,I,rfl,?_⟩;rw [show its.toArray.any (lL x)=its.any (lL x) by simp,fK r fs];exact q
theorem jI:aP X (.builtin "len") (λ xs H Q=> ∃p ys,xs=[.ref p]/\(aH X.K H p ys\/dQ X.K H p ys)/\Q (.int ys.length) H):=by
 intro pins s σ H xs us Q I r h;obtain ⟨p,ys,rfl,hq,q⟩:=h;obtain ⟨u,rfl,rx⟩:=dz r;cases rx;have hn:=fY
 rcases hq with hq | hq
 ·obtain ⟨its,r',pl,hz⟩:=I.list hq;have hlen:=r'.length;exact Calls.call_len_list pl.isList (by simp only [C2]<;>omega) ⟨.int ys.length,H,I.tok _,⟨s.toks+1,by rw [C2,hlen]⟩,q⟩
 ·obtain ⟨its,r',pl,hz⟩:=I.tuple hq;have hlen:=r'.length;exact len_tuple pl (by simp only [C2]<;>omega) ⟨.int ys.length,H,I.tok _,⟨s.toks+1,by rw [C2,hlen]⟩,q⟩
theorem jH:aP X (.builtin "len") (λ xs H Q=> ∃z,xs=[.str z]/\z.length<=sizeLine/\Q (.int z.length) H):=by intro pins s σ H xs us Q I r h;obtain ⟨z,rfl,hz,q⟩:=h;obtain ⟨u,rfl,t,rfl⟩:=dz r;have hn:=fY;exact len_str (by omega) ⟨.int z.length,H,I.tok _,⟨_,rfl⟩,q⟩
theorem aP.or {f:Value}{r r':List V->Hp->VK->Prop}(h:aP X f r) (h':aP X f r'):aP X f (λ xs H Q=>r xs H Q\/r' xs H Q):=by
 intro pins s σ H xs us Q I rs q
 rcases q with q | q
 ·exact h pins s σ H xs us Q I rs q
 ·exact h' pins s σ H xs us Q I rs q
theorem jG:aP X (.type "list") (λ xs H Q=> ∃p ys,xs=[.ref p]/\(aH X.K H p ys\/dQ X.K H p ys)/\∀l,H l=none->Q (.ref l) (upd H l (.lst ys))):=by
 intro pins s σ H xs us Q I r h;obtain ⟨p,ys,rfl,hq,q⟩:=h;obtain ⟨u,rfl,rx⟩:=dz r;cases rx;have fin:∀(its:List Value),aF ys its->ys.length<=sizeLine->∀(h':Heap) (c':Nat),(∀b o',s.heap.get? b=some o'->h'.get? b=some o')->
   h'.get? s.heap.objs.size=some {cls:=.type "list",dict:=none,data:=.seq its.toArray c',slots:= #[]}->EP X pins σ Q (.ref s.heap.objs.size) {s with heap:=h'}:=λ its r' hz h' c' kp e=>
  ⟨.ref s.heap.objs.size,_,I.laid (t':=s.toks) kp (DS _) (show bi X.prog X.w _ h' _ (.lst ys) from ⟨hz,its,c',r',e⟩),rfl,q _ (I.hok.fresh (DS _))⟩
 rcases hq with hq | hq
 ·obtain ⟨its,r',pl,hz⟩:=I.list hq;have hlen:=r'.length;obtain ⟨o,ho,hc,n,hd⟩:=pl.isList;exact call_list_seq p (.inl rfl) ho hc hd (λ h' c' kp e=>fin its r' hz h' c' kp e) (by simp only [C2]<;>omega)
 ·obtain ⟨its,r',pl,hz⟩:=I.tuple hq;have hlen:=r'.length;obtain ⟨o,ho,hc,n,hd⟩:=pl;exact call_list_seq p (.inr rfl) ho hc hd (λ h' c' kp e=>fin its r' hz h' c' kp e) (by simp only [C2]<;>omega)
theorem ik:aP X (.type "tuple") (λ xs H Q=> ∃p ys,xs=[.ref p]/\((aH X.K H p ys/\∀l,H l=none->Q (.ref l) (upd H l (.tup ys)))\/(dQ X.K H p ys/\Q (.ref p) H))):=by
 intro pins s σ H xs us Q I r h;obtain ⟨p,ys,rfl,h⟩:=h;obtain ⟨u,rfl,rx⟩:=dz r;cases rx
 rcases h with ⟨hq,q⟩ | ⟨hq,q⟩
 ·obtain ⟨its,r',pl,hz⟩:=I.list hq;have hlen:=r'.length;refine call_tuple_list pl.isList (λ h' kp=>?_) (by simp only [C2]<;>omega);have I1:au X pins σ H {s with heap:=h'}:=I.kept (t':=s.toks) kp;have I2:au X pins σ (upd H h'.objs.size (.tup ys)) {s with heap:=h'.push {cls:=.type "tuple",data:=.seq its.toArray}}:=
   I1.laid (t':=s.toks) (λ b o e=>Heap.get?_push_of_some _ e) (DS _) (show bi X.prog X.w _ _ _ (.tup ys) from ⟨hz,its,r',IsTup.new _ _⟩)
  exact ⟨.ref h'.objs.size,_,I2,rfl,q _ (I1.hok.fresh (DS _))⟩
 ·obtain ⟨its,r',pl,hz⟩:=I.tuple hq;exact call_tuple_same pl ⟨.ref p,H,I,rfl,q⟩
def tyV (K:Frag) (T:String) (x:V) (H:Hp):Prop:=match x with
 | .str _=>T="str"
 | .int _=>T="int"
 | .ref p=>(T="list"/\∃xs,aH K H p xs)\/(T="tuple"/\∃o,K.lookup p=some o/\o.cls=.type "tuple"/\o.dict=none)\/
   (T="dict"/\((∃kvs,H p=some (.dK kvs))\/∃kvs,H p=some (.dT kvs)))\/(T="set"/\∃S n,H p=some (.set S n))
 | _=>False
theorem wb {pins:List (Addr×Obj)}{σ:St}{H:Hp}{s:Shared}{T:String}{x:V}{v:Value}(I:au X pins σ H s) (r:aK x v) (ty:tyV X.K T x H):
  s.TypeIs v T/\∀a,v=.ref a->∃ob,s.heap.get? a=some ob/\ob.dict=none:=by
 cases x with
 | str z=>
   obtain ⟨t,rfl⟩:=r;cases (show T="str" from ty);exact ⟨typeIs_str s z t,λ _ e=>nomatch e⟩
 | int i=>
   obtain ⟨t,rfl⟩:=r;cases (show T="int" from ty);exact ⟨typeIs_int s i t,λ _ e=>nomatch e⟩
 | ref p=>
   cases r
   rcases ty with ⟨rfl,xs,hq⟩ | ⟨rfl,o,hk,hc,hd⟩ | ⟨rfl,hk⟩ | ⟨rfl,S,n,hk⟩
   ·obtain ⟨its,_,pl,_⟩:=I.list hq;refine ⟨pl.isList.typeIs,λ a e=>?_⟩;cases e;obtain ⟨o,n,e,c,hd,_⟩:=pl;exact ⟨o,e,hd⟩
   ·refine ⟨⟨o,I.kIn p o hk,hc⟩,λ a e=>?_⟩;cases e;exact ⟨o,I.kIn _ o hk,hd⟩
   ·have z:∃o,s.heap.get? p=some o/\o.ExactDict:=by
     rcases hk with ⟨kvs,hk⟩ | ⟨kvs,hk⟩
     ·obtain ⟨_,_,_,_,o,_,_,e,ex,_⟩:=I.hok p _ hk;exact ⟨o,e,ex⟩
     ·obtain ⟨_,_,_,_,o,_,_,e,ex,_⟩:=I.hok p _ hk;exact ⟨o,e,ex⟩
    obtain ⟨o,e,ex⟩:=z;refine ⟨⟨o,e,ex.1⟩,λ a e2=>?_⟩;cases e2;exact ⟨o,e,ex.2.1⟩
   ·obtain ⟨o,_,_,_,e,ex,_⟩:=I.hok p _ hk;refine ⟨⟨o,e,ex.1⟩,λ a e2=>?_⟩;cases e2;exact ⟨o,e,ex.2.1⟩
 | _=>exact False.elim ty
variable {o e:Expr}{es:List Expr}{to:TE}{t:TA}{name:Str}{apos cpos:Pos}{T id:String}{r:V->List V->Hp->VK->Prop}
end
end L2
namespace L2
open PySem PySem.Spec PyProof.Rows
def MtM (X:Cx) (id:String) (r:V->List V->Hp->VK->Prop):Prop:=
 ∀(pins:List (Addr×Obj)) (s:Shared) (σ:St) (H:Hp) (x:V) (xs:List V) (v:Value) (us:List Value) (Q:VK),au X pins σ H s->aK x v->aF xs us->r x xs H Q->
  wpAny (model X.prog X.w) X.A (call (.builtin id) (v::us)) (EP X pins σ Q) X.xe s
theorem aF.one:∀{x:V}{us:List Value},aF [x] us->∃u,us=[u]/\aK x u
 | _,_,.cons r .nil=>⟨_,rfl,r⟩
theorem aF.two:∀{x y:V}{us:List Value},aF [x,y] us->∃u v,us=[u,v]/\aK x u/\aK y v
 | _,_,_,.cons r (.cons q .nil)=>⟨_,_,rfl,r,q⟩
section
variable {X:Cx}{pins:List (Addr×Obj)}{σ:St}{H:Hp}{s:Shared}{l b:Addr}{xs ys zs:List V}
theorem au.lset {its its':List Value}{n:Nat}{f:Array Value->Array Value}{t':Nat}(I:au X pins σ H s) (hH:H l=some (.lst xs))
  (e:s.heap.get? l=some {cls:=.type "list",data:=.seq its.toArray n}) (hf:f its.toArray=its'.toArray) (hv:aF ys its') (hz:ys.length<=sizeLine):
  au X pins σ (upd H l (.lst ys)) {s with heap:=s.heap.update l (Obj.mapSeq f),toks:=t'}:=by
 have q:=PySem.IsL.update e f;rw [hf] at q;refine I.write (x:=l) (e:=l) (by rw [hH];exact trivial) (.inl rfl) (λ b' u hb hu=>(Heap.get?_update_other s.heap (Obj.mapSeq f) (Ne.symm hb)).trans hu) ⟨_,q⟩ ?_;exact ⟨hz,its',_,hv,q⟩
theorem au.lnew {its:List Value}{t':Nat}(I:au X pins σ H s) (hv:aF ys its) (hz:ys.length<=sizeLine):
  au X pins σ (upd H s.heap.objs.size (.lst ys)) {s with heap:=s.heap.push {cls:=.type "list",data:=.seq its.toArray},toks:=t'}:=
 I.laid (λ _ _ q=>Heap.get?_push_of_some _ q) (DS _) ⟨hz,its,0,hv,Heap.get?_push_size _ rfl⟩
theorem au.fresh (I:au X pins σ H s):H s.heap.objs.size=none:=I.hok.fresh (DS _)
theorem au.lstM (I:au X pins σ H s) (hH:H l=some (.lst xs)):xs.length<=sizeLine/\∃(its:List Value) (n:Nat),aF xs its/\xs.length=its.length/\s.heap.get? l=some {cls:=.type "list",data:=.seq its.toArray n}:=by obtain ⟨z,its,n,r,e⟩:=I.hok l _ hH;exact ⟨z,its,n,r,r.length,e⟩
theorem gM {n:Nat}(h:n<=sizeLine):Builtin.List.listTooLong n=false:=by unfold Builtin.List.listTooLong;exact decide_eq_false (by omega)
end
section
variable {X:Cx}
def q0:V->List V->Hp->VK->Prop:=λ x vs H Q=> ∃l xs y,x=.ref l/\vs=[y]/\H l=some (.lst xs)/\xs.length<sizeLine/\Q .non (upd H l (.lst (xs++[y])))
theorem nK:MtM X "list.append" q0:=by intro pins s σ H x vs v us Q I rx rv h;obtain ⟨l,xs,y,rfl,rfl,hH,hz,q⟩:=h;cases rx;obtain ⟨u,rfl,ru⟩:=rv.one;obtain ⟨z,its,n,r,hl,e⟩:=I.lstM hH;refine call_meets F.slot_list_append ⟨_,e,rfl⟩ F.entry_list_append (F.args_list_append_2 _ _) (PySem.list_append l its.toArray n u (by rw [C2];omega)) ⟨e,?_⟩;refine ⟨.non,_,I.lset (its':=its++[u]) hH e (by simp) (r.append (.cons ru .nil)) ?_,rfl,q⟩;rw [Dc,DB];omega
def qZ:V->List V->Hp->VK->Prop:=λ x vs H Q=> ∃l b xs zs,x=.ref l/\vs=[.ref b]/\H l=some (.lst xs)/\H b=some (.lst zs)/\xs.length+zs.length<=sizeLine/\Q .non (upd H l (.lst (xs++zs)))
theorem xI:MtM X "list.extend" qZ:=by
 intro pins s σ H x vs v us Q I rx rv h;obtain ⟨l,b,xs,zs,rfl,rfl,hH,hB,hz,q⟩:=h;cases rx;obtain ⟨u,rfl,ru⟩:=rv.one;cases ru;obtain ⟨z,its,n,r,hl,e⟩:=I.lstM hH;obtain ⟨z2,its2,n2,r2,hl2,e2⟩:=I.lstM hB;have hsz:its.toArray.size+its2.toArray.size<=sizeLine:=by rw [C2,C2];omega
 have hlong:¬(!its.toArray.isEmpty&&Builtin.List.listTooLong (its.toArray.size+its2.toArray.size))=true:=by rw [gM hsz,Ei];exact Ee
 refine call_meets F.slot_list_extend ⟨_,e,rfl⟩ F.entry_list_extend (F.args_list_extend_2 _ _)
  (AutoSeq1.list_extend_list_list_0 l its.toArray n b its2.toArray n2 hlong (by rw [C2];omega) (by omega)) ⟨e,e2,?_⟩
 refine ⟨.non,_,I.lset (its':=its++its2) hH e (by simp) (r.append r2) ?_,rfl,q⟩;rw [Dc];omega
def wB:R2:=λ x y H Q=> ∃l b xs zs,x=.ref l/\y=.ref b/\H l=some (.lst xs)/\H b=some (.lst zs)/\xs.length+zs.length<=sizeLine/\∀p,H p=none->Q (.ref p) (upd H p (.lst (xs++zs)))
theorem wM:eS X (binaryOp .Add) wB:=by
 intro pins s σ H x y v u Q I rx ry h;obtain ⟨l,b,xs,zs,rfl,rfl,hH,hB,hz,q⟩:=h;cases rx;cases ry;obtain ⟨z,its,n,r,hl,e⟩:=I.lstM hH;obtain ⟨z2,its2,n2,r2,hl2,e2⟩:=I.lstM hB;refine PySem.P.add_list e e2 ?_ (by rw [C2,C2];omega);have ea:its.toArray++its2.toArray=(its++its2).toArray:=by simp
 rw [ea];exact ⟨.ref _,_,I.lnew (t':=s.toks) (r.append r2) (by rw [Dc];omega),rfl,q _ I.fresh⟩
end
section
variable {prog:Program}{w:World}{A:Around}{E:Value->Shared->Prop}{s:Shared}
theorem lV {a c n:Nat}(hac:a<=c) (hc:c<=n):sliceBounds (some (a:Int)) (some (c:Int)) none n=((a:Int),(c:Int),1):=by
 simp only [sliceBounds,Eu];have h1:¬((a:Int)<0):=by omega
 have h2:¬((c:Int)<0):=by omega
 simp only [h1,h2,if_false,show (1:Int) > 0 by decide,if_true];congr 1
 ·omega
 ·congr 1;omega
set_option maxRecDepth 100000 in
theorem qG {l b sl:Addr}{items new:Array Value}{n n2:Nat}{vl vu:Value}{a c:Nat}{Q:Unit->Shared->Prop}
  (e:s.heap.get? l=some {cls:=.type "list",data:=.seq items n}) (e2:s.heap.get? b=some {cls:=.type "list",data:=.seq new n2}) (hne:l≠b)
  (hs:s.heap.IsSliceOf sl vl vu .none) (pl:IsPart vl (some (a:Int))) (pu:IsPart vu (some (c:Int))) (hac:a<=c) (hc:c<=items.size)
  (hsz:items.size+new.size<=sizeLine) (h:Q () {s with heap:=s.heap.update l (Obj.mapSeq λ xs=>xs.extract 0 a++new++xs.extract c xs.size)}):
  wpAny (model prog w) A (setItem (.ref l) (.ref sl) (.ref b)) Q E s:=by
 have hl:s.heap.IsList l items:=PySem.IsL.isList e;have hb:s.heap.IsList b new:=PySem.IsL.isList e2;obtain ⟨os,hos,hcs,hds⟩:=id hs;have hTs:s.TypeIs (.ref sl) "slice":=⟨os,hos,hcs⟩;have hstep:¬((rawPart none == rawInt 0)=true):=Ee;have hsame:Builtin.List.listSameRef (.ref l) (.ref b)=false:=by unfold Builtin.List.listSameRef;exact beq_eq_false_iff_ne.mpr hne
 have hmax:(max (a:Int) (c:Int)).toNat=c:=by omega
 have hz':((λ xs:Array Value=>xs.extract 0 a++new++xs.extract c xs.size) items).size<=sizeLine+1:=by simp only [Array.size_append,Array.size_extract];omega
 unfold setItem
 try with_reducible refine wpAny_holding ?_
 first | refine wpAny_bind (wpAny_pure ?_) | skip
 refine wpAny_bind (wpAny_sequenceKey hl.typeIs (by decide) ?_);refine wpAny_bind (wpAny_callSpecial?_slot (name:=Str.ofString "__setitem__") hl.typeIs slot_list_setitem
  (wpAny_call_entry slot_list_setitem hl.typeIs entry_list_setitem ?_ (args_list_setitem _ _ _)))
 show wpAny _ _ (Builtin.List.listSubscript? (.ref sl) >>= _) _ _ s;refine wpAny_bind ?_;unfold Builtin.List.listSubscript?;refine wpAny_bind (wpAny_specialOf hTs slice_no_index ?_);simp only [Option.isNone_none,if_true];refine wpAny_pure ?_;show wpAny _ _ (typeOf (.ref sl) >>= _) _ _ s;refine wpAny_bind (wpAny_typeOf hTs ?_)
 first
  | rw [if_neg (by decide)]
  | refine PySem.W.KFB.if_not (by decide) ?_
 rw [listSliceParts_eq];refine wpAny_bind (wpAny_bind (wpAny_field hos hds (x:=.none) rfl (wpAny_bind (wpAny_listPart .none ?_))));rw [if_neg hstep];refine wpAny_bind (wpAny_field hos hds (x:=vl) rfl (wpAny_bind (wpAny_listPart pl ?_)));refine wpAny_bind (wpAny_field hos hds (x:=vu) rfl (wpAny_bind (wpAny_listPart pu (wpAny_pure ?_))))
 first
  | simp only [hsame,Eh,if_false]
  | refine PySem.W.KFB.if_not hsame ?_
  | (dsimp only
     rw [if_neg (by rw [hsame];exact Ee)])
 refine wpAny_bind (m:=Builtin.List.listAllItems (.ref b) "must assign iterable to extended slice") ?_;unfold Builtin.List.listAllItems;refine wpAny_bind (wpAny_typeOf hb.typeIs ?_)
 first
  | refine PySem.W.KFB.if_so (by decide) ?_
  | rw [if_pos (by decide)]
  | simp only [beq_self_eq_true,Bool.true_or,if_true]
 unfold Builtin.List.listItems;refine wpAny_bind (wpAny_seqItems e2 rfl (wpAny_pure ?_));refine wpAny_bind (wpAny_bind (wpAny_seqItems e rfl (wpAny_pure ?_)));refine wpAny_bind (wpAny_of_eq ((sliceIndices_raw (some (a:Int)) (some (c:Int)) none items.size (by simp)).trans (congrArg (pure:Int×Int×Int->Sem (Int×Int×Int)) (lV hac hc))) ?_);show wpAny _ _ (if ((1:Int) == 1)=true then _ else _) _ _ s;rw [if_pos (by decide)];refine wpAny_bind (wpAny_rule ?_)
 first
  | simp only [gM hsz,Eh,if_false]
  | refine PySem.W.KFB.if_not (gM hsz) ?_
 first | refine wpAny_bind (wpAny_pure ?_) | skip
 show wpAny _ _ (updateSeq l (λ xs=>xs.extract 0 ((a:Int)).toNat++new++xs.extract (max (a:Int) (c:Int)).toNat xs.size) >>= _) _ _ s;rw [hmax,Eb];refine wpAny_bind (wpAny_updateSeq (hz:=DU (Nat.le_add_right _ _) hsz) (_hz':=hz') e rfl ?_);refine wpAny_bind (wpAny_letGo ?_)
 first
  | exact wpAny_bind (wpAny_pure (wpAny_pure ⟨.none,rfl,wpAny_pure h⟩))
  | exact wpAny_pure ⟨.none,rfl,wpAny_pure h⟩
end
section
variable {X:Cx}
end
end L2
namespace L2
open PySem PySem.Spec PyProof.Rows
section
variable {κ:Type} [DecidableEq κ]
end
section
variable {P:Program}{w:World}{H:Hp}{h:Heap}{a:Addr}
end
section
variable {X:Cx}{pins:List (Addr×Obj)}{σ:St}{H:Hp}{s:Shared}{a:Addr}{y v:V}{u r:Value}{o:Option V}{A:Around}{E:Value->Shared->Prop}
theorem au.big (I:au X pins σ H s):sysModules<s.heap.objs.size:=by have h:mainGlobals<s.heap.objs.size:=(I.mod.glob.keeps I.bk).lt;exact Nat.lt_trans (by decide) h
end
section
variable {X:Cx}{pins:List (Addr×Obj)}{σ:St}{H:Hp}{s:Shared}{a:Addr}{kvs:List (Key×V)}{k:Key}{u:Value}{A:Around}{E:Value->Shared->Prop}
end
section
variable {X:Cx}{o i e value:Expr}{pos pos' tpos:Pos}{td ty tv:TE}
end
theorem qj {P:Program}{w:World}{H:Hp}(h:Heap) (hb:sysModules<h.objs.size):bi P w H (h.push {cls:=.type "dict",data:=.dict #[]}) h.objs.size (.dK []):=
 ⟨DV _,beq_eq_false_iff_ne.mpr (Ne.symm (DT hb)),[],.nil,Heap.DictOf.new h⟩
def wk:TE:=λ _ H Q=> ∀p,H p=none->Q (.ref p) (upd H p (.dK []))
section
variable {X:Cx}{pos:Pos}
theorem pI:PE X (.Dict [] [] pos) wk:=λ pins s σ H Q I h=>
 wpAny_Dict_empty ⟨.ref s.heap.objs.size,_,I.laid (a:=s.heap.objs.size) (o:=.dK []) (t':=s.toks) (λ _ _ q=>Heap.get?_push_of_some _ q) (DS _) (qj s.heap I.big),rfl,h _ (I.hok.fresh (DS _))⟩
end
section
variable {X:Cx}{pins:List (Addr×Obj)}{σ:St}{H:Hp}{s:Shared}{a:Addr}{y d:V}{u r:Value}{o:Option V}{A:Around}{E:Value->Shared->Prop}
end
section
variable {X:Cx}{o e f:Expr}{apos cpos:Pos}{td ty tx:TE}
end
section
variable {X:Cx}{pins:List (Addr×Obj)}{σ:St}{H:Hp}{s:Shared}{a:Addr}{kvs:List (Key×V)}{A:Around}{E:Value->Shared->Prop}
end
section
variable {X:Cx}{pins:List (Addr×Obj)}{σ:St}{H:Hp}{s:Shared}{a:Addr}{y:V}{u:Value}{A:Around}{E:Value->Shared->Prop}
end
end L2
namespace Att
open PySem PySem.W PySem.Calls PyProof.Rows
theorem gv {P:Params}{h:Heap}:∀(ns:List Int) (vs:List Value),WellAll P h vs (ns.map WData.int)->IntsAre vs ns:=by
 intro ns
 induction ns with
 | nil=>
   intro vs w;rw [List.map_nil] at w;cases w;exact .nil
 | cons n ns ih=>
   intro vs w;rw [Ds] at w;cases w with
   | cons a b=>
     cases a;exact .cons _ _ (ih _ b)
theorem nh {l:OpenLaw}{n:Nat}(hn:l.most=some n) {P:Params}{h:Heap}{args:List WData}{vals:List Value}
  (hpre:l.row.toRowW.claim.pre args=true) (hwl:WellAll P h vals args):
  ∃a vs ns,vals=[Value.ref a]/\args=[WData.list (ns.map WData.int)]/\h.get? a=some {cls:=.type "list",data:=.seq vs.toArray}/\IntsAre vs ns/\ns.length<=n:=by
 have hsh:WShape.hasAll [] args [.list .int]=true:=(pre_splitW hpre).1;have hc:l.pre.holds [] {args:=args}=true:=(pre_splitW hpre).2;obtain ⟨d,r,rfl,h1,h2⟩:=hasAllW_cons hsh;obtain rfl:=hasAllW_nil h2;obtain ⟨xs,rfl,h3⟩:=hasW_list h1;obtain ⟨ns,rfl⟩:=items_int h3;have hlen:ns.length<=n:=by
  unfold OpenLaw.pre at hc;have h4:(WTm.not (.lt (.lit (.int (n:Int))) (.len (.arg 0)))).holds [] {args:=[.list (ns.map .int)]}=true:=by have h4:=(holds_andW hc).1;rw [hn] at h4;exact h4
  have h5:=condW_of h4 (w_not (w_lt w_lit (w_len_list (w_arg rfl))));rw [CZ] at h5;refine Nat.le_of_not_lt λ q=>?_;have q':(n:Int)<((ns.length:Nat):Int):=by omega
  first
   | (rw [decide_eq_true q'] at h5;exact absurd h5 (by decide))
   | (simp at h5;omega)
 cases hwl with
 | cons w1 w2=>
   cases w2;cases w1 with
   | list ho hall=>exact ⟨_,_,ns,rfl,rfl,ho,gv ns _ hall,hlen⟩
theorem nz (l:OpenLaw) (args:List WData):l.row.toRowW.claim.post args (.bool true) args=true:=
 postW_of (r:=l.row.toRowW) (X:=(true == true))
  (show WShape.has [] (.bool true) .bool=true by first | rfl | decide | simp [WShape.has,WShape.arms,WShape.armsAll])
  (show (WTm.eq .res (.lit (.bool true))).value [] {args:=args,res:=some (.bool true),after:=args}=some (.bool (true == true)) from w_eq_bool (w_res rfl) w_lit) rfl
theorem attach_call {l:OpenLaw}{n:Nat}{q:Program}{loose:List Str}{XP:(Str->Option Value)->Heap->Prop}{YP:World->Heap->Prop}{d:DefRec}
  (hn:l.most=some n) (hdf:d.params.defaults=[])
  (call:∀(w:World) (s₀ s₁:Shared) (mg mb:Str->Option Value) (fa:Addr) (o:Obj) (pm cd doc:Value) (a:Addr) (vs:List Value) (ns:List Int),
   Ground q loose [] XP w s₀ mg mb s₁.heap->YP w s₁.heap->
   s₁.heap.get? fa=some o->o.data=.func (docDef d.name d.params d.body d.scope pm cd doc)->s₁.heap.CodeRec cd d.name->mg d.name=some (.ref fa)->
   s₁.heap.get? a=some {cls:=.type "list",data:=.seq vs.toArray}->IntsAre vs ns->ns.length<=n->s₁.gens= #[]->
   codeAny (model l.prog w) callerA (.call (.ref fa) ⟨[.ref a],[]⟩) (λ r s'=>r=.ok (.ret (.bool true))/\OldK s₁.heap s'.heap/\s'.os=s₁.os/\AllBare s'.gens) s₁):
  WalkO q loose XP YP l.row.toRowW d [] (λ f vs=>PySem.call f vs):=by
 intro w s₀ s₁ mg mb G Y fa o pm cd doc dV kV ho hd hcd hD hmg hg args vals as hpre hlay hrd hwl hlo;obtain rfl:dV=.none:=Dflts.none hD hdf;obtain rfl:kV=.none:=Dflts.noKw hD;obtain ⟨a,vs,ns,rfl,rfl,hobj,hints,hlen⟩:=nh hn hpre hwl;refine enter_call (codeAny_mono (call w s₀ s₁ mg mb fa o pm cd doc a vs ns G Y ho (fd_plain hd) hcd hmg hobj hints hlen hg) λ r s' hq=>?_);obtain ⟨rfl,h2,h3,h4⟩:=hq;exact ⟨.inl ⟨.bool true,.bool true,[],rfl,λ _=>rfl,.bool true,nz l _,λ _=>⟨List.Pairwise.nil,λ _ hm=>(nomatch hm)⟩⟩,h2,h3,h4⟩
section
variable {prog:Program}{w:World}{A:Around}{E:Value->Shared->Prop}{s:Shared}{K:Frag}
end
end Att
namespace L2
open PySem PySem.Spec PyProof.Rows
theorem fO:∀{vs:List Value}{ns:List Int},IntsAre vs ns->aF (ns.map V.int) vs
 | _,_,.nil=>.nil
 | _,_,.cons n t h=>.cons ⟨t,rfl⟩ (fO h)
def xD (H:Hp):Prop:= ∀b,H b=none\/∃o xs,H b=some (.frz o (.lst xs))
theorem pP {P:Program}{w:World}{K:Frag}{mg mb:Str->Option Value}{CX:m6}{k:Nat}{fa a:Addr}{fd:FuncData}{x:Str}{sp:Sp}{s₁:Shared}{vs:List Value}{ns:List Int}
  (KX:K.In s₁.heap) (hns:s₁.heap.Ns mainGlobals mg) (hb:s₁.heap.Ns builtinsNs mb) (hbb:∀x:Str,x≠"__name__"->mb x=bootBuiltins x) (hlim:s₁.heap.NoLimit) (hg:s₁.gens= #[])
  (ha:s₁.heap.get? a=some {cls:=.type "list",data:=.seq vs.toArray}) (hi:IntsAre vs ns) (hl:ns.length<=sizeLine) (hr:bQ k callerA)
  (F:∀base:Heap,K.In base->base.Ns mainGlobals mg->bp P w K mg base CX k fa fd [x] sp) (hbind:∀(s:Shared) (u:Value),BindsTo s fd ⟨[u],[]⟩ [(x,u)])
  (hsp:∀H:Hp,xD H->aH K H a (ns.map V.int)->sp [.ref a] H (λ v _=>v=.bl true) λ _ _ _=>False)
  (hCX:∀H e s',CX [] H s₁ (λ _ _ _=>False) e s'->False):
  codeAny (model P w) callerA (.call (.ref fa) ⟨[.ref a],[]⟩) (λ r s'=>r=.ok (.ret (.bool true))/\OldK s₁.heap s'.heap/\s'.os=s₁.os/\AllBare s'.gens) s₁:=by
 have rv:=fO hi;have lenV:=hi.length;have core:∀H:Hp,xD H->aH K H a (ns.map V.int)->gi P w H s₁.heap->(∀b,H b≠none->b=a)->(H a≠none->K.lookup a=none)->
   codeAny (model P w) callerA (.call (.ref fa) ⟨[.ref a],[]⟩) (λ r s'=>r=.ok (.ret (.bool true))/\OldK s₁.heap s'.heap/\s'.os=s₁.os/\AllBare s'.gens) s₁:=by
  intro H hO hS hok hA hK;have base_of:∀{b:Addr} {o:Obj},s₁.heap.get? b=some o->H b=none->(jx s₁.heap H).get? b=some o:=λ e n=>pU e n;have noA:∀{b:Addr} {o:Obj} {es:Array DictEntry} {ep:Nat},s₁.heap.get? b=some o->o.data=.dict es ep->H b=none:=λ {b o es ep} e d=>by
   cases q:H b with
   | none=>rfl
   | some u=>
     have e':b=a:=hA b (by rw [q];simp);subst e';rw [ha] at e;cases e;have d':Data.seq vs.toArray _=Data.dict es ep:=d;cases d'
  have nsK:∀{b:Addr} {m:Str->Option Value},s₁.heap.Ns b m->(jx s₁.heap H).Ns b m:=λ {b m} ⟨o,es,ep,e,d,r⟩=>⟨o,es,ep,base_of e (noA e d),d,r⟩;have hKb:K.In (jx s₁.heap H):=λ b o e=>base_of (KX b o e) (by
   cases q:H b with
   | none=>rfl
   | some u=>
     have e':b=a:=hA b (by rw [q];simp);subst e';rw [hK (by rw [q];simp)] at e;cases e)
  have hM:Mod K mg (jx s₁.heap H):=⟨hKb,nsK hns,⟨mb,nsK hb,hbb⟩,let ⟨mc,h1,h2⟩:=hlim;⟨mc,nsK h1,h2⟩⟩;have e0:jP P w K mg (jx s₁.heap H) callerA [] s₁ H:=⟨rfl,hM,λ b o e=>rA e,D0 (nV _ _),trivial,λ b hb=>absurd (show b∈([]:List Addr) from hb) (by simp),hok,.of_eq hg⟩;refine codeAny_mono ((F _ hKb (nsK hns)).run callerA [] s₁ H ⟨[.ref a],[]⟩ [.ref a] [.ref a] _ _ hr e0 (hbind s₁ (.ref a)) (.cons rfl .nil) (hsp H hO hS)) λ r s' h=>?_;cases r with
  | error e=>exact (hCX H e s' h).elim
  | ok fl=>
    cases fl with
    | next=>exact False.elim h
    | brk=>exact False.elim h
    | cont=>exact False.elim h
    | ret u=>
      obtain ⟨v,H',os,bare,un,hok',r',q⟩:=h;have q':v=.bl true:=q;subst q';obtain rfl:u=Value.bool true:=r';refine ⟨rfl,OldK.of_keep λ b o e=>?_,os,bare⟩;cases q:H b with
      | none=>exact un.keep b o e q (by intro z;exact absurd (show b∈([]:List Addr) from z) (by simp)) (by simp)
      | some u=>
        rcases hO b with z | ⟨ob,xs,z⟩
        ·rw [q] at z;cases z
        ·have z2:=un.frzs b ob _ z;obtain ⟨e1,_⟩:=hok b _ z;obtain ⟨e2,_⟩:=hok' b _ z2;rw [e] at e1;cases e1;exact e2
 cases hk:K.lookup a with
 | some o=>
   have e:=KX a o hk;rw [ha] at e;cases e;refine core (λ _=>none) (λ _=>.inl rfl) (.inr ⟨_,vs.toArray,_,hk,rfl,rfl,rfl,by rw [C2,lenV];exact hl,by simpa using rv⟩) (λ b u z=>by have z':(none:Option HO)=some u:=z;cases z') (λ b z=>absurd rfl z) λ z=>absurd rfl z
 | none=>
   refine core (λ b=>if b=a then some (.frz {cls:=.type "list",data:=.seq vs.toArray} (.lst (ns.map V.int))) else none) (λ b=>?_) (.inl (.inr ⟨{cls:=.type "list",data:=.seq vs.toArray},if_pos rfl⟩)) (λ b u z=>?_) (λ b z=>?_) λ _=>hk
   ·by_cases hb:b=a
    ·exact .inr ⟨_,_,if_pos hb⟩
    ·exact .inl (if_neg hb)
   ·by_cases hb:b=a
    ·have z':=(if_pos hb).symm.trans z;cases z';subst hb;exact ⟨ha,by rw [CZ];exact hl,vs,_,rv,ha⟩
    ·have z':=(if_neg hb).symm.trans z;cases z'
   ·by_cases hb:b=a
    ·exact hb
    ·exact absurd (if_neg hb) z
end L2
namespace L2
open PySem PySem.Spec PyProof.Rows
theorem qI {l:PySem.W.OpenLaw}{n k:Nat}{q:Program}{loose:List Str}{XP:(Str->Option Value)->Heap->Prop}{YP:World->Heap->Prop}{d:DefRec}{K:Params->Frag}{CX:World->m6}{sp:World->Sp}{x:Str}
  (hn:l.most=some n) (hn2:n<=sizeLine) (hdf:d.params.defaults=[]) (hr:bQ k callerA)
  (hY:∀(w:World) (h:Heap),YP w h->(K w.params).In h)
  (F:∀(w:World) (mg:Str->Option Value) (fa:Addr) (h:Heap),(K w.params).In h->h.Ns mainGlobals mg->mg d.name=some (.ref fa)->
   ∃fd:FuncData,(∀(s:Shared) (u:Value),BindsTo s fd ⟨[u],[]⟩ [(x,u)])/\
    ∀base:Heap,(K w.params).In base->base.Ns mainGlobals mg->bp l.prog w (K w.params) mg base (CX w) k fa fd [x] (sp w))
  (hsp:∀(w:World) (H:Hp) (a:Addr) (ns:List Int),ns.length<=n->xD H->aH (K w.params) H a (ns.map V.int)->sp w [.ref a] H (λ v _=>v=.bl true) λ _ _ _=>False)
  (hCX:∀(w:World) (H:Hp) (s:Shared) (e:Value) (s':Shared),CX w [] H s (λ _ _ _=>False) e s'->False):
  PySem.W.WalkO q loose XP YP l.row.toRowW d [] (λ f vs=>PySem.call f vs):=by
 refine Att.attach_call hn hdf λ w s₀ s₁ mg mb fa o pm cd doc a vs ns G Y ho hd hcd hmg hobj hints hlen hg=>?_;have KX:=hY w _ Y;obtain ⟨fd,hb,hF⟩:=F w mg fa _ KX G.T.g hmg;exact pP KX G.T.g G.T.b G.T.builtins G.T.nolimit hg hobj hints (DU hlen hn2) hr hF hb (λ H hO hS=>hsp w H a ns hlen hO hS) λ H e s'=>hCX w H s₁ e s'
end L2
namespace L2
open PySem PySem.Spec PyProof.Rows
def eH (s:Stmt) (j:Nat):Stmt:=match s with
 | .ClassDef _ _ _ body _ _ _ _ _ _ _=>body.getD j (.Pass ⟨0,0,0,0⟩)
 | _=>.Pass ⟨0,0,0,0⟩
def dm (s:Stmt):Arguments:=match s with
 | .FunctionDef _ a _ _ _ _ _ _ _ _=>a
 | _=>{posonlyargs:=[],args:=[],vararg:=none,kwonlyargs:=[],kw_defaults:=[],kwarg:=none,defaults:=[]}
def cw (s:Stmt):List Stmt:=match s with
 | .FunctionDef _ _ b _ _ _ _ _ _ _=>b
 | _=>[]
def ao (s:Stmt):Scope:=match s with
 | .FunctionDef _ _ _ _ _ _ sc _ _ _=>sc
 | _=>{kind:=.function,names:=[],isGenerator:=false,isCoroutine:=false}
abbrev dN:m6:=λ _ _ _ _ _ _=>False
abbrev E0:XK:=λ _ _ _=>False
theorem mo {X:Cx}:hJ dN X E0:=λ _ _ _ _ _ _ _ h=>h.elim
structure bW (K:Frag) (x qual:Str) (st:Stmt) (f:Addr) (fd:FuncData):Prop where
 ex:∃(oc:Value) (od:Option Addr) (kV doc pm:Value) (an:Option Addr) (cdv ct:Value) (osl:Array (Option Value)),
  fd=EF x qual (dm st) (cw st) (ao st) .none kV doc pm an cdv ct/\K.lookup f=some ⟨oc,od,.func fd,osl⟩/\ER K cdv qual=true
 kp:EE K (.ref f)=true
section
variable {P:Program}{w:World}{K:Frag}{mg:Str->Option Value}{base:Heap}
theorem bW.ok {x qual:Str}{st:Stmt}{f:Addr}{fd:FuncData}{N ps:List Str}{k:Nat}{sp:Sp}(F:bW K x qual st f fd) (S:aB N ps (ao st)) (len:∀vs H Q E,sp vs H Q E->vs.length=ps.length)
  (hbody:∀(cdv:Value) (A:Around) (outer:List Env) (s:Shared) (H:Hp) (vs:List V) (Q:VK) (E:XK),bQ k (A.deeper (envOfC qual (ao st) s.heap.objs.size f cdv))->sp vs H Q E->
   ∃t,jO (fB dN P w K mg base N qual (ao st) f cdv A outer s H E).nox (cw st) t/\t {nx:=λ _ H'=>Q .non H',rt:=Q} (dB N vs) H):bp P w K mg base dN (k+1) f fd ps sp:=by
 obtain ⟨oc,od,kV,doc,pm,an,cdv,ct,osl,rfl,lk,hcd⟩:=F.ex;refine vZ lk hcd S len λ A outer s H vs Q E hr hsp=>?_;obtain ⟨t,h,q⟩:=hbody cdv A outer s H vs Q E hr hsp;exact ⟨t,h.nox,q⟩
theorem bW.binds {x qual:Str}{st:Stmt}{f:Addr}{fd:FuncData}{ps:List Str}(F:bW K x qual st f fd)
  (h:∀(kV doc pm:Value) (an:Option Addr) (cdv ct:Value) (us:List Value),us.length=ps.length->bindArgs (EF x qual (dm st) (cw st) (ao st) .none kV doc pm an cdv ct) ⟨us,[]⟩=pure (ps.zip us)):dq K fd ps []:=by
 obtain ⟨oc,od,kV,doc,pm,an,cdv,ct,osl,rfl,lk,hcd⟩:=F.ex;exact .all (h kV doc pm an cdv ct)
theorem aY {x qual:Str}{st:Stmt}{f:Addr}{oc:Value}{od an:Option Addr}{osl:Array (Option Value)}{kV doc pm cdv ct:Value}(l:K.lookup f=some ⟨oc,od,.func (EF x qual (dm st) (cw st) (ao st) .none kV doc pm an cdv ct),osl⟩)
  (c:ER K cdv qual=true) (k:EE K (.ref f)=true):bW K x qual st f (EF x qual (dm st) (cw st) (ao st) .none kV doc pm an cdv ct):=⟨⟨oc,od,kV,doc,pm,an,cdv,ct,osl,rfl,l,c⟩,k⟩
end
section
variable {X:Cx}
end
theorem ig {A B:Prop}(h:B):if false=true then A else B:=by rw [if_neg Ee];exact h
theorem gQ {A B:Prop}(h:A):if true=true then A else B:=by rw [if_pos rfl];exact h
def am (H H':Hp):Prop:= ∀b o,H b=some o->H' b=some o
theorem am.refl (H:Hp):am H H:=λ _ _ h=>h
theorem am.trans {H H1 H2:Hp}(a:am H H1) (b:am H1 H2):am H H2:=λ c o h=>b c o (a c o h)
theorem am.free {H H':Hp}(e:am H H') {l:Addr}(h:H' l=Option.none):H l=Option.none:=by
 cases q:H l with
 | none=>rfl
 | some o=>
   rw [e l o q] at h;cases h
theorem am.seq {K:Frag}{H H':Hp}{a:Addr}{xs:List V}(e:am H H') (h:aH K H a xs):aH K H' a xs:=by
 rcases h with (h | ⟨o,h⟩) | h
 ·exact .inl (.inl (e _ _ h))
 ·exact .inl (.inr ⟨o,e _ _ h⟩)
 ·exact .inr h
section
variable {κ:Type} [DecidableEq κ]
end
end L2
namespace L2
open PySem PySem.Spec PyProof.Rows
def fF (env:Env):List (Str×NameKind)->List (Str×Addr)->List (Str×Addr)
 | [],cs=>cs
 | (n,k)::r,cs=>fF env r (if k == .free then (match env.cells.lookup n with | some a=>(n,a)::cs | none=>cs) else cs)
theorem dw (env:Env):∀(l:List (Str×NameKind)) (cs:List (Str×Addr)),(∀x∈l,x.2=.free->∃c,env.cells.lookup x.1=some c)->
  (forIn l cs λ (x:Str×NameKind) r=>if (x.2 == NameKind.free)=true then do let a<-cellOf env x.1;pure (ForInStep.yield ((x.1,a)::r)) else pure (ForInStep.yield r):Sem (List (Str×Addr)))=pure (fF env l cs)
 | [],cs,_=>rfl
 | (n,k)::r,cs,h=>by
   have hr:∀x∈r,x.2=.free->∃c,env.cells.lookup x.1=some c:=λ x hx=>h x (C7 _ hx);rw [List.forIn_cons,fF]
   by_cases hk:(k == NameKind.free)=true
   ·obtain ⟨c,hc⟩:=h (n,k) C3 (by simpa using hk);have hc':env.cells.lookup n=some c:=hc;have e:cellOf env n=pure c:=by unfold cellOf;rw [hc']
    simp only [hk,if_true,e,pure_bind,hc'];exact dw env r _ hr
   ·simp only [hk,if_false,pure_bind];exact dw env r _ hr
theorem eV {scope:Scope}{env:Env}(h:∀x∈scope.names,x.2=.free->∃c,env.cells.lookup x.1=some c):closureFor scope env=pure (fF env scope.names []):=by have e:=dw env scope.names [] h;unfold closureFor;show (forIn scope.names ([]:List (Str×Addr)) _ >>= λ r=>pure r:Sem (List (Str×Addr)))=_;rw [bind_pure];exact e
theorem kS (env:Env):∀(l:List (Str×NameKind)) (cs:List (Str×Addr)) (x:Str) (c:Addr),cs.lookup x=some c->env.cells.lookup x=some c->(fF env l cs).lookup x=some c
 | [],_,_,_,h,_=>h
 | (n,k)::r,cs,x,c,h,e=>by
   rw [fF];refine kS env r _ x c ?_ e;split
   ·cases q:env.cells.lookup n with
    | none=>exact h
    | some a=>
      show List.lookup x ((n,a)::cs)=some c;rw [Dj];cases hx:x == n with
      | false=>exact h
      | true=>
        have:x=n:=by simpa using hx
        subst this;rw [q] at e;exact e
   ·exact h
theorem gZ (env:Env):∀(l:List (Str×NameKind)) (cs:List (Str×Addr)) (x:Str) (c:Addr),(∀y d,cs.lookup y=some d->env.cells.lookup y=some d)->(fF env l cs).lookup x=some c->env.cells.lookup x=some c
 | [],cs,x,c,h,e=>h x c e
 | (n,k)::r,cs,x,c,h,e=>by
   rw [fF] at e;refine gZ env r _ x c ?_ e;intro y d q;split at q
   ·cases z:env.cells.lookup n with
    | none=>rw [z] at q;exact h y d q
    | some a=>
      rw [z] at q;have q2:List.lookup y ((n,a)::cs)=some d:=q;rw [Dj] at q2;cases hx:y == n with
      | false=>rw [hx] at q2;exact h y d q2
      | true=>
        rw [hx] at q2;have hyn:y=n:=by simpa using hx
        rw [hyn,z];exact q2
   ·exact h y d q
theorem g7 (env:Env):∀(l:List (Str×NameKind)) (cs:List (Str×Addr)) (x:Str) (c:Addr),(x,NameKind.free)∈l->env.cells.lookup x=some c->(fF env l cs).lookup x=some c
 | [],_,_,_,h,_=>by simp at h
 | (n,k)::r,cs,x,c,h,e=>by
   rw [fF]
   rcases C1.mp h with h | h
   ·have h1:n=x:=(congrArg Prod.fst h).symm;have h2:k=NameKind.free:=(congrArg Prod.snd h).symm;subst h1 h2;refine kS env r _ n c ?_ e;rw [e];show List.lookup n (if (NameKind.free == NameKind.free)=true then (n,c)::cs else cs)=some c;rw [if_pos (by decide),Dj];simp
   ·exact g7 env r _ x c h e
theorem fj (scope:Scope) (env:Env) (x:Str):(relabel scope env).names.lookup x=
  (scope.names.lookup x).map λ k=>if (k == .free&&env.scope.kind == .function&&env.kindOf x == some .cell)=true then NameKind.cell else k:=by
 show (scope.names.map λ (p:Str×NameKind)=>if (p.2 == .free&&env.scope.kind == .function&&env.kindOf p.1 == some .cell)=true then (p.1,NameKind.cell) else (p.1,p.2)).lookup x=_
 induction scope.names with
 | nil=>rfl
 | cons p r ih=>
   obtain ⟨n,k⟩:=p;rw [Ds];show List.lookup x ((if (k == .free&&env.scope.kind == .function&&env.kindOf n == some .cell)=true then (n,NameKind.cell) else (n,k))::_)=_;cases hx:x == n with
   | false=>
     have e1:List.lookup x ((n,k)::r)=List.lookup x r:=by rw [Dj,hx]
     rw [e1];split<;>(rw [Dj,hx];exact ih)
   | true=>
     have:x=n:=by simpa using hx
     subst this;have e1:List.lookup x ((x,k)::r)=some k:=by rw [Dj,hx]
     rw [e1];show _=some _;split
     ·rename_i hc;rw [Dj,hx];show some NameKind.cell=some (if _ then _ else _);rw [if_pos hc]
     ·rename_i hc;rw [Dj,hx];show some k=some (if _ then _ else _);rw [if_neg hc]
structure bE (X:Cx) (N:List Str) (src:List (Option Nat)) (scope:Scope):Prop where
 kind:scope.kind=.function
 nocell:∀y∈scope.names,y.2≠.cell
 names:∀y∈scope.names,y.2=.local->scope.names.lookup y.1=some .local
 fre:∀y∈scope.names,y.2=.free->X.env.kindOf y.1=some .cell\/X.env.kindOf y.1=some .free
 len:src.length=N.length
 nd:N.Nodup
 src:∀(j i:Nat) (x:Str),N[j]? =some x->src[j]? =some (some i)->X.N[i]? =some x/\scope.names.lookup x=some .free
def lN (dsc:Scope) (XN N:List Str) (src:List (Option Nat)) (scope:Scope):Bool:=
 decide (scope.kind=.function)&&scope.names.all (λ y=>decide (y.2≠.cell))&&scope.names.all (λ y=> !decide (y.2=.local)||decide (scope.names.lookup y.1=some .local))&&
 scope.names.all (λ y=> !decide (y.2=.free)||decide (dsc.names.lookup y.1=some .cell)||decide (dsc.names.lookup y.1=some .free))&&decide (src.length=N.length)&&decide N.Nodup&&
 (N.zip src).all λ p=>match p.2 with
  | none=>true
  | some i=>decide (XN[i]? =some p.1)&&decide (scope.names.lookup p.1=some .free)
theorem bE.of {X:Cx}{dsc:Scope}{XN N:List Str}{src:List (Option Nat)}{scope:Scope}(he:X.env.scope=dsc) (hN:X.N=XN) (h:lN dsc XN N src scope=true):bE X N src scope:=by
 subst he hN;unfold lN at h;simp only [Ef,decide_eq_true_eq,Dn,Bool.or_eq_true,Ej,decide_eq_false_iff_not] at h;obtain ⟨⟨⟨⟨⟨⟨h1,h2⟩,h3⟩,h4⟩,h5⟩,h6⟩,h7⟩:=h;refine ⟨h1,h2,λ y hy e=>?_,λ y hy e=>?_,h5,h6,λ j i x e1 e2=>?_⟩
 ·rcases h3 y hy with q | q
  ·exact absurd e q
  ·exact q
 ·rcases h4 y hy with (q | q) | q
  ·exact absurd e q
  ·exact .inl q
  ·exact .inr q
 ·have hm:(x,some i)∈N.zip src:=by
   have:(N.zip src)[j]? =some (x,some i):=by rw [List.getElem?_zip_eq_some];exact ⟨e1,e2⟩
   exact Df this
  have q:=h7 _ hm;simpa using q
def cxC (X:Cx) (scope:Scope) (N:List Str) (s:Shared) (H:Hp) (ex:List Addr):Cx:=
 {X with
  N:=N
  s₀:=s
  H₀:=H
  env:=compEnvC scope (fF X.env scope.names []) s.heap.objs.size X.env
  outer:=X.stack
  ex:=ex
  fn:=λ _=>false
  pn:=[]
  xe:=λ _ _=>False}
def dO (src:List (Option Nat)) (σ:St):St:=src.map λ o=>match o with | none=>none | some i=>(σ[i]?).join
section
variable {X:Cx}{pins:List (Addr×Obj)}{σ:St}{H:Hp}{s:Shared}{N:List Str}{src:List (Option Nat)}{scope:Scope}{ex:List Addr}
theorem bE.cells (S:bE X N src scope) (ok:X.Ok):∀x∈scope.names,x.2=.free->∃c,X.env.cells.lookup x.1=some c:=λ x hx e=>ok.has _ (S.fre x hx e)
theorem au.enterC (I:au X pins σ H s) (S:bE X N src scope) (hf:∀b∈ex,eB X pins H b) (hlt:∀b∈ex,b<s.heap.objs.size) {h1:Heap}{m:Str->Option Value}{tk:Nat}
  (hns:h1.Ns s.heap.objs.size m) (hk:∀b o,s.heap.get? b=some o->h1.get? b=some o):au (cxC X scope N s H ex) [] (dO src σ) H {s with heap:=h1,toks:=tk}:=by
 have neC:∀b o,s.heap.get? b=some o->b≠s.heap.objs.size:=λ b o e=>DT (Heap.lt_size e);have sub:∀x c,(fF X.env scope.names []).lookup x=some c->X.env.cells.lookup x=some c:=λ x c e=>gZ X.env _ _ x c (λ y d z=>by simp at z) e;refine ⟨⟨I.ok.mod,S.kind,I.ok.glob,I.ok.blt,DS _,λ x y c e1 e2=>I.ok.inj x y c (sub x c e1) (sub y c e2),λ x hx=>?_,λ x c z=>absurd z (by simp [cxC]),I.ok.hd,I.ok.frames,.inl rfl,λ b hb=>?_,I.bs,DU I.ok.bsz I.sz,λ b o e hb=>?_,λ b hb hz=>?_,I.stack,I.stkFree⟩,
  rfl,I.bare,Un.kept hk,⟨m,hns,λ j x v e1 e2 e3=>?_⟩,λ x c e=>?_,I.hok.fresh (DS _),λ x c e=>I.freeC x c (sub x c e),λ p hp=>absurd (show p∈([]:List (Addr×Obj)) from hp) (by simp),I.hok.kept hk,?_⟩
 ·have hx:(relabel scope X.env).names.lookup x=some .cell\/(relabel scope X.env).names.lookup x=some .free:=hx;have hm:(x,NameKind.free)∈scope.names:=by
   rw [fj] at hx;cases q:scope.names.lookup x with
   | none=>rw [q] at hx;simp at hx
   | some k=>
     have hm:=PySem.mem_of_lookup q;cases k with
     | free=>exact hm
     | cell=>exact absurd rfl (S.nocell _ hm)
     | _=>rw [q] at hx;simp at hx
  obtain ⟨c,hc⟩:=S.cells I.ok _ hm rfl;exact ⟨c,g7 X.env _ _ x c hm hc⟩
 ·obtain ⟨f0,f1,f2,f3,f4,f5⟩:=hf b hb;exact ⟨DT (hlt b hb),λ x c e=>f4 x c (sub x c e)⟩
 ·obtain ⟨f0,f1,f2,f3,f4,f5⟩:=hf b hb
  rcases f3 with z | z
  ·exact I.ok.noex b o e z
  ·exact absurd (DW (Heap.lt_size (I.ok.bs b o e).1) z) (DY _)
 ·obtain ⟨f0,f1,f2,f3,f4,f5⟩:=hf b hb
  rcases C1.mp (I.stkSub b hz) with z | z
  ·exact f1 z
  ·exact f2 z
 ·have e2:(dO src σ)[j]? =some (some v):=e2;unfold dO at e2;rw [Db] at e2;cases q:src[j]? with
  | none=>rw [q] at e2;simp at e2
  | some o=>
    rw [q] at e2;cases o with
    | none=>simp at e2
    | some i=>
      have e2:(σ[i]?).join=some v:=by simpa using e2
      have e2:σ[i]? =some (some v):=by
       cases z:σ[i]? with
       | none=>rw [z] at e2;simp at e2
       | some w=>rw [z] at e2;simp at e2;rw [e2]
      obtain ⟨hX,hfr⟩:=S.src j i x e1 q;have hm:=PySem.mem_of_lookup hfr;have hk2:=S.fre _ hm rfl;obtain ⟨mX,hnX,hl⟩:=I.loc;have hvis:Bl X.env.scope x:=.inr hk2;obtain ⟨u,r,l⟩:=hl i x v hX e2 hvis;refine ⟨u,r,?_⟩
      rcases l with ⟨l1,_⟩ | ⟨_,c,hc,hcell⟩
      ·rcases hk2 with z | z
       ·have:X.env.kindOf x=some .cell:=z;rw [l1] at this;cases this
       ·have:X.env.kindOf x=some .free:=z;rw [l1] at this;cases this
      ·refine .inr ⟨?_,c,g7 X.env _ _ x c hm hc,?_⟩
       ·show (relabel scope X.env).names.lookup x=some .cell\/(relabel scope X.env).names.lookup x=some .free;rw [fj,hfr]
        by_cases hcc:(NameKind.free == .free&&X.env.scope.kind == .function&&X.env.kindOf x == some .cell)=true
        ·left
         show some (if _ then _ else _)=_;rw [if_pos hcc]
        ·right
         show some (if _ then _ else _)=_;rw [if_neg hcc]
       ·exact hcell.keeps hk
 ·obtain ⟨v,z⟩:=I.cell x c (sub x c e);exact ⟨v,z.keeps hk⟩
 ·show (dO src σ).length=N.length;unfold dO;rw [CZ];exact S.len
end
def kZ (X:Cx) (ifs:List Expr) (t:TT):Prop:=
 ∀(pins:List (Addr×Obj)) (s:Shared) (σ:St) (H:Hp) (Q:Bool->Hp->Prop),au X pins σ H s->t σ H Q->
  wpAny (model X.prog X.w) X.A (forIn ifs true λ c r=>if r=true then do let ok<-isTrue c X.env (eval c X.env);pure (ForInStep.yield ok) else pure (ForInStep.yield r)) (TP X pins σ Q) X.xe s
def vF:TT:=λ _ H Q=>Q true H
theorem gI {X:Cx}:kZ X [] vF:=λ _ _ _ H _ I h=>wpAny_tests_nil ⟨H,I,h⟩
theorem dW {X:Cx}{c:Expr}{t:TT}(h:PT X c t):kZ X [c] t:=λ pins s σ H Q I hw=>wpAny_tests_one (h pins s σ H Q I hw)
def fE (g:TG) (tt:TT) (te:TE) (src:List (Option Nat)) (σ:St) (Q:VK) (J:It) (H1:Hp):Prop:=
 ∃W:Nat->Nat->List V->St->Hp->Prop,(∃m,W 0 m [] (dO src σ) H1)/\∀i m ys σ' H',W i m ys σ' H'->
  (J.stop i H'/\∀p,H' p=none->Q (.ref p) (upd H' p (.lst ys)))\/
  (J.go i H'/\ys.length<sizeLine/\∀x H2,J.yld i H' x H2->g x σ' H2 λ σ3 H3=>tt σ3 H3 λ b H4=>
   if b=true then te σ3 H4 λ v H5=> ∃m',m'<m/\W (i+1) m' (ys++[v]) σ3 H5 else∃m',m'<m/\W (i+1) m' ys σ3 H4)
def tComp (wi:TI) (g:TG) (tt:TT) (te:TE) (src:List (Option Nat)):TE:=λ σ H Q=>wi σ H (fE g tt te src σ Q)
def m4 (X:Cx) (pins:List (Addr×Obj)) (σ:St) (Q:VK) (acc:Value) (C:Addr) (r:Result) (s':Shared):Prop:=
 (∃f,r=.ok f)/\∃D H',acc=.ref D/\au X pins σ H' s'/\(∃m,s'.heap.Ns C m)/\eB X pins H' C/\Q (.ref D) H'
theorem jD {prog:Program}{w:World}{A:Around}{R:Result->Shared->Prop}{s:Shared}{elt target iter:Expr}{ifs:List Expr}{scope:Scope}{pos:Pos}{it acc:Value}{env:Env}(I:Nat->Shared->Prop)
  (turn:∀n s,I n s->wpAny (model prog w) A (pyNext it) (λ r s₁=>match r with
   | none=>R (.ok .next) s₁
   | some v=>wpAny (model prog w) A (letOwnedTupleGo target it v) (λ _ s₂=>wpAny (model prog w) A (assign target env v) (λ _ s₃=>
     wpAny (model prog w) A (forIn ifs true λ c r=>if r=true then do let ok<-isTrue c env (eval c env);pure (ForInStep.yield ok) else pure (ForInStep.yield r)) (λ ok s₄=>
      if ok=true then wpAny (model prog w) A (eval elt env) (λ x s₅=>wpAny (model prog w) A (call (.builtin "list.append") [acc,x]) (λ _ s₆=> ∃m,m<n/\I m s₆) (λ _ _=>False) s₅) (λ _ _=>False) s₄
      else∃m,m<n/\I m s₄) (λ _ _=>False) s₃) (λ _ _=>False) s₂) (λ _ _=>False) s₁) (λ _ _=>False) s)
  (n:Nat) (h:I n s):codeAny (model prog w) A (.compLoop (.ListComp elt [⟨target,iter,ifs,0⟩] scope pos) 0 it acc env) R s:=by
 refine codeAny_loop rfl I (λ n s hI=>?_) n h;show wpAny _ A ((compTurn (.ListComp elt [⟨target,iter,ifs,0⟩] scope pos) 0 it acc env).onRaise (λ x=>do noteFrame x env;theTreesLotGoes x)) _ _ s;refine wpAny_noted ?_;rw [compTurn_list];refine wpAny_bind (wpAny_standAt (wpAny_bind (wpAny_mono (turn n s hI) (λ r s₁ h₁=>?_) λ _ _ f=>f.elim)));cases r with
 | none=>exact wpAny_pure h₁
 | some v=>
   refine wpAny_bind (wpAny_mono h₁ (λ _ s₂ h₂=>?_) λ _ _ f=>f.elim);refine wpAny_bind (wpAny_mono h₂ (λ _ s₃ h₃=>wpAny_bind (wpAny_mono h₃ (λ ok s₄ h₄=>?_) λ _ _ f=>f.elim)) λ _ _ f=>f.elim);cases ok with
   | false=>exact wpAny_pure ⟨rfl,h₄⟩
   | true=>
     exact wpAny_bind (wpAny_bind (wpAny_mono h₄ (λ x s₅ h₅=>wpAny_bind (wpAny_mono h₅ (λ _ s₆ h₆=>wpAny_pure (wpAny_pure ⟨rfl,h₆⟩)) λ _ _ f=>f.elim)) λ _ _ f=>f.elim))
abbrev eP (us:List Value) (k:Nat):Obj:={cls:=.type "list",data:=.seq us.toArray k}
section
variable {X:Cx}{N:List Str}{src:List (Option Nat)}{scope:Scope}{elt tg iter:Expr}{ifs:List Expr}{pos:Pos}{wi:TI}{g:TG}{tt:TT}{te:TE}
theorem kQ (hc:X.calm=true) (S:bE X N src scope) (hg:∀s H ex,PG (cxC X scope N s H ex) tg g) (ht:∀s H ex,kZ (cxC X scope N s H ex) ifs tt) (he:∀s H ex,PE (cxC X scope N s H ex) elt te)
  {pins:List (Addr×Obj)} {σ:St} {Q:VK} {itv:Value} {s2:Shared} {E:Value->Shared->Prop} (h:CT X pins σ tg (fE g tt te src σ Q) itv s2):
  wpAny (model X.prog X.w) X.A (newList []) (λ acc s₃=>wpAny (model X.prog X.w) X.A (newFunctionEnv scope X.env.globals (fF X.env scope.names []) [] X.env.qual none .none (some X.env)) (λ cenv s₄=>
   codeAny (model X.prog X.w) X.A (.compStart (.ListComp elt [⟨tg,iter,ifs,0⟩] scope pos) 0 itv acc {cenv with scope:=relabel scope X.env}) (m4 X pins σ Q acc cenv.locals) s₄) E s₃) E s2:=by
 obtain ⟨it,fp,tn,J,H1,e,I2,T,st2,f2,W,⟨m0,w0⟩,turn⟩:=h;subst e;refine wpAny_newObj_type (wpAny_newFunctionEnv S.nocell (by intro y hy;simp at hy) (λ h₁ hns₁ hsb₁=>?_) S.kind);dsimp only at hns₁ hsb₁ ⊢;generalize hH2:s2.heap.push {cls:=.type "list",dict:=none,data:=.seq ([]:List Value).toArray}=H2 at hns₁ hsb₁ ⊢;have hC:H2.objs.size=s2.heap.objs.size+1:=by rw [<-hH2,Heap.size_push]
 have push:∀b o,s2.heap.get? b=some o->H2.get? b=some o:=λ b o e=>hH2▸Heap.get?_push_of_some _ e;have hD2:H2.get? s2.heap.objs.size=some (eP [] 0):=hH2▸Heap.get?_push_size _ rfl;have hk:∀b o,H2.get? b=some o->h₁.get? b=some o:=λ b o e=>hsb₁.extBut b o (DT (Heap.lt_size e)) (Heap.get?_push_of_some _ e);generalize hD:s2.heap.objs.size=D at*;have I3:au X pins σ H1 {s2 with heap:=H2}:=I2.kept (t':=s2.toks) push;have fD:eB X pins H1 D:=I2.fpOk (D0 hD) (I2.hok.fresh (D0 hD));have fpl:∀b∈fp,b<D:=λ b hb=>by obtain ⟨o,e,_⟩:=T.obj _ _ st2 b hb;rw [<-hD];exact Heap.lt_size e
 have fex:∀b∈D::fp,eB X pins H1 b:=λ b hb=>by
  rcases C1.mp hb with z | z
  ·rw [z];exact fD
  ·exact f2 b z
 have lex:∀b∈D::fp,b<({s2 with heap:=H2}:Shared).heap.objs.size:=λ b hb=>by
  show b<H2.objs.size
  rcases C1.mp hb with z | z
  ·rw [z,hC];exact D4 _
  ·rw [hC];exact Nat.lt_succ_of_lt (fpl b z)
 have I4:=I3.enterC (N:=N) S fex lex (h1:=h₁) (tk:=s2.toks+([]:List (Str×Value)).length) hns₁ hk;generalize hY:cxC X scope N {s2 with heap:=H2} H1 (D::fp)=Y at*;have yP:Y.prog=X.prog:=by rw [<-hY];rfl
 have yw:Y.w=X.w:=by rw [<-hY];rfl
 have yA:Y.A=X.A:=by rw [<-hY];rfl
 have yC:Y.env.locals=H2.objs.size:=by rw [<-hY];rfl
 have yK:Y.K=X.K:=by rw [<-hY];rfl
 have yc:Y.calm=true:=by rw [<-hY];exact hc
 have yfs:Y.fs=e7 X.stack:=by rw [<-hY];rfl
 have yex:Y.ex=D::fp:=by rw [<-hY];rfl
 have ypn:Y.pn=[]:=by rw [<-hY];rfl
 have yxe:Y.xe=λ _ _=>False:=by rw [<-hY];rfl
 have ycl:∀x c,Y.env.cells.lookup x=some c->X.env.cells.lookup x=some c:=by rw [<-hY];exact λ x c e=>gZ X.env _ _ x c (λ y d z=>by simp at z) e
 have ye:Y.env=compEnvC scope (fF X.env scope.names []) H2.objs.size X.env:=by rw [<-hY];rfl
 have ys0:Y.s₀={s2 with heap:=H2}:=by rw [<-hY];rfl
 have yH0:Y.H₀=H1:=by rw [<-hY];rfl
 have hgY:PG Y tg g:=by rw [<-hY];exact hg _ _ _
 have htY:kZ Y ifs tt:=by rw [<-hY];exact ht _ _ _
 have heY:PE Y elt te:=by rw [<-hY];exact he _ _ _
 have nfs:∀b∈D::fp,b∉Y.fs:=λ b hb z=>by
  rw [yfs] at z;obtain ⟨f0,f1,f2',_⟩:=fex b hb
  rcases C1.mp (I2.stkSub b z) with q | q
  ·exact f1 q
  ·exact f2' q
 have ncl:∀b∈D::fp,∀x c,Y.env.cells.lookup x=some c->c≠b:=λ b hb x c e=>(fex b hb).2.2.2.2.1 x c (ycl x c e);have nC:∀b∈D::fp,b≠Y.env.locals:=λ b hb=>by rw [yC];exact DT (lex b hb)
 have stat:∀{H':Hp} {us:List Value} {k:Nat},(∀b∈fp,H' b=none)->∀b∈fp,eB Y [(D,eP us k)] H' b:=λ {H' us k} hn b hb=>
  ⟨hn b hb,nC b (C7 _ hb),nfs b (C7 _ hb),.inl (by rw [yex];exact C7 _ hb),ncl b (C7 _ hb),λ p hp=>by
   rw [ypn] at hp;have hp1:p=(D,eP us k):=by simpa using hp
   rw [hp1];exact DZ (fpl b hb)⟩
 have pinD:∀{σ':St} {H':Hp} {s':Shared} {pl:List (Addr×Obj)} {us:List Value} {k:Nat},au Y pl σ' H' s'->s'.heap.get? D=some (eP us k)->H' D=none->au Y [(D,eP us k)] σ' H' s':=λ {σ' H' s' pl us k} I' e n=>
  I'.pins_of λ p hp=>by
   have hp1:p=(D,eP us k):=by simpa using hp
   subst hp1;exact ⟨e,n,nC D C3,nfs D C3,λ v z=>by cases z⟩
 have I4':au Y [(D,eP [] 0)] (dO src σ) H1 {s2 with heap:=h₁,toks:=s2.toks+([]:List (Str×Value)).length}:=pinD I4 (hk _ _ hD2) fD.1;have loop:codeAny (model X.prog X.w) X.A (.compLoop (.ListComp elt [⟨tg,iter,ifs,0⟩] scope pos) 0 (.ref it) (.ref D) Y.env) (m4 X pins σ Q (.ref D) H2.objs.size) {s2 with heap:=h₁,toks:=s2.toks+([]:List (Str×Value)).length}:=by
  refine jD (λ n s'=> ∃i ys us k σ' H',au Y [(D,eP us k)] σ' H' s'/\tn i s'.heap/\(∀b∈fp,H' b=none)/\aF ys us/\ys.length<=sizeLine/\W i n ys σ' H') ?_ m0
   ⟨0,[],[],0,_,H1,I4',T.keep _ _ _ st2 λ b hb o e=>hk _ _ (push b o e),λ b hb=>(f2 b hb).1,.nil,DV _,w0⟩
  rintro n s3 ⟨i,ys,us,k,σ3,H3,I3',st3,fr3,rv,hz,w3⟩
  rcases turn i n ys σ3 H3 w3 with ⟨stop,q⟩ | ⟨go,hlen,step⟩
  ·have hd:=T.done Y yP yw yK yc i _ s3 σ3 H3 (λ _ _=>False) I3' (stat fr3) st3 stop;rw [yA] at hd;refine bx hd λ r s4 ⟨hr,I4⟩=>?_;subst hr;obtain ⟨eD,nD,_⟩:=I4.pin (D,eP us k) (by simp);have eD:s4.heap.get? D=some (eP us k):=eD;have nD:H3 D=none:=nD;have base:Un (e7 X.stack) (D::fp) H1 H3 H2 s4.heap:=by have b:=I4.base;rw [yex,yH0,ys0,yfs] at b;exact b
   have hnD:∀b o,s2.heap.get? b=some o->b≠D:=λ b o e=>by rw [<-hD];exact DT (Heap.lt_size e)
   have nx:∀b o,s2.heap.get? b=some o->b∉fp->b∉D::fp:=λ b o e hb z=>(C1.mp z).elim (hnD b o e) hb;have un:Un (e7 X.stack) fp H1 (upd H3 D (.lst ys)) s2.heap s4.heap:=
    ⟨λ b o e n hb hx=>base.keep b o (push b o e) n hb (nx b o e hx),λ b o e n hb hx=>base.slot b o (push b o e) n hb (nx b o e hx),λ b o e n hx=>by rw [ak (hnD b o e)];exact base.free b o (push b o e) n (nx b o e hx),
     λ b o e hx=>base.there b o (push b o e) (nx b o e hx),λ b xs e=>by rw [ak (aj e fD.1)];exact base.tups b xs e,λ b o u e=>by rw [ak (aj e fD.1)];exact base.frzs b o u e,
     λ b ps e=>by rw [ak (aj e fD.1)];exact base.tbls b ps e⟩
   have hok:gi X.prog X.w (upd H3 D (.lst ys)) s4.heap:=λ b u e=>by
    by_cases hb:b=D
    ·subst hb;rw [ac] at e;cases e;exact ⟨hz,us,k,rv,eD⟩
    ·rw [ak hb] at e;have x:=I4.hok b u e;rw [yP,yw] at x;exact x.stay (λ c v _ z=>z) (λ c z=>by rw [ak (aj z nD)];exact z) λ c xs z=>by rw [ak (aj z nD)];exact z
   have ho:s4.os=s2.os:=by rw [I4.os,ys0]
   have J':au X pins σ (upd H3 D (.lst ys)) s4:=I2.call' (ch:=fp) ho un hok I4.bare λ b hb=>⟨(f2 b hb).2.2.2.1,(f2 b hb).2.1,(f2 b hb).2.2.2.2.1,(f2 b hb).2.2.2.2.2⟩;refine ⟨⟨_,rfl⟩,D,_,rfl,J',?_,?_,q D nD⟩
   ·obtain ⟨m,hm,_⟩:=I4.loc;rw [yC] at hm;exact ⟨m,hm⟩
   ·refine I2.fpOk (by rw [hC,hD];exact DX _) ?_;rw [ak (by rw [hC];exact D6 D)];have z:=I4.free;rw [yC] at z;exact z
  ·have hd:=T.item Y yP yw yK yc i _ s3 σ3 H3 (λ _ _=>False) I3' (stat fr3) st3 go;rw [yA] at hd;refine bx hd λ r s4 ⟨u,hr,h4⟩=>?_;subst hr;refine bx h4 λ _ s5 ⟨x,H5,I5,r5,y5,st5,fr5⟩=>?_;have I5':=I5.pinned (stat fr5) (T.obj _ _ st5);have hg':=hgY _ s5 σ3 H5 x u _ I5' r5 (step x H5 y5);rw [yP,yw,yA,yxe] at hg';refine bx hg' λ _ s6 ⟨σ6,H6,I6,q6⟩=>?_;have ht':=htY _ s6 σ6 H6 _ I6 q6;rw [yP,yw,yA,yxe] at ht';refine bx ht' λ ok s7 ⟨H7,I7,q7⟩=>?_;have again:∀{σ8:St} {H8:Hp} {s8:Shared} {ys':List V} {us':List Value} {k' m':Nat},au Y ([(D,eP us' k')]++dJ fp s5.heap) σ8 H8 s8->aF ys' us'->ys'.length<=sizeLine->m'<n->W (i+1) m' ys' σ8 H8->
     ∃m,m<n/\∃i ys us k σ' H',au Y [(D,eP us k)] σ' H' s8/\tn i s8.heap/\(∀b∈fp,H' b=none)/\aF ys us/\ys.length<=sizeLine/\W i m ys σ' H':=λ {σ8 H8 s8 ys' us' k' m'} I8 rv' hz' hm w8=>by
    refine ⟨m',hm,i+1,ys',us',k',σ8,H8,I8.unpinned,T.keep _ _ _ st5 λ b hb o e=>(I8.pin (b,o) (C5 _ (C5 _ (db hb e)))).1,λ b hb=>?_,rv',hz',w8⟩;obtain ⟨o,e,d⟩:=T.obj _ _ st5 b hb;exact (I8.pin (b,o) (C5 _ (C5 _ (db hb e)))).2.1
   cases ok with
   | false=>
     obtain ⟨m',hm,w8⟩:=q7;exact again I7 rv hz hm w8
   | true=>
     rw [if_pos rfl];have he':=heY _ s7 σ6 H7 _ I7 q7;rw [yP,yw,yA,yxe] at he';refine bx he' λ u8 s8 ⟨v,H8,I8,r8,m',hm,w8⟩=>?_;obtain ⟨eD,nD,_⟩:=I8.pin (D,eP us k) (by simp);have eD:s8.heap.get? D=some (eP us k):=eD;have nD:H8 D=none:=nD;have hl:=rv.length;refine call_meets F.slot_list_append ⟨_,eD,rfl⟩ F.entry_list_append (F.args_list_append_2 _ _) (PySem.list_append D us.toArray k u8 (by rw [C2];omega)) ⟨eD,?_⟩;have q:=PySem.IsL.update eD (λ a=>a.push u8);have eu:us.toArray.push u8=(us++[u8]).toArray:=by simp
     rw [eu] at q;obtain ⟨k',q⟩:∃k',(s8.heap.update D (Obj.mapSeq λ a=>a.push u8)).get? D=some (eP (us++[u8]) k'):=⟨_,q⟩;have I8':au Y (dJ fp s5.heap) σ6 H8 s8:=I8.pins_of λ p hp=>I8.pin p (C5 _ (C5 _ hp));have I9:au Y (dJ fp s5.heap) σ6 H8 {s8 with heap:=s8.heap.update D (Obj.mapSeq λ a=>a.push u8)}:=I8'.turned (it:=D) (t':=s8.toks) (λ b o hb e=>(Heap.get?_update_other s8.heap _ (Ne.symm hb)).trans e) nD (nC D C3)
      (.inl (by rw [yex];exact C3)) (ncl D C3) λ p hp=>by
       rw [ypn] at hp;have hp:p∈dJ fp s5.heap:=by simpa using hp
       exact DT (fpl _ (ix hp).1)
     refine again (us':=us++[u8]) (ys':=ys++[v]) (m':=m') (k':=k') (I9.pins_of λ p hp=>?_) (rv.append (.cons r8 .nil)) (by rw [Dc,DB];omega) hm w8
     rcases De.mp hp with z | z
     ·have hp1:p=(D,eP (us++[u8]) k'):=by simpa using z
      subst hp1;exact ⟨q,nD,nC D C3,nfs D C3,λ v z=>by cases z⟩
     ·exact I9.pin p (C5 _ z)
 rw [ye] at loop;exact codeAny_compStart_list loop (T.self _ 0 _ _ _ (T.keep _ _ _ st2 λ b hb o e=>hk _ _ (push b o e)) loop)
theorem rh (hc:X.calm=true) (S:bE X N src scope) (hi:PI X tg iter wi) (hg:∀s H ex,PG (cxC X scope N s H ex) tg g) (ht:∀s H ex,kZ (cxC X scope N s H ex) ifs tt) (he:∀s H ex,PE (cxC X scope N s H ex) elt te)
  (hs:∀x,foldedSetIterable iter X.env x=pure x:=by intro _;rfl):PE X (.ListComp elt [⟨tg,iter,ifs,0⟩] scope pos) (tComp wi g tt te src):=by
 intro pins s σ H Q I h;rw [eval_ListComp];refine wpAny_comprehension_free (use:=none) rfl hs (eV (S.cells I.ok)) S.kind S.names (bx (hi pins s σ H _ I h) λ v s1 h1=>bx h1 λ it s2 h2=>?_);refine bx (kQ hc S hg ht he h2) λ acc s3 h3=>bx h3 λ cenv s4 h4=>codeAny_mono h4 λ r s' hr=>?_;obtain ⟨⟨f,rfl⟩,D,H',rfl,J,⟨m,hm⟩,hf,q⟩:=hr;refine ⟨m,hm,λ h' sb=>?_⟩;exact ⟨.ref D,H',J.turned (t':=s'.toks) (λ b o hb e=>(sb.2 b hb).trans e) hf.1 hf.2.1 hf.2.2.2.1 hf.2.2.2.2.1 hf.2.2.2.2.2,rfl,q⟩
theorem ra {i:Nat}{y:Str}{py spos:Pos}(hc:X.calm=true) (S:bE X N src scope) (hi:PI X tg iter wi) (hg:∀s H ex,PG (cxC X scope N s H ex) tg g) (ht:∀s H ex,kZ (cxC X scope N s H ex) ifs tt) (he:∀s H ex,PE (cxC X scope N s H ex) elt te)
  (hN:X.N.Nodup) (hy:X.N[i]? =some y) (hx:xM X.env.scope y) (hsw:swapsWith (.ListComp elt [⟨tg,iter,ifs,0⟩] scope pos) (some (.Name y py)) spos.line X.env=pure true) (hf:X.fn y=true\/X.env.scope.names.lookup y=some .local)
  (hs:∀x,foldedSetIterable iter X.env x=pure x:=by intro _;rfl):PS X (.Assign [.Name y py] (.ListComp elt [⟨tg,iter,ifs,0⟩] scope pos) spos) (tAsg (tComp wi g tt te src) (gName i)):=by
 intro pins s σ H D I h;rw [exec_Assign_Name_used _ _ _ _ hsw];refine wpAny_bind (wpAny_standAt (wpAny_bind ?_));show wpAny _ X.A (do let _<-comprehension (.ListComp elt [⟨tg,iter,ifs,0⟩] scope pos) scope X.env _ (newList []) false (eval iter X.env) (some (assign (.Name y py) X.env))) _ _ s;refine wpAny_bind (wpAny_mono (wpAny_comprehension_free (use:=some (assign (.Name y py) X.env)) (Q:=λ _ s'=>SP X pins D .next s') rfl hs (eV (S.cells I.ok)) S.kind S.names (bx (hi pins s σ H _ I h) λ v s1 h1=>bx h1 λ it s2 h2=>?_)) (λ _ s' hq=>wpAny_pure (wpAny_pure hq)) λ _ _ e=>e);refine bx (kQ hc S hg ht he h2) λ acc s3 h3=>bx h3 λ cenv s4 h4=>codeAny_mono h4 λ r s' hr=>?_;obtain ⟨⟨f,rfl⟩,D',H',rfl,J,⟨m,hm⟩,hfp,q⟩:=hr;show wpAny _ X.A (assign (.Name y py) X.env (.ref D')) _ _ _;refine wpAny_assign_Name (ir J hN hy hx (v:=.ref D') rfl (λ s5 I5 ⟨a,sb,ha⟩=>?_) hf);have hne:cenv.locals≠a:=by
  rcases ha with z | z
  ·rw [z];exact hfp.2.1
  ·exact Ne.symm (hfp.2.2.2.2.1 y a z)
 refine ⟨m,hm.sameBut sb hne,λ h' sb'=>?_⟩;exact ⟨_,H',I5.turned (t':=s5.toks) (λ b o hb e=>(sb'.2 b hb).trans e) hfp.1 hfp.2.1 hfp.2.2.2.1 hfp.2.2.2.2.1 hfp.2.2.2.2.2,q⟩
end
end L2
namespace L2
open PySem PySem.Spec PyProof.Rows
section
variable {X:Cx}
theorem PE.imp {e:Expr}{t t':TE}(h:PE X e t) (i:∀σ H Q,t' σ H Q->t σ H Q):PE X e t':=λ pins s σ H Q I q=>h pins s σ H Q I (i σ H Q q)
theorem aP.imp {f:Value}{r r':List V->Hp->VK->Prop}(h:aP X f r) (i:∀xs H Q,r' xs H Q->r xs H Q):aP X f r':=λ pins s σ H xs us Q I r q=>h pins s σ H xs us Q I r (i xs H Q q)
abbrev Str.tl (x:Str):List Nat:=x.cps.toList
theorem qL {x y:Str}(h:x.cps.toList=y.cps.toList):x=y:=by obtain ⟨a⟩:=x;obtain ⟨b⟩:=y;have:a=b:=Array.toList_inj.mp h;rw [this]
theorem eF (x:Str):x.length=x.cps.toList.length:=by simp [Str.length]
theorem qM (x y:Str):(x++y).cps.toList=x.cps.toList++y.cps.toList:=by show (x.cps++y.cps).toList=_;simp
theorem nF:eS X (compareOp .LtE) (λ x y H Q=> ∃i j,x=.str i/\y=.str j/\Q (.bl (!decide (j.cps.toList<i.cps.toList))) H):=by intro pins s σ H x y v u Q I rx ry h;obtain ⟨i,j,rfl,rfl,q⟩:=h;obtain ⟨t,rfl⟩:=rx;obtain ⟨t',rfl⟩:=ry;exact PySem.P.le_str (fin_bl I q rfl)
def ij (x:Str) (lo hi:Option Int):Str:=⟨((x.cps.toList.drop (HT.sIx x.length 0 lo)).take (HT.sIx x.length x.length hi - HT.sIx x.length 0 lo)).toArray⟩
theorem mj (l:List Nat):∀(k i:Nat),i+k<=l.length->(List.range' i k).filterMap (λ m=>l[m]?)=(l.drop i).take k
 | 0,i,_=>by simp
 | k+1,i,h=>by have ih:=mj l k (i+1) (by omega);rw [List.range'_succ,Dw,C4 (by omega),List.drop_eq_getElem_cons (by omega),List.take_succ_cons];show l[i]::_=_;rw [ih]
theorem pE (x:Str) (i k:Nat) (h:i+k<=x.length):((List.range k).map λ (m:Nat)=>i+m).filterMap (x.cps[·]?)=(x.cps.toList.drop i).take k:=by have hx:x.cps.toList.length=x.length:=(eF x).symm;rw [<-List.range'_eq_map_range,<-mj _ _ _ (by omega)];congr 1;funext m;rw [Er]
theorem mE (lo hi:Option Int) (n:Nat):Builtin.Str.strSliceIndices lo hi 1 n=(List.range (HT.sIx n n hi - HT.sIx n 0 lo)).map λ m=>HT.sIx n 0 lo+m:=by
 have cl:∀(v:Int) (d:Nat),max 0 (min (if v<0 then v+(n:Int) else v) (n:Int))=((HT.sIx n d (some v):Nat):Int):=λ v d=>by
  show _=(((if v<0 then (v+(n:Int)).toNat else min v.toNat n):Nat):Int)
  by_cases hv:v<0
  ·simp only [if_pos hv];omega
  ·simp only [if_neg hv];omega
 have main:∀(a b:Nat),sliceRange (a:Int) (b:Int) 1=(List.range (b - a)).map λ m=>a+m:=λ a b=>by
  have e:(if (1:Int) > 0 then (if (a:Int)<(b:Int) then ((b:Int) - a+1 - 1) / 1 else 0) else (if (a:Int) > b then ((a:Int) - b - 1 - 1) / (-1) else 0)).toNat=b - a:=by rw [if_pos (by decide)];split<;>omega
  show (List.range (if (1:Int) > 0 then (if (a:Int)<(b:Int) then ((b:Int) - a+1 - 1) / 1 else 0) else (if (a:Int) > b then ((a:Int) - b - 1 - 1) / (-1) else 0)).toNat).map (λ (k:Nat)=>((a:Int)+1*(k:Int)).toNat)=_;rw [e];apply Dp;intro m _;omega
 have e1:HT.sIx n 0 none=0:=rfl;have e2:HT.sIx n n none=n:=rfl;unfold Builtin.Str.strSliceIndices;simp only [show (1:Int) > 0 by decide,if_true];cases lo with
 | none=>
   cases hi with
   | none=>exact main 0 n
   | some h=>show sliceRange ((0:Nat):Int) (max 0 (min (if h<0 then h+(n:Int) else h) (n:Int))) 1=_;rw [cl h n];exact main _ _
 | some l=>
   cases hi with
   | none=>show sliceRange (max 0 (min (if l<0 then l+(n:Int) else l) (n:Int))) (n:Int) 1=_;rw [cl l 0];exact main _ _
   | some h=>show sliceRange (max 0 (min (if l<0 then l+(n:Int) else l) (n:Int))) (max 0 (min (if h<0 then h+(n:Int) else h) (n:Int))) 1=_;rw [cl l 0,cl h n];exact main _ _
theorem ng (x:Str) (lo hi:Option Int):(⟨((Builtin.Str.strSliceIndices lo hi 1 x.length).filterMap (x.cps[·]?)).toArray⟩:Str)=ij x lo hi:=by
 unfold ij;rw [mE];have h1:=HT.sIx_le x.length 0 (DV _) lo;have h2:=HT.sIx_le x.length x.length (DS _) hi
 by_cases h:HT.sIx x.length 0 lo<=HT.sIx x.length x.length hi
 ·rw [pE x _ _ (by omega)]
 ·have e:HT.sIx x.length x.length hi - HT.sIx x.length 0 lo=0:=by omega
  rw [e];simp
theorem iA (x:Str) (lo hi:Option Int):(ij x lo hi).cps.toList=(x.cps.toList.drop (HT.sIx x.length 0 lo)).take (HT.sIx x.length x.length hi - HT.sIx x.length 0 lo):=by unfold ij;simp
theorem ql (x:Str) (lo hi:Option Int):(ij x lo hi).length<=x.length:=by rw [eF,iA,eF x,Dm,Dy];omega
theorem lM {x:Str}{lo hi:Option Int}(h:(Builtin.Str.strSliceIndices lo hi 1 x.length).length=x.length):ij x lo hi=x:=by
 rw [mE,CZ,Dg] at h;have h1:=HT.sIx_le x.length 0 (DV _) lo;have h2:=HT.sIx_le x.length x.length (DS _) hi;apply qL;rw [iA]
 by_cases z:x.length=0
 ·have e:x.cps.toList=[]:=List.length_eq_zero_iff.mp (by rw [<-eF];exact z);rw [e];simp
 ·have e1:HT.sIx x.length 0 lo=0:=by omega
  rw [h,e1,DC,Du (by rw [<-eF];exact DS _)]
def Cu:V->Option Int->Option Int->Hp->VK->Prop:=λ x lo hi H Q=> ∃z,x=.str z/\z.length<=sizeLine/\Q (.str (ij z lo hi)) H
theorem kx {v:Value}{o:Option Int}(p:IsPart v o):∃q:Option (Int×Tok),v=partValue q/\q.map (·.1)=o:=by
 cases p with
 | none=>exact ⟨none,rfl,rfl⟩
 | int i t=>exact ⟨some (i,t),rfl,rfl⟩
theorem wn:oz X Cu:=by
 intro pins s σ H x v vl vu lo hi sl Q I rx hs pl pu h;obtain ⟨z,rfl,hz,q⟩:=h;obtain ⟨t,rfl⟩:=rx;obtain ⟨l,rfl,el⟩:=kx pl;obtain ⟨u,rfl,eu⟩:=kx pu;refine ⟨"str",_,F.slot_str_getitem.lookup,typeIs_str _ _ _,?_⟩;obtain ⟨o,ho,hc,hd⟩:=hs;refine wpAny_getItem_str_slice (l:=l) (u:=u) (st:=none) ⟨o,ho,hc,hd⟩ rfl ?_;unfold sliceMade slicePicked;rw [el,eu];split
 ·rename_i hw;have hw:(Builtin.Str.strSliceIndices lo hi 1 z.length).length=z.length:=by simpa using hw
  rw [lM hw] at q;exact ⟨.str z,H,I,⟨t,rfl⟩,q⟩
 ·have e:=ng z lo hi;have e':(⟨((Builtin.Str.strSliceIndices lo hi ((Option.map (·.1) (none:Option (Int×Tok))).getD 1) z.length).filterMap (z.cps[·]?)).toArray⟩:Str)=ij z lo hi:=e;rw [e'];exact ⟨DU (ql z lo hi) hz,⟨.str _,H,I.tok _,⟨_,rfl⟩,q⟩⟩
theorem il:aP X (.type "int") (λ xs H Q=> ∃x n,xs=[.str x]/\PySem.intText? x=some n/\x.length<=640/\Q (.int n) H):=by intro pins s σ H xs us Q I r h;obtain ⟨x,n,rfl,hn,hl,q⟩:=h;obtain ⟨u,rfl,t,rfl⟩:=dz r;exact PySem.W.KIN.call_text hn hl ⟨.int n,H,I.tok _,⟨_,rfl⟩,q⟩
theorem oC {P:Program}{w:World}{A:Around}{its:List Value}{ks:List Bool}(r:aF (ks.map V.bl) its):TruthOf P w A (λ i v=>its.toArray[i]? =some v) (λ i=>ks.getD i false):=by
 intro i v s Q E hv hq;have hv:its[i]? =some v:=by simpa using hv
 have hlen:=r.length;rw [CZ] at hlen;have hi:i<its.length:=(Dk.mp hv).1;have hk:(ks.map V.bl)[i]? =some (V.bl (ks.getD i false)):=by rw [Db,C4 (by omega),Do,C4 (by omega)];rfl
 obtain ⟨u,hu,ru⟩:=r.get hk;rw [hv] at hu;cases hu;cases ru;exact wpAny_truthy_bool hq
theorem nj (ks:List Bool):(List.range ks.length).all (λ i=>ks.getD i false)=ks.all id:=by
 rw [Eg,Dn,Dn]
 constructor
 ·intro h b hb;obtain ⟨i,hi,e⟩:=List.mem_iff_getElem.mp hb;have:=h i (Dr.mpr hi);rw [Do,C4 hi] at this;rw [<-e];exact this
 ·intro h i hi;have hi:=Dr.mp hi;rw [Do,C4 hi];exact h _ (List.getElem_mem hi)
theorem qw (hc:X.calm=true):aP X (.builtin "all") (λ xs H Q=> ∃(p:Addr) (ks:List Bool),xs=[.ref p]/\aH X.K H p (ks.map V.bl)/\Q (.bl (ks.all id)) H):=by
 intro pins s σ H xs us Q I r h;obtain ⟨p,ks,rfl,hp,q⟩:=h;obtain ⟨u,rfl,ru⟩:=dz r;cases ru;obtain ⟨its,rv,pl,hl⟩:=I.list hp;have hlen:=rv.length;rw [CZ] at hlen;refine call_all_walk (wpAny_pyIter_list pl.isList ?_);have hne:p≠s.heap.objs.size:=by obtain ⟨o,ho,_⟩:=pl.isList;exact DT (Heap.lt_size ho)
 have W:=Walks.list (prog:=X.prog) (w:=X.w) (A:=X.A.in1) (show X.A.in1.handled=none from I.ok.hd hc) s.heap.objs.size p hne its.toArray;have hpush:∀o b ob,s.heap.get? b=some ob->(s.heap.push o).get? b=some ob:=λ o b ob e=>Heap.get?_push_of_some _ e;refine ⟨_,_,_,_,_,_,λ i=>ks.getD i false,rfl,W,⟨⟨_,Heap.get?_push_size _ rfl,rfl,rfl⟩,pl.isList.at λ o e=>hpush _ _ o e⟩,oC rv,λ h' tk k=>?_⟩;have e:(List.range its.toArray.size).all (λ i=>ks.getD i false)=ks.all id:=by rw [<-nj,C2,<-hlen]
 rw [e];refine ⟨.bl _,H,I.kept (t':=tk) (h':=h') λ b ob e=>k b ob ?_ (hpush _ b ob e),rfl,q⟩;intro hb;have:b=s.heap.objs.size:=by simpa using hb
 subst this;exact absurd (Heap.lt_size e) (DY _)
end
end L2
namespace L2
open PySem PySem.Spec PyProof.Rows
inductive ow (K:Frag) (H:Hp):Nat->V->V->Bool->Prop
 | flat {n:Nat} {x y:V} (hx:flatV x=true) (hy:flatV y=true):ow K H n x y (eqV x y)
 | same {n:Nat} {a:Addr}:ow K H n (.ref a) (.ref a) true
 | len {n:Nat} {a b:Addr} {xs ys:List V} (ha:aH K H a xs) (hb:aH K H b ys) (hab:a≠b) (hl:xs.length≠ys.length):ow K H (n+1) (.ref a) (.ref b) false
 | lst {n:Nat} {a b:Addr} {xs ys:List V} {es:Nat->Bool} (ha:aH K H a xs) (hb:aH K H b ys) (hab:a≠b) (hl:xs.length=ys.length)
   (he:∀i x y,xs[i]? =some x->ys[i]? =some y->ow K H n x y (es i)):ow K H (n+1) (.ref a) (.ref b) ((List.range xs.length).all es)
 | tup {n:Nat} {a b:Addr} {xs ys:List V} {es:Nat->Bool} (ha:dQ K H a xs) (hb:dQ K H b ys) (hab:a≠b)
   (he:∀i x y,xs[i]? =some x->ys[i]? =some y->ow K H n x y (es i)):ow K H (n+1) (.ref a) (.ref b) ((List.range (min xs.length ys.length)).all es&&xs.length == ys.length)
 | nref {n:Nat} {x:V} {a:Addr} {xs:List V} (hx:flatV x=true) (ha:aH K H a xs\/dQ K H a xs):ow K H n x (.ref a) false
 | refn {n:Nat} {x:V} {a:Addr} {xs:List V} (hx:flatV x=true) (ha:aH K H a xs\/dQ K H a xs):ow K H n (.ref a) x false
section
variable {X:Cx}{pins:List (Addr×Obj)}{σ:St}{H:Hp}{s:Shared}
theorem cO {xs:List V}{its:List Value}(r:aF xs its) {j:Nat}(h:j<its.toArray.size):∃x,xs[j]? =some x/\aK x its.toArray[j]:=by
 have hl:=r.length;have hj:j<its.length:=by simpa using h
 have hx:xs[j]? =some (xs[j]'(by omega)):=C4 (by omega);obtain ⟨u,hu,ru⟩:=r.get hx;refine ⟨_,hx,?_⟩;have e:its.toArray[j]=u:=by rw [C4 hj] at hu;simpa using Option.some.inj hu
 rw [e];exact ru
theorem jA (I:au X pins σ H s):∀{n:Nat}{x y:V}{k:Bool},ow X.K H n x y k->∀(A:Around),A.units+n<cLine->∀{u v:Value},aK x u->aK y v->SeqAt.EqAt A s u v k:=by
 intro n x y k h
 induction h with
 | flat hx hy=>exact λ A _ u v ru rv=>qi ru rv hx hy
 | same=>
   intro A _ u v ru rv;cases ru;cases rv;exact SeqAt.EqAt.same _
 | len ha hb hab hl=>
   intro A hu u v ru rv;cases ru;cases rv;obtain ⟨its,r1,p1,_⟩:=I.list ha;obtain ⟨its2,r2,p2,_⟩:=I.list hb;have l1:=r1.length;have l2:=r2.length;refine .of_refs hab (.lists_lengths p1.isList p2.isList (by simp;omega) (by omega))
 | @lst n a b xs ys es ha hb hab hl he ih=>
   intro A hu u v ru rv;cases ru;cases rv;obtain ⟨its,r1,p1,_⟩:=I.list ha;obtain ⟨its2,r2,p2,_⟩:=I.list hb;have l1:=r1.length;have l2:=r2.length;have e:(List.range xs.length).all es=(List.range its.toArray.size).all es:=by rw [C2,l1]
   rw [e];refine .of_refs hab (.lists p1.isList p2.isList (by simp;omega) (by omega) λ j h1 h2=>?_);obtain ⟨x,hx,rx⟩:=cO r1 h1;obtain ⟨y,hy,ry⟩:=cO r2 h2;exact ih j x y hx hy A.in1 (by show A.units+1+n<cLine;omega) rx ry
 | @tup n a b xs ys es ha hb hab he ih=>
   intro A hu u v ru rv;cases ru;cases rv;obtain ⟨its,r1,p1,_⟩:=I.tuple ha;obtain ⟨its2,r2,p2,_⟩:=I.tuple hb;have l1:=r1.length;have l2:=r2.length;have e:((List.range (min xs.length ys.length)).all es&&xs.length == ys.length)=((List.range (min its.toArray.size its2.toArray.size)).all es&&its.toArray.size == its2.toArray.size):=by rw [C2,C2,l1,l2]
   rw [e];refine .of_refs hab (.tuples (show s.heap.IsTuple a its.toArray from p1) (show s.heap.IsTuple b its2.toArray from p2) (by omega) λ j h1 h2=>?_);obtain ⟨x,hx,rx⟩:=cO r1 h1;obtain ⟨y,hy,ry⟩:=cO r2 h2;exact ih j x y hx hy A.in1 (by show A.units+1+n<cLine;omega) rx ry
 | @nref n x a xs hx ha=>
   intro A hu u v ru rv;cases rv
   rcases ha with ha | ha
   ·obtain ⟨its,r1,p1,_⟩:=I.list ha;have hl:=p1.isList;cases x with
    | non=>cases ru;exact .none_list hl (by omega)
    | bl b=>cases ru;exact .bool_list b hl (by omega)
    | int b=>obtain ⟨t,rfl⟩:=ru;exact .int_list b t hl (by omega)
    | str b=>obtain ⟨t,rfl⟩:=ru;exact .str_list b t hl (by omega)
    | _=>simp [flatV] at hx
   ·obtain ⟨its,r1,p1,_⟩:=I.tuple ha;have hl:s.heap.IsTuple a its.toArray:=p1;cases x with
    | non=>cases ru;exact .none_tuple hl (by omega)
    | bl b=>cases ru;exact .bool_tuple b hl (by omega)
    | int b=>obtain ⟨t,rfl⟩:=ru;exact .int_tuple b t hl (by omega)
    | str b=>obtain ⟨t,rfl⟩:=ru;exact .str_tuple b t hl (by omega)
    | _=>simp [flatV] at hx
 | @refn n x a xs hx ha=>
   intro A hu u v ru rv;cases ru
   rcases ha with ha | ha
   ·obtain ⟨its,r1,p1,_⟩:=I.list ha;have hl:=p1.isList;cases x with
    | non=>cases rv;exact .list_none hl (by omega)
    | bl b=>cases rv;exact .list_bool b hl (by omega)
    | int b=>obtain ⟨t,rfl⟩:=rv;exact .list_int b t hl (by omega)
    | str b=>obtain ⟨t,rfl⟩:=rv;exact .list_str b t hl (by omega)
    | _=>simp [flatV] at hx
   ·obtain ⟨its,r1,p1,_⟩:=I.tuple ha;have hl:s.heap.IsTuple a its.toArray:=p1;cases x with
    | non=>cases rv;exact .tuple_none hl (by omega)
    | bl b=>cases rv;exact .tuple_bool b hl (by omega)
    | int b=>obtain ⟨t,rfl⟩:=rv;exact .tuple_int b t hl (by omega)
    | str b=>obtain ⟨t,rfl⟩:=rv;exact .tuple_str b t hl (by omega)
    | _=>simp [flatV] at hx
end
inductive iI (K:Frag) (H:Hp):Nat->V->V->Bool->Prop
 | len {n:Nat} {a b:Addr} {xs ys:List V} (ha:aH K H a xs) (hb:aH K H b ys) (hl:xs.length≠ys.length):iI K H (n+1) (.ref a) (.ref b) false
 | lst {n:Nat} {a b:Addr} {xs ys:List V} {es:Nat->Bool} (ha:aH K H a xs) (hb:aH K H b ys) (hl:xs.length=ys.length)
   (he:∀i x y,xs[i]? =some x->ys[i]? =some y->ow K H n x y (es i)):iI K H (n+1) (.ref a) (.ref b) ((List.range xs.length).all es)
 | tup {n:Nat} {a b:Addr} {xs ys:List V} {es:Nat->Bool} (ha:dQ K H a xs) (hb:dQ K H b ys)
   (he:∀i x y,xs[i]? =some x->ys[i]? =some y->ow K H n x y (es i)):iI K H (n+1) (.ref a) (.ref b) ((List.range (min xs.length ys.length)).all es&&xs.length == ys.length)
section
variable {X:Cx}
theorem wL {n:Nat}(hu:X.A.units+n<cLine):eS X (compareOp .Eq) (λ x y H Q=> ∃k,iI X.K H n x y k/\Q (.bl k) H):=by
 intro pins s σ H x y v u Q I rx ry h;obtain ⟨k,h,q⟩:=h;cases h with
 | @len n a b xs ys ha hb hl=>
   cases rx;cases ry;obtain ⟨its,r1,p1,_⟩:=I.list ha;obtain ⟨its2,r2,p2,_⟩:=I.list hb;have l1:=r1.length;have l2:=r2.length;exact SeqAt.eq_list_lengthsAt p1.isList p2.isList (by simp;omega) (by omega) (fin_bl I q rfl)
 | @lst n a b xs ys es ha hb hl he=>
   cases rx;cases ry;obtain ⟨its,r1,p1,_⟩:=I.list ha;obtain ⟨its2,r2,p2,_⟩:=I.list hb;have l1:=r1.length;have l2:=r2.length;refine SeqAt.eq_listAt (e:=es) p1.isList p2.isList (by simp;omega) (by omega) (λ j h1 h2=>?_) (fin_bl I q (by rw [C2,l1]));obtain ⟨x,hx,rx⟩:=cO r1 h1;obtain ⟨y,hy,ry⟩:=cO r2 h2;exact jA I (he j x y hx hy) X.A.in1 (by show X.A.units+1+n<cLine;omega) rx ry
 | @tup n a b xs ys es ha hb he=>
   cases rx;cases ry;obtain ⟨its,r1,p1,_⟩:=I.tuple ha;obtain ⟨its2,r2,p2,_⟩:=I.tuple hb;have l1:=r1.length;have l2:=r2.length;refine SeqAt.eq_tupleAt (e:=es) (show s.heap.IsTuple a its.toArray from p1) (show s.heap.IsTuple b its2.toArray from p2) (by omega) (λ j h1 h2=>?_) (fin_bl I q (by rw [C2,C2,l1,l2]));obtain ⟨x,hx,rx⟩:=cO r1 h1;obtain ⟨y,hy,ry⟩:=cO r2 h2;exact jA I (he j x y hx hy) X.A.in1 (by show X.A.units+1+n<cLine;omega) rx ry
theorem wH {n:Nat}(hu:X.A.units+n<cLine):eS X (compareOp .NotEq) (λ x y H Q=> ∃k,iI X.K H n x y k/\Q (.bl (!k)) H):=by
 intro pins s σ H x y v u Q I rx ry h;obtain ⟨k,h,q⟩:=h;cases h with
 | @len n a b xs ys ha hb hl=>
   cases rx;cases ry;obtain ⟨its,r1,p1,_⟩:=I.list ha;obtain ⟨its2,r2,p2,_⟩:=I.list hb;have l1:=r1.length;have l2:=r2.length;exact EqBoolInt.of_rcne (SeqAt.RcNeAt.lists_lengths p1.isList p2.isList (by simp;omega) (by omega)) (fin_bl I q rfl)
 | @lst n a b xs ys es ha hb hl he=>
   cases rx;cases ry;obtain ⟨its,r1,p1,_⟩:=I.list ha;obtain ⟨its2,r2,p2,_⟩:=I.list hb;have l1:=r1.length;have l2:=r2.length;refine EqBoolInt.of_rcne (SeqAt.RcNeAt.lists (e:=es) p1.isList p2.isList (by simp;omega) (by omega) (λ j h1 h2=>?_)) (fin_bl I q (by rw [C2,l1]));obtain ⟨x,hx,rx⟩:=cO r1 h1;obtain ⟨y,hy,ry⟩:=cO r2 h2;exact jA I (he j x y hx hy) X.A.in1 (by show X.A.units+1+n<cLine;omega) rx ry
 | @tup n a b xs ys es ha hb he=>
   cases rx;cases ry;obtain ⟨its,r1,p1,_⟩:=I.tuple ha;obtain ⟨its2,r2,p2,_⟩:=I.tuple hb;have l1:=r1.length;have l2:=r2.length;refine EqBoolInt.of_rcne (SeqAt.RcNeAt.tuples (e:=es) (show s.heap.IsTuple a its.toArray from p1) (show s.heap.IsTuple b its2.toArray from p2) (by omega) (λ j h1 h2=>?_)) (fin_bl I q (by rw [C2,C2,l1,l2]));obtain ⟨x,hx,rx⟩:=cO r1 h1;obtain ⟨y,hy,ry⟩:=cO r2 h2;exact jA I (he j x y hx hy) X.A.in1 (by show X.A.units+1+n<cLine;omega) rx ry
end
def fI (op:Operator) (x y:V) (H:Hp) (Q:VK):Prop:=match op,x,y with
 | .Add,.int i,.int j=>Q (.int (i+j)) H
 | .Add,.str i,.str j=>i.length+j.length<=sizeLine/\Q (.str (i++j)) H
 | .Add,.ref a,.ref b=>wB (.ref a) (.ref b) H Q
 | .Sub,.int i,.int j=>Q (.int (i - j)) H
 | .Mult,.int i,.int j=>ox i j/\Q (.int (i*j)) H
 | .FloorDiv,.int i,.int j=>ss i j/\Q (.int (i / j)) H
 | .Mod,.int i,.int j=>0<j/\Q (.int (i % j)) H
 | .Pow,.int i,.int j=>sj i j/\Q (.int (i ^ j.toNat)) H
 | _,_,_=>False
section
variable {X:Cx}{a b c:Expr}{ta tb tc:TE}{pos:Pos}
theorem wN (op:Operator):eS X (binaryOp op) (fI op):=by
 intro pins s σ H x y v u Q I rx ry h;unfold fI at h;split at h
 ·exact wO pins s σ H _ _ v u Q I rx ry ⟨_,_,rfl,rfl,h⟩
 ·exact ls pins s σ H _ _ v u Q I rx ry ⟨_,_,rfl,rfl,h.1,h.2⟩
 ·exact wM pins s σ H _ _ v u Q I rx ry h
 ·exact wF pins s σ H _ _ v u Q I rx ry ⟨_,_,rfl,rfl,h⟩
 ·exact wI pins s σ H _ _ v u Q I rx ry ⟨_,_,rfl,rfl,h.1,h.2⟩
 ·exact rq pins s σ H _ _ v u Q I rx ry ⟨_,_,rfl,rfl,h.1,h.2⟩
 ·exact wJ pins s σ H _ _ v u Q I rx ry ⟨_,_,rfl,rfl,h.1,h.2⟩
 ·exact wG pins s σ H _ _ v u Q I rx ry ⟨_,_,rfl,rfl,h.1,h.2⟩
 ·exact h.elim
def eqB:V->V->Option Bool
 | .non,.non=>some true
 | .int i,.int j=>some (decide (i=j))
 | .bl i,.bl j=>some (decide (i=j))
 | .str i,.str j=>some (decide (i=j))
 | .non,.int _=>some false | .int _,.non=>some false | .non,.bl _=>some false | .bl _,.non=>some false | .non,.str _=>some false | .str _,.non=>some false
 | .int _,.str _=>some false | .str _,.int _=>some false | .bl _,.str _=>some false | .str _,.bl _=>some false
 | _,_=>none
theorem kO {x y:V}{k:Bool}(h:eqB x y=some k):scal x y=true/\decide (x=y)=k:=by
 cases x<;>cases y<;>simp [eqB,scal] at h ⊢ <;>first | exact h | (subst h;rfl)
def aI (K:Frag) (op:CmpOp) (x y:V) (H:Hp) (Q:VK):Prop:=match op,x,y with
 | .Eq,.ref a,.ref b=> ∃k,iI K H 20 (.ref a) (.ref b) k/\Q (.bl k) H
 | .NotEq,.ref a,.ref b=> ∃k,iI K H 20 (.ref a) (.ref b) k/\Q (.bl (!k)) H
 | .Eq,x,y=>match eqB x y with | some k=>Q (.bl k) H | none=>False
 | .NotEq,x,y=>match eqB x y with | some k=>Q (.bl (!k)) H | none=>False
 | .Lt,.int i,.int j=>Q (.bl (decide (i<j))) H
 | .LtE,.int i,.int j=>Q (.bl (decide (i<=j))) H
 | .Gt,.int i,.int j=>Q (.bl (decide (j<i))) H
 | .GtE,.int i,.int j=>Q (.bl (decide (j<=i))) H
 | .Lt,.str i,.str j=>Q (.bl (decide (i.cps.toList<j.cps.toList))) H
 | .LtE,.str i,.str j=>Q (.bl (!decide (j.cps.toList<i.cps.toList))) H
 | .In,.str i,.str j=>Q (.bl (!(Builtin.Str.occurrences j i 0 j.length 1).isEmpty)) H
 | .NotIn,.str i,.str j=>Q (.bl (!(!(Builtin.Str.occurrences j i 0 j.length 1).isEmpty))) H
 | .In,x,.ref p=>mi K false x (.ref p) H Q
 | .NotIn,x,.ref p=>mi K true x (.ref p) H Q
 | .Is,x,.non=>Q (.bl (decide (x=.non))) H
 | .IsNot,x,.non=>Q (.bl (!decide (x=.non))) H
 | _,_,_=>False
theorem fT (op:CmpOp) (hu:X.A.units+20<cLine):eS X (compareOp op) (aI X.K op):=by
 intro pins s σ H x y v u Q I rx ry h;unfold aI at h;split at h
 ·exact wL hu pins s σ H _ _ v u Q I rx ry h
 ·exact wH hu pins s σ H _ _ v u Q I rx ry h
 ·split at h
  ·rename_i k e;obtain ⟨h1,h2⟩:=kO e;exact AE pins s σ H _ _ v u Q I rx ry ⟨h1,by rw [h2];exact h⟩
  ·exact h.elim
 ·split at h
  ·rename_i k e;obtain ⟨h1,h2⟩:=kO e;exact Az pins s σ H _ _ v u Q I rx ry ⟨h1,by rw [h2];exact h⟩
  ·exact h.elim
 ·exact AA pins s σ H _ _ v u Q I rx ry ⟨_,_,rfl,rfl,h⟩
 ·exact AB pins s σ H _ _ v u Q I rx ry ⟨_,_,rfl,rfl,h⟩
 ·exact AC pins s σ H _ _ v u Q I rx ry ⟨_,_,rfl,rfl,h⟩
 ·exact AD pins s σ H _ _ v u Q I rx ry ⟨_,_,rfl,rfl,h⟩
 ·exact nE pins s σ H _ _ v u Q I rx ry ⟨_,_,rfl,rfl,h⟩
 ·exact nF pins s σ H _ _ v u Q I rx ry ⟨_,_,rfl,rfl,h⟩
 ·exact nG pins s σ H _ _ v u Q I rx ry ⟨_,_,rfl,rfl,h⟩
 ·exact jl pins s σ H _ _ v u Q I rx ry ⟨_,_,rfl,rfl,h⟩
 ·exact nH pins s σ H _ _ v u Q I rx ry h
 ·exact jm pins s σ H _ _ v u Q I rx ry h
 ·exact wK pins s σ H _ _ v u Q I rx ry ⟨rfl,h⟩
 ·exact rn pins s σ H _ _ v u Q I rx ry ⟨rfl,h⟩
 ·exact h.elim
def br (i:Nat):TE:=λ σ H Q=>match σ[i]? with | some (some v)=>Q v H | _=>False
theorem cv (i:Nat) {x:Str}{pos:Pos}(hN:X.N[i]? =some x:=by rfl) (hv:Bl X.env.scope x:=by first | exact Or.inl rfl | exact Or.inr (Or.inl rfl) | exact Or.inr (Or.inr rfl)) (hd:(x == ("__debug__":Str))=false:=by decide)
  (hcd:(x == ("__classdict__":Str))=false:=by decide):PE X (.Name x pos) (br i):=(wE hN hv hd hcd).imp λ σ H Q h=>by
 unfold br at h;split at h
 ·rename_i v e;exact ⟨v,e,h⟩
 ·exact h.elim
def eR (op:Operator) (ta tb:TE):TE:=λ σ H Q=>ta σ H λ x H1=>tb σ H1 λ y H2=>fI op x y H2 Q
theorem al {op:Operator}(ha:PE X a ta) (hb:PE X b tb):PE X (.BinOp a op b pos) (eR op ta tb):=vR (wN op) ha hb
def dy (K:Frag) (op:CmpOp) (ta tb:TE):TE:=λ σ H Q=>ta σ H λ x H1=>tb σ H1 λ y H2=>aI K op x y H2 Q
def cy (Q:Bool->Hp->Prop):VK:=λ x H=>match x with | .bl k=>Q k H | _=>False
theorem dg {Q:Bool->Hp->Prop}{x:V}{H:Hp}(h:cy Q x H):∃k,x=.bl k/\Q k H:=by
 unfold cy at h;split at h
 ·exact ⟨_,rfl,h⟩
 ·exact h.elim
theorem xm {op:CmpOp}(hu:X.A.units+20<cLine) (ha:PE X a ta) (hb:PE X b tb) (hm:behindInMarks op b=false:=by first | exact jv _ | with_unfolding_all rfl):PE X (.Compare a [op] [b] pos) (dy X.K op ta tb):=rj (fT op hu) ha hb hm
def de (t:TE):TT:=λ σ H Q=>t σ H (cy Q)
theorem xk {op:CmpOp}(hu:X.A.units+20<cLine) (ha:PE X a ta) (hb:PE X b tb) (hm:behindInMarks op b=false:=by first | exact jv _ | with_unfolding_all rfl):PT X (.Compare a [op] [b] pos) (de (dy X.K op ta tb)):=by
 intro pins s σ H Q I h;refine wpAny_isTrue_Compare1 (bx (ha pins s σ H _ I h) λ v s1 ⟨x,H1,I1,r1,q1⟩=>bx (hb pins s1 σ H1 _ I1 q1) λ u s2 ⟨y,H2,I2,r2,q2⟩=>
  bx (fT op hu pins s2 σ H2 x y v u _ I2 r1 r2 q2) λ c s3 ⟨z,H3,I3,r3,q3⟩=>?_) hm
 obtain ⟨k,e,q3⟩:=dg q3;subst e;cases r3;exact wpAny_truthy_bool ⟨H3,I3,q3⟩
def g9 (K:Frag) (op op':CmpOp) (ta tb tc:TE):TE:=λ σ H Q=>ta σ H λ x H1=>tb σ H1 λ y H2=>aI K op x y H2 (cy λ k H3=>if k=true then tc σ H3 λ w' H4=>aI K op' y w' H4 Q else Q (.bl false) H3)
theorem qv {op op':CmpOp}(hu:X.A.units+20<cLine) (ha:PE X a ta) (hb:PE X b tb) (hc:PE X c tc) (hm:lastMarks [op,op'] [b,c]=false:=by with_unfolding_all rfl):PE X (.Compare a [op,op'] [b,c] pos) (g9 X.K op op' ta tb tc):=by
 intro pins s σ H Q I h;refine Compare_chain (bx (ha pins s σ H _ I h) λ v s1 ⟨x,H1,I1,r1,q1⟩=>chain_link (bx (hb pins s1 σ H1 _ I1 q1) λ u s2 ⟨y,H2,I2,r2,q2⟩=>
  bx (fT op hu pins s2 σ H2 x y v u _ I2 r1 r2 q2) λ d s3 ⟨z,H3,I3,r3,q3⟩=>?_)) hm
 obtain ⟨k,e,q3⟩:=dg q3;subst e;cases r3;refine wpAny_truthy_bool ?_;cases k with
 | false=>exact ite_ff ⟨.bl false,H3,I3,rfl,q3⟩
 | true=>exact ite_tt (chain_last (bx (hc pins s3 σ H3 _ I3 q3) λ w' s4 ⟨z',H4,I4,r4,q4⟩=>fT op' hu pins s4 σ H4 y z' u w' Q I4 r2 r4 q4))
def fG (K:Frag) (op op':CmpOp) (ta tb tc:TE):TT:=λ σ H Q=>ta σ H λ x H1=>tb σ H1 λ y H2=>aI K op x y H2 (cy λ k H3=>if k=true then tc σ H3 λ w' H4=>aI K op' y w' H4 (cy Q) else Q false H3)
theorem qq {op op':CmpOp}(hu:X.A.units+20<cLine) (ha:PE X a ta) (hb:PE X b tb) (hc:PE X c tc) (hm:lastMarks [op,op'] [b,c]=false:=by with_unfolding_all rfl):PT X (.Compare a [op,op'] [b,c] pos) (fG X.K op op' ta tb tc):=by
 intro pins s σ H Q I h;refine isTrue_chain (bx (ha pins s σ H _ I h) λ v s1 ⟨x,H1,I1,r1,q1⟩=>test_link (bx (hb pins s1 σ H1 _ I1 q1) λ u s2 ⟨y,H2,I2,r2,q2⟩=>
  bx (fT op hu pins s2 σ H2 x y v u _ I2 r1 r2 q2) λ d s3 ⟨z,H3,I3,r3,q3⟩=>?_)) hm
 obtain ⟨k,e,q3⟩:=dg q3;subst e;cases r3;refine wpAny_truthy_bool ?_;cases k with
 | false=>exact ite_ff ⟨H3,I3,q3⟩
 | true=>
   refine ite_tt (test_last (bx (hc pins s3 σ H3 _ I3 q3) λ w' s4 ⟨z',H4,I4,r4,q4⟩=>bx (fT op' hu pins s4 σ H4 y z' u w' _ I4 r2 r4 q4) λ d' s5 ⟨z2,H5,I5,r5,q5⟩=>?_));obtain ⟨k2,e2,q5⟩:=dg q5;subst e2;cases r5;exact wpAny_truthy_bool ⟨H5,I5,q5⟩
theorem be {e:Expr}{t:TE}(h:PE X e t) (he:∀whole,isTrue e X.env whole=(do let v<-whole;standAt e.pos;holding [v] (truthy v)):=by intro _;rfl):PT X e (de t):=by intro pins s σ H Q I hw;refine isTrue_plain (bx (h pins s σ H _ I hw) λ v s1 ⟨x,H1,I1,r1,q1⟩=>?_) (he _);obtain ⟨d,rfl,q⟩:=dg q1;cases r1;exact wpAny_truthy_bool ⟨H1,I1,q⟩
variable {rest:List Expr}
def kX (ta tb:TE):TE:=λ σ H Q=>ta σ H (cy λ c H1=>if c=true then tb σ H1 Q else Q (.bl false) H1)
def A6 (ta tb:TE):TE:=λ σ H Q=>ta σ H (cy λ c H1=>if c=true then Q (.bl true) H1 else tb σ H1 Q)
def mV (ta:TE):TE:=λ σ H Q=>ta σ H (cy λ c H1=>Q (.bl (!c)) H1)
theorem ez (ha:PE X a ta) (hb:PE X (.BoolOp .And (b::rest) pos) tb):PE X (.BoolOp .And (a::b::rest) pos) (kX ta tb):=by
 intro pins s σ H Q I h;refine BoolOp_and (bx (ha pins s σ H _ I h) λ v s1 ⟨x,H1,I1,r1,q1⟩=>?_);obtain ⟨c,rfl,q1⟩:=dg q1;cases r1;refine wpAny_truthy_bool ?_;cases c with
 | true=>exact hb pins s1 σ H1 Q I1 q1
 | false=>exact ⟨.bl false,H1,I1,rfl,q1⟩
theorem qu (ha:PE X a ta):PE X (.UnaryOp .Not a pos) (mV ta):=by intro pins s σ H Q I h;refine UnaryOp_ (bx (ha pins s σ H _ I h) λ v s1 ⟨x,H1,I1,r1,q1⟩=>?_);obtain ⟨c,rfl,q1⟩:=dg q1;cases r1;exact not_of (wpAny_truthy_bool ⟨.bl (!c),H1,I1,rfl,q1⟩)
def rS (ta:TE):TE:=λ σ H Q=>ta σ H λ x H1=>match x with | .int i=>Q (.int (-i)) H1 | _=>False
theorem ge (ha:PE X a ta):PE X (.UnaryOp .USub a pos) (rS ta):=by
 intro pins s σ H Q I h;refine UnaryOp_ (bx (ha pins s σ H _ I h) λ v s1 ⟨x,H1,I1,r1,q1⟩=>?_);cases x with
 | int i=>exact wa pins s1 σ H1 _ v Q I1 r1 ⟨i,rfl,q1⟩
 | _=>exact q1.elim
end
end L2
namespace L2
open PySem PySem.Spec PyProof.Rows
theorem eA:bootBuiltins "len"=some (.builtin "len"):=by decide+kernel
theorem xt:bootBuiltins "min"=some (.builtin "min"):=by decide+kernel
theorem xu:bootBuiltins "all"=some (.builtin "all"):=by decide+kernel
theorem aL:bootBuiltins "isinstance"=some (.builtin "isinstance"):=by decide+kernel
theorem iD:bootBuiltins "sorted"=some (.builtin "sorted"):=by decide+kernel
theorem hG:bootBuiltins "int"=some (.type "int"):=by decide+kernel
theorem jL:bootBuiltins "bool"=some (.type "bool"):=by decide+kernel
theorem xp:bootBuiltins "str"=some (.type "str"):=by decide+kernel
theorem fH:bootBuiltins "list"=some (.type "list"):=by decide+kernel
theorem qz:bootBuiltins "tuple"=some (.type "tuple"):=by decide+kernel
theorem xr:bootBuiltins "set"=some (.type "set"):=by decide+kernel
theorem jK:bootBuiltins "enumerate"=some (.type "enumerate"):=by decide+kernel
inductive BT | int | bool | str | list | tuple | dict
 deriving DecidableEq
def BT.s:BT->String
 | .int=>"int" | .bool=>"bool" | .str=>"str" | .list=>"list" | .tuple=>"tuple" | .dict=>"dict"
def cu:BT->BT->Bool
 | .bool,.int=>true
 | .int,.int=>true | .bool,.bool=>true | .str,.str=>true | .list,.list=>true | .tuple,.tuple=>true | .dict,.dict=>true
 | _,_=>false
theorem kit_bt (K:Frag) (a T:BT):Ex K (.type a.s) (.type T.s)=some (cu a T):=by cases a<;>cases T<;>kernel_rfl
theorem rC (K:Frag) (T:BT):Ex K (.type "NoneType") (.type T.s)=some false:=by cases T<;>kernel_rfl
def mB (T:BT) (x:V) (H:Hp) (Q:VK):Prop:=match x with
 | .non=>Q (.bl false) H
 | .bl _=>Q (.bl (cu .bool T)) H
 | .int _=>Q (.bl (cu .int T)) H
 | .str _=>Q (.bl (cu .str T)) H
 | .ref a=>match H a with
   | some (.lst _)=>Q (.bl (cu .list T)) H
   | some (.frz _ (.lst _))=>Q (.bl (cu .list T)) H
   | some (.tup _)=>Q (.bl (cu .tuple T)) H
   | some (.dK _)=>Q (.bl (cu .dict T)) H
   | _=>False
 | _=>False
section
variable {X:Cx}{a b c e o:Expr}{ta tb tc te to:TE}{p p2 pos:Pos}{es:List Expr}{t:TA}
theorem AN (T:BT) {pins:List (Addr×Obj)}{s:Shared}{σ:St}{H:Hp}{x:V}{u:Value}{Q:VK}(I:au X pins σ H s) (rx:aK x u) (h:mB T x H Q):wpAny (model X.prog X.w) X.A (call (.builtin "isinstance") [u,.type T.s]) (EP X pins σ Q) X.xe s:=by
 have fin:∀{k:Bool} {tv:Value},gg X.K H x tv->Ex X.K tv (.type T.s)=some k->Q (.bl k) H->wpAny (model X.prog X.w) X.A (call (.builtin "isinstance") [u,.type T.s]) (EP X pins σ Q) X.xe s:=λ ty e q=>
  nS I rx ty e λ tk=>⟨.bl _,H,I.tok tk,rfl,q⟩
 unfold mB at h;cases x with
 | non=>exact fin .non (rC _ T) h
 | bl y=>exact fin (.bl y) (kit_bt _ .bool T) h
 | int y=>exact fin (.int y) (kit_bt _ .int T) h
 | str y=>exact fin (.str y) (kit_bt _ .str T) h
 | ref d=>
   dsimp only at h;split at h
   ·rename_i e;exact fin (.lst e) (kit_bt _ .list T) h
   ·rename_i e;exact fin (.frz e) (kit_bt _ .list T) h
   ·rename_i e;exact fin (.tup e) (kit_bt _ .tuple T) h
   ·rename_i e;exact fin (.dK e) (kit_bt _ .dict T) h
   ·exact h.elim
 | _=>exact h.elim
def xo (T:BT) (ta:TE):TE:=λ σ H Q=>ta σ H λ x H1=>mB T x H1 Q
theorem A3 (T:BT) {n:Str}(ha:PE X a ta) (hg:Gl X "isinstance") (hm:X.mg "isinstance"=none) (hgT:Gl X n) (hmT:X.mg n=none) (hv:bootBuiltins n=some (.type T.s)) (hn:n≠"__name__":=by decide) (hdb:(n == ("__debug__":Str))=false:=by decide)
  (he:starEach [a,.Name n p2] X.env=(false,eval a X.env)::starEach [.Name n p2] X.env:=by rfl) (he2:starEach [.Name n p2] X.env=(false,eval (.Name n p2) X.env)::starEach [] X.env:=by rfl) (hpl:(backTo pos (starEach [.Name n p2] X.env)).any (·.1)=false:=by rfl):
  PE X (.Call (.Name "isinstance" p) [a,.Name n p2] [] pos) (xo T ta):=by
 intro pins s σ H Q I h;refine wpAny_Call_Name_kw (d0 I hg hm aL ?_ (by decide) (by decide));have hA:PA X [a,.Name n p2] (aN ta (aN (tC (.ty T.s)) bY)):=pa_cons ha (pa_cons (mn hgT hmT hv rfl hn hdb) pa_nil he2) he;refine PyProof.Rows.callWith_builtin1 (bx (hA pos pins s σ H (λ vs H1=> ∃x,vs=[x,.ty T.s]/\mB T x H1 Q) I ?_) λ us s1 ⟨vs,H1,I1,r1,x,e,q1⟩=>?_) he hpl
 ·have mono:(λ (x:V) H1=>mB T x H1 Q)=λ x H1=>(aN (tC (.ty T.s)) bY) σ H1 λ xs H2=> ∃y,x::xs=[y,.ty T.s]/\mB T y H2 Q:=by
   funext x H1;apply propext
   constructor
   ·intro q;exact ⟨x,rfl,q⟩
   ·rintro ⟨y,e,q⟩;have:x=y:=by injection e
    subst this;exact q
  show ta σ H _;rw [<-mono];exact h
 ·subst e;obtain ⟨u,w',rfl,ru,rt⟩:=vD r1;cases rt;exact AN T I1 ru q1
theorem mY.imp {r r':R2}(h:mY X r) (i:∀x y H Q,r' x y H Q->r x y H Q):mY X r':=λ va sl pins s σ H x y v u Q I rx ry q hs=>h va sl pins s σ H x y v u Q I rx ry (i x y H Q q) hs
def w9 (K:Frag) (x y:V) (H:Hp) (Q:VK):Prop:=match x,y with
 | .str z,.int i=>z.length<=sizeLine/\∃c,k4 z.cps.toList i=some c/\Q (.str ⟨#[c]⟩) H
 | .ref q,.int i=> ∃xs v,(aH K H q xs\/dQ K H q xs)/\k4 xs i=some v/\Q v H
 | _,_=>False
theorem CG:mY X (w9 X.K):=(w6 (X:=X)).imp λ x y H Q h=>by
 unfold w9 at h;split at h
 ·obtain ⟨h1,c,h2,q⟩:=h;exact .inr (.inr ⟨_,_,c,rfl,rfl,h1,h2,q⟩)
 ·obtain ⟨xs,v,h1,h2,q⟩:=h
  rcases h1 with h1 | h1
  ·exact .inl ⟨_,xs,_,v,rfl,rfl,h1,h2,q⟩
  ·exact .inr (.inl ⟨_,xs,_,v,rfl,rfl,h1,h2,q⟩)
 ·exact h.elim
def xL (K:Frag) (ta tb:TE):TE:=λ σ H Q=>ta σ H λ x H1=>tb σ H1 λ y H2=>w9 K x y H2 Q
theorem A2 (ha:PE X a ta) (hb:PE X b tb) (hs:jN b:=by exact λ _ _=>rfl):PE X (.Subscript a b pos) (xL X.K ta tb):=Ay CG ha hb hs
def iC (t:TE):TO:=λ σ H Q=>t σ H λ x H1=>match x with | .int i=>Q (some i) H1 | _=>False
theorem gC (h:PE X e te):PO X (some e) (iC te):=by
 intro pins s σ H Q I hw;rw [evalPart_some];refine bx (h pins s σ H _ I hw) λ u s1 ⟨x,H1,I1,r1,q1⟩=>?_;cases x with
 | int i=>
   obtain ⟨t,rfl⟩:=r1;exact ⟨some i,H1,I1,.int i t,q1⟩
 | _=>exact q1.elim
theorem oz.imp {r r':V->Option Int->Option Int->Hp->VK->Prop}(h:oz X r) (i:∀x lo hi H Q,r' x lo hi H Q->r x lo hi H Q):oz X r':=λ pins s σ H x v vl vu lo hi sl Q I rx hs pl pu q=>h pins s σ H x v vl vu lo hi sl Q I rx hs pl pu (i x lo hi H Q q)
def xH (K:Frag) (x:V) (lo hi:Option Int) (H:Hp) (Q:VK):Prop:=match x with
 | .str z=>z.length<=sizeLine/\Q (.str (ij z lo hi)) H
 | .ref d=> ∃xs,aH K H d xs/\∀q,H q=none->Q (.ref q) (upd H q (.lst (gY xs lo hi)))
 | _=>False
theorem Cr:oz X (xH X.K):=((wn (X:=X)).or qQ).imp λ x lo hi H Q h=>by
 unfold xH at h;split at h
 ·exact .inl ⟨_,rfl,h.1,h.2⟩
 ·obtain ⟨xs,h1,h2⟩:=h;exact .inr ⟨_,xs,rfl,h1,h2⟩
 ·exact h.elim
def xn (K:Frag) (te:TE) (tl th:TO):TE:=λ σ H Q=>te σ H λ x H1=>tl σ H1 λ l H2=>th σ H2 λ u H3=>xH K x l u H3 Q
theorem A1 {lo hi:Option Expr}{tl th:TO}(he:PE X e te) (hl:PO X lo tl) (hu:PO X hi th):PE X (.Subscript e (.Slice lo hi none p2) pos) (xn X.K te tl th):=pG Cr he hl hu
def cB (r:List V->Hp->VK->Prop) (t:TA):TE:=λ σ H Q=>t σ H λ vs H1=>r vs H1 Q
def lC (K:Frag) (xs:List V) (H:Hp) (Q:VK):Prop:=match xs with
 | [.str z]=>z.length<=sizeLine/\Q (.int z.length) H
 | [.ref d]=> ∃ys,(aH K H d ys\/dQ K H d ys)/\Q (.int ys.length) H
 | _=>False
theorem oo:aP X (.builtin "len") (lC X.K):=((jI (X:=X)).or jH).imp λ xs H Q h=>by
 unfold lC at h;split at h
 ·exact .inr ⟨_,rfl,h.1,h.2⟩
 ·obtain ⟨ys,h1,h2⟩:=h;exact .inl ⟨_,ys,rfl,h1,h2⟩
 ·exact h.elim
def pO (xs:List V) (H:Hp) (Q:VK):Prop:=match xs with
 | [.int i,.int j]=>Q (.int (if j<i then j else i)) H
 | _=>False
theorem om (hc:X.calm=true):aP X (.builtin "min") pO:=(on hc).imp λ xs H Q h=>by
 unfold pO at h;split at h
 ·exact ⟨_,_,rfl,h⟩
 ·exact h.elim
def oM (xs:List V) (H:Hp) (Q:VK):Prop:=match xs with
 | [.int i]=>i.natAbs.log2<1920/\Q (.str (toString i)) H
 | _=>False
theorem oi:aP X (.type "str") oM:=(jF (X:=X)).imp λ xs H Q h=>by
 unfold oM at h;split at h
 ·exact ⟨_,rfl,h.1,h.2⟩
 ·exact h.elim
def kH (xs:List V) (H:Hp) (Q:VK):Prop:=match xs with
 | [.str x]=> ∃n,PySem.intText? x=some n/\x.length<=640/\Q (.int n) H
 | [.bl k]=>Q (.int (if k then 1 else 0)) H
 | _=>False
theorem gf:aP X (.type "int") kH:=((il (X:=X)).or oq).imp λ xs H Q h=>by
 unfold kH at h;split at h
 ·obtain ⟨n,h1,h2,q⟩:=h;exact .inl ⟨_,n,rfl,h1,h2,q⟩
 ·exact .inr (.inr ⟨_,rfl,h⟩)
 ·exact h.elim
def si (K:Frag) (xs:List V) (H:Hp) (Q:VK):Prop:=match xs with
 | [.ref d]=> ∃ks:List Bool,aH K H d (ks.map V.bl)/\Q (.bl (ks.all id)) H
 | _=>False
theorem ot (hc:X.calm=true):aP X (.builtin "all") (si X.K):=(qw hc).imp λ xs H Q h=>by
 unfold si at h;split at h
 ·obtain ⟨ks,h1,q⟩:=h;exact ⟨_,ks,rfl,h1,q⟩
 ·exact h.elim
theorem CO {id:String}{x:Str}{r:List V->Hp->VK->Prop}(hc:aP X (.builtin id) r) (hv:bootBuiltins x=some (.builtin id)) (hm:X.mg x=none) (ha:PA X (e::es) t) (hg:Gl X x:=by rfl) (hn:x≠"__name__":=by decide) (hdb:(x == ("__debug__":Str))=false:=by decide)
  (he:starEach (e::es) X.env=(false,eval e X.env)::starEach es X.env:=by rfl) (hpl:(backTo pos (starEach es X.env)).any (·.1)=false:=by rfl):PE X (.Call (.Name x p) (e::es) [] pos) (cB r t):=pJ hc hg hm hv ha hn hdb he hpl
theorem A4 {T:String}{x:Str}{r:List V->Hp->VK->Prop}(hc:aP X (.type T) r) (hv:bootBuiltins x=some (.type T)) (hm:X.mg x=none) (ha:PA X (e::es) t) (hg:Gl X x:=by rfl) (hn:x≠"__name__":=by decide) (hdb:(x == ("__debug__":Str))=false:=by decide)
  (he:starEach (e::es) X.env=(false,eval e X.env)::starEach es X.env:=by rfl) (hpl:(backTo pos (starEach es X.env)).any (·.1)=false:=by rfl):PE X (.Call (.Name x p) (e::es) [] pos) (cB r t):=nB hc hg hm hv ha hn hdb he hpl
def cSM (r:V->List V->Hp->VK->Prop) (to:TE) (t:TA):TE:=λ σ H Q=>to σ H λ x H1=>match x with | .str z=>t σ H1 λ xs H2=>r (.str z) xs H2 Q | _=>False
def A5 (r:V->List V->Hp->VK->Prop) (to:TE):TE:=λ σ H Q=>to σ H λ x H1=>match x with | .str z=>r (.str z) [] H1 Q | _=>False
def swA (x:V) (vs:List V) (H:Hp) (Q:VK):Prop:=match x,vs with
 | .str a,[.str b]=>Q (.bl (b.cps.toList.isPrefixOf a.cps.toList)) H
 | _,_=>False
def AM (K:Frag) (x:V) (vs:List V) (H:Hp) (Q:VK):Prop:=match x,vs with
 | .str sep,[.ref d]=> ∃ys:List Str,aH K H d (ys.map V.str)/\(ys.map (·.length)).sum+ys.length*sep.length<=16777216/\Q (.str (Txt.join sep ys)) H
 | _,_=>False
def upA (x:V) (vs:List V) (H:Hp) (Q:VK):Prop:=match x,vs with
 | .str a,[]=>a.length<=sizeLine/\(∀c∈a.cps.toList,c<128)/\Q (.str ⟨a.cps.map up1⟩) H
 | _,_=>False
def ou (to te:TE):TE:=λ σ H Q=>to σ H λ x H1=>match x with
 | .ref l=>(∃xs,H1 l=some (.lst xs))/\te σ H1 λ y H2=> ∃xs,H2 l=some (.lst xs)/\xs.length<sizeLine/\Q .non (upd H2 l (.lst (xs++[y])))
 | _=>False
theorem jE {apos cpos:Pos}(ho:PE X o to) (he:PE X e te) (hbase:attributeBase o "append" X.env (eval o X.env)=eval o X.env:=by rfl)
  (hfew:((backTo cpos (starEach [e] X.env)).all (λ x=> !x.1)&&(backToKw cpos (keywordEach [] X.env)).all (λ x=>x.1.isSome)
   &&decide ([e].length+([]:List Keyword).length+(if ([]:List Keyword).isEmpty then 0 else 1)<30))=true:=by rfl)
  (hline:(apos.endLine == cpos.line)=true:=by rfl) (hs:starEach [e] X.env=(false,eval e X.env)::starEach [] X.env:=by rfl) (hplain:(backTo cpos (starEach [] X.env)).any (·.1)=false:=by rfl):
  PE X (.Call (.Attribute o "append" apos) [e] [] cpos) (ou to te):=by
 intro pins s σ H Q I h;refine wpAny_Call_method_late hbase hfew hline rfl (bx (ho pins s σ H _ I h) λ v s1 ⟨x,H1,I1,r1,q1⟩=>?_);cases x with
 | ref l=>
   obtain ⟨⟨xs0,e0⟩,q1⟩:=q1;have ty:tyV X.K "list" (.ref l) H1:=.inl ⟨rfl,xs0,aH.of e0⟩;obtain ⟨h1,h2⟩:=wb I1 r1 ty;refine ⟨"list","list.append",PySem.F.plainAttrs_list,PySem.F.slot_list_append,PySem.F.type_list_append,h1,h2,?_⟩;have hA:=(pa_cons he pa_nil hs:PA X [e] (aN te bY)) cpos pins s1 σ H1 (λ vs H2=> ∃y,vs=[y]/\∃xs,H2 l=some (.lst xs)/\xs.length<sizeLine/\Q .non (upd H2 l (.lst (xs++[y])))) I1 (by
    show te σ H1 λ y H2=> ∃y',[y]=[y']/\_;have:(λ (y:V) (H2:Hp)=> ∃xs,H2 l=some (.lst xs)/\xs.length<sizeLine/\Q .non (upd H2 l (.lst (xs++[y]))))=λ y H2=> ∃y',[y]=[y']/\∃xs,H2 l=some (.lst xs)/\xs.length<sizeLine/\Q .non (upd H2 l (.lst (xs++[y']))):=by
     funext y H2;apply propext
     constructor
     ·intro z;exact ⟨y,rfl,z⟩
     ·rintro ⟨y',e,z⟩;have:y=y':=by injection e
      subst this;exact z
    rw [<-this];exact q1)
   rw [hs] at hA ⊢;refine Calls.callWith_builtin (by show (false||(backTo cpos (starEach [] X.env)).any (·.1))=false;rw [hplain]<;>rfl) (Calls.evalArgs_plain ?_)
   exact bx hA λ us s2 ⟨vs,H2,I2,r2,y,e,xs,q3,q4,q5⟩=>nK pins s2 σ H2 _ vs v us Q I2 r1 r2 ⟨l,xs,y,rfl,e,q3,q4,q5⟩
 | _=>exact q1.elim
structure eK (P:Program) (w:World) (K:Frag) (mg:Str->Option Value) (base:Heap) (name:Str) (ps:List Str) (k:Nat) (sp:Sp):Prop where
 ex:∃f fd,bp P w K mg base dN k f fd ps sp/\mg name=some (.ref f)/\EE K (.ref f)=true/\dq K fd ps []
def eW (sp:Sp) (t:TA):TE:=λ σ H Q=>t σ H λ vs H1=>sp vs H1 Q E0
theorem rQ {name:Str}{ps:List Str}{k j:Nat}{sp:Sp}(C:eK X.prog X.w X.K X.mg X.base name ps k sp) (hr:bQ j X.A) (hkj:k<=j) (ha:PA X (e::es) t) (hg:Gl X name:=by rfl) (hdb:(name == ("__debug__":Str))=false:=by decide)
  (he:starEach (e::es) X.env=(false,eval e X.env)::starEach es X.env:=by rfl) (hpl:(backTo pos (starEach es X.env)).any (·.1)=false:=by rfl):PE X (.Call (.Name name p) (e::es) [] pos) (eW sp t):=by
 obtain ⟨f,fd,F,hm,hk,hb⟩:=C.ex;refine (rk F (hr.mono hkj) hg hm hk hb .nil mo ha hdb he hpl:PE X _ (oK sp [] E0 t)).imp λ σ H Q h=>?_;unfold oK;simp only [Dd];exact h
end
end L2
namespace PySem
namespace F
end F
end PySem
namespace L2
open PySem PySem.Spec PyProof.Rows
section
variable {prog:Program}{w:World}{A:Around}{E:Value->Shared->Prop}{s:Shared}
end
section
variable {X:Cx}{o e:Expr}{to te:TE}
def cJR (K:Frag) (to te:TE):TE:=λ σ H Q=>to σ H λ x H1=>match x with
 | .str sep=>te σ H1 λ y H2=>match y with
   | .ref d=> ∃ys:List Str,aH K H2 d (ys.map V.str)/\(ys.map (·.length)).sum+ys.length*sep.length<=16777216/\Q (.str (Txt.join sep ys.reverse)) H2
   | _=>False
 | _=>False
end
end L2
namespace L2
open PySem PySem.Spec PyProof.Rows
section
variable {X:Cx}{tg:Expr}
end
end L2
namespace L2
open PySem PySem.Spec PyProof.Rows
section
variable {X:Cx}
theorem pH {x:Str}{v:V}{pos:Pos}(hg:Gl X x) (h:∃u,X.mg x=some u/\aK v u) (hd:(x == ("__debug__":Str))=false:=by decide):PE X (.Name x pos) (tC v):=by obtain ⟨u,hm,r⟩:=h;exact rg hg hm r hd
end
theorem dh {A:Around}{k:Nat}(hr:bQ k A):A.units+20<cLine:=by have:=hr.units;omega
theorem am.upd {H H':Hp}{d:Addr}{o:HO}(h:am H H') (hd:H' d=none):am H (upd H' d o):=λ b ob e=>by have e':=h b ob e;rw [ak (aj e' hd)];exact e'
end L2
namespace L2
open PySem PySem.Spec PyProof.Rows
section
variable {X:Cx}{a b c e o:Expr}{ta tb tc te to:TE}{p p2 pos:Pos}{es:List Expr}{t:TA}
theorem jw (K:Frag) {op:CmpOp}(hu:X.A.units+20<cLine) (ha:PE X a ta) (hb:PE X b tb) (hm:behindInMarks op b=false:=by first | exact jv _ | with_unfolding_all rfl) (hK:X.K=K:=by rfl):PE X (.Compare a [op] [b] pos) (dy K op ta tb):=by subst hK;exact xm hu ha hb hm
theorem bu (K:Frag) {op:CmpOp}(hu:X.A.units+20<cLine) (ha:PE X a ta) (hb:PE X b tb) (hm:behindInMarks op b=false:=by first | exact jv _ | with_unfolding_all rfl) (hK:X.K=K:=by rfl):PT X (.Compare a [op] [b] pos) (de (dy K op ta tb)):=by subst hK;exact xk hu ha hb hm
theorem wY (K:Frag) {op op':CmpOp}(hu:X.A.units+20<cLine) (ha:PE X a ta) (hb:PE X b tb) (hc:PE X c tc) (hm:lastMarks [op,op'] [b,c]=false:=by with_unfolding_all rfl) (hK:X.K=K:=by rfl):PE X (.Compare a [op,op'] [b,c] pos) (g9 K op op' ta tb tc):=by subst hK;exact qv hu ha hb hc hm
theorem ms (K:Frag) {op op':CmpOp}(hu:X.A.units+20<cLine) (ha:PE X a ta) (hb:PE X b tb) (hc:PE X c tc) (hm:lastMarks [op,op'] [b,c]=false:=by with_unfolding_all rfl) (hK:X.K=K:=by rfl):PT X (.Compare a [op,op'] [b,c] pos) (fG K op op' ta tb tc):=by subst hK;exact qq hu ha hb hc hm
theorem mx (K:Frag) (ha:PE X a ta) (hb:PE X b tb) (hs:jN b:=by exact λ _ _=>rfl) (hK:X.K=K:=by rfl):PE X (.Subscript a b pos) (xL K ta tb):=by subst hK;exact A2 ha hb hs
theorem Bi (K:Frag) {lo hi:Option Expr}{tl th:TO}(he:PE X e te) (hl:PO X lo tl) (hu:PO X hi th) (hK:X.K=K:=by rfl):PE X (.Subscript e (.Slice lo hi none p2) pos) (xn K te tl th):=by subst hK;exact A1 he hl hu
theorem lF (K:Frag) (hK:X.K=K:=by rfl):aP X (.builtin "len") (lC K):=by subst hK;exact oo
theorem CF (K:Frag) (hc:X.calm=true:=by rfl) (hK:X.K=K:=by rfl):aP X (.builtin "all") (si K):=by subst hK;exact ot hc
theorem vU (K:Frag) {tg l:Expr}{tl:TE}(hl:PE X l tl) (hK:X.K=K:=by rfl):PI X tg l (mG K tl):=by subst hK;exact rc hl
theorem kgt (K:Frag) {n:Nat}{k:Nat}{t:qH}(h:xC X es t) (hc:X.calm=true:=by rfl) (hn:(assignEach es X.env).length=n:=by rfl) (hst:List.findIdx? (λ x=>x.1) (assignEach es X.env)=none:=by rfl) (hK:X.K=K:=by rfl):PG X (.Tuple es k pos) (rH K n t):=by subst hK;exact wD hc h hn hst
theorem kg {x:Str}{v:V}(h:∃u,X.mg x=some u/\aK v u) (hg:Gl X x:=by rfl) (hd:(x == ("__debug__":Str))=false:=by decide):PE X (.Name x pos) (tC v):=pH hg h hd
theorem wT (T:BT) {n:Str}(hm:X.mg "isinstance"=none) (hmT:X.mg n=none) (hv:bootBuiltins n=some (.type T.s)) (ha:PE X a ta) (hg:Gl X "isinstance":=by rfl) (hgT:Gl X n:=by rfl) (hn:n≠"__name__":=by decide) (hdb:(n == ("__debug__":Str))=false:=by decide)
  (he:starEach [a,.Name n p2] X.env=(false,eval a X.env)::starEach [.Name n p2] X.env:=by rfl) (he2:starEach [.Name n p2] X.env=(false,eval (.Name n p2) X.env)::starEach [] X.env:=by rfl) (hpl:(backTo pos (starEach [.Name n p2] X.env)).any (·.1)=false:=by rfl):
  PE X (.Call (.Name "isinstance" p) [a,.Name n p2] [] pos) (xo T ta):=A3 T ha hg hm hgT hmT hv hn hdb he he2 hpl
theorem xK {tg:Expr}{ta:TA}(hm:X.mg "range"=none) (ha:PA X [a] ta) (hg:Gl X "range":=by rfl) (hs:starEach [a] X.env=[(false,eval a X.env)]:=by rfl):PI X tg (.Call (.Name "range" p) [a] [] pos) (mF ta):=nA hg hm ha hs
theorem ey {N:List Str}{src:List (Option Nat)}{scope:Scope}(dsc:Scope) (XN:List Str) (h:lN dsc XN N src scope=true:=by decide+kernel) (he:X.env.scope=dsc:=by rfl) (hN:X.N=XN:=by rfl):bE X N src scope:=bE.of he hN h
theorem cr {i:Nat}{x:Str}(N:List Str) (hN:N.Nodup:=by decide+kernel) (hi:X.N[i]? =some x:=by rfl) (hx:xM X.env.scope x:=by first | exact Or.inl rfl | exact Or.inr rfl) (hf:X.fn x=true\/X.env.scope.names.lookup x=some .local:=by first | exact .inl rfl | exact .inr rfl) (hNX:X.N=N:=by rfl):PG X (.Name x pos) (gName i):=
 bN (hNX▸hN) hi hx hf
theorem gP {N:List Str}{src:List (Option Nat)}{scope:Scope}{tg iter:Expr}{ifs:List Expr}{wi:TI}{g:TG}{tt:TT}(S:bE X N src scope) (hi:PI X tg iter wi) (hg:∀s H ex,PG (cxC X scope N s H ex) tg g) (ht:∀s H ex,kZ (cxC X scope N s H ex) ifs tt) (he:∀s H ex,PE (cxC X scope N s H ex) e te)
  (hc:X.calm=true:=by rfl) (hs:∀x,foldedSetIterable iter X.env x=pure x:=by intro _;rfl):PE X (.ListComp e [⟨tg,iter,ifs,0⟩] scope pos) (tComp wi g tt te src):=rh hc S hi hg ht he hs
end
end L2
namespace L2
open PySem PySem.Spec PyProof.Rows
theorem pA {K:Frag}{i j:Int}{H:Hp}{Q:VK}:(aI K .Eq (.int i) (.int j) H Q)=(Q (.bl (decide (i=j))) H):=rfl
theorem pd {K:Frag}{i j:Int}{H:Hp}{Q:VK}:(aI K .NotEq (.int i) (.int j) H Q)=(Q (.bl (!decide (i=j))) H):=rfl
theorem px {K:Frag}{i j:Str}{H:Hp}{Q:VK}:(aI K .Eq (.str i) (.str j) H Q)=(Q (.bl (decide (i=j))) H):=rfl
theorem pc {K:Frag}{i j:Str}{H:Hp}{Q:VK}:(aI K .NotEq (.str i) (.str j) H Q)=(Q (.bl (!decide (i=j))) H):=rfl
theorem qY {K:Frag}{i j:Bool}{H:Hp}{Q:VK}:(aI K .Eq (.bl i) (.bl j) H Q)=(Q (.bl (decide (i=j))) H):=rfl
theorem qV {K:Frag}{i j:Bool}{H:Hp}{Q:VK}:(aI K .NotEq (.bl i) (.bl j) H Q)=(Q (.bl (!decide (i=j))) H):=rfl
theorem qX {K:Frag}{H:Hp}{Q:VK}:(aI K .Eq .non .non H Q)=(Q (.bl true) H):=rfl
theorem qU {K:Frag}{H:Hp}{Q:VK}:(aI K .NotEq .non .non H Q)=(Q (.bl (!true)) H):=rfl
theorem jh {K:Frag}{i:Int}{j:Str}{H:Hp}{Q:VK}:(aI K .Eq (.int i) (.str j) H Q)=(Q (.bl false) H):=rfl
theorem iY {K:Frag}{i:Int}{j:Str}{H:Hp}{Q:VK}:(aI K .NotEq (.int i) (.str j) H Q)=(Q (.bl (!false)) H):=rfl
theorem ji {K:Frag}{i:Int}{H:Hp}{Q:VK}:(aI K .Eq (.int i) .non H Q)=(Q (.bl false) H):=rfl
theorem iZ {K:Frag}{i:Int}{H:Hp}{Q:VK}:(aI K .NotEq (.int i) .non H Q)=(Q (.bl (!false)) H):=rfl
theorem je {K:Frag}{i:Str}{j:Int}{H:Hp}{Q:VK}:(aI K .Eq (.str i) (.int j) H Q)=(Q (.bl false) H):=rfl
theorem iV {K:Frag}{i:Str}{j:Int}{H:Hp}{Q:VK}:(aI K .NotEq (.str i) (.int j) H Q)=(Q (.bl (!false)) H):=rfl
theorem ki {K:Frag}{i:Str}{j:Bool}{H:Hp}{Q:VK}:(aI K .Eq (.str i) (.bl j) H Q)=(Q (.bl false) H):=rfl
theorem j5 {K:Frag}{i:Str}{j:Bool}{H:Hp}{Q:VK}:(aI K .NotEq (.str i) (.bl j) H Q)=(Q (.bl (!false)) H):=rfl
theorem jd {K:Frag}{i:Str}{H:Hp}{Q:VK}:(aI K .Eq (.str i) .non H Q)=(Q (.bl false) H):=rfl
theorem iU {K:Frag}{i:Str}{H:Hp}{Q:VK}:(aI K .NotEq (.str i) .non H Q)=(Q (.bl (!false)) H):=rfl
theorem km {K:Frag}{i:Bool}{j:Str}{H:Hp}{Q:VK}:(aI K .Eq (.bl i) (.str j) H Q)=(Q (.bl false) H):=rfl
theorem j7 {K:Frag}{i:Bool}{j:Str}{H:Hp}{Q:VK}:(aI K .NotEq (.bl i) (.str j) H Q)=(Q (.bl (!false)) H):=rfl
theorem kn {K:Frag}{i:Bool}{H:Hp}{Q:VK}:(aI K .Eq (.bl i) .non H Q)=(Q (.bl false) H):=rfl
theorem j8 {K:Frag}{i:Bool}{H:Hp}{Q:VK}:(aI K .NotEq (.bl i) .non H Q)=(Q (.bl (!false)) H):=rfl
theorem jg {K:Frag}{j:Int}{H:Hp}{Q:VK}:(aI K .Eq .non (.int j) H Q)=(Q (.bl false) H):=rfl
theorem iX {K:Frag}{j:Int}{H:Hp}{Q:VK}:(aI K .NotEq .non (.int j) H Q)=(Q (.bl (!false)) H):=rfl
theorem jf {K:Frag}{j:Str}{H:Hp}{Q:VK}:(aI K .Eq .non (.str j) H Q)=(Q (.bl false) H):=rfl
theorem iW {K:Frag}{j:Str}{H:Hp}{Q:VK}:(aI K .NotEq .non (.str j) H Q)=(Q (.bl (!false)) H):=rfl
theorem kj {K:Frag}{j:Bool}{H:Hp}{Q:VK}:(aI K .Eq .non (.bl j) H Q)=(Q (.bl false) H):=rfl
theorem j6 {K:Frag}{j:Bool}{H:Hp}{Q:VK}:(aI K .NotEq .non (.bl j) H Q)=(Q (.bl (!false)) H):=rfl
theorem mh {K:Frag}{a b:Addr}{H:Hp}{Q:VK}:(aI K .Eq (.ref a) (.ref b) H Q)=(∃k,iI K H 20 (.ref a) (.ref b) k/\Q (.bl k) H):=rfl
theorem qT {K:Frag}{a b:Addr}{H:Hp}{Q:VK}:(aI K .NotEq (.ref a) (.ref b) H Q)=(∃k,iI K H 20 (.ref a) (.ref b) k/\Q (.bl (!k)) H):=rfl
theorem pi {K:Frag}{i j:Int}{H:Hp}{Q:VK}:(aI K .Lt (.int i) (.int j) H Q)=(Q (.bl (decide (i<j))) H):=rfl
theorem fS {K:Frag}{i j:Int}{H:Hp}{Q:VK}:(aI K .LtE (.int i) (.int j) H Q)=(Q (.bl (decide (i<=j))) H):=rfl
theorem pw {K:Frag}{i j:Int}{H:Hp}{Q:VK}:(aI K .Gt (.int i) (.int j) H Q)=(Q (.bl (decide (j<i))) H):=rfl
theorem nw {K:Frag}{i j:Int}{H:Hp}{Q:VK}:(aI K .GtE (.int i) (.int j) H Q)=(Q (.bl (decide (j<=i))) H):=rfl
theorem pe {K:Frag}{i j:Str}{H:Hp}{Q:VK}:(aI K .Lt (.str i) (.str j) H Q)=(Q (.bl (decide (i.cps.toList<j.cps.toList))) H):=rfl
theorem nk {K:Frag}{i j:Str}{H:Hp}{Q:VK}:(aI K .LtE (.str i) (.str j) H Q)=(Q (.bl (!decide (j.cps.toList<i.cps.toList))) H):=rfl
theorem pv {K:Frag}{i j:Str}{H:Hp}{Q:VK}:(aI K .In (.str i) (.str j) H Q)=(Q (.bl (!(Builtin.Str.occurrences j i 0 j.length 1).isEmpty)) H):=rfl
theorem j4 {K:Frag}{i j:Str}{H:Hp}{Q:VK}:(aI K .NotIn (.str i) (.str j) H Q)=(Q (.bl (!(!(Builtin.Str.occurrences j i 0 j.length 1).isEmpty))) H):=rfl
theorem fk {K:Frag}{i:Int}{d:Addr}{H:Hp}{Q:VK}:(aI K .In (.int i) (.ref d) H Q)=(mi K false (.int i) (.ref d) H Q):=rfl
theorem dP {K:Frag}{i:Int}{d:Addr}{H:Hp}{Q:VK}:(aI K .NotIn (.int i) (.ref d) H Q)=(mi K true (.int i) (.ref d) H Q):=rfl
theorem pr {K:Frag}{i:Int}{H:Hp}{Q:VK}:(aI K .Is (.int i) .non H Q)=(Q (.bl false) H):=rfl
theorem ke {K:Frag}{i:Int}{H:Hp}{Q:VK}:(aI K .IsNot (.int i) .non H Q)=(Q (.bl true) H):=rfl
theorem ja {K:Frag}{i:Str}{d:Addr}{H:Hp}{Q:VK}:(aI K .In (.str i) (.ref d) H Q)=(mi K false (.str i) (.ref d) H Q):=rfl
theorem gr {K:Frag}{i:Str}{d:Addr}{H:Hp}{Q:VK}:(aI K .NotIn (.str i) (.ref d) H Q)=(mi K true (.str i) (.ref d) H Q):=rfl
theorem pk {K:Frag}{i:Str}{H:Hp}{Q:VK}:(aI K .Is (.str i) .non H Q)=(Q (.bl false) H):=rfl
theorem j9 {K:Frag}{i:Str}{H:Hp}{Q:VK}:(aI K .IsNot (.str i) .non H Q)=(Q (.bl true) H):=rfl
theorem kh {K:Frag}{i:Bool}{d:Addr}{H:Hp}{Q:VK}:(aI K .In (.bl i) (.ref d) H Q)=(mi K false (.bl i) (.ref d) H Q):=rfl
theorem gG {K:Frag}{i:Bool}{d:Addr}{H:Hp}{Q:VK}:(aI K .NotIn (.bl i) (.ref d) H Q)=(mi K true (.bl i) (.ref d) H Q):=rfl
theorem qW {K:Frag}{i:Bool}{H:Hp}{Q:VK}:(aI K .Is (.bl i) .non H Q)=(Q (.bl false) H):=rfl
theorem lq {K:Frag}{i:Bool}{H:Hp}{Q:VK}:(aI K .IsNot (.bl i) .non H Q)=(Q (.bl true) H):=rfl
theorem jc {K:Frag}{d:Addr}{H:Hp}{Q:VK}:(aI K .In .non (.ref d) H Q)=(mi K false .non (.ref d) H Q):=rfl
theorem gu {K:Frag}{d:Addr}{H:Hp}{Q:VK}:(aI K .NotIn .non (.ref d) H Q)=(mi K true .non (.ref d) H Q):=rfl
theorem pq {K:Frag}{H:Hp}{Q:VK}:(aI K .Is .non .non H Q)=(Q (.bl true) H):=rfl
theorem kb {K:Frag}{H:Hp}{Q:VK}:(aI K .IsNot .non .non H Q)=(Q (.bl false) H):=rfl
theorem jb {K:Frag}{i:Addr}{d:Addr}{H:Hp}{Q:VK}:(aI K .In (.ref i) (.ref d) H Q)=(mi K false (.ref i) (.ref d) H Q):=rfl
theorem gt {K:Frag}{i:Addr}{d:Addr}{H:Hp}{Q:VK}:(aI K .NotIn (.ref i) (.ref d) H Q)=(mi K true (.ref i) (.ref d) H Q):=rfl
theorem pp {K:Frag}{i:Addr}{H:Hp}{Q:VK}:(aI K .Is (.ref i) .non H Q)=(Q (.bl false) H):=rfl
theorem ka {K:Frag}{i:Addr}{H:Hp}{Q:VK}:(aI K .IsNot (.ref i) .non H Q)=(Q (.bl true) H):=rfl
theorem As {i j:Int}{H:Hp}{Q:VK}:(fI .Add (.int i) (.int j) H Q)=(Q (.int (i+j)) H):=rfl
theorem wA {i j:Str}{H:Hp}{Q:VK}:(fI .Add (.str i) (.str j) H Q)=(i.length+j.length<=sizeLine/\Q (.str (i++j)) H):=rfl
theorem pB {a b:Addr}{H:Hp}{Q:VK}:(fI .Add (.ref a) (.ref b) H Q)=(wB (.ref a) (.ref b) H Q):=rfl
theorem Ah {i j:Int}{H:Hp}{Q:VK}:(fI .Sub (.int i) (.int j) H Q)=(Q (.int (i - j)) H):=rfl
theorem Am {i j:Int}{H:Hp}{Q:VK}:(fI .Mult (.int i) (.int j) H Q)=(ox i j/\Q (.int (i*j)) H):=rfl
theorem wz {i j:Int}{H:Hp}{Q:VK}:(fI .FloorDiv (.int i) (.int j) H Q)=(ss i j/\Q (.int (i / j)) H):=rfl
theorem An {i j:Int}{H:Hp}{Q:VK}:(fI .Mod (.int i) (.int j) H Q)=(0<j/\Q (.int (i % j)) H):=rfl
theorem Al {i j:Int}{H:Hp}{Q:VK}:(fI .Pow (.int i) (.int j) H Q)=(sj i j/\Q (.int (i ^ j.toNat)) H):=rfl
theorem Ap {K:Frag}{z:Str}{i:Int}{H:Hp}{Q:VK}:(w9 K (.str z) (.int i) H Q)=(z.length<=sizeLine/\∃c,k4 z.cps.toList i=some c/\Q (.str ⟨#[c]⟩) H):=rfl
theorem Aq {K:Frag}{d:Addr}{i:Int}{H:Hp}{Q:VK}:(w9 K (.ref d) (.int i) H Q)=(∃xs v,(aH K H d xs\/dQ K H d xs)/\k4 xs i=some v/\Q v H):=rfl
theorem Aj {K:Frag}{z:Str}{lo hi:Option Int}{H:Hp}{Q:VK}:(xH K (.str z) lo hi H Q)=(z.length<=sizeLine/\Q (.str (ij z lo hi)) H):=rfl
theorem Ak {K:Frag}{d:Addr}{lo hi:Option Int}{H:Hp}{Q:VK}:(xH K (.ref d) lo hi H Q)=(∃xs,aH K H d xs/\∀q,H q=none->Q (.ref q) (upd H q (.lst (gY xs lo hi)))):=rfl
theorem wt {K:Frag}{z:Str}{H:Hp}{Q:VK}:(lC K [.str z] H Q)=(z.length<=sizeLine/\Q (.int z.length) H):=rfl
theorem wu {K:Frag}{d:Addr}{H:Hp}{Q:VK}:(lC K [.ref d] H Q)=(∃ys,(aH K H d ys\/dQ K H d ys)/\Q (.int ys.length) H):=rfl
theorem Ao {i j:Int}{H:Hp}{Q:VK}:(pO [.int i,.int j] H Q)=(Q (.int (if j<i then j else i)) H):=rfl
theorem Ai {i:Int}{H:Hp}{Q:VK}:(oM [.int i] H Q)=(i.natAbs.log2<1920/\Q (.str (toString i)) H):=rfl
theorem wx {z:Str}{H:Hp}{Q:VK}:(kH [.str z] H Q)=(∃n,PySem.intText? z=some n/\z.length<=640/\Q (.int n) H):=rfl
theorem wy {k:Bool}{H:Hp}{Q:VK}:(kH [.bl k] H Q)=(Q (.int (if k then 1 else 0)) H):=rfl
theorem Ar {K:Frag}{d:Addr}{H:Hp}{Q:VK}:(si K [.ref d] H Q)=(∃ks:List Bool,aH K H d (ks.map V.bl)/\Q (.bl (ks.all id)) H):=rfl
theorem Ct {a b:Str}{H:Hp}{Q:VK}:(swA (.str a) [.str b] H Q)=(Q (.bl (b.cps.toList.isPrefixOf a.cps.toList)) H):=rfl
theorem ww {K:Frag}{a:Str}{d:Addr}{H:Hp}{Q:VK}:(AM K (.str a) [.ref d] H Q)=(∃ys:List Str,aH K H d (ys.map V.str)/\(ys.map (·.length)).sum+ys.length*a.length<=16777216/\Q (.str (Txt.join a ys)) H):=rfl
theorem Cs {a:Str}{H:Hp}{Q:VK}:(upA (.str a) [] H Q)=(a.length<=sizeLine/\(∀c∈a.cps.toList,c<128)/\Q (.str ⟨a.cps.map up1⟩) H):=rfl
theorem nr {T:BT}{H:Hp}{Q:VK}:(mB T .non H Q)=(Q (.bl false) H):=rfl
theorem pj {T:BT}{b:Bool}{H:Hp}{Q:VK}:(mB T (.bl b) H Q)=(Q (.bl (cu .bool T)) H):=rfl
theorem nu {T:BT}{b:Int}{H:Hp}{Q:VK}:(mB T (.int b) H Q)=(Q (.bl (cu .int T)) H):=rfl
theorem nn {T:BT}{b:Str}{H:Hp}{Q:VK}:(mB T (.str b) H Q)=(Q (.bl (cu .str T)) H):=rfl
theorem r_b {k:Bool}{Q:Bool->Hp->Prop}{H:Hp}:cy Q (.bl k) H=Q k H:=rfl
end L2
namespace L2
open PySem PySem.Spec PyProof.Rows
def dt:Expr->Bool
 | .Starred _ _=>false
 | _=>true
theorem cS {e:Expr}{es:List Expr}{env:Env}(h:dt e=true):starEach (e::es) env=(false,eval e env)::starEach es env:=by
 cases e<;>first | rfl | cases h
theorem dn {pos:Pos}{env:Env}:∀{es:List Expr},es.all dt=true->(backTo pos (starEach es env)).any (·.1)=false
 | [],_=>rfl
 | e::es,h=>by
   rw [C8,Ef] at h;rw [cS h.1];show (false||(backTo pos (starEach es env)).any (·.1))=false
   rw [dn h.2];rfl
section
variable {X:Cx}{a b c e o:Expr}{ta tb tc te to:TE}{p p2 pos:Pos}{es:List Expr}{t:TA}
theorem ar (ha:PE X e te) (hr:PA X es t) (h:dt e=true:=by rfl):PA X (e::es) (aN te t):=pa_cons ha hr (cS h)
theorem aO {name:Str}{ps:List Str}{k j:Nat}{sp:Sp}(C:eK X.prog X.w X.K X.mg X.base name ps k sp) (hr:bQ j X.A) (ha:PA X (e::es) t) (hkj:k<=j:=by decide) (hp:(e::es).all dt=true:=by rfl) (hg:Gl X name:=by rfl) (hdb:(name == ("__debug__":Str))=false:=by decide):PE X (.Call (.Name name p) (e::es) [] pos) (eW sp t):=by have hp':=hp;rw [C8,Ef] at hp';exact rQ C hr hkj ha hg hdb (cS hp'.1) (dn hp'.2)
theorem kB {id:String}{x:Str}{r:List V->Hp->VK->Prop}(hc:aP X (.builtin id) r) (hv:bootBuiltins x=some (.builtin id)) (hm:X.mg x=none) (ha:PA X (e::es) t) (hp:(e::es).all dt=true:=by rfl) (hg:Gl X x:=by rfl) (hn:x≠"__name__":=by decide) (hdb:(x == ("__debug__":Str))=false:=by decide):PE X (.Call (.Name x p) (e::es) [] pos) (cB r t):=by have hp':=hp;rw [C8,Ef] at hp';exact CO hc hv hm ha hg hn hdb (cS hp'.1) (dn hp'.2)
theorem vY {T:String}{x:Str}{r:List V->Hp->VK->Prop}(hc:aP X (.type T) r) (hv:bootBuiltins x=some (.type T)) (hm:X.mg x=none) (ha:PA X (e::es) t) (hp:(e::es).all dt=true:=by rfl) (hg:Gl X x:=by rfl) (hn:x≠"__name__":=by decide) (hdb:(x == ("__debug__":Str))=false:=by decide):PE X (.Call (.Name x p) (e::es) [] pos) (cB r t):=by have hp':=hp;rw [C8,Ef] at hp';exact A4 hc hv hm ha hg hn hdb (cS hp'.1) (dn hp'.2)
end
end L2
namespace L2
open PySem
theorem di {t u:TS}{D:cb}{σ:St}{H:Hp}(P:St->Hp->Prop) (h:∀K:St->Hp->Prop,(∀σ' H',P σ' H'->K σ' H')->t {D with nx:=K} σ H) (h2:∀σ' H',P σ' H'->u D σ' H'):bC t u D σ H:=h (u D) h2
theorem ci {te:TE}{i:Nat}{u:TS}{D:cb}{σ:St}{H:Hp}(P:V->Hp->Prop) (h:∀Q:VK,(∀v H',P v H'->Q v H')->te σ H Q) (h2:∀v H',P v H'->u D (σ.set i (some v)) H'):bC (tAsg te (gName i)) u D σ H:=h _ h2
theorem dH {c:TT}{t u:TS}{D:cb}{σ:St}{H:Hp}(P:Bool->Hp->Prop) (hc:∀Q:Bool->Hp->Prop,(∀b H',P b H'->Q b H')->c σ H Q) (h1:∀H',P true H'->t {D with nx:=u D} σ H') (h2:∀H',P false H'->u D σ H'):bC (iL c t gk) u D σ H:=by
 refine hc _ λ b H' p=>?_;cases b with
 | true=>exact gQ (h1 H' p)
 | false=>exact ig (h2 H' p)
end L2
namespace L2
open PySem
def eJ:List Expr->Option (List V)
 | []=>some []
 | .Constant (.int i) _ _::r=>(eJ r).map (V.int i:: ·)
 | .Constant (.str x) _ _::r=>(eJ r).map (V.str x:: ·)
 | .Constant (.bool b) _ _::r=>(eJ r).map (V.bl b:: ·)
 | .Constant .none _ _::r=>(eJ r).map (V.non:: ·)
 | _=>none
def Bk (vs:List V):TA:=λ _ H Q=>Q vs H
theorem cT {X:Cx}:∀{es:List Expr}{vs:List V},eJ es=some vs->PA X es (Bk vs):=by
 intro es
 induction es with
 | nil=>intro vs h;cases h;exact pa_nil
 | cons e r ih=>
   intro vs h;unfold eJ at h;split at h
   ·rename_i e1;cases e1
   ·rename_i e1;cases e1;obtain ⟨ws,h1,h2⟩:=Es.mp h;subst h2;exact ar ag (ih h1)
   ·rename_i e1;cases e1;obtain ⟨ws,h1,h2⟩:=Es.mp h;subst h2;exact ar bP (ih h1)
   ·rename_i e1;cases e1;obtain ⟨ws,h1,h2⟩:=Es.mp h;subst h2;exact ar bR (ih h1)
   ·rename_i e1;cases e1;obtain ⟨ws,h1,h2⟩:=Es.mp h;subst h2;exact ar da (ih h1)
   ·cases h
end L2
namespace L2
open PySem
theorem qr {g:TG}{tt:TT}{te:TE}{src:List (Option Nat)}{σ:St}{Q:VK}{J:It}{H1:Hp}(n:Nat) (N:Nat->List V->St->Hp->Prop) (hn:n<=sizeLine) (hlen:∀i ys σ H,N i ys σ H->ys.length<=i)
  (hgo:∀i ys σ H,N i ys σ H->i<n->J.go i H) (hstop:∀ys σ H,N n ys σ H->J.stop n H) (h0:N 0 [] (dO src σ) H1)
  (hturn:∀i ys σ' H' x H2,i<n->N i ys σ' H'->J.yld i H' x H2->∀(Kt:V->St->Hp->Prop) (Kf:St->Hp->Prop),(∀v σ3 H5,N (i+1) (ys++[v]) σ3 H5->Kt v σ3 H5)->(∀σ3 H4,N (i+1) ys σ3 H4->Kf σ3 H4)->
   g x σ' H2 λ σ3 H3=>tt σ3 H3 λ b H4=>if b=true then te σ3 H4 λ v H5=>Kt v σ3 H5 else Kf σ3 H4)
  (hQ:∀ys σ' H' d,N n ys σ' H'->H' d=none->Q (.ref d) (upd H' d (.lst ys))):fE g tt te src σ Q J H1:=by
 refine ⟨λ i m ys σ' H'=>m=n - i/\i<=n/\N i ys σ' H',⟨n,by simp,DV _,h0⟩,?_⟩;rintro i m ys σ' H' ⟨rfl,hi,hN⟩
 by_cases hlt:i<n
 ·refine .inr ⟨hgo i ys σ' H' hN hlt,?_,λ x H2 y=>?_⟩
  ·have:=hlen i ys σ' H' hN;omega
  ·exact hturn i ys σ' H' x H2 hlt hN y _ _ (λ v σ3 H5 h=>⟨n - (i+1),by omega,rfl,hlt,h⟩) (λ σ3 H4 h=>⟨n - (i+1),by omega,rfl,hlt,h⟩)
 ·have e:i=n:=by omega
  subst e;exact .inl ⟨hstop ys σ' H' hN,λ d hd=>hQ ys σ' H' d hN hd⟩
end L2
namespace L2
open PySem
theorem kK {ta:TA}{g:TG}{tb:TS}{D:cb}{σ:St}{H:Hp}(n:Int) (hta:∀Q:List V->Hp->Prop,Q [.int n] H->ta σ H Q) (h0: -(2 ^ 62)<=n) (h1:n<2 ^ 62) (Pv:Nat->St->Hp->Prop) (hp0:Pv 0 σ H)
  (hs:∀i σ H,i<n.toNat->Pv i σ H->g (.int (0+i)) σ H λ σ2 H2=>tb {D with nx:=Pv (i+1),ct:=Pv (i+1),bk:=D.nx} σ2 H2) (hd:∀σ H,Pv n.toNat σ H->D.nx σ H):tFor (mF ta) g tb D σ H:=
 hta _ ⟨n,rfl,h0,h1,nZ Pv hp0 hs hd⟩
theorem ef {K:Frag}{tl:TE}{g:TG}{tb:TS}{D:cb}{σ:St}{H:Hp}(P:V->Hp->Prop) (htl:∀Q:VK,(∀v H',P v H'->Q v H')->tl σ H Q)
  (h:∀v H',P v H'->∃d xs,v=.ref d/\aH K H' d xs/\∃Pv:Nat->St->Hp->Prop,Pv 0 σ H'/\(∀i σ H,i<=xs.length->Pv i σ H->aH K H d xs)/\
   (∀(i:Nat) x σ H,xs[i]? =some x->Pv i σ H->g x σ H λ σ2 H2=>tb {D with nx:=Pv (i+1),ct:=Pv (i+1),bk:=D.nx} σ2 H2)/\(∀σ H,Pv xs.length σ H->D.nx σ H)):tFor (mG K tl) g tb D σ H:=
 htl _ λ v H' p=>by obtain ⟨d,xs,rfl,hq,Pv,a,b,c,e⟩:=h v H' p;exact ⟨d,rfl,⟨xs,hq⟩,pZ Pv a b c e⟩
theorem wl {c:TT}{t:TS}{D:cb}{σ:St}{H:Hp}(P:Bool->Hp->Prop) (hc:∀Q:Bool->Hp->Prop,(∀b H',P b H'->Q b H')->c σ H Q) (h1:∀H',P true H'->t D σ H') (h2:∀H',P false H'->D.nx σ H'):iL c t gk D σ H:=by
 refine hc _ λ b H' p=>?_;cases b with
 | true=>exact gQ (h1 H' p)
 | false=>exact ig (h2 H' p)
end L2
namespace L2
open PySem PySem.Spec PyProof.Rows
def jU (ns:List Int):List Int:=firstMet (λ i=>ns.getD i 0) ns.length
theorem lm (ns:List Int):(List.range ns.length).map (λ i=>ns.getD i 0)=ns:=by
 apply List.ext_getElem?;intro i;rw [Db]
 by_cases h:i<ns.length
 ·rw [Dv h,C4 h];show some (ns.getD i 0)=_;rw [Do,C4 h];rfl
 ·rw [DL (by rw [Dg];omega),DL (by omega)];rfl
theorem eg (val:Nat->Int):∀i,(firstMet val i).length=i<->((List.range i).map val).Nodup
 | 0=>by simp [firstMet_zero]
 | i+1=>by
   have ih:=eg val i;have hle:=firstMet_length_le val i;have ha:=firstMet_any val i (val i);rw [firstMet_succ,List.range_succ,Dq,DD];unfold step_dedup
   by_cases h:(firstMet val i).any (· == val i)=true
   ·rw [if_pos h]
    constructor
    ·intro e;omega
    ·intro e;rw [ha,DE] at h;obtain ⟨x,hx,e2⟩:=h;have:x=val i:=beq_iff_eq.mp e2;exact absurd this (e.2.2 x hx (val i) (by simp))
   ·rw [if_neg h,Dc,DB]
    constructor
    ·intro e;refine ⟨ih.mp (by omega),by simp,λ x hx y hy=>?_⟩;have hy':y=val i:=by simpa using hy
     subst hy';intro e3;apply h;rw [ha,DE];exact ⟨x,hx,beq_iff_eq.mpr e3⟩
    ·intro e;rw [ih.mpr e.1]
theorem jT (ns:List Int):(jU ns).length=ns.length<->ns.Nodup:=by unfold jU;rw [eg,lm]
section
variable {X:Cx}
def wo (K:Frag) (xs:List V) (H:Hp) (Q:VK):Prop:=match xs with
 | [.ref d]=> ∃ns:List Int,aH K H d (ns.map V.int)/\ns.length+1<scanBound/\∀q,H q=none->Q (.ref q) (upd H q (.set (λ k=>(jU ns).any (· == k)) (jU ns).length))
 | _=>False
theorem oj (hh:X.A.handled=none):aP X (.type "set") (wo X.K):=by
 intro pins s σ H xs us Q I r h;unfold wo at h;split at h
 ·rename_i d;obtain ⟨ns,hq,hb,q⟩:=h;obtain ⟨u,rfl,rx⟩:=dz r;cases rx;obtain ⟨its,r',pl,hz⟩:=I.list hq;have hlen:=r'.length;rw [CZ] at hlen;have hi:IntsAre its.toArray.toList ns:=gR r';have hs:its.toArray.size=ns.length:=by rw [C2,<-hlen]
  refine call_set_list hh pl.isList hi (by rw [hs];exact hb) λ h' tk hS kp=>?_;rw [hs] at hS;have k2:∀b u,s.heap.get? b=some u->h'.get? b=some u:=λ b u e=>kp b u (Heap.lt_size e) e;exact ⟨.ref s.heap.objs.size,_,I.laid (t':=tk) k2 (DS _) (show bi X.prog X.w _ h' _ (.set _ _) from hS),rfl,q _ (I.hok.fresh (DS _))⟩
 ·exact h.elim
def vS (xs:List V) (H:Hp) (Q:VK):Prop:=match xs with
 | [.ref d]=> ∃S n,H d=some (.set S n)/\Q (.int n) H
 | _=>False
theorem lS:aP X (.builtin "len") vS:=by
 intro pins s σ H xs us Q I r h;unfold vS at h;split at h
 ·rename_i d;obtain ⟨S,n,hd,q⟩:=h;obtain ⟨u,rfl,rx⟩:=dz r;cases rx;obtain ⟨o,es,ep,t,h1,h2,h3,_,_,h6,h7,h8⟩:=(show bi X.prog X.w H s.heap d (.set S n) from I.hok d _ hd);subst h8;have hb:es.size<4096:=h6;exact PySem.call_len_set h1 h2 h3 h7 (by omega) ⟨.int es.size,H,I.tok _,⟨_,rfl⟩,q⟩
 ·exact h.elim
def oZ (K:Frag) (xs:List V) (H:Hp) (Q:VK):Prop:=match xs with
 | [.ref d]=> ∃ns:List Int,aH K H d (ns.map V.int)/\ns.length<64/\∀(ns':List Int) q,ns'.Perm ns->ns'.Pairwise (·<=·)->H q=none->Q (.ref q) (upd H q (.lst (ns'.map V.int)))
 | _=>False
theorem lQ:aP X (.builtin "sorted") (oZ X.K):=by
 intro pins s σ H xs us Q I r h;unfold oZ at h;split at h
 ·rename_i d;obtain ⟨ns,hq,hb,q⟩:=h;obtain ⟨u,rfl,rx⟩:=dz r;cases rx;obtain ⟨its,r',pl,hz⟩:=I.list hq;have hlen:=r'.length;rw [CZ] at hlen;refine sorted_ints pl.isList (gR r') (by omega) λ out ns' a1 a2 a3=>?_;obtain ⟨e,he⟩:=sortedAll_at s.heap its out;have hl:=a2.length_eq;have hz':(ns'.map V.int).length<=sizeLine:=by rw [CZ,hl,sizeLine_eq];omega
  exact ⟨.ref (s.heap.objs.size+1),_,I.laid (t':=s.toks) (λ _ _=>sortedAll_old) (DX _) (show bi X.prog X.w _ _ _ (.lst (ns'.map V.int)) from ⟨hz',out.toList,e,fO a1,by simpa [seqObj] using he⟩),rfl,q ns' _ a2 a3 (I.hok.fresh (DX _))⟩
 ·exact h.elim
def kF (K:Frag) (xs:List V) (H:Hp) (Q:VK):Prop:=match xs with
 | [.ref d]=> ∃ys,(aH K H d ys\/dQ K H d ys)/\∀l,H l=none->Q (.ref l) (upd H l (.lst ys))
 | _=>False
theorem lR:aP X (.type "list") (kF X.K):=(jG (X:=X)).imp λ xs H Q h=>by
 unfold kF at h;split at h
 ·obtain ⟨ys,h1,q⟩:=h;exact ⟨_,ys,rfl,h1,q⟩
 ·exact h.elim
def lb (K:Frag) (xs:List V) (H:Hp) (Q:VK):Prop:=match xs with
 | [.ref d]=> ∃ys,(aH K H d ys/\∀l,H l=none->Q (.ref l) (upd H l (.tup ys)))\/(dQ K H d ys/\Q (.ref d) H)
 | _=>False
theorem kU:aP X (.type "tuple") (lb X.K):=(ik (X:=X)).imp λ xs H Q h=>by
 unfold lb at h;split at h
 ·obtain ⟨ys,h1⟩:=h;exact ⟨_,ys,rfl,h1⟩
 ·exact h.elim
theorem CC (K:Frag) {j:Nat}(hr:bQ j X.A) (hK:X.K=K:=by rfl):aP X (.type "set") (wo K):=by subst hK;exact oj hr.hd
theorem vT (K:Frag) (hK:X.K=K:=by rfl):aP X (.builtin "sorted") (oZ K):=by subst hK;exact lQ
theorem vW (K:Frag) (hK:X.K=K:=by rfl):aP X (.type "list") (kF K):=by subst hK;exact lR
theorem wR (K:Frag) (hK:X.K=K:=by rfl):aP X (.type "tuple") (lb K):=by subst hK;exact kU
theorem rE {T:BT}{a:Addr}{xs:List V}{H:Hp}{Q:VK}(h:H a=some (.lst xs)) (q:Q (.bl (cu .list T)) H):mB T (.ref a) H Q:=by simp only [mB,h];exact q
end
theorem qf {x:V}(h:flatV x=true):eqV x x=true:=by cases x<;>simp_all [flatV,eqV]
theorem kN {K:Frag}{H:Hp}{n:Nat}{a b:Addr}{xs:List V}(ha:aH K H a xs) (hb:aH K H b xs) (hf:xs.all flatV=true):iI K H (n+1) (.ref a) (.ref b) true:=by
 have h:iI K H (n+1) (.ref a) (.ref b) ((List.range xs.length).all λ _=>true):=.lst ha hb rfl λ i x y hx hy=>by
  rw [hx] at hy;cases hy;have hfx:=Dn.mp hf x (Df hx);have:=ow.flat (K:=K) (H:=H) (n:=n) hfx hfx
  rwa [qf hfx] at this
 have e:((List.range xs.length).all λ _=>true)=true:=Dn.mpr λ _ _=>rfl
 rwa [e] at h
theorem gc (zs:List Int):(zs.map V.int).all flatV=true:=Dn.mpr λ x hx=>by obtain ⟨z,_,rfl⟩:=C6.mp hx;rfl
theorem gX {K:Frag}{H:Hp}{n:Nat}{a b:Addr}{zs:List Int}(ha:aH K H a (zs.map V.int)) (hb:aH K H b (zs.map V.int)):iI K H (n+1) (.ref a) (.ref b) true:=kN ha hb (gc zs)
theorem qh {K:Frag}{H:Hp}{n:Nat}{a b:Addr}{x y z u:Int}(ha:dQ K H a [.int x,.int y]) (hb:dQ K H b [.int z,.int u]):iI K H (n+1) (.ref a) (.ref b) (decide (x=z/\y=u)):=by
 have h:iI K H (n+1) (.ref a) (.ref b) ((List.range (min 2 2)).all (λ i=>if i=0 then eqV (.int x) (.int z) else eqV (.int y) (.int u))&&2 == 2):=.tup ha hb λ i v v' h1 h2=>by
  match i,h1,h2 with
  | 0,h1,h2=>cases h1;cases h2;exact .flat rfl rfl
  | 1,h1,h2=>cases h1;cases h2;exact .flat rfl rfl
 have e:((List.range (min 2 2)).all (λ i=>if i=0 then eqV (.int x) (.int z) else eqV (.int y) (.int u))&&2 == 2)=decide (x=z/\y=u):=by
  have e1:eqV (.int x) (.int z)=decide (x=z):=rfl;have e2:eqV (.int y) (.int u)=decide (y=u):=rfl;show ((if 0=0 then eqV (.int x) (.int z) else eqV (.int y) (.int u))&&((if 1=0 then eqV (.int x) (.int z) else eqV (.int y) (.int u))&&true)&&true)=_;rw [e1,e2]
  by_cases h1:x=z<;>by_cases h2:y=u<;>simp [h1,h2]
 rwa [e] at h
def Fl (K:Frag) (H:Hp) (p:Addr) (f:Str) (v:V):Prop:= ∃C dx fs,H p=some (.ins C dx fs)/\m5 K C/\cz K C f/\fs.lookup f=some v
def CM (K:Frag) (x:V) (f:Str) (H:Hp) (Q:VK):Prop:=match x with
 | .ref a=> ∃v,Fl K H a f v/\Q v H
 | _=>False
def A7 (K:Frag) (to:TE) (f:Str):TE:=λ σ H Q=>to σ H λ x H1=>CM K x f H1 Q
def mZ (C:Addr) (m:Str) (H:Hp) (a:Addr):Prop:= ∃dx fs,H a=some (.ins C dx fs)/\fs.lookup m=none
structure hR (P:Program) (w:World) (K:Frag) (mg:Str->Option Value) (base:Heap) (C:Addr) (m:Str) (ps:List Str) (k:Nat) (sp:Sp):Prop where
 ex:∃f fd,bp P w K mg base dN k f fd ps sp/\Bb K C m f/\dq K fd ps []
 cl:m5 K C
structure qD (P:Program) (w:World) (K:Frag) (mg:Str->Option Value) (base:Heap) (name:Str) (C:Addr) (ps:List Str) (k:Nat) (sp:Sp):Prop where
 ex:∃f fd,Mk K C f/\bp P w K mg base dN k f fd ps sp/\mg name=some (.ref C)/\dq K fd ps []
def AG (C:Addr) (m:Str) (x:V) (H:Hp) (R:Addr->Prop):Prop:=match x with
 | .ref a=>mZ C m H a/\R a
 | _=>False
def kW (C:Addr) (m:Str) (sp:Sp) (to:TE) (t:TA):TE:=λ σ H Q=>to σ H λ x H1=>AG C m x H1 λ a=>t σ H1 λ vs H2=>sp (.ref a::vs) H2 Q E0
def v4 (C:Addr) (sp:Sp) (t:TA):TE:=λ σ H Q=>t σ H λ vs H1=> ∀x dx,H1 x=none->H1 dx=none->dx≠x->sp (.ref x::vs) (upd (upd H1 dx (.own x)) x (.ins C dx [])) (λ v H2=>v=.non/\Q (.ref x) H2) E0
section
variable {X:Cx}{e o value:Expr}{te to tv:TE}{p pos pos' apos:Pos}{es:List Expr}{t:TA}{f m:Str}
theorem eQ (K:Frag) (ho:PE X o to) (hb:attributeBase o f X.env (eval o X.env)=eval o X.env:=by rfl) (hK:X.K=K:=by rfl):PE X (.Attribute o f pos) (A7 K to f):=by
 subst hK;intro pins s σ H Q I h;refine r9 hb (bx (ho pins s σ H _ I h) λ u s1 ⟨x,H1,I1,rx,q1⟩=>?_);cases x with
 | ref a=>
   obtain ⟨v,⟨C,dx,fs,ea,c,n,l⟩,q⟩:=q1;obtain rfl:u=Value.ref a:=rx;exact lH I1 ea c n l λ u' s2 I2 ru=>⟨v,H1,I2,ru,q⟩
 | _=>exact q1.elim
theorem mv (K:Frag) (ho:PE X o to) (hv:PE X value tv) (hs:swapsWith value (some (.Attribute o f pos')) pos.line X.env=pure false:=by rfl) (hK:X.K=K:=by rfl):PS X (.Assign [.Attribute o f pos'] value pos) (o4 K to tv f):=by subst hK;exact wC ho hv hs
theorem mw {C:Addr}{ps:List Str}{k j:Nat}{sp:Sp}{pl:Sem Bool}(M:hR X.prog X.w X.K X.mg X.base C m ps k sp) (hr:bQ j X.A) (ho:PE X o to) (ha:PA X (e::es) t) (hkj:k<=j:=by decide) (hp:(e::es).all dt=true:=by rfl)
  (ht:eval (.Call (.Attribute o m apos) (e::es) [] pos) X.env=(do
   let ov<-eval o X.env
   standAt apos.atName
   let (f,first)<-holding [ov] (getMethod ov m pl)
   callWith pos f first (backTo pos (starEach (e::es) X.env)) (backToKw pos (keywordEach [] X.env))):=by rfl):PE X (.Call (.Attribute o m apos) (e::es) [] pos) (kW C m sp to t):=by
 obtain ⟨f,fd,F,hm,hb⟩:=M.ex;have hp':=hp;rw [C8,Ef] at hp';intro pins s σ H Q I h;refine E9 (pl:=pl) (bx (ho pins s σ H _ I h) λ u s1 ⟨x,H1,I1,rx,q⟩=>?_) ht;cases x with
 | ref a=>
   obtain ⟨⟨dx,fs,ea,l⟩,q⟩:=q;obtain rfl:u=Value.ref a:=rx;refine gS I1 ea M.cl hm l ?_;refine EL (first:=[.ref a]) (h₀:=X.base) I.ok.mod.kin hm.kp (bx (ha pos pins s1 σ H1 _ I1 q) λ us s2 ⟨vs,H2,I2,r,q2⟩=>⟨I2.kIn,?_⟩) (cS hp'.1) (dn hp'.2);refine lj (us:=.ref a::us) (vs:=.ref a::vs) (dvs:=[]) (ds:=[]) F (hr.mono hkj) hb .nil mo I2 (.cons rfl r) ?_;rw [Dd];exact q2
 | _=>exact q.elim
theorem lE {C:Addr}{ps:List Str}{k j:Nat}{sp:Sp}{pl:Sem Bool}(M:hR X.prog X.w X.K X.mg X.base C m ps k sp) (hr:bQ j X.A) (ho:PE X o to) (hkj:k<=j:=by decide)
  (ht:eval (.Call (.Attribute o m apos) [] [] pos) X.env=(do
   let ov<-eval o X.env
   standAt apos.atName
   let (f,first)<-holding [ov] (getMethod ov m pl)
   callWith pos f first (backTo pos (starEach [] X.env)) (backToKw pos (keywordEach [] X.env))):=by rfl):PE X (.Call (.Attribute o m apos) [] [] pos) (kW C m sp to bY):=by
 obtain ⟨f,fd,F,hm,hb⟩:=M.ex;intro pins s σ H Q I h;refine E9 (pl:=pl) (bx (ho pins s σ H _ I h) λ u s1 ⟨x,H1,I1,rx,q⟩=>?_) ht;cases x with
 | ref a=>
   obtain ⟨⟨dx,fs,ea,l⟩,q⟩:=q;obtain rfl:u=Value.ref a:=rx;refine gS I1 ea M.cl hm l ?_;refine PySem.W.callWith_K0 (first:=[.ref a]) I1.kIn hm.kp (lj (us:=[.ref a]) (vs:=[.ref a]) (dvs:=[]) (ds:=[]) F (hr.mono hkj) hb .nil mo I1 (.cons rfl .nil) ?_);exact q
 | _=>exact q.elim
theorem vV {name:Str}{C:Addr}{ps:List Str}{k j:Nat}{sp:Sp}(M:qD X.prog X.w X.K X.mg X.base name C ps k sp) (hr:bQ j X.A) (ha:PA X (e::es) t) (hkj:k+1<=j:=by decide) (hp:(e::es).all dt=true:=by rfl) (hg:Gl X name:=by rfl) (hdb:(name == ("__debug__":Str))=false:=by decide):
  PE X (.Call (.Name name p) (e::es) [] pos) (v4 C sp t):=by
 obtain ⟨f,fd,MK,F,hm,hb⟩:=M.ex;have hp':=hp;rw [C8,Ef] at hp';refine (rf MK F (hr.mono hkj) hg hm hb .nil mo ha hdb (cS hp'.1) (dn hp'.2):PE X _ (oG C sp [] E0 t)).imp λ σ H Q h=>?_;unfold oG;simp only [Dd];exact h
def eI:List Expr->Option (List V)
 | []=>some []
 | .Constant (.int i) _ _::r=>(eI r).map (V.int i:: ·)
 | .Constant (.str x) _ _::r=>(eI r).map (V.str x:: ·)
 | .UnaryOp .USub (.Constant (.int i) _ _) _::r=>(eI r).map (V.int (-i):: ·)
 | _=>none
theorem lr:∀{es:List Expr}{vs:List V},eI es=some vs->PA X es (Bk vs):=by
 intro es
 induction es with
 | nil=>intro vs h;cases h;exact pa_nil
 | cons e r ih=>
   intro vs h;unfold eI at h;split at h
   ·rename_i e1;cases e1
   ·rename_i e1;cases e1;obtain ⟨ws,h1,h2⟩:=Es.mp h;subst h2;exact ar ag (ih h1)
   ·rename_i e1;cases e1;obtain ⟨ws,h1,h2⟩:=Es.mp h;subst h2;exact ar bP (ih h1)
   ·rename_i e1;cases e1;obtain ⟨ws,h1,h2⟩:=Es.mp h;subst h2;exact ar (ge ag) (ih h1)
   ·cases h
def jB:List Expr->Option (List (List V))
 | []=>some []
 | .Tuple es _ _::r=>match eI es,jB r with
   | some v,some vs=>some (v::vs)
   | _,_=>none
 | _=>none
def cTs (vss:List (List V)):TA:=λ _ H Q=> ∀(qs:List Addr) (H':Hp),qs.length=vss.length->(∀(i:Nat) (q:Addr),qs[i]? =some q->∃v,vss[i]? =some v/\H' q=some (.tup v))->am H H'->Q (qs.map V.ref) H'
theorem pK {t':TA}(h:PA X es t) (hi:∀σ H Q,t' σ H Q->t σ H Q):PA X es t':=λ pos pins s σ H Q I q=>h pos pins s σ H Q I (hi σ H Q q)
theorem rl:∀{es:List Expr}{vss:List (List V)},jB es=some vss->(vss.all λ v=>decide (v.length<=20))=true->PA X es (cTs vss):=by
 intro es
 induction es with
 | nil=>
   intro vss h _;cases h;refine pK pa_nil λ σ H Q q=>?_;exact q [] H rfl (λ i q h=>by simp at h) (am.refl H)
 | cons e r ih=>
   intro vss h hl;unfold jB at h;split at h
   ·rename_i e1;cases e1
   ·rename_i e1;cases e1;split at h
    ·rename_i v vs h1 h2;cases h;rw [C8,Ef] at hl;refine pK (ar (cM (lr h1)) (ih h2 hl.2)) λ σ H Q q=>?_;show v.length<=sizeLine/\_;refine ⟨DU (of_decide_eq_true hl.1) (by decide),λ p hp=>?_⟩;intro qs H' h1 h2 h3;have hs:am H H':=((am.refl H).upd hp).trans h3;refine q (p::qs) H' (by rw [Dh,Dh,h1]) (λ i z hz=>?_) hs;cases i with
     | zero=>
       cases hz;exact ⟨v,rfl,h3 _ _ ac⟩
     | succ i=>exact h2 i z hz
    ·cases h
   ·cases h
end
def SameBut (k:Addr) (H H':Hp):Prop:= ∀b o,H b=some o->b≠k->H' b=some o
theorem am.but {k:Addr}{H H':Hp}(h:am H H'):SameBut k H H':=λ b o e _=>h b o e
theorem SameBut.self {k:Addr}{H H':Hp}{o:HO}(a:SameBut k H H'):SameBut k H (upd H' k o):=λ c ob e n=>by rw [ak n];exact a c ob e n
theorem SameBut.new {k d:Addr}{H H':Hp}{o:HO}(a:SameBut k H H') (hd:H d=none):SameBut k H (upd H' d o):=λ c ob e n=>by rw [ak (aj e hd)];exact a c ob e n
theorem am.put {d:Addr}{H H':Hp}{o:HO}(a:am H H') (hd:H d=none):am H (L2.upd H' d o):=λ c ob e=>by rw [ak (aj e hd)];exact a c ob e
theorem nJ {H:Hp}{a b:Addr}{o o':HO}(ha:H a=some o) (hb:H b=some o') (h:o≠o'):a≠b:=λ e=>by subst e;rw [ha] at hb;exact h (Option.some.inj hb)
theorem qO {to tv:TE}{f:Str}{K:Frag}{u:TS}{D:cb}{σ:St}{H:Hp}(P:V->Hp->Prop) (h:∀Q:VK,(∀v H',P v H'->Q v H')->tv σ H Q) (p C dx:Addr) (hto:∀H' (Q:VK),Q (.ref p) H'->to σ H' Q) (hc:m5 K C) (hn:cz K C f)
  (h2:∀v H',P v H'->∃fs,H' p=some (.ins C dx fs)/\fs.length<1000/\u D σ (upd H' p (.ins C dx (putF f v fs)))):bC (o4 K to tv f) u D σ H:=
 h _ λ v H' q=>by obtain ⟨fs,e,l,r⟩:=h2 v H' q;exact hto _ _ ⟨p,C,dx,fs,rfl,e,hc,hn,l,r⟩
theorem qN {to tv:TE}{f:Str}{K:Frag}{D:cb}{σ:St}{H:Hp}(P:V->Hp->Prop) (h:∀Q:VK,(∀v H',P v H'->Q v H')->tv σ H Q) (p C dx:Addr) (hto:∀H' (Q:VK),Q (.ref p) H'->to σ H' Q) (hc:m5 K C) (hn:cz K C f)
  (h2:∀v H',P v H'->∃fs,H' p=some (.ins C dx fs)/\fs.length<1000/\D.nx σ (upd H' p (.ins C dx (putF f v fs)))):o4 K to tv f D σ H:=
 h _ λ v H' q=>by obtain ⟨fs,e,l,r⟩:=h2 v H' q;exact hto _ _ ⟨p,C,dx,fs,rfl,e,hc,hn,l,r⟩
end L2
namespace L2
open PySem PySem.Spec PyProof.Rows
def Ev (t:TE) (σ:St) (H:Hp) (v:V):Prop:= ∀Q:VK,Q v H->t σ H Q
def Tv (t:TT) (σ:St) (H:Hp) (b:Bool):Prop:= ∀Q:Bool->Hp->Prop,Q b H->t σ H Q
def Av (t:TA) (σ:St) (H:Hp) (vs:List V):Prop:= ∀Q:List V->Hp->Prop,Q vs H->t σ H Q
section
variable {K:Frag}{σ:St}{H:Hp}{ta tb tc te to:TE}{t u:TT}{x y:V}{i j k:Int}{a b:Bool}{z z':Str}
theorem aq:Ev (tC x) σ H x:=λ Q q=>q
theorem aa {n:Nat}(h:σ[n]? =some (some x)):Ev (br n) σ H x:=λ Q q=>by unfold br;rw [h];exact q
theorem bM (ha:Ev ta σ H (.int i)) (hb:Ev tb σ H (.int j)):Ev (eR .Add ta tb) σ H (.int (i+j)):=λ Q q=>ha _ (hb _ q)
theorem du (ha:Ev ta σ H (.int i)) (hb:Ev tb σ H (.int j)):Ev (eR .Sub ta tb) σ H (.int (i - j)):=λ Q q=>ha _ (hb _ q)
theorem b0 (ha:Ev ta σ H (.int i)) (hb:Ev tb σ H (.int j)) (h:ox i j):Ev (eR .Mult ta tb) σ H (.int (i*j)):=λ Q q=>ha _ (hb _ ⟨h,q⟩)
theorem bH (ha:Ev ta σ H (.int i)) (hb:Ev tb σ H (.int j)) (h:ss i j):Ev (eR .FloorDiv ta tb) σ H (.int (i / j)):=λ Q q=>ha _ (hb _ ⟨h,q⟩)
theorem bo (ha:Ev ta σ H (.int i)) (hb:Ev tb σ H (.int j)) (h:0<j):Ev (eR .Mod ta tb) σ H (.int (i % j)):=λ Q q=>ha _ (hb _ ⟨h,q⟩)
theorem gW (ha:Ev ta σ H (.int i)):Ev (rS ta) σ H (.int (-i)):=λ Q q=>ha _ q
theorem mP (ha:Ev ta σ H (.str z)) (hb:Ev tb σ H (.str z')) (h:z.length+z'.length<=sizeLine):Ev (eR .Add ta tb) σ H (.str (z++z')):=λ Q q=>ha _ (hb _ ⟨h,q⟩)
theorem bT {p:Addr}{f:Str}(ho:Ev to σ H (.ref p)) (h:Fl K H p f x):Ev (A7 K to f) σ H x:=λ Q q=>ho _ ⟨x,h,q⟩
theorem ej {p:Addr}{xs:List V}(ho:Ev to σ H (.ref p)) (hi:Ev ta σ H (.int i)) (h:aH K H p xs\/dQ K H p xs) (e:k4 xs i=some x):Ev (xL K to ta) σ H x:=λ Q q=>ho _ (hi _ ⟨xs,x,h,e,q⟩)
theorem jz {p:Addr}{xs:List V}(ho:Ev to σ H (.ref p)) (h:aH K H p xs\/dQ K H p xs):Ev (cB (lC K) (aN to bY)) σ H (.int xs.length):=λ Q q=>ho _ ⟨xs,h,q⟩
theorem xh (ha:Ev ta σ H (.int i)) (hb:Ev tb σ H (.int j)):Ev (cB pO (aN ta (aN tb bY))) σ H (.int (if j<i then j else i)):=λ Q q=>ha _ (hb _ q)
theorem qc (ha:Ev ta σ H (.bl a)):Ev (mV ta) σ H (.bl (!a)):=λ Q q=>ha _ q
theorem dc (ha:Ev ta σ H (.bl a)) (hb:a=true->Ev tb σ H (.bl b)):Ev (kX ta tb) σ H (.bl (a&&b)):=λ Q q=>ha _ (by
 cases a with
 | true=>exact hb rfl Q q
 | false=>exact q)
theorem v3 (ht:Tv t σ H b) (h1:b=true->Ev ta σ H x) (h2:b=false->Ev tb σ H y):Ev (Bg t ta tb) σ H (if b=true then x else y):=λ Q q=>ht _ (by
 cases b with
 | true=>exact gQ (h1 rfl _ q)
 | false=>exact ig (h2 rfl _ q))
theorem gn (ha:Ev ta σ H (.int i)) (hb:Ev tb σ H (.int j)):Ev (dy K .Eq ta tb) σ H (.bl (decide (i=j))):=λ Q q=>ha _ (hb _ q)
theorem AX (ha:Ev ta σ H (.int i)) (hb:Ev tb σ H (.int j)):Ev (dy K .NotEq ta tb) σ H (.bl (!decide (i=j))):=λ Q q=>ha _ (hb _ q)
theorem mL (ha:Ev ta σ H (.int i)) (hb:Ev tb σ H (.int j)):Ev (dy K .Lt ta tb) σ H (.bl (decide (i<j))):=λ Q q=>ha _ (hb _ q)
theorem AY (ha:Ev ta σ H (.int i)) (hb:Ev tb σ H (.int j)):Ev (dy K .LtE ta tb) σ H (.bl (decide (i<=j))):=λ Q q=>ha _ (hb _ q)
theorem A0 (ha:Ev ta σ H (.int i)) (hb:Ev tb σ H (.int j)):Ev (dy K .Gt ta tb) σ H (.bl (decide (j<i))):=λ Q q=>ha _ (hb _ q)
theorem qe (ha:Ev ta σ H (.int i)) (hb:Ev tb σ H (.int j)):Ev (dy K .GtE ta tb) σ H (.bl (decide (j<=i))):=λ Q q=>ha _ (hb _ q)
theorem xg {p q:Addr}(ha:Ev ta σ H (.ref p)) (hb:Ev tb σ H (.ref q)) (h:iI K H 20 (.ref p) (.ref q) a):Ev (dy K .NotEq ta tb) σ H (.bl (!a)):=λ Q k=>ha _ (hb _ ⟨a,h,k⟩)
theorem kI (i:Int) (ns:List Int):Bj (.int i) (ns.map V.int)=decide (i∈ns):=by
 unfold Bj;rw [List.any_map]
 by_cases h:i∈ns
 ·rw [decide_eq_true h];exact DE.mpr ⟨i,h,by simp [eqV]⟩
 ·rw [decide_eq_false h];apply DJ.mpr;intro y hy;have:y≠i:=λ e=>h (e▸hy);simp [eqV,this]
theorem AZ {p:Addr}{ns:List Int}(ha:Ev ta σ H (.int i)) (hb:Ev tb σ H (.ref p)) (h:aH K H p (ns.map V.int)\/dQ K H p (ns.map V.int)):Ev (dy K .In ta tb) σ H (.bl (decide (i∈ns))):=λ Q q=>ha _ (hb _ (by
 rw [fk];refine ⟨p,_,rfl,h,rfl,gc ns,?_⟩;rw [kI];exact q))
theorem gU {p:Addr}{ns:List Int}(ha:Ev ta σ H (.int i)) (hb:Ev tb σ H (.ref p)) (h:aH K H p (ns.map V.int)\/dQ K H p (ns.map V.int)):Ev (dy K .NotIn ta tb) σ H (.bl (!decide (i∈ns))):=λ Q q=>ha _ (hb _ (by
 rw [dP];refine ⟨p,_,rfl,h,rfl,gc ns,?_⟩;rw [kI];exact q))
theorem rL (ha:Ev ta σ H (.int i)) (hb:Ev tb σ H (.int j)) (hc:i<=j->Ev tc σ H (.int k)):Ev (g9 K .LtE .LtE ta tb tc) σ H (.bl (decide (i<=j/\j<=k))):=λ Q q=>ha _ (hb _ (by
 rw [fS]
 by_cases h:i<=j
 ·rw [decide_eq_true h];refine hc h _ ?_;have e:decide (i<=j/\j<=k)=decide (j<=k):=by simp [h]
  rw [e] at q;exact q
 ·rw [decide_eq_false h];have e:decide (i<=j/\j<=k)=false:=by simp [h]
  rw [e] at q;exact q))
theorem aR {sp:Sp}{t:TA}{vs:List V}(ht:Av t σ H vs) (h:∀Q:VK,Q x H->sp vs H Q E0):Ev (eW sp t) σ H x:=λ Q q=>ht _ (h Q q)
theorem ay:Av bY σ H []:=λ Q q=>q
theorem ae {t:TA}{vs:List V}(ha:Ev ta σ H x) (ht:Av t σ H vs):Av (aN ta t) σ H (x::vs):=λ Q q=>ha _ (ht _ q)
theorem bz (h:Ev te σ H (.bl b)):Tv (de te) σ H b:=λ Q q=>h _ q
theorem bX (h:Tv t σ H b):Tv (jV t) σ H (!b):=λ Q q=>h _ q
theorem oB (ha:Tv t σ H a) (hb:a=true->Tv u σ H b):Tv (na t u) σ H (a&&b):=λ Q q=>ha _ (by
 cases a with
 | true=>exact gQ (hb rfl _ q)
 | false=>exact ig q)
theorem dA (ha:Tv t σ H a) (hb:a=false->Tv u σ H b):Tv (xG t u) σ H (a||b):=λ Q q=>ha _ (by
 cases a with
 | true=>exact gQ q
 | false=>exact ig (hb rfl _ q))
theorem lZ (ha:Ev ta σ H (.int i)) (hb:Ev tb σ H (.int j)) (hc:i<=j->Ev tc σ H (.int k)):Tv (fG K .LtE .Lt ta tb tc) σ H (decide (i<=j/\j<k)):=λ Q q=>ha _ (hb _ (by
 rw [fS]
 by_cases h:i<=j
 ·rw [decide_eq_true h];refine hc h _ ?_;have e:decide (i<=j/\j<k)=decide (j<k):=by simp [h]
  rw [e] at q;exact q
 ·rw [decide_eq_false h];have e:decide (i<=j/\j<k)=false:=by simp [h]
  rw [e] at q;exact q))
end
section
variable {te:TE}{c:TT}{t u:TS}{D:cb}{σ:St}{H:Hp}{v:V}{b:Bool}
theorem bG {i:Nat}(h:Ev te σ H v) (h2:u D (σ.set i (some v)) H):bC (tAsg te (gName i)) u D σ H:=h _ h2
theorem iM {i:Nat}(h:Ev te σ H v) (h2:D.nx (σ.set i (some v)) H):tAsg te (gName i) D σ H:=h _ h2
theorem ba (h:Ev te σ H v) (h2:D.rt v H):cU te D σ H:=h _ h2
theorem bZ (hc:Tv c σ H b) (h1:b=true->t {D with nx:=u D} σ H) (h2:b=false->u D σ H):bC (iL c t gk) u D σ H:=hc _ (by
 cases b with
 | true=>exact gQ (h1 rfl)
 | false=>exact ig (h2 rfl))
theorem eG (hc:Tv c σ H b) (h1:b=true->t D σ H) (h2:b=false->D.nx σ H):iL c t gk D σ H:=hc _ (by
 cases b with
 | true=>exact gQ (h1 rfl)
 | false=>exact ig (h2 rfl))
end
section
variable {K:Frag}{σ rest:St}{H:Hp}{tl te:TE}{tt:TT}{src:List (Option Nat)}{Q:VK}
theorem iK:Tv vF σ H true:=λ Q q=>q
theorem kR {J:It}{xs:List V}(hz:xs.length<=sizeLine) (hs:dO src σ=none::rest) (p:V->Bool) (f:V->V) (hgo:∀i,i<xs.length->J.go i H) (hstop:J.stop xs.length H) (hyld:∀i v H',i<xs.length->J.yld i H v H'->H'=H/\xs[i]? =some v)
  (ht:∀x∈xs,Tv tt (some x::rest) H (p x)) (he:∀x∈xs,p x=true->Ev te (some x::rest) H (f x)) (q:∀d',H d'=none->Q (.ref d') (upd H d' (.lst ((xs.filter p).map f)))):fE (gName 0) tt te src σ Q J H:=by
 refine ⟨λ i m ys σ' H'=>m=xs.length - i/\i<=xs.length/\ys=((xs.take i).filter p).map f/\(∃o,σ'=o::rest)/\H'=H,⟨xs.length,by simp,DV _,by simp,⟨none,hs⟩,rfl⟩,?_⟩;rintro i m ys σ' H' ⟨rfl,hi,rfl,⟨o,rfl⟩,rfl⟩
 by_cases hlt:i<xs.length
 ·refine .inr ⟨hgo i hlt,?_,λ x H2 y=>?_⟩
  ·rw [CZ];have h1:=Dz p (xs.take i);rw [Dm] at h1;omega
  ·obtain ⟨rfl,hx⟩:=hyld i x H2 hlt y;have tk:(xs.take (i+1)).filter p=(xs.take i).filter p++(if p x then [x] else []):=take_succ_filter p xs i x hx;have hm:x∈xs:=Df hx;show tt (some x::rest) H2 _;refine ht x hm _ ?_;cases hp:p x with
   | true=>
     refine gQ (he x hm hp _ ?_);refine ⟨xs.length - (i+1),by omega,rfl,hlt,?_,⟨_,rfl⟩,rfl⟩;rw [tk,hp,if_pos rfl,Dq];rfl
   | false=>
     refine ig ?_;refine ⟨xs.length - (i+1),by omega,rfl,hlt,?_,⟨_,rfl⟩,rfl⟩;rw [tk,hp,if_neg (by simp),Dd]
 ·have e:i=xs.length:=by omega
  subst e;refine .inl ⟨hstop,λ d hd=>?_⟩;rw [List.take_length];exact q d hd
theorem jC {d:Addr}{xs:List V}(hl:Ev tl σ H (.ref d)) (hx:aH K H d xs) (hz:xs.length<=sizeLine) (hs:dO src σ=none::rest) (p:V->Bool) (f:V->V)
  (ht:∀x∈xs,Tv tt (some x::rest) H (p x)) (he:∀x∈xs,p x=true->Ev te (some x::rest) H (f x)) (q:∀d',H d'=none->Q (.ref d') (upd H d' (.lst ((xs.filter p).map f)))):tComp (mG K tl) (gName 0) tt te src σ H Q:=
 hl _ ⟨d,rfl,⟨xs,hx⟩,kR hz hs p f (λ i hi=>⟨xs,xs[i],hx,C4 hi⟩) ⟨xs,hx,DS _⟩ (λ i v H' _ y=>⟨y.1,y.2 xs hx⟩) ht he q⟩
theorem fC {ta:TA}{n:Int}(hl:Av ta σ H [.int n]) (h0:0<=n) (hz:n.toNat<=sizeLine) (h1:n<2 ^ 62) (hs:dO src σ=none::rest) (p:V->Bool) (f:V->V)
  (ht:∀i:Nat,i<n.toNat->Tv tt (some (.int (0+(i:Int)))::rest) H (p (.int (0+(i:Int))))) (he:∀i:Nat,i<n.toNat->p (.int (0+(i:Int)))=true->Ev te (some (.int (0+(i:Int)))::rest) H (f (.int (0+(i:Int)))))
  (q:∀d',H d'=none->Q (.ref d') (upd H d' (.lst ((((List.range n.toNat).map λ (i:Nat)=>V.int (0+(i:Int))).filter p).map f)))):tComp (mF ta) (gName 0) tt te src σ H Q:=by
 have hin:∀x∈(List.range n.toNat).map λ (i:Nat)=>V.int (0+(i:Int)),∃i:Nat,i<n.toNat/\x=.int (0+(i:Int)):=λ x hx=>by obtain ⟨i,hi,rfl⟩:=C6.mp hx;exact ⟨i,Dr.mp hi,rfl⟩
 have hlen:((List.range n.toNat).map λ (i:Nat)=>V.int (0+(i:Int))).length=n.toNat:=by simp
 refine hl _ ⟨n,rfl,by omega,h1,kR (xs:=(List.range n.toNat).map λ (i:Nat)=>V.int (0+(i:Int))) (by rw [hlen];exact hz) hs p f (λ i hi=>by rw [hlen] at hi;exact hi) (by rw [hlen];exact DS _) (λ i v H' hi y=>⟨y.1,?_⟩) (λ x hx=>?_) (λ x hx hp=>?_) q⟩
 ·rw [hlen] at hi;rw [Db,Dv hi,y.2];rfl
 ·obtain ⟨i,hi,rfl⟩:=hin x hx;exact ht i hi
 ·obtain ⟨i,hi,rfl⟩:=hin x hx;exact he i hi hp
end
section
variable {K:Frag}{te to tv:TE}{t:TA}{c:TT}{u:TS}{D:cb}{σ:St}{H:Hp}{v x y:V}
theorem jy {C p:Addr}{m:Str}{sp:Sp}{vs:List V}(ho:Ev to σ H (.ref p)) (hi:mZ C m H p) (ht:Av t σ H vs) (h:∀Q:VK,Q x H->sp (.ref p::vs) H Q E0):Ev (kW C m sp to t) σ H x:=λ Q q=>ho _ ⟨hi,ht _ (h Q q)⟩
theorem oP {l:Addr}{xs:List V}(ho:Ev to σ H (.ref l)) (he:Ev te σ H y) (hl:H l=some (.lst xs)) (hz:xs.length<sizeLine) (h2:u D σ (upd H l (.lst (xs++[y])))):bC (gl (ou to te)) u D σ H:=ho _ ⟨⟨xs,hl⟩,he _ ⟨xs,hl,hz,h2⟩⟩
theorem qP {l:Addr}{xs:List V}(ho:Ev to σ H (.ref l)) (he:Ev te σ H y) (hl:H l=some (.lst xs)) (hz:xs.length<sizeLine) (h2:D.nx σ (upd H l (.lst (xs++[y])))):gl (ou to te) D σ H:=ho _ ⟨⟨xs,hl⟩,he _ ⟨xs,hl,hz,h2⟩⟩
theorem oO {f:Str}{p C dx:Addr}{fs:List (Str×V)}(h:Ev tv σ H v) (ho:Ev to σ H (.ref p)) (hp:H p=some (.ins C dx fs)) (hc:m5 K C) (hn:cz K C f) (hl:fs.length<1000) (h2:u D σ (upd H p (.ins C dx (putF f v fs)))):bC (o4 K to tv f) u D σ H:=h _ (ho _ ⟨p,C,dx,fs,rfl,hp,hc,hn,hl,h2⟩)
theorem oN {i:Nat}(h2:∀q,H q=none->u D (σ.set i (some (.ref q))) (upd H q (.lst []))):bC (tAsg (oH bY) (gName i)) u D σ H:=⟨DV _,λ q hq=>h2 q hq⟩
end
section
variable {K:Frag}{te to ta tb ti:TE}{t:TA}{c:TT}{σ:St}{H:Hp}{Q:VK}{R:Bool->Hp->Prop}{v x y:V}{vs:List V}{sp:Sp}
theorem evk (h:Ev te σ H v) (q:Q v H):te σ H Q:=h Q q
theorem g8 (h:Av t σ H vs) (q:sp vs H Q E0):eW sp t σ H Q:=h _ q
theorem lU (h:Av t σ H vs) (q:sp vs H (cy λ c H1=>R (!c) H1) E0):jV (de (eW sp t)) σ H R:=h _ q
theorem rZ {r:List V->Hp->VK->Prop}(h:Ev to σ H v) (q:r [v] H Q):cB r (aN to bY) σ H Q:=h _ q
theorem dS (ha:Ev ta σ H x) (hb:Ev tb σ H y) (q:∀p,H p=none->Q (.ref p) (upd H p (.tup [x,y]))):oE (aN ta (aN tb bY)) σ H Q:=ha _ (hb _ ⟨by show 2<=sizeLine;decide,q⟩)
end
section
variable {K:Frag}{te to ta tb:TE}{D:cb}{σ:St}{H:Hp}{Q:VK}{x y:V}
theorem A9 {l:Addr}(ho:Ev to σ H (.ref l)) (hl:∃xs,H l=some (.lst xs)) (q:te σ H λ y H2=> ∃xs,H2 l=some (.lst xs)/\xs.length<sizeLine/\D.nx σ (upd H2 l (.lst (xs++[y])))):gl (ou to te) D σ H:=ho _ ⟨hl,q⟩
theorem wc {d:Addr}{ys:List V}(ha:Ev ta σ H x) (hb:Ev tb σ H (.ref d)) (hd:aH K H d ys\/dQ K H d ys) (q:∀c,H c=none->∀t,(upd H c (.lst ys)) t=none->Q (.ref t) (upd (upd H c (.lst ys)) t (.tup [x,.ref c]))):oE (aN ta (aN (cB (kF K) (aN tb bY)) bY)) σ H Q:=
 ha _ (hb _ ⟨ys,hd,λ c hc=>⟨by show 2<=sizeLine;decide,λ t ht=>q c hc t ht⟩⟩)
end
end L2
namespace L2
open PySem PySem.Spec PyProof.Rows
def oI:Option Int->V
 | some n=>.int n
 | none=>.non
structure gj (K:Frag) (C:Addr):Prop where
 cl:m5 K C
 wide:cz K C "wide"
 high:cz K C "high"
 holes:cz K C "holes"
 firm:cz K C "firm"
def df (wi hi:Int) (ph pf:Addr):List (Str×V):=putF "firm" (.ref pf) (putF "holes" (.ref ph) (putF "high" (.int hi) (putF "wide" (.int wi) [])))
theorem rW (wi hi:Int) (ph pf:Addr):(df wi hi ph pf).lookup ("wide":Str)=some (.int wi):=by unfold df;rw [aD,if_neg (by decide+kernel),aD,if_neg (by decide+kernel),aD,if_neg (by decide+kernel),aD,if_pos rfl]
theorem rX (wi hi:Int) (ph pf:Addr):(df wi hi ph pf).lookup ("high":Str)=some (.int hi):=by unfold df;rw [aD,if_neg (by decide+kernel),aD,if_neg (by decide+kernel),aD,if_pos rfl]
theorem qA (wi hi:Int) (ph pf:Addr):(df wi hi ph pf).lookup ("holes":Str)=some (.ref ph):=by unfold df;rw [aD,if_neg (by decide+kernel),aD,if_pos rfl]
theorem rY (wi hi:Int) (ph pf:Addr):(df wi hi ph pf).lookup ("firm":Str)=some (.ref pf):=by unfold df;rw [aD,if_pos rfl]
theorem A8 (wi hi:Int) (ph pf:Addr) {m:Str}(h1:¬m="wide") (h2:¬m="high") (h3:¬m="holes") (h4:¬m="firm"):(df wi hi ph pf).lookup m=none:=by unfold df;rw [aD,if_neg h4,aD,if_neg h3,aD,if_neg h2,aD,if_neg h1];rfl
def firmL (wi hi:Int) (hs:List Int):List Bool:=(List.range (wi*hi).toNat).map λ (s:Nat)=> !decide ((s:Int)∈hs)
structure bF (K:Frag) (C:Addr) (H:Hp) (p:Addr) (wi hi:Int) (hs:List Int):Prop where
 ex:∃dx ph pf,H p=some (.ins C dx (df wi hi ph pf))/\H ph=some (.lst (hs.map V.int))/\H pf=some (.lst ((firmL wi hi hs).map V.bl))
 w1:1<=wi
 w8:wi<=8
 h1:1<=hi
 h8:hi<=8
 good:∀h∈hs,0<=h/\h<wi*hi
 srt:hs.Pairwise (·<=·)
 nd:hs.Nodup
section
variable {K:Frag}{C:Addr}{H H':Hp}{p:Addr}{wi hi:Int}{hs:List Int}
theorem bF.same (B:bF K C H p wi hi hs) (s:am H H'):bF K C H' p wi hi hs:=by obtain ⟨⟨dx,ph,pf,a,b,c⟩,w1,w8,h1,h8,g,sr,nd⟩:=B;exact ⟨⟨dx,ph,pf,s _ _ a,s _ _ b,s _ _ c⟩,w1,w8,h1,h8,g,sr,nd⟩
theorem bF.wide (B:bF K C H p wi hi hs) (D:gj K C):Fl K H p "wide" (.int wi):=by obtain ⟨dx,ph,pf,a,_,_⟩:=B.ex;exact ⟨C,dx,_,a,D.cl,D.wide,rW _ _ _ _⟩
theorem bF.high (B:bF K C H p wi hi hs) (D:gj K C):Fl K H p "high" (.int hi):=by obtain ⟨dx,ph,pf,a,_,_⟩:=B.ex;exact ⟨C,dx,_,a,D.cl,D.high,rX _ _ _ _⟩
theorem bF.firm (B:bF K C H p wi hi hs) (D:gj K C):∃pf,Fl K H p "firm" (.ref pf)/\H pf=some (.lst ((firmL wi hi hs).map V.bl)):=by obtain ⟨dx,ph,pf,a,_,c⟩:=B.ex;exact ⟨pf,⟨C,dx,_,a,D.cl,D.firm,rY _ _ _ _⟩,c⟩
theorem bF.holes (B:bF K C H p wi hi hs) (D:gj K C):∃ph,Fl K H p "holes" (.ref ph)/\H ph=some (.lst (hs.map V.int)):=by obtain ⟨dx,ph,pf,a,b,c⟩:=B.ex;exact ⟨ph,⟨C,dx,_,a,D.cl,D.holes,qA _ _ _ _⟩,b⟩
theorem bF.no (B:bF K C H p wi hi hs) {m:Str}(h1:¬m="wide":=by decide+kernel) (h2:¬m="high":=by decide+kernel) (h3:¬m="holes":=by decide+kernel) (h4:¬m="firm":=by decide+kernel):mZ C m H p:=by obtain ⟨dx,ph,pf,a,b,c⟩:=B.ex;exact ⟨dx,_,a,A8 _ _ _ _ h1 h2 h3 h4⟩
theorem bF.many (B:bF K C H p wi hi hs):1<=wi*hi/\wi*hi<=64:=by have a:=B.w1;have b:=B.w8;have c:=B.h1;have d:=B.h8;have e1:1*1<=wi*hi:=D8 a c (by omega) (by omega);have e2:wi*hi<=8*8:=D8 b d (by omega) (by omega);omega
theorem mJ {s:Int}(h0:0<=s) (h1:s<wi*hi):k4 ((firmL wi hi hs).map V.bl) s=some (.bl (!decide (s∈hs))):=by
 have e:s=((s.toNat:Nat):Int):=by omega
 have hl:s.toNat<(wi*hi).toNat:=by omega
 have:((firmL wi hi hs).map V.bl)[s.toNat]? =some (.bl (!decide (((s.toNat:Nat):Int)∈hs))):=by unfold firmL;rw [Db,Db,Dv hl];rfl
 have q:=fJ this;rw [<-e] at q;exact q
theorem kL:(firmL wi hi hs).length=(wi*hi).toNat:=by unfold firmL;simp
end
def mvd (wi hi:Int) (hs:List Int) (s ax up:Int):Option Int:=
 if 0<=s % wi+ax/\s % wi+ax<wi/\0<=s / wi+up/\s / wi+up<hi then (if (s / wi+up)*wi+(s % wi+ax)∈hs then none else some ((s / wi+up)*wi+(s % wi+ax))) else none
def sqK (wi s ax up:Int) (k:Nat):Int:=(s / wi+k*up)*wi+(s % wi+k*ax)
def okK (wi hi:Int) (hs:List Int) (s ax up:Int) (k:Nat):Prop:=0<=s % wi+k*ax/\s % wi+k*ax<wi/\0<=s / wi+k*up/\s / wi+k*up<hi/\¬sqK wi s ax up k∈hs
instance {wi hi:Int} {hs:List Int} {s ax up:Int} {k:Nat}:Decidable (okK wi hi hs s ax up k):=by unfold okK;infer_instance
structure cA (H:Hp) (kl:Addr) (es:List V):Prop where
 at_:H kl=some (.lst es)
 all:∀e∈es,∃(t f c:Addr) (zs:List Int),e=V.ref t/\t≠kl/\f≠kl/\c≠kl/\H t=some (.tup [.ref f,.ref c])/\H f=some (.lst (zs.map V.int))/\H c=some (.lst (zs.map V.int))
theorem cA.same {H H':Hp}{kl:Addr}{es:List V}(k:cA H kl es) (s:am H H'):cA H' kl es:=⟨s _ _ k.at_,λ e he=>by
 obtain ⟨t,f,c,zs,h1,h2,h3,h4,h5,h6,h7⟩:=k.all e he;exact ⟨t,f,c,zs,h1,h2,h3,h4,s _ _ h5,s _ _ h6,s _ _ h7⟩⟩
theorem cA.add {H H':Hp}{kl t f c:Addr}{es:List V}{zs:List Int}(k:cA H kl es) (s:am H H') (nt:t≠kl) (nf:f≠kl) (nc:c≠kl) (ht:H' t=some (.tup [.ref f,.ref c])) (hf:H' f=some (.lst (zs.map V.int))) (hc:H' c=some (.lst (zs.map V.int))):
  cA (upd H' kl (.lst (es++[.ref t]))) kl (es++[.ref t]):=⟨ac,λ e he=>by
 rcases De.mp he with h | h
 ·obtain ⟨t',f',c',zs',h1,h2,h3,h4,h5,h6,h7⟩:=k.all e h;exact ⟨t',f',c',zs',h1,h2,h3,h4,by rw [ak h2];exact s _ _ h5,by rw [ak h3];exact s _ _ h6,by rw [ak h4];exact s _ _ h7⟩
 ·have e1:e=.ref t:=by simpa using h
  exact ⟨t,f,c,zs,e1,nt,nf,nc,by rw [ak nt];exact ht,by rw [ak nf];exact hf,by rw [ak nc];exact hc⟩⟩
def vK:Sp:=λ vs H Q _=> ∃t a b:Int,vs=[.int t,.int a,.int b]/\Q (.bl (decide (a<=t/\t<=b))) H
def vJ:Sp:=λ vs H Q _=> ∃w s:Int,vs=[.int w,.int s]/\0<w/\Q (.int (s % w)) H
def vI:Sp:=λ vs H Q _=> ∃w s:Int,vs=[.int w,.int s]/\0<w/\w<100/\Q (.int (s / w)) H
def oQ:Sp:=λ vs H Q _=> ∃w c r:Int,vs=[.int w,.int c,.int r]/\-100<w/\w<100/\Q (.int (r*w+c)) H
def gF:Sp:=λ vs H Q _=> ∃(d:Addr) (m:Int) (hs:List Int),vs=[.ref d,.int m]/\H d=some (.lst (hs.map V.int))/\(∀h∈hs,0<=h/\h<m)/\hs.Nodup/\(hs.length:Int)<m/\m<=64/\∀H',am H H'->Q (.bl true) H'
def me (K:Frag) (C:Addr):Sp:=λ vs H Q _=> ∃(p:Addr) (wi hi:Int) (hs:List Int) (s ax up:Int),vs=[.ref p,.int s,.int ax,.int up]/\bF K C H p wi hi hs/\Q (oI (mvd wi hi hs s ax up)) H
structure CA (P:Program) (w:World) (K:Frag) (mg:Str->Option Value) (base:Heap):Prop where
 is_among:eK P w K mg base "is_among" ["thing","least","most"] 2 vK
structure CB (P:Program) (w:World) (K:Frag) (mg:Str->Option Value) (base:Heap):Prop where
 column_of:eK P w K mg base "column_of" ["wide","square"] 1 vJ
 row_of:eK P w K mg base "row_of" ["wide","square"] 1 vI
 square_at:eK P w K mg base "square_at" ["wide","column","row"] 1 oQ
structure CB2 (P:Program) (w:World) (K:Frag) (mg:Str->Option Value) (base:Heap):Prop extends CA P w K mg base where
 are_holes:eK P w K mg base "are_holes" ["thing","many"] 3 gF
end L2
namespace L2
open PySem PySem.Spec PyProof.Rows
section
variable {X:Cx}{pins:List (Addr×Obj)}{σ:St}{H:Hp}{s:Shared}{h':Heap}
theorem au.turned_laid {t':Nat}{e it a:Addr}{o:HO}(I:au X pins σ H s) (k:∀b ob,b≠e->b≠it->s.heap.get? b=some ob->h'.get? b=some ob) (he:eB X pins H e) (hi:eB X pins H it) (hp:s.heap.objs.size<=a) (new:bi X.prog X.w (upd H a o) h' a o):
  au X pins σ (upd H a o) {s with heap:=h',toks:=t'}:=by
 obtain ⟨e0,e1,e2,e3,e4,e5⟩:=he;obtain ⟨i0,i1,i2,i3,i4,i5⟩:=hi;have hn:H a=none:=I.hok.fresh hp;have ne:∀b u,H b=some u->b≠e:=λ b u q z=>by rw [z,e0] at q;cases q
 have nit:∀b u,H b=some u->b≠it:=λ b u q z=>by rw [z,i0] at q;cases q
 have kk:∀b ob,b∉[e,it]->s.heap.get? b=some ob->h'.get? b=some ob:=λ b ob hc q=>k b ob (λ z=>hc (by simp [z])) (λ z=>hc (by simp [z])) q;refine I.step (g':=s.gens) (d':=s.drawn) (ch:=[e,it]) (λ b hb=>?_) (λ b ob _ _ hc q _=>kk b ob hc q) (λ b ob _ _ hc q _=>⟨ob.slots,kk b ob hc q⟩)
  (λ b ob hc q n=>by rw [ak (DT (DW (Heap.lt_size q) hp))];exact n) (λ b ob hc q=>⟨ob,kk b ob hc q⟩) (λ b xs q=>by rw [ak (aj q hn)];exact q) (λ b ob u q=>by rw [ak (aj q hn)];exact q)
  (λ b ps q=>⟨#[],by rw [ak (aj q hn),q];simp⟩) (λ m hm=>?_) (λ b u q=>?_) I.bare
 ·rcases C1.mp hb with rfl | hb
  ·exact ⟨e3,e1,e4,e5⟩
  ·rw [C9.mp hb];exact ⟨i3,i1,i4,i5⟩
 ·obtain ⟨ob,es,ep,ho,r⟩:=hm;exact ⟨ob,es,ep,k _ ob (Ne.symm e1) (Ne.symm i1) ho,r⟩
 ·by_cases hb:b=a
  ·subst hb;rw [ac] at q;cases q;exact new
  ·rw [ak hb] at q;refine (I.hok b u q).stay (λ c v hc z=>k c v ?_ ?_ z) (λ c z=>by rw [ak (aj z hn)];exact z) λ c xs z=>by rw [ak (aj z hn)];exact z
   ·rcases hc with z | z
    ·rw [z];exact ne b u q
    ·exact ne c _ z
   ·rcases hc with z | z
    ·rw [z];exact nit b u q
    ·exact nit c _ z
theorem au.turned2 {t':Nat}{e it:Addr}(I:au X pins σ H s) (k:∀b ob,b≠e->b≠it->s.heap.get? b=some ob->h'.get? b=some ob) (he:eB X pins H e) (hi:eB X pins H it):au X pins σ H {s with heap:=h',toks:=t'}:=by
 obtain ⟨e0,e1,e2,e3,e4,e5⟩:=he;obtain ⟨i0,i1,i2,i3,i4,i5⟩:=hi;have ne:∀b u,H b=some u->b≠e:=λ b u q z=>by rw [z,e0] at q;cases q
 have nit:∀b u,H b=some u->b≠it:=λ b u q z=>by rw [z,i0] at q;cases q
 have kk:∀b ob,b∉[e,it]->s.heap.get? b=some ob->h'.get? b=some ob:=λ b ob hc q=>k b ob (λ z=>hc (by simp [z])) (λ z=>hc (by simp [z])) q;refine I.step (g':=s.gens) (d':=s.drawn) (ch:=[e,it]) (λ b hb=>?_) (λ b ob _ _ hc q _=>kk b ob hc q) (λ b ob _ _ hc q _=>⟨ob.slots,kk b ob hc q⟩)
  (λ _ _ _ _ n=>n) (λ b ob hc q=>⟨ob,kk b ob hc q⟩) (λ _ _ q=>q) (λ _ _ _ q=>q)
  (λ b ps q=>⟨#[],by rw [q];simp⟩) (λ m hm=>?_) (λ b u q=>?_) I.bare
 ·rcases C1.mp hb with rfl | hb
  ·exact ⟨e3,e1,e4,e5⟩
  ·rw [C9.mp hb];exact ⟨i3,i1,i4,i5⟩
 ·obtain ⟨ob,es,ep,ho,r⟩:=hm;exact ⟨ob,es,ep,k _ ob (Ne.symm e1) (Ne.symm i1) ho,r⟩
 ·refine (I.hok b u q).stay (λ c v hc z=>k c v ?_ ?_ z) (λ c z=>z) λ c xs z=>z
  ·rcases hc with z | z
   ·rw [z];exact ne b u q
   ·exact ne c _ z
  ·rcases hc with z | z
   ·rw [z];exact nit b u q
   ·exact nit c _ z
end
def Bd (K:Frag) (a:Addr):It:=
 ⟨λ i H=> ∃xs x,aH K H a xs/\xs[i]? =some x,λ i H x H'=> ∃t v,x=.ref t/\H t=none/\H'=upd H t (.tup [.int (i:Int),v])/\∀xs,aH K H a xs->xs[i]? =some v,λ i H=> ∃xs,aH K H a xs/\xs.length<=i⟩
theorem k9 {P:Program}{w:World}{K:Frag}{elts:List Expr}{k0:Nat}{pos:Pos}(a e it:Addr) (hne:e≠it):qC P w K (.Tuple elts k0 pos) (Bd K a) [e,it] e (λ i h=>(∃old,IsEnum h e it (i:Int) old)/\h.IsListIter it a i) where
 mem:=by simp
 obj:=λ i h st b hb=>by
  obtain ⟨⟨old,he⟩,o,ho,c,d⟩:=st
  rcases C1.mp hb with rfl | hb
  ·exact ⟨_,he,λ v z=>by cases z⟩
  ·rw [C9.mp hb];exact ⟨o,ho,λ v z=>by rw [d] at z;cases z⟩
 keep:=λ i h h' st k=>by obtain ⟨⟨old,he⟩,hi⟩:=st;exact ⟨⟨old,k e (by simp) _ he⟩,hi.at λ o x=>k it (by simp) o x⟩
 item:=by
  intro X hP hw hK hc i pins s σ H E I hf st hg;subst hP hw hK;obtain ⟨xs,x,hq,hx⟩:=hg;obtain ⟨its,rv,p,hz⟩:=I.list hq;obtain ⟨u,hu,ru⟩:=rv.get hx;obtain ⟨⟨old,he⟩,hit⟩:=st;have fe:=hf e (by simp);have fi:=hf it (by simp);obtain ⟨oL,hoL,hcL,nL,hdL⟩:=p.isList;have hai:a≠it:=λ z=>by subst z;obtain ⟨o',ho',hc',_⟩:=hit;rw [hoL] at ho';cases ho';rw [hcL] at hc';injection hc' with hz';exact absurd hz' (by decide)
  have hae:a≠e:=λ z=>by subst z;have he':s.heap.get? a=_:=he;rw [hoL] at he';cases he';injection hcL with hz';exact absurd hz' (by decide)
  have D:=Draws.list (prog:=X.prog) (w:=X.w) (A:=X.A.in1) (by show X.A.handled=none;exact I.ok.hd hc) it a hai its.toArray;have hlt:i<its.toArray.size:=by have:=(Dk.mp hu).1;simpa using this
  refine wpAny_pyNext_enum_itemD D he ⟨hit,p.isList⟩ hlt hne (by simp [hne,hae.symm]) λ x' h1 tk hP' ho hs' hT hsz hk=>?_;have ex:x'=u:=by have:its.toArray[i]? =some x':=hP';rw [List.getElem?_toArray,hu] at this;exact (Option.some.inj this).symm
  subst ex;refine ⟨_,rfl,wpAny_letOwnedTupleGo_enum ho λ h2 he2 sb=>?_⟩;have hlt2:e<s.heap.objs.size:=Heap.lt_size he;have kk:∀b ob,b≠e->b≠it->s.heap.get? b=some ob->h2.get? b=some ob:=λ b ob b1 b2 q=>(sb.2 b b1).trans (hk b ob b1 b2 q);have hT2:h2.get? s.heap.objs.size=some {cls:=.type "tuple",data:=.seq #[.int i tk,x']}:=(sb.2 _ (DZ hlt2)).trans hT;have new:bi X.prog X.w (upd H s.heap.objs.size (.tup [.int (i:Int),x])) h2 s.heap.objs.size (.tup [.int (i:Int),x]):=
   ⟨by show 2<=sizeLine;decide,[.int i tk,x'],.cons ⟨tk,rfl⟩ (.cons ru .nil),⟨_,hT2,rfl,_,rfl⟩⟩
  have I2:=I.turned_laid (t':=tk+1) kk fe fi (DS _) new;refine ⟨.ref s.heap.objs.size,_,I2,rfl,⟨_,x,rfl,I.hok.fresh (DS _),rfl,λ ys hy=>by rw [I.list_inj hy hq];exact hx⟩,⟨⟨_,by simpa using he2⟩,hs'.1.at λ o z=>(sb.2 it (Ne.symm hne)).trans z⟩,λ b hb=>?_⟩
  rcases C1.mp hb with rfl | hb
  ·rw [ak (DT hlt2)];exact fe.1
  ·rw [C9.mp hb];obtain ⟨o',ho',_⟩:=hit;rw [ak (DT (Heap.lt_size ho'))];exact fi.1
 done:=by
   intro X hP hw hK hc i pins s σ H E I hf st hg;subst hP hw hK;obtain ⟨xs,hq,hx⟩:=hg;obtain ⟨its,rv,p,hz⟩:=I.list hq;obtain ⟨⟨old,he⟩,hit⟩:=st;have fe:=hf e (by simp);have fi:=hf it (by simp);have hl:=rv.length;obtain ⟨oL,hoL,hcL,nL,hdL⟩:=p.isList;have hai:a≠it:=λ z=>by subst z;obtain ⟨o',ho',hc',_⟩:=hit;rw [hoL] at ho';cases ho';rw [hcL] at hc';injection hc' with hz';exact absurd hz' (by decide)
   have hT:s.TypeIs (.ref e) "enumerate":=⟨_,he,rfl⟩;unfold pyNext;refine wpAny_bind (wpAny_attempt (wpAny_callSpecial?_slot (name:=Str.ofString "__next__") hT F.slot_enumerate_next
    (wpAny_call_entry F.slot_enumerate_next hT F.entry_enumerate_next ?_ (F.args_enumerate_next_1 _))))
   show wpAny _ _ (field (.ref e) 2 >>= _) _ _ _;refine wpAny_bind (wpAny_field he rfl (x:=.ref it) rfl ?_);refine wpAny_bind (wpAny_nextOf_list_end (by show X.A.handled=none;exact I.ok.hd hc) hit p.isList (by simp;omega) λ h' x he' hx'=>?_);obtain ⟨o,ho,hcx⟩:=hx';refine wpAny_bind (wpAny_isInstance (T:="StopIteration") (b:=true) ⟨o,ho,hcx⟩ isSubtype_stop ?_);exact wpAny_pure ⟨rfl,I.turned2 (t':=s.toks) (λ b ob _ b2 q=>he' b ob b2 q) fe fi⟩
 self:=λ A i s Q E st h=>by obtain ⟨⟨old,he⟩,_⟩:=st;exact wpAny_pyIter_enum he h
end L2
namespace L2
open PySem PySem.Spec PyProof.Rows
def qE (x:Str):It:=
 ⟨λ i _=>i<x.cps.size,λ i H v H'=> ∃t c,v=.ref t/\H t=none/\x.cps.toList[i]? =some c/\H'=upd H t (.tup [.int (i:Int),.str ⟨#[c]⟩]),λ i _=>i=x.cps.size⟩
theorem iz {prog:Program}{w:World}{A:Around}(hh:A.handled=none) (it:Addr) (x:Str) (t:Tok):Draws prog w A it [it] x.cps.size (λ i v=> ∃c u,x.cps[i]? =some c/\v=.str ⟨#[c]⟩ u) (λ i h=>h.IsStrIter it (strIterType x) x t i):=by
 unfold strIterType;split
 ·exact Draws.strAscii hh it x t
 ·exact Draws.strWide hh it x t
theorem k8 {P:Program}{w:World}{K:Frag}{elts:List Expr}{k0:Nat}{pos:Pos}(e it:Addr) (x:Str) (t:Tok) (hne:e≠it):qC P w K (.Tuple elts k0 pos) (qE x) [e,it] e (λ i h=>(∃old,IsEnum h e it (i:Int) old)/\h.IsStrIter it (strIterType x) x t i) where
 mem:=by simp
 obj:=λ i h st b hb=>by
  obtain ⟨⟨old,he⟩,o,ho,c,d⟩:=st
  rcases C1.mp hb with rfl | hb
  ·exact ⟨_,he,λ v z=>by cases z⟩
  ·rw [C9.mp hb];exact ⟨o,ho,λ v z=>by rw [d] at z;cases z⟩
 keep:=λ i h h' st k=>by obtain ⟨⟨old,he⟩,o,ho,r⟩:=st;exact ⟨⟨old,k e (by simp) _ he⟩,o,k it (by simp) o ho,r⟩
 item:=by
  intro X hP hw hK hc i pins s σ H E I hf st hg;subst hP hw hK;obtain ⟨⟨old,he⟩,hit⟩:=st;have fe:=hf e (by simp);have fi:=hf it (by simp);have D:=iz (prog:=X.prog) (w:=X.w) (A:=X.A.in1) (by show X.A.handled=none;exact I.ok.hd hc) it x t;refine wpAny_pyNext_enum_itemD D he hit hg hne (by simp [hne]) λ x' h1 tk hP' ho hs' hT hsz hk=>?_;obtain ⟨c,u,hcx,rfl⟩:=hP';refine ⟨_,rfl,wpAny_letOwnedTupleGo_enum ho λ h2 he2 sb=>?_⟩;have hlt2:e<s.heap.objs.size:=Heap.lt_size he;have kk:∀b ob,b≠e->b≠it->s.heap.get? b=some ob->h2.get? b=some ob:=λ b ob b1 b2 q=>(sb.2 b b1).trans (hk b ob b1 b2 q);have hT2:h2.get? s.heap.objs.size=some {cls:=.type "tuple",data:=.seq #[.int i tk,.str ⟨#[c]⟩ u]}:=(sb.2 _ (DZ hlt2)).trans hT;have new:bi X.prog X.w (upd H s.heap.objs.size (.tup [.int (i:Int),.str ⟨#[c]⟩])) h2 s.heap.objs.size (.tup [.int (i:Int),.str ⟨#[c]⟩]):=
   ⟨by show 2<=sizeLine;decide,[.int i tk,.str ⟨#[c]⟩ u],.cons ⟨tk,rfl⟩ (.cons ⟨u,rfl⟩ .nil),⟨_,hT2,rfl,_,rfl⟩⟩
  have I2:=I.turned_laid (t':=tk+1) kk fe fi (DS _) new;have hs2:h2.IsStrIter it (strIterType x) x t (i+1):=by obtain ⟨o',ho',r⟩:=hs';exact ⟨o',(sb.2 it (Ne.symm hne)).trans ho',r⟩
  refine ⟨.ref s.heap.objs.size,_,I2,rfl,⟨_,c,rfl,I.hok.fresh (DS _),by rw [Er];exact hcx,rfl⟩,⟨⟨_,by simpa using he2⟩,hs2⟩,λ b hb=>?_⟩
  rcases C1.mp hb with rfl | hb
  ·rw [ak (DT hlt2)];exact fe.1
  ·rw [C9.mp hb];obtain ⟨o',ho',_⟩:=hit;rw [ak (DT (Heap.lt_size ho'))];exact fi.1
 done:=by intro X hP hw hK hc i pins s σ H E I hf st hg;subst hP hw hK;obtain ⟨⟨old,he⟩,hit⟩:=st;have hg:i=x.cps.size:=hg;subst hg;have fe:=hf e (by simp);have fi:=hf it (by simp);have D:=iz (prog:=X.prog) (w:=X.w) (A:=X.A.in1) (by show X.A.handled=none;exact I.ok.hd hc) it x t;exact wpAny_pyNext_enum_endD D he hit λ h' hx=>⟨rfl,I.turned2 (t':=s.toks) (λ b ob _ b2 q=>hx b ob b2 q) fe fi⟩
 self:=λ A i s Q E st h=>by obtain ⟨⟨old,he⟩,_⟩:=st;exact wpAny_pyIter_enum he h
section
variable {X:Cx}{p pos pos2:Pos}{a:Expr}{elts:List Expr}{k0:Nat}{ta:TE}
def pT (K:Frag) (ta:TE):TI:=λ σ H R=>ta σ H λ x H1=>match x with
 | .ref d=>(∃xs,aH K H1 d xs)/\R (Bd K d) H1
 | .str z=>R (qE z) H1
 | _=>False
theorem re (hm:X.mg "enumerate"=none) (ha:PE X a ta) (hg:Gl X "enumerate":=by rfl) (hs:starEach [a] X.env=[(false,eval a X.env)]:=by rfl):PI X (.Tuple elts k0 pos2) (.Call (.Name "enumerate" p) [a] [] pos) (pT X.K ta):=by
 intro pins s σ H R I h;have hA:PA X [a] (aN ta bY):=pa_cons ha pa_nil (by rw [hs];rfl);refine Call_ (d0 I hg hm jK (PyProof.Rows.callWith_type1 (bx (hA pos pins s σ H (λ vs H1=> ∃x,vs=[x]/\(match x with | .ref d=>(∃xs,aH X.K H1 d xs)/\R (Bd X.K d) H1 | .str z=>R (qE z) H1 | _=>False)) I ?_) λ us s1 ⟨vs,H1,I1,r1,x,e1,q1⟩=>?_) (by rw [hs];rfl) rfl) (by decide) (by decide))
 ·show ta σ H _;have e:(λ (x:V) (H1:Hp)=>match x with | .ref d=>(∃xs,aH X.K H1 d xs)/\R (Bd X.K d) H1 | .str z=>R (qE z) H1 | _=>False)=λ x H1=>bY σ H1 λ xs H2=> ∃y,x::xs=[y]/\(match y with | .ref d=>(∃xs,aH X.K H2 d xs)/\R (Bd X.K d) H2 | .str z=>R (qE z) H2 | _=>False):=by
   funext x H1;apply propext
   constructor
   ·intro q;exact ⟨x,rfl,q⟩
   ·rintro ⟨y,e,q⟩;have:x=y:=by injection e
    subst this;exact q
  rw [<-e];exact h
 ·subst e1;obtain ⟨u,rfl,ru⟩:=dz r1;cases x with
  | ref d=>
    obtain ⟨⟨xs,hq⟩,q⟩:=q1;cases ru;obtain ⟨its,rv,pl,hz⟩:=I1.list hq;refine call_enumerate_list pl.isList λ h' he hit hsz hk=>?_;have I2:au X pins σ H1 {s1 with heap:=h'}:=I1.kept (t':=s1.toks) hk;refine wpAny_pyIter_enum he ⟨s1.heap.objs.size+1,[s1.heap.objs.size+1,s1.heap.objs.size],_,_,H1,rfl,I2,k9 d _ _ (D6 _),⟨⟨_,he⟩,hit⟩,λ b hb=>?_,q⟩
    rcases C1.mp hb with rfl | hb
    ·exact I1.fpOk (DX _) (I1.hok.fresh (DX _))
    ·rw [C9.mp hb];exact I1.fpOk (DS _) (I1.hok.fresh (DS _))
  | str z=>
    obtain ⟨t,rfl⟩:=ru;refine call_enumerate_str λ h' he hit hsz hk=>?_;have I2:au X pins σ H1 {s1 with heap:=h'}:=I1.kept (t':=s1.toks) hk;refine wpAny_pyIter_enum he ⟨s1.heap.objs.size+1,[s1.heap.objs.size+1,s1.heap.objs.size],_,_,H1,rfl,I2,k8 _ _ z t (D6 _),⟨⟨_,he⟩,hit⟩,λ b hb=>?_,q1⟩
    rcases C1.mp hb with rfl | hb
    ·exact I1.fpOk (DX _) (I1.hok.fresh (DX _))
    ·rw [C9.mp hb];exact I1.fpOk (DS _) (I1.hok.fresh (DS _))
  | _=>exact q1.elim
theorem AK (K:Frag) (hm:X.mg "enumerate"=none) (ha:PE X a ta) (hg:Gl X "enumerate":=by rfl) (hs:starEach [a] X.env=[(false,eval a X.env)]:=by rfl) (hK:X.K=K:=by rfl):PI X (.Tuple elts k0 pos2) (.Call (.Name "enumerate" p) [a] [] pos) (pT K ta):=by subst hK;exact re hm ha hg hs
end
end L2
namespace L2
open PySem PySem.Spec PyProof.Rows
section
variable {X:Cx}
end
end L2
namespace L2
open PySem PySem.Spec PyProof.Rows
abbrev one (c:Nat):Str:=⟨#[c]⟩
section
variable {K:Frag}{σ rest:St}{H:Hp}{te ta tb tl:TE}{tt:TT}{R:Bool->Hp->Prop}{Q:VK}{c:Nat}{z:Str}{src:List (Option Nat)}
theorem vP:∀Q:Option Int->Hp->Prop,Q none H->eE σ H Q:=λ Q q=>q
theorem vQ {i:Int}(h:Ev te σ H (.int i)):∀Q:Option Int->Hp->Prop,Q (some i) H->iC te σ H Q:=λ Q q=>h _ q
end
section
variable {K:Frag}{σ:St}{H:Hp}{tb:TE}{t:TA}{op:CmpOp}{R:Bool->Hp->Prop}{vs:List V}{sp:Sp}
end
end L2
namespace L2
open PySem PySem.Spec PyProof.Rows
section
variable {K:Frag}{σ rest:St}{H:Hp}{te to ta tb tl:TE}{t:TA}{tt u:TT}{src:List (Option Nat)}{Q:VK}{R:Bool->Hp->Prop}{D:cb}{g:TG}{tB:TS}{v x y:V}{vs:List V}{sp:Sp}
theorem mO {b:Bool}(h:Ev te σ H (.bl b)):Ev (cB kH (aN te bY)) σ H (.int (if b then 1 else 0)):=λ Q q=>h _ q
theorem vL {d:Addr}{xs:List V}{lo hi:Option Int}{tl' th:TO}(ha:Ev ta σ H (.ref d)) (hl:∀Q:Option Int->Hp->Prop,Q lo H->tl' σ H Q) (hh:∀Q:Option Int->Hp->Prop,Q hi H->th σ H Q) (hx:aH K H d xs) (q:∀p,H p=none->Q (.ref p) (upd H p (.lst (gY xs lo hi)))):xn K ta tl' th σ H Q:=ha _ (hl _ (hh _ ⟨xs,hx,q⟩))
theorem Ax {ns:List Int}{i:Int}(h0:0<=i) (h1:i<ns.length):∃n:Int,k4 (ns.map V.int) i=some (.int n)/\n∈ns:=by
 have hlt:i.toNat<ns.length:=by omega
 have e:(ns.map V.int)[i.toNat]? =some (.int ns[i.toNat]):=by rw [Db,C4 hlt];rfl
 have q:=fJ e;have ei:((i.toNat:Nat):Int)=i:=by omega
 rw [ei] at q;exact ⟨_,q,List.getElem_mem hlt⟩
theorem AV {i j:Nat}{d:Addr}{a b:V}{R:St->Hp->Prop}(h:H d=some (.tup [a,b])) (q:R ((σ.set i (some a)).set j (some b)) H):rH K 2 (fv (gName i) (fv (gName j) pY)) (.ref d) σ H R:=⟨d,_,rfl,dQ.of h,rfl,_,_,rfl,_,_,rfl,rfl,q⟩
end
end L2
namespace L2
open PySem PySem.Spec PyProof.Rows
section
variable {κ:Type} [DecidableEq κ]
end
section
variable {prog:Program}{w:World}{A:Around}{R:Result->Shared->Prop}{I:Addr}{fp wr:List Addr}{G:Array GenState->Array GenState->Prop}{n:Nat}{Pt:Nat->Value->Prop}{St:Nat->Shared->Prop}{κ:Type} [DecidableEq κ] {knd:KeyKind prog w κ}
end
section
variable {prog:Program}{w:World}{A:Around}{E:Value->Shared->Prop}{s:Shared}{κ:Type} [DecidableEq κ] {knd:KeyKind prog w κ}
end
section
variable {X:Cx}
end
end L2
namespace L2
open PySem PySem.Spec PyProof.Rows
section
variable {X:Cx}
def anyA (K:Frag) (xs:List V) (H:Hp) (Q:VK):Prop:=match xs with
 | [.ref d]=> ∃ks:List Bool,aH K H d (ks.map V.bl)/\Q (.bl (ks.any id)) H
 | _=>False
end
def Thg (H:Hp):V->Prop
 | .non=>True
 | .bl _=>True
 | .int _=>True
 | .str z=>z.length<=1000
 | .ref a=>(∃xs,H a=some (.lst xs))\/(∃xs,H a=some (.tup xs))\/(∃kvs,H a=some (.dK kvs))
 | _=>False
def lG (T:BT) (H:Hp):V->Bool
 | .bl _=>cu .bool T
 | .int _=>cu .int T
 | .str _=>cu .str T
 | .ref a=>match H a with
   | some (.lst _)=>cu .list T
   | some (.tup _)=>cu .tuple T
   | some (.dK _)=>cu .dict T
   | _=>false
 | _=>false
def dR (H:Hp):V->Option (List V)
 | .ref a=>match H a with
   | some (.tup xs)=>some xs
   | _=>none
 | _=>none
def lstOf (H:Hp):V->Option (List V)
 | .ref a=>match H a with
   | some (.lst xs)=>some xs
   | _=>none
 | _=>none
def dF (H:Hp):Nat->V->Prop
 | 0,v=>Thg H v
 | n+1,v=>Thg H v/\∀xs,(dR H v=some xs\/lstOf H v=some xs)->∀x∈xs,dF H n x
theorem dF.thg {H:Hp}{n:Nat}{v:V}(h:dF H n v):Thg H v:=by
 cases n with
 | zero=>exact h
 | succ n=>exact h.1
def k6:V->Bool
 | .int _=>true
 | _=>false
def aV (v:V) (a b:Int):Bool:=match v with
 | .int i=>decide (a<=i/\i<=b)
 | _=>false
section
variable {K:Frag}{σ:St}{H H':Hp}{te ta tb:TE}{v:V}{T:BT}{ws:List Str}
theorem Thg.same (h:Thg H v) (s:am H H'):Thg H' v:=by
 cases v with
 | ref a=>
   rcases h with ⟨xs,e⟩ | ⟨xs,e⟩ | ⟨xs,e⟩
   ·exact .inl ⟨xs,s _ _ e⟩
   ·exact .inr (.inl ⟨xs,s _ _ e⟩)
   ·exact .inr (.inr ⟨xs,s _ _ e⟩)
 | _=>exact h
theorem lf (h:Thg H v) (s:am H H'):dR H' v=dR H v:=by
 cases v with
 | ref a=>
   rcases h with ⟨xs,e⟩ | ⟨xs,e⟩ | ⟨xs,e⟩<;>simp only [dR,e,s _ _ e]
 | _=>rfl
theorem gO (h:Thg H v) (s:am H H'):lstOf H' v=lstOf H v:=by
 cases v with
 | ref a=>
   rcases h with ⟨xs,e⟩ | ⟨xs,e⟩ | ⟨xs,e⟩<;>simp only [lstOf,e,s _ _ e]
 | _=>rfl
theorem dF.same {n:Nat}:∀{v:V},dF H n v->am H H'->dF H' n v:=by
 induction n with
 | zero=>intro v h s;exact Thg.same h s
 | succ n ih=>
   intro v h s;refine ⟨h.1.same s,λ xs hx x hm=>ih (h.2 xs ?_ x hm) s⟩;rw [lf h.1 s,gO h.1 s] at hx;exact hx
theorem lB {xs:List V}(h:lstOf H v=some xs):∃a,v=.ref a/\H a=some (.lst xs):=by
 cases v with
 | ref a=>
   simp only [lstOf] at h;split at h
   ·rename_i e;cases h;exact ⟨a,rfl,e⟩
   ·cases h
 | _=>cases h
theorem kM (h:Ev te σ H v) (t:Thg H v):Ev (xo T te) σ H (.bl (lG T H v)):=λ Q q=>h _ (by
 cases v with
 | ref a=>
   rcases t with ⟨xs,e⟩ | ⟨xs,e⟩ | ⟨xs,e⟩<;>(simp only [mB,e];simp only [lG,e] at q;exact q)
 | non=>exact q
 | bl b=>exact q
 | int b=>exact q
 | str b=>exact q
 | _=>exact t.elim)
theorem jS (t:Thg H v):(lG .int H v&& !lG .bool H v)=k6 v:=by
 cases v with
 | ref a=>rcases t with ⟨xs,e⟩ | ⟨xs,e⟩ | ⟨xs,e⟩<;>(simp only [lG,e];rfl)
 | non=>rfl
 | bl b=>rfl
 | int b=>rfl
 | str b=>rfl
 | _=>exact t.elim
theorem wQ (t:Thg H v):lG .list H v=(lstOf H v).isSome:=by
 cases v with
 | ref a=>rcases t with ⟨xs,e⟩ | ⟨xs,e⟩ | ⟨xs,e⟩<;>(simp only [lG,lstOf,e];rfl)
 | non=>rfl
 | bl b=>rfl
 | int b=>rfl
 | str b=>rfl
 | _=>exact t.elim
end
def dC:Sp:=λ vs H Q _=> ∃v,vs=[v]/\Thg H v/\Q (.bl (k6 v)) H
def fc:Sp:=λ vs H Q _=> ∃v a b,vs=[v,.int a,.int b]/\Thg H v/\Q (.bl (aV v a b)) H
structure RG0 (P:Program) (w:World) (K:Frag) (mg:Str->Option Value) (base:Heap):Prop where
 is_whole:eK P w K mg base "is_whole" ["thing"] 1 dC
end L2
namespace L2
open PySem PySem.Spec PyProof.Rows
section
variable {b k r t e:Addr}{st:Str}
end
section
variable {K:Frag}{C:Addr}{H H':Hp}{p b:Addr}{ks rs ts es:List V}{st:Str}
end
section
variable {H H':Hp}{v:V}{A B ws:List Str}
end
end L2
namespace L2
open PySem
theorem gb {N P:List Str}{sc:Scope}(a:sc.kind=.function:=by rfl) (b:sc.isCoroutine=false:=by rfl) (c:sc.isGenerator=false:=by rfl) (d:N.Nodup:=by decide+kernel) (e:N.take P.length=P:=by rfl) (f:∀x∈P,sc.names.lookup x=some .local\/sc.names.lookup x=some .cell:=by decide+kernel) (g:∀y∈sc.names,y.2≠.free:=by decide+kernel):aB N P sc:=⟨a,b,c,d,e,f,g⟩
end L2
namespace L2
open PySem PySem.Spec PyProof.Rows
section
variable {X:Cx}{a b:Expr}{ta tb:TE}{pos:Pos}
end
section
variable {K:Frag}{σ:St}{H:Hp}{ta tb te:TE}{v:V}{z:Str}{d:Addr}{ws:List Str}{i j:Int}
theorem lK (ha:Ev ta σ H (.int i)) (hb:Ev tb σ H (.int j)) (h:sj i j):Ev (eR .Pow ta tb) σ H (.int (i ^ j.toNat)):=λ Q q=>ha _ (hb _ ⟨h,q⟩)
end
end L2
namespace L2
open PySem PySem.Spec PyProof.Rows
section
variable {X:Cx}{a b:Expr}{ta tb:TE}{pos:Pos}
end
section
variable {X:Cx}{a b e o:Expr}{ta tb te to:TE}{pos p2:Pos}
end
section
variable {K:Frag}{te to ta tb ti:TE}{u:TS}{D:cb}{σ:St}{H:Hp}{Q:VK}{v:V}
theorem vO {l:Addr}{i:Int}{P:V->Hp->Prop}(h:∀Q:VK,(∀v H',P v H'->Q v H')->te σ H Q) (h2:∀v H',P v H'->Ev to σ H' (.ref l)/\Ev ti σ H' (.int i)/\∃xs,H' l=some (.lst xs)/\0<=i/\i<xs.length/\D.nx σ (upd H' l (.lst (xs.set i.toNat v)))):tAsg te (gSub to ti vM) D σ H:=
 h _ λ v H' p=>by obtain ⟨ho,hi,xs,hl,h0,h1,q⟩:=h2 v H' p;refine ho _ (hi _ ⟨l,xs,i,i.toNat,rfl,rfl,hl,?_,q⟩);unfold ixN;rw [if_pos h0,if_pos h1]
end
end L2
namespace L2
open PySem PySem.Spec PyProof.Rows
section
variable {prog:Program}{w:World}{A:Around}{E:Value->Shared->Prop}{s:Shared}{z TI TO i1 i2:Addr}{n1 n2 i:Nat}{P1 P2:Nat->Value->Prop}{S1 S2:Nat->Heap->Prop}{a b:Value}
end
section
variable {prog:Program}{w:World}{A:Around}{E:Value->Shared->Prop}{s:Shared}
end
end L2
namespace L2
open PySem PySem.Spec PyProof.Rows
section
variable {X:Cx}{pins:List (Addr×Obj)}{σ:St}{H:Hp}{s:Shared}{h':Heap}
end
section
variable {X:Cx}{p pos pos2:Pos}{a b:Expr}{elts:List Expr}{k0:Nat}{ta tb:TE}
end
section
variable {K:Frag}{σ rest:St}{H:Hp}{t:TA}{te:TE}{src:List (Option Nat)}{Q:VK}{x y:Str}
end
section
variable {K:Frag}{te ta tb:TE}{t ta':TA}{c:TT}{u e t1:TS}{D:cb}{σ:St}{H:Hp}{Q:VK}{R:List V->Hp->Prop}{v:V}
theorem aw (h:Ev te σ H v) (q:ta' σ H (λ xs H2=>R (v::xs) H2)):aN te ta' σ H R:=h _ q
theorem aZ (h:te σ H (λ x H1=>ta' σ H1 (λ xs H2=>R (x::xs) H2))):aN te ta' σ H R:=h
theorem bh (q:R [] H):bY σ H R:=q
theorem bS (q:t σ H (λ vs H2=>vs.length<=sizeLine/\∀p,H2 p=none->Q (.ref p) (upd H2 p (.lst vs)))):oH t σ H Q:=q
theorem mU (h:ta σ H λ x H1=>tb σ H1 λ y H2=>fI .Add x y H2 Q):eR .Add ta tb σ H Q:=h
theorem gD {a b:Addr}{xs ys:List V}(ha:H a=some (.lst xs)) (hb:H b=some (.lst ys)) (hz:xs.length+ys.length<=1000) (q:∀p,H p=none->Q (.ref p) (upd H p (.lst (xs++ys)))):fI .Add (.ref a) (.ref b) H Q:=by rw [pB];exact ⟨a,b,xs,ys,rfl,rfl,ha,hb,DU hz (by decide),q⟩
end
end L2
namespace L2
open PySem PySem.Spec PyProof.Rows
section
variable {X:Cx}
end
end L2
namespace L2
open PySem PySem.Spec PyProof.Rows
section
variable {X:Cx}{a e:Expr}{ta te tb:TE}{p p2 pos:Pos}
end
section
variable {K:Frag}{σ:St}{H:Hp}{ta tb te to:TE}{Q:VK}{i j:Int}
end
section
variable {K:Frag}{σ:St}{H:Hp}{ta tb te to:TE}{Q:VK}{c:TT}{t e:TS}{D:cb}
theorem rK {i:Int}(ha:Ev ta σ H (.int i)) (h:i.natAbs.log2<1920):Ev (cB oM (aN ta bY)) σ H (.str (toString i)):=λ Q q=>ha _ ⟨h,q⟩
end
section
variable {K:Frag}{ta:TA}{te tl:TE}{src:List (Option Nat)}{σ rest:St}{H:Hp}{Q:VK}
end
end L2
namespace L2
open PySem PySem.Spec PyProof.Rows
theorem rJ {K:Frag}{h:Heap}{C:Addr}{bmB:List Value}{newId:String}(X:K.In h) (q:EM K C bmB newId=true):
  ∃bm N nm qn bs hdct sn sub ab col dd k0 k1 k2 k3 k5 mN,h.get? C=some (excClassObj nm qn C N bs bm hdct sn sub ab col dd k0 k1 k2 k3 k5 newId)/\h.Ns N mN/\mN "__init__"=none/\OwnTail h bmB bm:=by
 unfold EM at q;split at q
 ·rename_i dd cd sl ho;split at q
  ·rename_i C' bm k0 k1 k2 k3 n k5 hm hs;simp only [Ef,beq_iff_eq,Ej] at q;obtain ⟨⟨⟨⟨⟨rfl,rfl⟩,hdel⟩,ht⟩,hok⟩,hni⟩:=q;obtain ⟨nm,bs,mro,ns,qn,hd,sn,sub,ab,col,del⟩:=cd;dsimp only at hm hdel hok hni;subst hm hdel;have hsl:sl= #[k0,k1,k2,k3,some (.builtin n),k5]:=by obtain ⟨l⟩:=sl;simp only at hs;rw [hs]
   subst hsl;exact ⟨bm,ns,nm,qn,bs,hd,sn,sub,ab,col,dd,k0,k1,k2,k3,k5,_,X _ _ ho,.of_isNs (PySem.W.isNs_of_in X hok),PySem.W.nsMap_none_of_in X hok hni,PySem.W.tail_of_in X ht⟩
  ·cases q
 ·cases q
def wg (ta:TA) (G:Hp->Prop):TS:=λ _ σ H=>ta σ H λ vs H1=>vs.length<=sizeLine/\G H1
theorem kr {X:Cx}{x:Str}{C:Addr}{e₀:Expr}{rest:List Expr}{np cpos pos:Pos}{ta:TA}{G:Hp->Prop}{bmB:List Value}{B newId initId:String}(FB:ExcBaseFacts B newId initId bmB) (hc:X.calm=true) (hg:Gl X x) (hm:X.mg x=some (.ref C))
  (q:EM X.K C bmB newId=true) (ha:PA X (e₀::rest) ta)
  (hx:∀pins σ H s h' e vs,au X pins σ H s->Heap.MadeExcOf s.heap h' e (.ref C) vs->G H->X.xe (.ref e) {s with heap:=h'})
  (he:starEach (e₀::rest) X.env=(false,eval e₀ X.env)::starEach rest X.env:=by rfl) (hpl:(backTo cpos (starEach rest X.env)).any (·.1)=false:=by rfl) (hdb:(x == ("__debug__":Str))=false:=by decide):
  PS X (.Raise (some (.Call (.Name x np) (e₀::rest) [] cpos)) none pos) (wg ta G):=by
 intro pins s σ H D I h;obtain ⟨tl,N,nm,qn,bs,hdct,sn,sub,ab,col,dd,k0,k1,k2,k3,k5,mN,hC,hN,hni,T⟩:=rJ I.ok.mod.kin q;refine wpAny_Raise_call_subT (C:=C) (nm:=nm) (q:=qn) (N:=N) (bs:=bs) (bm:=tl) (hdct:=hdct) (sn:=sn) (sub:=sub) (ab:=ab) (col:=col) (dd:=dd) (k0:=k0) (k1:=k1) (k2:=k2) (k3:=k3) (k5:=k5)
  FB (mN:=mN) (T.hasType FB.hasBase) (I.ok.hd hc) (by rw [he];show (false||(backTo cpos (starEach rest X.env)).any (·.1))=false;rw [hpl];rfl) hni (dL I hg hm ⟨rfl,?_⟩ hdb)
 have h2:=ha cpos pins s σ H _ I h;rw [he] at h2 ⊢;refine Calls.evalArgs_plain (bx h2 λ us s2 ⟨vs,H1,I1,r,z,g⟩=>?_);exact ⟨rfl,by rw [<-r.length];exact z,I1.bk _ _ hC,hN.keeps I1.bk,T.keeps I1.bk,λ h' e hm=>hx pins σ H1 s2 h' e us I1 hm g⟩
theorem bi.obj {P:Program}{w:World}{H:Hp}{h:Heap}{a:Addr}{o:HO}(x:bi P w H h a o):∃u,h.get? a=some u:=by
 cases o with
 | lst xs=>obtain ⟨_,_,_,_,e⟩:=x;exact ⟨_,e⟩
 | tup xs=>obtain ⟨_,_,_,o,e,_⟩:=x;exact ⟨o,e⟩
 | dK kvs=>obtain ⟨_,_,_,_,o,_,_,e,_⟩:=x;exact ⟨o,e⟩
 | dT kvs=>obtain ⟨_,_,_,_,o,_,_,e,_⟩:=x;exact ⟨o,e⟩
 | set S n=>obtain ⟨o,_,_,_,e,_⟩:=x;exact ⟨o,e⟩
 | ins C dx fs=>obtain ⟨_,_,_,e,_⟩:=x;exact ⟨_,e⟩
 | own y=>exact x
 | xd fs=>obtain ⟨_,⟨o,_,_,e,_⟩,_⟩:=x;exact ⟨o,e⟩
 | rng lo hi=>obtain ⟨_,_,_,e⟩:=x;exact ⟨_,e⟩
 | frz ob u=>obtain ⟨e,_⟩:=x;exact ⟨_,e⟩
 | tbl ps=>exact ⟨_,(show h.get? a=some _ from x)⟩
 | met f y=>exact ⟨_,(show h.get? a=some _ from x)⟩
 | ext φ=>obtain ⟨_,e,_⟩:=x;exact e
def Bn (P:Program) (w:World):m6:=λ outer H s E e s'=> ∃(a:Addr) (cls a0:Value) (B:Heap) (H':Hp),e=.ref a/\s'.os=s.os/\AllBare s'.gens/\s.heap.get? a=none/\H' a=none/\
 Heap.FlyingW B outer a cls a0 s'.heap/\gi P w H' B/\Un (e7 outer) [] H H' s.heap s'.heap/\(∀b o,s.heap.get? b=some o->H b=none->b∉e7 outer->B.get? b=some o)/\
 (∀b o,s.heap.get? b=some o->b∉e7 outer->∃o',B.get? b=some o')/\E cls none H'
theorem kG {P:Program}{w:World}{K:Frag}{mg:Str->Option Value}{base:Heap}{N:List Str}{qual:Str}{scope:Scope}{f:Addr}{cd:Value}{A:Around}{outer:List Env}{s:Shared}{H:Hp}{E:XK}{C:Addr}:
  ∀pins σ H1 s1 h' e vs,au (fB (Bn P w) P w K mg base N qual scope f cd A outer s H E) pins σ H1 s1->Heap.MadeExcOf s1.heap h' e (.ref C) vs->E (.ref C) none H1->
   (fB (Bn P w) P w K mg base N qual scope f cd A outer s H E).xe (.ref e) {s1 with heap:=h'}:=by
 intro pins σ H1 s1 h' e vs I hm hE;have fr:(A.deeper (envOfC qual scope s.heap.objs.size f cd)).frames=some (envOfC qual scope s.heap.objs.size f cd::outer):=I.ok.frames;have ST:s1.heap.FunFrames base (envOfC qual scope s.heap.objs.size f cd::outer):=I.stack;have BU:Un (e7 outer) [] H H1 s.heap s1.heap:=I.base;have hin:∀env∈(envOfC qual scope s.heap.objs.size f cd::outer),∀b,env.frame=some b->b∈e7 (envOfC qual scope s.heap.objs.size f cd::outer):=λ env he b hb=>Dl.mpr ⟨env,he,hb⟩;have sub:∀b,b∈e7 outer->b∈e7 (envOfC qual scope s.heap.objs.size f cd::outer):=λ b hb=>by obtain ⟨env,he,hf⟩:=Dl.mp hb;exact Dl.mpr ⟨env,C7 _ he,hf⟩
 have notin:∀b o,s.heap.get? b=some o->b∉e7 outer->b∉e7 (envOfC qual scope s.heap.objs.size f cd::outer):=λ b o q nb hb=>by
  obtain ⟨env,he,hf⟩:=Dl.mp hb
  rcases C1.mp he with rfl | he
  ·have:s.heap.objs.size=b:=Option.some.inj hf;rw [<-this] at q;exact absurd (Heap.lt_size q) (DY _)
  ·exact nb (Dl.mpr ⟨env,he,hf⟩)
 show wpAny _ _ (leaving _ _) _ _ _;refine wpAny_leaves_madeW (base:=E1 s1.heap (e7 (envOfC qual scope s.heap.objs.size f cd::outer))) fr rfl (λ b o q=>E2 _ q) (PySem.W.funFrames_hide ST hin) hm λ h2 t x1 x2 x3 x4=>?_;have data:∀b o,s1.heap.get? b=some o->b∈e7 outer->∃sl,h2.get? b=some {o with slots:=sl}:=λ b o q hb=>by obtain ⟨_,o',q',nd⟩:=ST.mem (sub b hb);rw [q] at q';cases q';exact x4 b o (hm.keeps b o q) nd
 refine ⟨e,_,_,_,H1,rfl,I.os,I.bare,?_,?_,x1,?_,⟨λ b o q n hb hx=>?_,λ b o q n hb hx=>?_,BU.free,λ b o q hx=>?_,BU.tups,BU.frzs,BU.tbls⟩,λ b o q n hb=>?_,λ b o q hb=>?_,hE⟩
 ·cases q:s.heap.get? e with
  | none=>rfl
  | some o=>
    obtain ⟨o',q'⟩:=BU.there e o q (by simp);rw [hm.new] at q';cases q'
 ·cases q:H1 e with
  | none=>rfl
  | some o=>
    obtain ⟨o',q'⟩:=(I.hok e o q).obj;rw [hm.new] at q';cases q'
 ·intro b o q;refine (I.hok b o q).stay (λ c v hc z=>EI _ z λ hb=>?_) (λ _ z=>z) λ _ _ z=>z;have fz:=I.stkFree c hb
  rcases hc with rfl | hc
  ·rw [q] at fz;cases fz
  ·rw [hc] at fz;cases fz
 ·exact x1.1 b o (EI _ (BU.keep b o q n hb hx) (notin b o q hb))
 ·obtain ⟨sl,q1⟩:=BU.slot b o q n hb hx;obtain ⟨sl',q2⟩:=data b _ q1 hb;exact ⟨sl',q2⟩
 ·obtain ⟨o',q1⟩:=BU.there b o q hx
  by_cases hb:b∈e7 outer
  ·obtain ⟨sl,q2⟩:=data b _ q1 hb;exact ⟨_,q2⟩
  ·exact ⟨o',x1.1 b o' (EI _ q1 (notin b o q hb))⟩
 ·exact EI _ (BU.keep b o q n hb (by simp)) (notin b o q hb)
 ·obtain ⟨o',q1⟩:=BU.there b o q (by simp);exact ⟨o',EI _ q1 (notin b o q hb)⟩
section
variable {X:Cx}{pins:List (Addr×Obj)}{σ:St}{H H':Hp}{s s':Shared}
abbrev Cx.hand (X:Cx) (e:Addr):Cx:={X with A:=X.A.mark (some (.ref e)),calm:=false}
theorem au.hand (I:au X pins σ H s) (e:Addr):au (X.hand e) pins σ H s:=
 ⟨⟨I.ok.mod,I.ok.kind,I.ok.glob,I.ok.blt,I.ok.above,I.ok.inj,I.ok.has,I.ok.cab,λ z=>(Bool.noConfusion z),I.ok.frames,I.ok.stk,I.ok.exf,I.ok.bs,I.ok.bsz,I.ok.noex,I.ok.exfs,I.ok.funs,I.ok.frf⟩,I.os,I.bare,I.base,I.loc,I.cell,I.free,I.freeC,I.pin,I.hok,I.len⟩
theorem au.unhand {e:Addr}(ok:X.Ok) (I:au (X.hand e) pins σ H s):au X pins σ H s:=⟨ok,I.os,I.bare,I.base,I.loc,I.cell,I.free,I.freeC,I.pin,I.hok,I.len⟩
theorem au.flown {a:Addr}{cls a0:Value}{B h5:Heap}(I:au X pins σ H s) (os:s'.os=s.os) (bare:AllBare s'.gens) (ff:s'.heap.FunFrames B X.stack) (fl:B.StaysIn h5) (hok:gi X.prog X.w H' B) (un:Un (e7 X.stack) [] H H' s.heap s'.heap) (u:s'.heap.UpToSlots h5)
  (c1:∀b o,s.heap.get? b=some o->H b=none->b∉e7 X.stack->B.get? b=some o) (c2:∀b o,s.heap.get? b=some o->b∉e7 X.stack->∃o',B.get? b=some o'):au X pins σ H' {s' with heap:=h5}:=by
 refine I.call' (s':={s' with heap:=h5}) (ch:=[]) os ⟨λ b o q n hb _=>fl b o (c1 b o q n hb),λ b o q n hb hx=>?_,un.free,λ b o q hx=>?_,un.tups,un.frzs,un.tbls⟩ (hok.kept fl) bare (λ b z=>absurd z (by simp))
 ·obtain ⟨sl,q1⟩:=un.slot b o q n hb hx;obtain ⟨_,o',q',nd⟩:=ff.mem hb;rw [q1] at q';cases q';obtain ⟨sl',q2⟩:=u b _ q1 nd;exact ⟨sl',q2⟩
 ·by_cases hb:b∈e7 X.stack
  ·obtain ⟨_,o',q',nd⟩:=ff.mem hb;obtain ⟨sl',q2⟩:=u b _ q' nd;exact ⟨_,q2⟩
  ·obtain ⟨o',q'⟩:=c2 b o q hb;exact ⟨o',fl b o' q'⟩
theorem au.forget {h':Heap}{m':Str->Option Value}{t':Nat}(I:au X pins σ H s) (hn':h'.Ns X.env.locals m') (hs:Heap.SameBut X.env.locals s.heap h'):au X pins (List.replicate X.N.length none) H {s with heap:=h',toks:=t'}:=by
 obtain ⟨m,hn,_⟩:=id I.loc;obtain ⟨oL,_,_,hoL,_⟩:=id hn;have old:∀b o,X.s₀.heap.get? b=some o->h'.get? b=s.heap.get? b:=λ b o e=>hs.2 b (DT (DW (Heap.lt_size e) I.ok.above));refine ⟨I.ok,I.os,I.bare,⟨λ b o e n hb hx=>?_,λ b o e n hb hx=>?_,I.base.free,λ b o e hx=>?_,I.base.tups,I.base.frzs,I.base.tbls⟩,⟨_,hn',λ j y v e1 e2 e3=>?_⟩,λ y c e=>?_,I.free,I.freeC,λ p hp=>?_,λ b ob e=>?_,by simp⟩
 ·exact (old b o e).trans (I.base.keep b o e n hb hx)
 ·obtain ⟨sl,e1⟩:=I.base.slot b o e n hb hx;exact ⟨sl,(old b o e).trans e1⟩
 ·obtain ⟨o',e1⟩:=I.base.there b o e hx;exact ⟨o',(old b o e).trans e1⟩
 ·rw [DK] at e2;split at e2<;>cases e2
 ·obtain ⟨w',z⟩:=I.cell y c e;exact ⟨w',z.sameBut hs (I.cne y c e)⟩
 ·obtain ⟨e,n,ne,nf,d⟩:=I.pin p hp;exact ⟨(hs.2 p.1 ne).trans e,n,ne,nf,d⟩
 ·refine (I.hok b ob e).stay (λ c w' hc q=>(hs.2 c ?_).trans q) (λ _ q=>q) λ _ _ q=>q;rintro rfl;have fz:=I.free
  rcases hc with z | hc
  ·rw [z,e] at fz;cases fz
  ·rw [hc] at fz;cases fz
end
section
variable {X:Cx}{e:Expr}{es:List Expr}{ta:TA}{ts:TS}{p pos bpos np hpos tpos:Pos}{sp:Sp}{k j i:Nat}{name xc n:Str}{ps:List Str}{C0:Addr}{b₀:Stmt}{suite:List Stmt}
end
end L2
namespace PySem.W
open PySem PySem.Spec PySem.Calls PyProof.Rows Builtin Builtin.ObjectAttr Builtin.Getset_descriptor
structure ExcC (K:Frag) (D:Addr):Prop where
 ga:findIn K (.ref D) "__getattribute__"=some (some (.builtin "BaseException.__getattribute__"))
 gh:findIn K (.ref D) "__getattr__"=some none
 ha:findIn K (.ref D) "__class__"=some (some (.builtin "object.__class__"))
 hn:specialIn K (.builtin "object.__class__") "__get__"=some (some (.builtin "getset_descriptor.__get__"))
 htk:takesIn K (.builtin "object.__class__")=some true
 hm:mroIn K D (.type "object")=some true
 hb:mroIn K D (.type "BaseException")=some true
 hc:(clsIn K D).isSome=true
section
variable {prog:Program}{w:World}{A:Around}{E:Value->Shared->Prop}{s:Shared}{K:Frag}{x D:Addr}{o:Obj}
theorem Be {M:Model}{h:Heap}(ho:h.get? x=some o) (hc:o.cls=.ref D):Looks M h (typeOf (.ref x)) (.ref D):=hc▸(Looks.ld ho).andThen .now
theorem Af {M:Model}{h:Heap}(F:ExcC K D) (X:K.In h):Looks M h (find (.ref x) (.ref D) "__class__") (.bind (.builtin "getset_descriptor.__get__") (.builtin "object.__class__")):=
 (looks_findIn X F.ha).andThen ((show Looks M h (getOf (some (.builtin "object.__class__"))) (some (.builtin "getset_descriptor.__get__")) from looks_specialIn X F.hn).andThen
  ((show Looks M h (dataDescriptor? (some (.builtin "object.__class__")) (some (.builtin "getset_descriptor.__get__"))) (some (.builtin "getset_descriptor.__get__",.builtin "object.__class__")) from (looks_takesIn X F.htk).andThen .now).andThen (Looks.tag .now)))
theorem m7 {R:Result->Shared->Prop}{tp:Value}(F:ExcC K D) (X:K.In s.heap) (ho:s.heap.get? x=some o) (hc:o.cls=.ref D) (h:R (.ok (.ret (.ref D))) s):
  codeAny (model prog w) A (.call (.builtin "getset_descriptor.__get__") ⟨[.builtin "object.__class__",.ref x,tp],[]⟩) R s:=by
 obtain ⟨hh,g,dr,t,os⟩:=s;have L0:=Be (M:=model prog w) ho hc;have L1:=looks_mroIn (M:=model prog w) X F.hm;refine codeAny_call_builtin KF.slot_gs.plain KF.entry_gs (KF.slot_gs.check _ _ _ _ _ _ _ _ KF.type_class (KF.args_gs _ _ _) ?_);unfold Builtin.«getset_descriptor.__get__» descrGet;rw [dga_obj];refine wpAny_bind (wpAny_pure ?_);unfold descrGetter descrCheckInstance descrNameAndClass isInstance;simp only [KF.owner_class]
 repeat lk
 refine ⟨Code.quiet_builtin _ (by decide+kernel),codeAny_builtin KF.entry_class ?_⟩;unfold Builtin.«object.__class__» shownTypeOf
 repeat lk
 first | exact h | (rw [hc];exact h) | skip
theorem v8 {M:Model}{nameV:Value}{Q:Unit->Shared->Prop}(F:ExcC K D) (X:K.In s.heap) (ho:s.heap.get? x=some o) (hc:o.cls=.ref D) (hq:Q () s):wpAny M A (checkBuiltinCall "BaseException.__getattribute__" ⟨[.ref x,nameV],[]⟩) Q E s:=by
 obtain ⟨hh,g,dr,t,os⟩:=s;have L0:=Be (M:=M) ho hc;have L1:=looks_mroIn (M:=M) X F.hb;have LI:Looks M hh (isInstance (.ref x) (.type "BaseException")) true:=L0.andThen L1;have hk:builtinKind "BaseException.__getattribute__"=some .slot:=by decide+kernel
 have hsplit:splitId "BaseException.__getattribute__"=some ("BaseException","__getattribute__"):=by decide+kernel
 have ha:=PySem.F.args_bexc_ga (.ref x) nameV;simp only [checkBuiltinCall,hk,hsplit];refine wpAny_bind (LI.at ?_)
 repeat (any_goals (first | assumption | wp_step))
theorem v7 {Q:Option Value->Shared->Prop}(F:ExcC K D) (X:K.In s.heap) (ho:s.heap.get? x=some o) (hc:o.cls=.ref D) (h:Q (some (.ref D)) {s with toks:=s.toks+1}):wpAny (model prog w) A (getAttr? (.ref x) "__class__") Q E s:=by obtain ⟨hh,g,d,t,os⟩:=s;have L0:=Be (M:=model prog w) ho hc;have L1:=looks_findIn (M:=model prog w) X F.ga;have L2:=looks_findIn (M:=model prog w) X F.gh;have L3:=Af (M:=model prog w) (x:=x) F X;unfold getAttr? getAttrBy? getAttrBy;refine wpAny_bind (wpAny_mkText (wpAny_bind (wpAny_attempt (wpAny_holding (wpAny_bind (L0.at (wpAny_bind (L1.at ?_))))))));dsimp only;rw [if_neg (λ z:(onTheHeap (Value.ref D)&&(Value.builtin "BaseException.__getattribute__" == Value.builtin "object.__getattribute__"))=true=>absurd (Ek.mp z).2 (by decide+kernel))];unfold getAttrByItsOwn hookBefore;rw [if_pos (show onTheHeap (Value.ref D)=true from rfl)];refine wpAny_bind (L2.at ?_);refine wpAny_bind (wpAny_attempt (wpAny_holding ?_));unfold callGetattribute;rw [if_neg (by decide)];unfold boundAndCalled;refine wpAny_bind (wpAny_of_eq (PySem.F.attr_ValueError.ga.bind (.ref x)) ?_);refine wpAny_call (codeAny_call_builtin PySem.F.attr_ValueError.ga.plain PySem.F.entry_bexc_ga (v8 F X ho hc ?_));unfold Builtin.«object.__getattribute__»;refine wpAny_bind (wpAny_pure ?_);refine wpAny_bind (wpAny_pure ?_);refine wpAny_bind (L0.at ?_);refine wpAny_bind (L3.at ?_);show wpAny _ _ (holding [_] (call (.builtin "getset_descriptor.__get__") [.builtin "object.__class__",.ref x,.ref D]) >>= ret) _ _ _;refine wpAny_bind (wpAny_holding (wpAny_call (m7 (s:=⟨hh,g,d,t+1,os⟩) F X ho hc ?_)));refine wpAny_pure ?_;exact handed_on rfl (wpAny_pure h)
theorem kitx_exc (F:ExcC K D):KitX K (.ref x) (.ref D) (λ h=> ∃o,h.get? x=some o/\o.cls=.ref D) where
 ty:=λ _ _ _ ⟨o,ho,hc⟩=>Be ho hc
 it:=λ _ _ X _=>by
  obtain ⟨cdD,hcD⟩:=Et.mp F.hc;unfold clsIn at hcD;split at hcD
  ·rename_i c' d' cd' sl' ho;intro A' Q' E' s' k q;unfold isType loadHead;exact wpAny_bind (wpAny_loadPart (k _ _ (X _ _ ho)) (wpAny_pure q))
  ·cases hcD
 ne:=λ h tp dd its n sl X htp=>by
  obtain ⟨cdD,hcD⟩:=Et.mp F.hc;refine Bool.eq_false_iff.mpr λ q=>?_;have e:D=tp:=Value.ref.inj (beq_iff_eq.mp q);subst e;unfold clsIn at hcD;split at hcD
  ·rename_i c' d' cd' sl' ho;have z:=(X _ _ ho).symm.trans htp;cases z
  ·cases hcD
 ca:=λ X ⟨o,ho,hc⟩ k=>v7 F X ho hc k
end
end PySem.W
namespace L2
open PySem PySem.Spec PyProof.Rows
section
variable {X:Cx}{a b e o:Expr}{ta tb te to:TE}{p pos:Pos}{es:List Expr}{t:TA}
structure gp (k:Nat) (A:Around):Prop where
 dp:A.depth+3*k+5<recursionLimit
 un:A.units+16*k+200<cLine
theorem bQ.n {k:Nat}{A:Around}(r:bQ k A) (v:Option Value):gp k (A.mark v):=⟨r.dp,r.un⟩
abbrev Cx.uncalm (X:Cx) (A:Around):Cx:={X with A:=A,calm:=false}
theorem au.uncalm {X:Cx}{pins:List (Addr×Obj)}{σ:St}{H:Hp}{s:Shared}(I:au X pins σ H s) {A:Around}(hA:A.frames=some X.stack):au (X.uncalm A) pins σ H s:=
 ⟨⟨I.ok.mod,I.ok.kind,I.ok.glob,I.ok.blt,I.ok.above,I.ok.inj,I.ok.has,I.ok.cab,λ z=>(Bool.noConfusion z),hA,I.ok.stk,I.ok.exf,I.ok.bs,I.ok.bsz,I.ok.noex,I.ok.exfs,I.ok.funs,I.ok.frf⟩,I.os,I.bare,I.base,I.loc,I.cell,I.free,I.freeC,I.pin,I.hok,I.len⟩
abbrev CN (P:Program) (w:World) (K:Frag) (mg:Str->Option Value) (base:Heap) (N:List Str) (qual:Str) (scope:Scope) (f:Addr) (cd:Value) (A:Around) (outer:List Env) (s:Shared) (H:Hp):Cx:=
 ((fB dN P w K mg base N qual scope f cd {A with handled:=none} outer s H E0).uncalm (A.deeper (envOfC qual scope s.heap.objs.size f cd))).nox
end
end L2
namespace L2
open PySem
def bO (e:Addr) (h:Heap):Prop:= ∃oe vs,h.get? e=some oe/\oe.data=.fields vs/\vs[2]? =some .none
section
variable {M:Model}{A:Around}{E:Value->Shared->Prop}{s:Shared}{base:Heap}{env:Env}{outer:List Env}{L e:Addr}{Q:Unit->Shared->Prop}
theorem bO.set1 {h:Heap}{v:Value}(c:bO e h):bO e (h.update e (Obj.mapFields (·.setIfInBounds 1 v))):=by obtain ⟨oe,vs,he,hd,h2⟩:=c;have hd3:=Obj.data_mapFields hd (·.setIfInBounds 1 v);exact ⟨_,_,Heap.get?_update_self (Obj.mapFields (·.setIfInBounds 1 v)) he (Obj.isFreed_of_fields hd3),hd3,by rw [Array.getElem?_setIfInBounds_ne (by decide)];exact h2⟩
theorem bO.other {h:Heap}{T:Addr}{f:Obj->Obj}(c:bO e h) (hn:T≠e):bO e (h.update T f):=by obtain ⟨oe,vs,he,hd,h2⟩:=c;exact ⟨oe,vs,by rw [Heap.get?_update_other _ _ hn];exact he,hd,h2⟩
theorem bO.push {h:Heap}{o:Obj}(c:bO e h):bO e (h.push o):=by obtain ⟨oe,vs,he,hd,h2⟩:=c;exact ⟨oe,vs,Heap.get?_push_of_some _ he,hd,h2⟩
theorem iB {oe:Obj}{vs:Array Value}{head:Value}{hadNext:Bool}(hfr:A.frames=some (env::outer)) (hl:s.heap.FunFrames base (env::outer)) (hf:env.frame=some L)
  (he:s.heap.get? e=some oe) (hd:oe.data=.fields vs) (h2:vs[2]? =some .none)
  (h:∀h',bO e h'->(∀b,b≠e->b∉(env::outer).filterMap (·.frame)->s.heap.get? b≠none->h'.get? b=s.heap.get? b)->(∃T oT ts oe' vs',T≠e/\h'.get? e=some oe'/\oe'.data=.fields vs'/\vs'[1]? =some (.ref T)/\h'.get? T=some oT/\oT.data=.fields ts/\3<ts.size)->Q () {s with heap:=h'}):
  wpAny M A (do let a<-frameOf env;let pl<-entryPlaceOf L hadNext;let b<-EntryCells.newEntry head a .none (rawInt L) .none pl;setField (.ref e) 1 b) Q E s:=by
 have hene:e∉(env::outer).filterMap (·.frame):=λ hm=>by obtain ⟨_,o,ho,hnf⟩:=hl.mem hm;rw [he] at ho;injection ho with ho;subst ho;exact hnf vs hd
 refine wpAny_bind (wpAny_frameOf_fun hfr hl hf λ h₁ hs₁=>?_);refine wpAny_bind (wpAny_entryPlaceOf λ pl hpl=>?_);unfold EntryCells.newEntry newFields;refine wpAny_bind (wpAny_newObj_type ?_ (hpl.sizeOk5 _ _ _ _ _));have he₁:h₁.get? e=some oe:=(hs₁.2.1 e hene).trans he;have c1:bO e h₁:=⟨oe,vs,he₁,hd,h2⟩;have hsz:2<vs.size:=(Ep.mp h2).1;have hTe:h₁.objs.size≠e:=DZ (Heap.lt_size he₁);refine wpAny_setField (Heap.get?_push_of_some _ he₁) hd (by omega) (h _ c1.push.set1 (λ b hb hnb hx=>?_) ?_)
 ·rw [Heap.get?_update_other _ _ (Ne.symm hb)];cases q:s.heap.get? b with
  | none=>exact absurd q hx
  | some o=>exact Heap.get?_push_of_some _ ((hs₁.2.1 b hnb).trans q)
 ·have hd3:=Obj.data_mapFields hd (·.setIfInBounds 1 (Value.ref h₁.objs.size));have hsz1:1<vs.size:=by omega
  have g3:=(Heap.get?_update_other (h₁.push {cls:=.type "traceback",dict:=none,data:=.fields ([head,.ref L,.none,rawInt L,.none]++(if pl.isEmpty then List.replicate 6 Value.none else pl)).toArray}) (Obj.mapFields (·.setIfInBounds 1 (Value.ref h₁.objs.size))) (Ne.symm hTe)).trans (Heap.get?_push_size h₁ rfl);refine ⟨h₁.objs.size,_,_,_,_,hTe,Heap.get?_update_self (Obj.mapFields (·.setIfInBounds 1 (Value.ref h₁.objs.size))) (Heap.get?_push_of_some _ he₁) (Obj.isFreed_of_fields hd3),hd3,?_,g3,rfl,?_⟩
  ·simp [hsz1]
  ·simp only [C2,Dc,Dh,List.length_nil]<;>omega
theorem e6 {oe:Obj}{vs:Array Value}{T:Addr}{oT:Obj}{ts:Array Value}{fl:Option Addr}(c:bO e s.heap) (he:s.heap.get? e=some oe) (hd:oe.data=.fields vs) (h1:vs[1]? =some (.ref T)) (hTe:T≠e) (hT:s.heap.get? T=some oT) (hdT:oT.data=.fields ts) (h3:3<ts.size)
  (h:∀h',bO e h'->Q () {s with heap:=h'}):wpAny M A (setFlight (.ref e) fl) Q E s:=by
 unfold setFlight;refine wpAny_bind (wpAny_field he hd h1 ?_);rw [if_pos (show (Value.ref T != Value.none)=true from by simp)];exact wpAny_setField hT hdT h3 (h _ (c.other hTe))
theorem oa {oe:Obj}{vs:Array Value}(hfr:A.frames=some (env::outer)) (hl:s.heap.FunFrames base (env::outer)) (hf:env.frame=some L) (he:s.heap.get? e=some oe) (hd:oe.data=.fields vs) (h1:vs[1]? =some .none) (h2:vs[2]? =some .none)
  (h:∀h',bO e h'->Q () {s with heap:=h'}):wpAny M A (leaving env (.ref e)) Q E s:=by
 unfold leaving noteFrame;simp only [hf];refine wpAny_bind (wpAny_bind (wpAny_field he hd h1 ?_));rw [if_neg (by decide)];refine iB hfr hl hf he hd h2 λ h' c k ⟨T,oT,ts,oe',vs',hTe,g1,g2,g3,g4,g5,g6⟩=>?_;exact e6 (s:={s with heap:=h'}) c g1 g2 g3 hTe g4 g5 g6 h
theorem qm {T:Addr}{oe oT:Obj}{vs ts:Array Value}(hfr:A.frames=some (env::outer)) (hl:s.heap.FunFrames base (env::outer)) (hf:env.frame=some L) (he:s.heap.get? e=some oe) (hd:oe.data=.fields vs) (h1:vs[1]? =some (.ref T)) (h2:vs[2]? =some .none) (hTe:T≠e) (hT:s.heap.get? T=some oT) (hdT:oT.data=.fields ts) (h3:ts[3]? =some .none)
  (h:∀h',bO e h'->Q () {s with heap:=h'}):wpAny M A (noteFrame (.ref e) env) Q E s:=by
 unfold noteFrame;simp only [hf];refine wpAny_bind (wpAny_field he hd h1 ?_);rw [if_pos (show (Value.ref T != Value.none)=true from by simp)];refine wpAny_bind (wpAny_field hT hdT h3 ?_);rw [if_neg (show¬((Value.none == rawInt L)=true) from by simp [rawInt])];refine wpAny_bind (wpAny_setField hT hdT (Ep.mp h3).1 ?_);have other:∀b,b≠T->(s.heap.update T (Obj.mapFields (·.setIfInBounds 3 Value.none))).get? b=s.heap.get? b:=λ b hb=>Heap.get?_update_other _ _ (Ne.symm hb);have noRecord:∀b o,s.heap.get? b=some o->(∀vs,o.data≠.fields vs)->b≠T:=λ b o hb hnf q=>by rw [q,hT] at hb;injection hb with hb;subst hb;exact hnf ts hdT
 exact iB (s:={s with heap:=s.heap.update T (Obj.mapFields (·.setIfInBounds 3 Value.none))}) hfr (hl.of_keeps λ b o hb hnf=>⟨o,(other b (noRecord b o hb hnf)).trans hb,rfl⟩) hf ((other e (Ne.symm hTe)).trans he) hd h2 λ h' c _ _=>h h' c
end
theorem ii:entryFor table "proto.unchain"=some Builtin.«proto.unchain» :=entryFor_of_tree (by kernel_rfl)
theorem hW:plainId "proto.unchain"=true:=by decide+kernel
section
variable {prog:Program}{w:World}{A:Around}{E:Value->Shared->Prop}{s:Shared}
theorem eU {α:Type}{a e:Addr}{o:Obj}{vs:Array Value}{Q:α->Shared->Prop}(hh:A.handled=some (.ref e)) (hc:bO e s.heap) (ho:s.heap.get? a=some o) (hd:o.data=.fields vs) (hz:2<vs.size) (hne:e≠a)
  (h:E (.ref a) {s with heap:=s.heap.update a (Obj.mapFields (·.setIfInBounds 2 (.ref e)))}):wpAny (model prog w) A (raiseNew (.ref a):Sem α) Q E s:=by
 obtain ⟨oe,ws,he,hde,h2⟩:=hc;simp only [raiseNew];refine wpAny_bind (wpAny_handled ?_);rw [hh];have hn:(Value.ref e != Value.ref a)=true:=by simp only [bne_iff_ne,ne_eq];intro z;exact hne (Value.ref.inj z)
 dsimp only;rw [if_pos hn];refine wpAny_bind (wpAny_holding (wpAny_runValue (codeAny_builtin ii ?_)));rw [Around.under_plainId hW _];unfold Builtin.«proto.unchain»;dsimp only;refine wpAny_bind (wpAny_field he hde h2 ?_);rw [if_pos (show (Value.none == Value.none)=true from rfl)];refine wpAny_bind (wpAny_pure ?_);refine wpAny_pure ?_;simp only [updateField];refine wpAny_bind (wpAny_bind (wpAny_load ho ?_));rw [hd];dsimp only;rw [if_pos hz];exact wpAny_update ho (wpAny_throw h)
theorem gN {e it l:Addr}{i:Nat}{items:Array Value}{Q:Option Value->Shared->Prop}(hh:A.handled=some (.ref e)) (hc:bO e s.heap) (hne:it≠e)
  (hit:s.heap.IsListIter it l i) (hl:s.heap.IsList l items) (hx:items[i]? =none)
  (hQ:∀h',Heap.ExtBut it s.heap h'->Q none {s with heap:=h'}):wpAny (model prog w) A (pyNext (.ref it)) Q E s:=by
 obtain ⟨o,ho,hc',hd⟩:=id hit;obtain ⟨ol,hol,_,nl,hdl⟩:=hl;unfold pyNext;refine wpAny_bind (wpAny_attempt (wpAny_callSpecial?_slot (name:=Str.ofString "__next__") hit.typeIs slot_listiter_next
  (wpAny_call_entry slot_listiter_next hit.typeIs entry_listiter_next ?_ (args_listiter_next _))))
 show wpAny _ _ (field (.ref it) 0 >>= _) _ _ s;refine wpAny_bind (wpAny_field ho hd (x:=.ref l) rfl ?_);show wpAny _ _ (if (Value.ref l == Value.none)=true then _ else _) _ _ s;rw [if_neg (show¬((Value.ref l == Value.none)=true) from Ee)];show wpAny _ _ (field (.ref it) 1 >>= _) _ _ s;refine wpAny_bind (wpAny_field ho hd (x:=.int i 0) rfl ?_);show wpAny _ _ (seqItems? (.ref l) >>= _) _ _ s;refine wpAny_bind (wpAny_seqItems hol hdl ?_);simp only [Eb,hx];refine wpAny_bind (wpAny_rule (wpAny_bind (wpAny_setField ho hd (by simp) ?_)));show wpAny _ _ (newExc (.type "StopIteration") [] >>= _) _ _ _;refine wpAny_bind ?_;simp only [newExc,newTuple];refine wpAny_bind (wpAny_newObj_type ?_ (by size_fits));refine wpAny_bind (m:=firstArgMember _ _) (wpAny_of_eq (a:=Value.none) (by first | rfl | (simp only [firstArgMember];rfl)) ?_)
 refine wpAny_newObj_type ?_ (by size_fits);have c3:bO e ((s.heap.update it (Obj.mapFields λ x=>x.setIfInBounds 0 Value.none)).push {cls:=.type "tuple",data:=.seq #[]}):=(hc.other hne).push;have ne:e≠((s.heap.update it (Obj.mapFields λ x=>x.setIfInBounds 0 Value.none)).push {cls:=.type "tuple",data:=.seq #[]}).objs.size:=by obtain ⟨oe,_,he,_⟩:=c3;exact DT (Heap.lt_size he)
 refine eU (e:=e) (show A.in1.handled=some (.ref e) from hh) c3.push (Heap.get?_push_size _ rfl) rfl (by simp;omega) ne ?_;refine wpAny_bind (wpAny_isInstance (T:="StopIteration") (b:=true) ⟨_,Heap.get?_update_self _ (Heap.get?_push_size _ rfl) (Obj.isFreed_of_fields (Obj.data_mapFields (by rfl) _)),Obj.cls_mapFields _ _⟩ isSubtype_stop ?_);refine wpAny_pure (hQ _ λ b ob hb q=>?_);have q2:((s.heap.update it (Obj.mapFields λ x=>x.setIfInBounds 0 Value.none)).push {cls:=.type "tuple",data:=.seq #[]}).get? b=some ob:=Heap.get?_push_of_some _ (by rw [Heap.get?_update_other _ _ (Ne.symm hb)];exact q);rw [Heap.get?_update_other _ _ (λ z=>absurd (Heap.lt_size q2) (by rw [<-z];exact DY _))];exact Heap.get?_push_of_some _ q2
theorem ie {e it l:Addr}{i:Nat}{items:Array Value}{Q:Option Value->Shared->Prop}(hh:A.handled=some (.ref e)) (hc:bO e s.heap) (hne:it≠e)
  (hit:s.heap.IsTupleIter it l i) (hl:s.heap.IsTuple l items) (hx:items[i]? =none)
  (hQ:∀h',Heap.ExtBut it s.heap h'->Q none {s with heap:=h'}):wpAny (model prog w) A (pyNext (.ref it)) Q E s:=by
 obtain ⟨o,ho,hc',hd⟩:=id hit;obtain ⟨ol,hol,_,nl,hdl⟩:=hl;unfold pyNext;refine wpAny_bind (wpAny_attempt (wpAny_callSpecial?_slot (name:=Str.ofString "__next__") hit.typeIs F.slot_tuple_iterator_next
  (wpAny_call_entry F.slot_tuple_iterator_next hit.typeIs F.entry_tuple_iterator_next ?_ (F.args_tuple_iterator_next_1 _))))
 show wpAny _ _ (field (.ref it) 0 >>= _) _ _ s;refine wpAny_bind (wpAny_field ho hd (x:=.ref l) rfl ?_);show wpAny _ _ (if (Value.ref l == Value.none)=true then _ else _) _ _ s;rw [if_neg (show¬((Value.ref l == Value.none)=true) from Ee)];show wpAny _ _ (field (.ref it) 1 >>= _) _ _ s;refine wpAny_bind (wpAny_field ho hd (x:=.int i 0) rfl ?_);show wpAny _ _ (seqItems? (.ref l) >>= _) _ _ s;refine wpAny_bind (wpAny_seqItems hol hdl ?_);simp only [Eb,hx];refine wpAny_bind (wpAny_rule (wpAny_bind (wpAny_setField ho hd (by simp) ?_)));show wpAny _ _ (newExc (.type "StopIteration") [] >>= _) _ _ _;refine wpAny_bind ?_;simp only [newExc,newTuple];refine wpAny_bind (wpAny_newObj_type ?_ (by size_fits));refine wpAny_bind (m:=firstArgMember _ _) (wpAny_of_eq (a:=Value.none) (by first | rfl | (simp only [firstArgMember];rfl)) ?_)
 refine wpAny_newObj_type ?_ (by size_fits);have c3:bO e ((s.heap.update it (Obj.mapFields λ x=>x.setIfInBounds 0 Value.none)).push {cls:=.type "tuple",data:=.seq #[]}):=(hc.other hne).push;have ne:e≠((s.heap.update it (Obj.mapFields λ x=>x.setIfInBounds 0 Value.none)).push {cls:=.type "tuple",data:=.seq #[]}).objs.size:=by obtain ⟨oe,_,he,_⟩:=c3;exact DT (Heap.lt_size he)
 refine eU (e:=e) (show A.in1.handled=some (.ref e) from hh) c3.push (Heap.get?_push_size _ rfl) rfl (by simp;omega) ne ?_;refine wpAny_bind (wpAny_isInstance (T:="StopIteration") (b:=true) ⟨_,Heap.get?_update_self _ (Heap.get?_push_size _ rfl) (Obj.isFreed_of_fields (Obj.data_mapFields (by rfl) _)),Obj.cls_mapFields _ _⟩ isSubtype_stop ?_);refine wpAny_pure (hQ _ λ b ob hb q=>?_);have q2:((s.heap.update it (Obj.mapFields λ x=>x.setIfInBounds 0 Value.none)).push {cls:=.type "tuple",data:=.seq #[]}).get? b=some ob:=Heap.get?_push_of_some _ (by rw [Heap.get?_update_other _ _ (Ne.symm hb)];exact q);rw [Heap.get?_update_other _ _ (λ z=>absurd (Heap.lt_size q2) (by rw [<-z];exact DY _))];exact Heap.get?_push_of_some _ q2
end
end L2
namespace PySem
theorem Runs.det {M:Model}{Γ:Ctx}{p:Pos}{t:Sem Fin}{fs:List Frame}{s s':Shared}{e:End}(h:Runs M Γ p t fs s e s'):∀{e2:End}{s2:Shared},Runs M Γ p t fs s e2 s2->e=e2/\s'=s2:=by
 induction h with
 | done=>intro e2 s2 h2;cases h2;exact ⟨rfl,rfl⟩
 | raise=>intro e2 s2 h2;cases h2;exact ⟨rfl,rfl⟩
 | again _ _ ih=>intro e2 s2 h2;cases h2;rename_i h2;exact ih h2
 | rule _ ih=>intro e2 s2 h2;cases h2;rename_i h2;exact ih h2
 | «at» _ ih=>intro e2 s2 h2;cases h2;rename_i h2;exact ih h2
 | load hg _ ih=>intro e2 s2 h2;cases h2;rename_i hg2 h2;rw [hg] at hg2;cases hg2;exact ih h2
 | update _ _ ih=>intro e2 s2 h2;cases h2;rename_i h2;exact ih h2
 | loadIfAlive _ ih=>intro e2 s2 h2;cases h2;rename_i h2;exact ih h2
 | point _ ih=>intro e2 s2 h2;cases h2;rename_i h2;exact ih h2
 | alloc _ ih=>intro e2 s2 h2;cases h2;rename_i h2;exact ih h2
 | fresh _ ih=>intro e2 s2 h2;cases h2;rename_i h2;exact ih h2
 | ask _ ih=>intro e2 s2 h2;cases h2;rename_i h2;exact ih h2
 | choose _ _ ih=>intro e2 s2 h2;cases h2;rename_i h2;exact ih h2
 | os _ ih=>intro e2 s2 h2;cases h2;rename_i h2;exact ih h2
 | handled _ ih=>intro e2 s2 h2;cases h2;rename_i h2;exact ih h2
 | genState hg _ ih=>intro e2 s2 h2;cases h2;rename_i hg2 h2;rw [hg] at hg2;cases hg2;exact ih h2
 | stack _ ih=>intro e2 s2 h2;cases h2;rename_i h2;exact ih h2
 | thread _ ih=>intro e2 s2 h2;cases h2;rename_i h2;exact ih h2
 | newGen _ ih=>intro e2 s2 h2;cases h2;rename_i h2;exact ih h2
 | call _ _ ih1 ih2=>
   intro e2 s2 h2;cases h2 with
   | call a b=>obtain ⟨x,rfl⟩:=ih1 a;cases x;exact ih2 b
   | callSusp a=>obtain ⟨x,_⟩:=ih1 a;cases x
 | callSusp _ ih=>
   intro e2 s2 h2;cases h2 with
   | call a b=>obtain ⟨x,_⟩:=ih a;cases x
   | callSusp a=>obtain ⟨x,rfl⟩:=ih a;cases x;exact ⟨rfl,rfl⟩
 | yield=>intro e2 s2 h2;cases h2;exact ⟨rfl,rfl⟩
 | resumeFresh hg _ _ _ ih1 ih2=>
   intro e2 s2 h2;cases h2 with
   | resumeFresh hg2 a _ b=>rw [hg] at hg2;cases hg2;obtain ⟨rfl,rfl⟩:=ih1 a;exact ih2 b
   | resumeSuspended hg2=>rw [hg] at hg2;cases hg2
   | resumeJustStarted hg2 hv=>exact absurd rfl hv
   | resumeRunning hg2=>rw [hg] at hg2;cases hg2
   | resumeFinished hg2=>rw [hg] at hg2;cases hg2
 | resumeSuspended hg _ _ _ ih1 ih2=>
   intro e2 s2 h2;cases h2 with
   | resumeFresh hg2=>rw [hg] at hg2;cases hg2
   | resumeSuspended hg2 a _ b=>rw [hg] at hg2;cases hg2;obtain ⟨rfl,rfl⟩:=ih1 a;exact ih2 b
   | resumeJustStarted hg2=>rw [hg] at hg2;cases hg2
   | resumeThrowFresh hg2=>rw [hg] at hg2;cases hg2
   | resumeRunning hg2=>rw [hg] at hg2;cases hg2
   | resumeFinished hg2=>rw [hg] at hg2;cases hg2
 | resumeJustStarted hg hv _ ih=>
   intro e2 s2 h2;cases h2 with
   | resumeFresh hg2=>exact absurd rfl hv
   | resumeSuspended hg2=>rw [hg] at hg2;cases hg2
   | resumeJustStarted _ _ a=>exact ih a
   | resumeRunning hg2=>rw [hg] at hg2;cases hg2
   | resumeFinished hg2=>rw [hg] at hg2;cases hg2
 | resumeThrowFresh hg _ ih=>
   intro e2 s2 h2;cases h2 with
   | resumeSuspended hg2=>rw [hg] at hg2;cases hg2
   | resumeThrowFresh _ a=>exact ih a
   | resumeRunning hg2=>rw [hg] at hg2;cases hg2
   | resumeFinished hg2=>rw [hg] at hg2;cases hg2
 | resumeRunning hg _ ih=>
   intro e2 s2 h2;cases h2 with
   | resumeFresh hg2=>rw [hg] at hg2;cases hg2
   | resumeSuspended hg2=>rw [hg] at hg2;cases hg2
   | resumeJustStarted hg2=>rw [hg] at hg2;cases hg2
   | resumeThrowFresh hg2=>rw [hg] at hg2;cases hg2
   | resumeRunning _ a=>exact ih a
   | resumeFinished hg2=>rw [hg] at hg2;cases hg2
 | resumeFinished hg _ ih=>
   intro e2 s2 h2;cases h2 with
   | resumeFresh hg2=>rw [hg] at hg2;cases hg2
   | resumeSuspended hg2=>rw [hg] at hg2;cases hg2
   | resumeJustStarted hg2=>rw [hg] at hg2;cases hg2
   | resumeThrowFresh hg2=>rw [hg] at hg2;cases hg2
   | resumeRunning hg2=>rw [hg] at hg2;cases hg2
   | resumeFinished _ a=>exact ih a
 | segRet _ _ ih1 ih2=>
   intro e2 s2 h2;cases h2 with
   | segRet a b=>obtain ⟨x,rfl⟩:=ih1 a;cases x;exact ih2 b
   | segSuspOut _ a=>obtain ⟨x,_⟩:=ih1 a;cases x
   | segSuspGen _ a=>obtain ⟨x,_⟩:=ih1 a;cases x
 | segGen _ _ ih1 ih2=>
   intro e2 s2 h2;cases h2 with
   | segGen a b=>obtain ⟨x,rfl⟩:=ih1 a;cases x;exact ih2 b
   | segSuspOut _ a=>obtain ⟨x,_⟩:=ih1 a;cases x
   | segSuspGen _ a=>obtain ⟨x,_⟩:=ih1 a;cases x
 | segSuspOut hs _ ih=>
   intro e2 s2 h2;cases h2 with
   | segRet a b=>obtain ⟨x,_⟩:=ih a;cases x
   | segGen a b=>obtain ⟨x,_⟩:=ih a;cases x
   | segSuspOut _ a=>obtain ⟨x,rfl⟩:=ih a;cases x;exact ⟨rfl,rfl⟩
   | segSuspGen hs2=>rw [hs] at hs2;cases hs2
 | segSuspGen hs _ _ _ ih1 ih2=>
   intro e2 s2 h2;cases h2 with
   | segRet a b=>obtain ⟨x,_⟩:=ih1 a;cases x
   | segGen a b=>obtain ⟨x,_⟩:=ih1 a;cases x
   | segSuspOut hs2=>rw [hs] at hs2;cases hs2
   | segSuspGen hs2 a _ b=>rw [hs] at hs2;cases hs2;obtain ⟨x,rfl⟩:=ih1 a;cases x;exact ih2 b
theorem Sem.wp_and {α:Type}(M:Model) (Γ:Ctx) (t:Sem α):∀(Q Q':α->Pos->Shared->Prop) (E E':Value->Pos->Shared->Prop) (p:Pos) (s:Shared),wp M Γ t Q E p s->wp M Γ t Q' E' p s->
  wp M Γ t (λ a p' s'=>Q a p' s'/\Q' a p' s') (λ e p' s'=>E e p' s'/\E' e p' s') p s:=by
 induction t with
 | pure a=>intro Q Q' E E' p s h h';exact ⟨h,h'⟩
 | raise e=>intro Q Q' E E' p s h h';exact ⟨h,h'⟩
 | unsupported _=>intro Q Q' E E' p s h h';exact h
 | finish _=>intro Q Q' E E' p s h h';exact h
 | rule _ k ih=>intro Q Q' E E' p s h h';exact ih () Q Q' E E' p s h h'
 | «at» p' k ih=>intro Q Q' E E' p s h h';exact ih () Q Q' E E' p' s h h'
 | load a _ k ih=>intro Q Q' E E' p s h h';obtain ⟨o,ho,h⟩:=h;obtain ⟨o',ho',h'⟩:=h';rw [ho] at ho';cases ho';exact ⟨o,ho,ih o Q Q' E E' p s h h'⟩
 | update a _ f k ih=>intro Q Q' E E' p s h h';exact ⟨h.1,ih () Q Q' E E' p _ h.2 h'.2⟩
 | loadIfAlive a k ih=>intro Q Q' E E' p s h h';exact ih _ Q Q' E E' p s h h'
 | point _ k ih=>intro Q Q' E E' p s h h';exact ih () Q Q' E E' p s h h'
 | register _ _=>intro Q Q' E E' p s h h';exact h
 | alloc o k ih=>intro Q Q' E E' p s h h';exact ih _ Q Q' E E' p _ h h'
 | fresh k ih=>intro Q Q' E E' p s h h';exact ih _ Q Q' E E' p _ h h'
 | ask k ih=>intro Q Q' E E' p s h h';exact ih _ Q Q' E E' p s h h'
 | choose src m k ih=>intro Q Q' E E' p s h h';exact ⟨h.1,ih _ Q Q' E E' p _ h.2 h'.2⟩
 | os q _ k ih=>intro Q Q' E E' p s h h';exact ih _ Q Q' E E' p _ h h'
 | call c hd _ _ k ih=>
   intro Q Q' E E' p s h h';obtain ⟨r,s',hr,h⟩:=h;obtain ⟨r2,s2,hr2,h'⟩:=h';obtain ⟨x,rfl⟩:=Runs.det hr hr2;cases x;exact ⟨r,s',hr,ih r Q Q' E E' p s' h h'⟩
 | handled own k ih=>intro Q Q' E E' p s h h';exact ih _ Q Q' E E' p s h h'
 | genState g k ih=>intro Q Q' E E' p s h h';obtain ⟨st,hs,h⟩:=h;obtain ⟨st',hs',h'⟩:=h';rw [hs] at hs';cases hs';exact ⟨st,hs,ih _ Q Q' E E' p s h h'⟩
 | newGen c k ih=>intro Q Q' E E' p s h h';exact ih _ Q Q' E E' p _ h h'
 | resume g r _ k ih=>
   intro Q Q' E E' p s h h';obtain ⟨res,s',hw,h⟩:=h;obtain ⟨res2,s2,hw2,h'⟩:=h';have e:res=res2/\s'=s2:=by
    unfold Wakes at hw hw2;split at hw
    ·exact hw.elim
    ·split at hw
     ·rename_i e0 _;rw [e0] at hw2;obtain ⟨e1,s1,a,_,rfl,rfl⟩:=hw;obtain ⟨e1',s1',a',_,rfl,rfl⟩:=hw2;obtain ⟨rfl,rfl⟩:=Runs.det a a';exact ⟨rfl,rfl⟩
     ·rename_i e0 _ v hv;rw [e0] at hw2;cases v with
      | none=>exact absurd rfl hv
      | _=>exact ⟨hw.1.trans hw2.1.symm,hw.2.trans hw2.2.symm⟩
     ·rename_i e0 _ _;rw [e0] at hw2;exact ⟨hw.1.trans hw2.1.symm,hw.2.trans hw2.2.symm⟩
    ·rename_i e0;rw [e0] at hw2;obtain ⟨e1,s1,a,_,rfl,rfl⟩:=hw;obtain ⟨e1',s1',a',_,rfl,rfl⟩:=hw2;obtain ⟨rfl,rfl⟩:=Runs.det a a';exact ⟨rfl,rfl⟩
    ·rename_i e0;rw [e0] at hw2;exact ⟨hw.1.trans hw2.1.symm,hw.2.trans hw2.2.symm⟩
    ·rename_i e0;rw [e0] at hw2;exact ⟨hw.1.trans hw2.1.symm,hw.2.trans hw2.2.symm⟩
   obtain ⟨rfl,rfl⟩:=e;exact ⟨res,s',hw,ih res Q Q' E E' p s' h h'⟩
 | yield _ _ _ _=>intro Q Q' E E' p s h h';exact h
 | stack k ih=>intro Q Q' E E' p s h h';exact ih _ Q Q' E E' p s h h'
 | fork _ _=>intro Q Q' E E' p s h h';exact h
 | thread k ih=>intro Q Q' E E' p s h h';exact ih _ Q Q' E E' p s h h'
 | await _ _ _ _ _=>intro Q Q' E E' p s h h';exact h
theorem eC {α:Type}{M:Model}{A:Around}{s:Shared}{t:Sem α}{Q Q':α->Shared->Prop}{E E':Value->Shared->Prop}(h:wpAny M A t Q E s) (h':wpAny M A t Q' E' s):
  wpAny M A t (λ a s'=>Q a s'/\Q' a s') (λ e s'=>E e s'/\E' e s') s:=λ Γ p hΓ=>Sem.wp_and M Γ t _ _ _ _ p s (h Γ p hΓ) (h' Γ p hΓ)
end PySem
namespace L2
open PySem PySem.Spec PyProof.Rows
section
variable {prog:Program}{w:World}{A:Around}{E:Value->Shared->Prop}{s:Shared}
theorem iJ {e t:Addr}{items:Array Value}{Q:List Value->Shared->Prop}(hh:A.handled=some (.ref e)) (hc:bO e s.heap) (ht:IsTup s.heap t items)
  (hQ:∀h',Heap.ExtBut s.heap.objs.size s.heap h'->Q items.toList {s with heap:=h'}):wpAny (model prog w) A (unpackItems (.ref t) items.size none) Q E s:=by
 have hlt:t≠s.heap.objs.size:=by obtain ⟨o,ho,_⟩:=ht;exact DT (Heap.lt_size ho)
 have hle:s.heap.objs.size≠e:=by obtain ⟨o,_,ho,_⟩:=hc;exact DZ (Heap.lt_size ho)
 unfold unpackItems;refine wpAny_bind ?_;unfold notIterableAtAll;refine wpAny_bind (wpAny_specialOf ht.typeIs slot_tuple_iter.lookup ?_);refine wpAny_pure ?_;simp only [Eh,if_false];refine wpAny_bind (wpAny_holding (iter_tuple ht ?_));refine wpAny_bind (wpAny_holding (draw_tuple hlt items.size 0 _ _ ⟨_,Heap.get?_push_size _ rfl,rfl,rfl⟩ (ht.push _) (by omega) λ h₁ hit₁ hs₁=>?_));have hall:List.take items.size (List.drop 0 items.toList)=items.toList:=by rw [DC];exact Du (by simp)
 rw [hall,if_neg (by simp)];have ht₁:IsTup h₁ t items:=(ht.push _).extBut hs₁.extBut hlt;have hc₁:bO e h₁:=by obtain ⟨o,vs,h1,h2,h3⟩:=hc;exact ⟨o,vs,hs₁.extBut e o (Ne.symm hle) (Heap.get?_push_of_some _ h1),h2,h3⟩
 refine wpAny_bind (wpAny_holding (ie (items:=items) hh hc₁ hle hit₁ ht₁ (by simp) λ h₂ he₂=>?_));simp only [Option.isSome_none,Eh,if_false];refine wpAny_pure (hQ h₂ λ b o hb q=>he₂ b o hb (hs₁.extBut b o hb (Heap.get?_push_of_some _ q)))
theorem kY {e:Addr}{env:Env}{elts:List Expr}{x1}{pos:Pos}{t:Addr}{items:Array Value}{Q:Unit->Shared->Prop}(hh:A.handled=some (.ref e)) (hc:bO e s.heap) (ht:IsTup s.heap t items)
  (hn:(assignEach elts env).length=items.size) (hstar:(assignEach elts env).findIdx? (·.1)=none)
  (h:∀h',Heap.ExtBut s.heap.objs.size s.heap h'->wpAny (model prog w) A (assignInOrder ((assignEach elts env).map (·.2)) items.toList) Q E {s with heap:=h'}):
  wpAny (model prog w) A (assign (.Tuple elts x1 pos) env (.ref t)) Q E s:=by
 rw [assign_Tuple];refine wpAny_bind (wpAny_standAt ?_);unfold unpack;rw [hn,hstar];exact wpAny_bind (wpAny_holding (iJ hh hc ht h))
end
def fL (cls:Value) (a:Addr):HO:=.ext λ h=> ∃o vs,h.get? a=some o/\o.cls=cls/\o.data=.fields vs/\vs[2]? =some .none
theorem fL.ctx {P:Program}{w:World}{H:Hp}{h:Heap}{cls:Value}{a:Addr}(x:bi P w H h a (fL cls a)):bO a h:=by obtain ⟨⟨o,vs,h1,_,h2,h3⟩,_⟩:=(show bi P w H h a (.ext _) from x);exact ⟨o,vs,h1,h2,h3⟩
theorem xj {a:Addr}{cls:Value}{h:Heap}(x:∃o,h.get? a=some o/\o.cls=cls) (c:bO a h):∃o vs,h.get? a=some o/\o.cls=cls/\o.data=.fields vs/\vs[2]? =some .none:=by obtain ⟨o,h1,h2⟩:=x;obtain ⟨o',vs,g1,g2,g3⟩:=c;rw [h1] at g1;cases g1;exact ⟨o,vs,h1,h2,g2,g3⟩
section
variable {M:Model}{A:Around}{E:Value->Shared->Prop}{s:Shared}{base:Heap}{env:Env}{outer:List Env}{L e:Addr}{cls a0:Value}{Q:Unit->Shared->Prop}
theorem nN (hfr:A.frames=some (env::outer)) (hf:env.frame=some L) (hfl:Heap.FlyingW base (env::outer) e cls a0 s.heap) (c:bO e s.heap)
  (hQ:∀h',Heap.HeldW base (env::outer) e cls a0 L h'->s.heap.UpToSlots h'->bO e h'->Q () {s with heap:=h'}):wpAny M A (noteFrame (.ref e) env) Q E s:=by
 obtain ⟨_,_,f3,oe,vs,T,oT,ts,he,_,hd,h1,_,hTe,hT,hdT,h3⟩:=id hfl;obtain ⟨oe',vs',g1,g2,g3⟩:=c;rw [he] at g1;cases g1;rw [hd] at g2;cases g2;have x1:wpAny M A (noteFrame (.ref e) env) (λ _ s2=> ∃h',s2={s with heap:=h'}/\Heap.HeldW base (env::outer) e cls a0 L h'/\s.heap.UpToSlots h') E s:=wpAny_looks_onW hfr hf hfl λ h' a b=>⟨h',rfl,a,b⟩;have x2:wpAny M A (noteFrame (.ref e) env) (λ _ s2=>bO e s2.heap) E s:=qm hfr f3 hf he hd h1 g3 hTe hT hdT h3 λ h' c=>c;exact wpAny_mono (eC x1 x2) (λ _ s2 ⟨⟨h',e2,a,b⟩,c⟩=>by subst e2;exact hQ h' a b c) λ _ _ z=>z.1
theorem lD {l:List Env}(hh:Heap.HeldW base l e cls a0 L s.heap) (c:bO e s.heap)
  (hQ:∀h',Heap.FlyingW base l e cls a0 h'->s.heap.UpToSlots h'->bO e h'->Q () {s with heap:=h'}):wpAny M A (setFlight (.ref e) none) Q E s:=by
 obtain ⟨_,_,_,oe,vs,T,oT,ts,he,_,hd,h1,_,hTe,hT,hdT,h3⟩:=id hh;have x1:wpAny M A (setFlight (.ref e) none) (λ _ s2=> ∃h',s2={s with heap:=h'}/\Heap.FlyingW base l e cls a0 h'/\s.heap.UpToSlots h') E s:=wpAny_landsW hh λ h' a b=>⟨h',rfl,a,b⟩;have x2:wpAny M A (setFlight (.ref e) none) (λ _ s2=>bO e s2.heap) E s:=e6 c he hd h1 hTe hT hdT (Ep.mp h3).1 λ h' c=>c;exact wpAny_mono (eC x1 x2) (λ _ s2 ⟨⟨h',e2,a,b⟩,c⟩=>by subst e2;exact hQ h' a b c) λ _ _ z=>z.1
theorem lW {l:List Env}(hh:Heap.FlyingW base l e cls a0 s.heap) (c:bO e s.heap)
  (hQ:∀h',Heap.FlyingW base l e cls a0 h'->s.heap.UpToSlots h'->bO e h'->Q () {s with heap:=h'}):wpAny M A (setFlight (.ref e) none) Q E s:=by
 obtain ⟨_,_,_,oe,vs,T,oT,ts,he,_,hd,h1,_,hTe,hT,hdT,h3⟩:=id hh;have x1:wpAny M A (setFlight (.ref e) none) (λ _ s2=> ∃h',s2={s with heap:=h'}/\Heap.FlyingW base l e cls a0 h'/\s.heap.UpToSlots h') E s:=lands_againW hh λ h' a b=>⟨h',rfl,a,b⟩;have x2:wpAny M A (setFlight (.ref e) none) (λ _ s2=>bO e s2.heap) E s:=e6 c he hd h1 hTe hT hdT (Ep.mp h3).1 λ h' c=>c;exact wpAny_mono (eC x1 x2) (λ _ s2 ⟨⟨h',e2,a,b⟩,c⟩=>by subst e2;exact hQ h' a b c) λ _ _ z=>z.1
end
def jQ (P:Program) (w:World):m6:=λ outer H s E e s'=>Bn P w outer H s E e s'/\∃a,e=.ref a/\bO a s'.heap
theorem ft {P:Program}{w:World}{K:Frag}{mg:Str->Option Value}{base:Heap}{N:List Str}{qual:Str}{scope:Scope}{f:Addr}{cd:Value}{A:Around}{outer:List Env}{s:Shared}{H:Hp}{E:XK}{C:Addr}:
  ∀pins σ H1 s1 h' e vs,au (fB (jQ P w) P w K mg base N qual scope f cd A outer s H E) pins σ H1 s1->Heap.MadeExcOf s1.heap h' e (.ref C) vs->E (.ref C) none H1->
   (fB (jQ P w) P w K mg base N qual scope f cd A outer s H E).xe (.ref e) {s1 with heap:=h'}:=by
 intro pins σ H1 s1 h' e vs I hm hE;have I':au (fB (Bn P w) P w K mg base N qual scope f cd A outer s H E) pins σ H1 s1:=I.wish _;have x1:=kG pins σ H1 s1 h' e vs I' hm hE;have fr:(A.deeper (envOfC qual scope s.heap.objs.size f cd)).frames=some (envOfC qual scope s.heap.objs.size f cd::outer):=I.ok.frames;have ST:s1.heap.FunFrames base (envOfC qual scope s.heap.objs.size f cd::outer):=I.stack;obtain ⟨t,he,_,_⟩:=hm.there;have x2:wpAny (model P w) (A.deeper (envOfC qual scope s.heap.objs.size f cd)) (leaving (envOfC qual scope s.heap.objs.size f cd) (.ref e)) (λ _ s2=>bO e s2.heap) (λ _ _=>False) {s1 with heap:=h'}:=
  oa (s:={s1 with heap:=h'}) fr (ST.of_keeps λ b o hb _=>⟨o,hm.keeps b o hb,rfl⟩) rfl he rfl rfl rfl λ h2 c=>c
 exact wpAny_mono (eC x1 x2) (λ _ s2 ⟨a,b⟩=>⟨a,e,rfl,b⟩) λ _ _ z=>z.2.elim
theorem bW.okX2 {P:Program}{w:World}{K:Frag}{mg:Str->Option Value}{base:Heap}{x qual:Str}{st:Stmt}{f:Addr}{fd:FuncData}{N ps:List Str}{k:Nat}{sp:Sp}(F:bW K x qual st f fd) (S:aB N ps (ao st)) (len:∀vs H Q E,sp vs H Q E->vs.length=ps.length)
  (hbody:∀(cdv:Value) (A:Around) (outer:List Env) (s:Shared) (H:Hp) (vs:List V) (Q:VK) (E:XK),bQ k (A.deeper (envOfC qual (ao st) s.heap.objs.size f cdv))->sp vs H Q E->
   ∃t,jO (fB (jQ P w) P w K mg base N qual (ao st) f cdv A outer s H E) (cw st) t/\t {nx:=λ _ H'=>Q .non H',rt:=Q} (dB N vs) H):bp P w K mg base (jQ P w) (k+1) f fd ps sp:=by
 obtain ⟨oc,od,kV,doc,pm,an,cdv,ct,osl,rfl,lk,hcd⟩:=F.ex;exact vZ lk hcd S len λ A outer s H vs Q E hr hsp=>hbody cdv A outer s H vs Q E hr hsp
section
variable {X:Cx}{pins:List (Addr×Obj)}{σ:St}{H H':Hp}{s s':Shared}
theorem au.track2 {a:Addr}{cls:Value}{s1:Shared}{H1:Hp}(I:au X pins σ H s) (ho:∃o vs,s.heap.get? a=some o/\o.cls=cls/\o.data=.fields vs/\vs[2]? =some .none) (hn:H a=none) (I1:au X pins σ H1 s1) (new:s1.heap.get? a=none):au X pins σ (upd H a (fL cls a)) s:=by
 have neq:∀b u,s1.heap.get? b=some u->b≠a:=λ b u q z=>by rw [z,new] at q;cases q
 have neH:∀b u,H b=some u->b≠a:=λ b u q z=>by rw [z,hn] at q;cases q
 refine ⟨I.ok,I.os,I.bare,⟨I.base.keep,I.base.slot,λ b o q n hx=>?_,I.base.there,λ b xs q=>?_,λ b o u q=>?_,λ b ps q=>?_⟩,I.loc,I.cell,?_,λ x c q=>?_,λ p hp=>?_,λ b u q=>?_,I.len⟩
 ·obtain ⟨o',q'⟩:=I1.base.there b o q hx;rw [ak (neq b o' q')];exact I.base.free b o q n hx
 ·rw [ak (neH b _ (I.base.tups b xs q))];exact I.base.tups b xs q
 ·rw [ak (neH b _ (I.base.frzs b o u q))];exact I.base.frzs b o u q
 ·obtain ⟨m,z⟩:=I.base.tbls b ps q;exact ⟨m,by rw [ak (neH b _ z)];exact z⟩
 ·obtain ⟨m,⟨o,_,_,q,_⟩,_⟩:=I1.loc;rw [ak (neq _ o q)];exact I.free
 ·obtain ⟨v,o,z,_⟩:=I1.cell x c q;rw [ak (neq c o z)];exact I.freeC x c q
 ·obtain ⟨e,n,ne,nf,d⟩:=I.pin p hp;exact ⟨e,by rw [ak (neq _ _ (I1.pin p hp).1)];exact n,ne,nf,d⟩
 ·by_cases hb:b=a
  ·subst hb;rw [ac] at q;cases q;obtain ⟨o,vs,h1,h2⟩:=ho;exact ⟨⟨o,vs,h1,h2⟩,⟨o,h1⟩,λ g1 g2 ⟨o',vs',y1,y2⟩ k=>⟨o',vs',k o' y1,y2⟩⟩
  ·rw [ak hb] at q;exact (I.hok b u q).stay (λ _ _ _ z=>z) (λ c z=>by rw [ak (neH c _ z)];exact z) λ c xs z=>by rw [ak (neH c _ z)];exact z
end
section
variable {X:Cx}{e:Expr}{es:List Expr}{ta:TA}{ts:Addr->TS}{p pos bpos np hpos tpos:Pos}{sp:Sp}{k j i:Nat}{name xc n:Str}{ps:List Str}{C0:Addr}{b₀:Stmt}{suite:List Stmt}
theorem AJ {pins:List (Addr×Obj)}{σ:St}{H1:Hp}{s1 s':Shared}{D:cb}{e:Value}{E:XK}(I1:au X pins σ H1 s1) (hn:∀e s,X.xe e s->False) (hstk:X.stack=X.env::X.outer) (hfr:X.env.frame=some X.env.locals) (hgc:Gl X xc) (hmc:X.mg xc=some (.ref C0)) (hN:X.N.Nodup) (hi:X.N[i]? =some n) (hx:X.env.scope.names.lookup n=some .local)
  (hs:∀a,jO (X.hand a) (b₀::suite) (ts a)) (z:jQ X.prog X.w X.stack H1 s1 E e s')
  (hE:∀cls d H2,E cls d H2->EN X.K cls (.ref C0)=some true/\∀a,H2 a=none->ts a {nx:=λ _ _=>False,rt:=D.rt} (σ.set i (some (.ref a))) (upd H2 a (fL cls a)))
  (hdb:(xc == ("__debug__":Str))=false):
  wpAny (model X.prog X.w) X.A (noteFrame e X.env) (λ _ s₂=>wpAny (model X.prog X.w) X.A (setFlight e none) (λ _ s₃=>wpAny (model X.prog X.w) X.A (handleBy e X.env [.ExceptHandler (some (.Name xc np)) (some n) (b₀::suite) hpos]) (SP X pins D) X.xe s₃) X.xe s₂) X.xe s':=by
 obtain ⟨⟨a,cls,a0,B,H',rfl,os,bare,new,ha,fl,hok,un,c1,c2,hE'⟩,a',ea,cx⟩:=z;cases ea;obtain ⟨hit,hts⟩:=hE _ _ _ hE';have ff:=fl.2.2.1;rw [hstk] at fl;refine nN (I1.ok.frames.trans (by rw [hstk])) hfr fl cx λ h4 hl4 u4 cx4=>?_;refine lD (s:={s' with heap:=h4}) hl4 cx4 λ h5 fl5 u5 cx5=>?_;have I5:au X pins σ H' {s' with heap:=h5}:=I1.flown (a:=a) (cls:=cls) (a0:=a0) os bare ff fl5.1 hok un (u4.trans u5) c1 c2;have J5:=I5.hand a;refine wpAny_handleBy_cons (codeAny_handlers_test (dL (X:=X.hand a) J5 hgc hmc ?_ hdb)) (by intro q;cases q);have LT:PySem.W.Looks (model X.prog X.w) h5 (typeOf (.ref a)) cls:=by obtain ⟨ob,hob,hc⟩:=fl5.there;subst hc;exact (PySem.W.Looks.ld hob).andThen .now
 refine (PySem.W.exm_one (h:=h5) I5.kIn LT hit).here ?_;refine codeAny_handlers_suite_as ?_;refine lW (s:={s' with heap:=h5}) fl5 cx5 λ h6 fl6 u6 cx6=>?_;have I6:au X pins σ H' {s' with heap:=h6}:=I1.flown (a:=a) (cls:=cls) (a0:=a0) os bare ff fl6.1 hok un ((u4.trans u5).trans u6) c1 c2;have I7:=I6.track2 (cls:=cls) (xj fl6.there cx6) ha I1 new;refine gE (X:=X.hand a) (v:=.ref a) (I7.hand a) hN hi (.inl hx) rfl (λ s7 I8=>?_) (.inr hx);refine wpAny_mono (hs a pins s7 _ _ _ I8 (hts a ha)) (λ f s8 q=>?_) λ _ _ q=>(hn _ _ q).elim;cases f with
 | next=>obtain ⟨_,_,_,q⟩:=q;exact q.elim
 | brk=>obtain ⟨_,_,_,q⟩:=q;exact q.elim
 | cont=>obtain ⟨_,_,_,q⟩:=q;exact q.elim
 | ret u=>
   obtain ⟨v,σ',H8,J8,rv,q⟩:=q;have K8:=J8.unhand I1.ok;obtain ⟨m,hm,_⟩:=K8.loc;refine wpAny_nameGoes hx hm (by rw [K8.ok.kind];rfl) λ h9 m9 hm9 sb=>?_;exact ⟨v,_,H8,K8.forget hm9 sb,rv,q⟩
end
end L2
namespace L2
open PySem PySem.Spec PyProof.Rows
structure CY (P:Program) (w:World) (K:Frag) (mg:Str->Option Value) (base:Heap) (k:Nat) (f:Addr) (fd:FuncData) (ps:List Str) (sp:Sp):Prop where
 len:∀vs H Q E,sp vs H Q E->vs.length=ps.length
 run:∀(A:Around) (outer:List Env) (s:Shared) (H:Hp) (args:Args) (us:List Value) (vs:List V) (Q:VK) (e:Addr),A.handled=some (.ref e)->vs[0]? =some (.ref e)->gp k A->jP P w K mg base A outer s H->BindsTo s fd args (ps.zip us)->aF vs us->sp vs H Q E0->
  codeAny (model P w) A (.call (.ref f) args) (CR dN outer P w H s Q E0) s
section
variable {X:Cx}{a b e o:Expr}{ta tb te to:TE}{p pos:Pos}{es:List Expr}{t:TA}
theorem bW.okH {P:Program}{w:World}{K:Frag}{mg:Str->Option Value}{base:Heap}{x qual:Str}{st:Stmt}{f:Addr}{fd:FuncData}{N ps:List Str}{k:Nat}{sp:Sp}(F:bW K x qual st f fd) (S:aB N ps (ao st)) (len:∀vs H Q E,sp vs H Q E->vs.length=ps.length)
  (hbody:∀(cdv:Value) (A:Around) (outer:List Env) (s:Shared) (H:Hp) (vs:List V) (Q:VK) (e:Addr),(A.deeper (envOfC qual (ao st) s.heap.objs.size f cdv)).handled=some (.ref e)->vs[0]? =some (.ref e)->gp k (A.deeper (envOfC qual (ao st) s.heap.objs.size f cdv))->sp vs H Q E0->
   ∃t,jO (CN P w K mg base N qual (ao st) f cdv A outer s H) (cw st) t/\t {nx:=λ _ H'=>Q .non H',rt:=Q} (dB N vs) H):CY P w K mg base (k+1) f fd ps sp:=by
 obtain ⟨oc,od,kV,doc,pm,an,cdv,ct,osl,rfl,lk,hcd⟩:=F.ex;refine ⟨len,λ A outer s H args us vs Q ee hh hv hr e0 hb r hsp=>?_⟩;have hl:=len _ _ _ _ hsp;have KX:K.In s.heap:=e0.mod.kin.keeps λ b o e=>(e0.bs b o e).1;have lim:s.heap.NoLimit:=e0.mod.nolimit.keeps λ b o e=>(e0.bs b o e).1;have hkind:∀y∈ps.zip us,(ao st).names.lookup y.1=some .local\/((ao st).names.lookup y.1=some .cell/\((cellsFrom (s.heap.objs.size+1) (ao st).names []).lookup y.1).isSome=true):=λ ⟨n,v⟩ hy=>by
  rcases S.par n (Dx hy).1 with q | q
  ·exact .inl q
  ·exact .inr ⟨q,EY _ _ _ (.inl q)⟩
 have hdp:A.depth<recursionLimit:=by have:=hr.dp;omega
 refine codeAny_call_function hdp (KX _ _ lk) rfl S.co S.gen rfl (E8 KX hcd) (hb _ _ _ _ ?_);refine wpAny_newFunctionEnv_cells S.kind hkind λ env he s1 x=>?_;subst he;refine ⟨lim.keeps x.toInCall.keep,codeAny_func ?_⟩;have hr':gp k (A.deeper (envOfC qual (ao st) s.heap.objs.size f cdv)):=⟨by have:=hr.dp;show A.depth+1+3*k+5<_;omega,by have:=hr.un;show A.units+3+16*k+200<_;omega⟩;obtain ⟨t,ht,hq⟩:=hbody cdv A outer s H vs Q ee hh hv hr' hsp;have e0':jP P w K mg base {A with handled:=none} outer s H:=⟨e0.frames,e0.mod,e0.bs,e0.bsz,e0.funs,e0.frf,e0.hok,e0.bare⟩;have I0:au (fB dN P w K mg base N qual (ao st) f cdv {A with handled:=none} outer s H E0) [] (dB N vs) H s1:=iy S rfl e0' hl r x;have I:au (CN P w K mg base N qual (ao st) f cdv A outer s H) [] (dB N vs) H s1:=(I0.uncalm (Around.frames_deeper e0.frames)).wish _;refine wpAny_mono (ht [] s1 (dB N vs) H _ I hq) (λ fl s' hs=>?_) λ e s' hs=>hs.elim;have fin:∀{σ':St} {H':Hp} {v:V} {u:Value},au (CN P w K mg base N qual (ao st) f cdv A outer s H) [] σ' H' s'->aK v u->Q v H'->CE outer P w H s Q u s':=
  λ {σ' H' v u} J rv q=>⟨v,H',J.os,J.bare,J.base,J.hok,rv,q⟩
 cases fl with
 | ret u=>
   obtain ⟨v,σ',H',J,rv,q⟩:=hs;exact fin J rv q
 | next=>
   obtain ⟨σ',H',J,q⟩:=hs;exact fin (v:=V.non) (u:=Value.none) J rfl q
 | brk=>
   obtain ⟨_,_,_,q⟩:=hs;exact False.elim q
 | cont=>
   obtain ⟨_,_,_,q⟩:=hs;exact False.elim q
def qy (ea:Addr) (sp:Sp) (t:TA):TE:=λ σ H Q=>t σ H λ vs H1=>vs[0]? =some (.ref ea)/\sp vs H1 Q E0
structure xE (P:Program) (w:World) (K:Frag) (mg:Str->Option Value) (base:Heap) (name:Str) (ps:List Str) (k:Nat) (sp:Sp):Prop where
 ex:∃f fd,CY P w K mg base k f fd ps sp/\mg name=some (.ref f)/\EE K (.ref f)=true/\dq K fd ps []
theorem wZ {name:Str}{ps:List Str}{k j:Nat}{sp:Sp}(C:xE X.prog X.w X.K X.mg X.base name ps k sp) {ea:Addr}(hh:X.A.handled=some (.ref ea)) (hr:gp j X.A) (ha:PA X (e::es) t) (hkj:k<=j:=by decide) (hp:(e::es).all dt=true:=by rfl) (hg:Gl X name:=by rfl) (hdb:(name == ("__debug__":Str))=false:=by decide):PE X (.Call (.Name name p) (e::es) [] pos) (qy ea sp t):=by
 obtain ⟨f,fd,F,hm,hk,hb⟩:=C.ex;have hp':=hp;rw [C8,Ef] at hp';intro pins s σ H Q I h;refine wpAny_Call_Name_kw (dL I hg hm ?_ hdb);refine EL (h₀:=X.base) I.ok.mod.kin hk (bx (ha pos pins s σ H _ I h) λ us s1 ⟨vs,H1,I1,r,hv,q⟩=>⟨I1.kIn,?_⟩) (cS hp'.1) (dn hp'.2);have hl:(us++[]).length=ps.length:=by rw [Dd,<-r.length];exact F.len _ _ _ _ q
 have hb':=hb s1 us I1.kIn hl;rw [Dd] at hb';have hrk:gp k X.A:=⟨by have:=hr.dp;omega,by have:=hr.un;omega⟩;refine wpAny_call (codeAny_mono (F.run X.A X.stack s1 H1 ⟨us,[]⟩ us vs Q ea hh hv hrk I1.env0 hb' r q) λ r s' hq=>?_);cases r with
 | error e=>exact False.elim hq
 | ok fl=>
   cases fl with
   | ret u=>exact I1.after hq
   | next=>exact False.elim hq
   | brk=>exact False.elim hq
   | cont=>exact False.elim hq
def qF (K:Frag) (ea:Addr) (g:TG) (tb:TS) (D:cb) (σ:St) (x:V) (H1:Hp):Prop:= ∃(a:Addr) (xs:List V) (cls:Value) (Pv:Nat->St->Hp->Prop),x=.ref a/\aH K H1 a xs/\Pv 0 σ H1/\(∀i σ H,i<=xs.length->Pv i σ H->aH K H a xs/\H ea=some (fL cls ea))/\
 (∀(i:Nat) x σ H,xs[i]? =some x->Pv i σ H->g x σ H λ σ2 H2=>tb {D with nx:=Pv (i+1),ct:=Pv (i+1),bk:=D.nx} σ2 H2)/\∀σ H,Pv xs.length σ H->D.nx σ H
def tForN (K:Frag) (ea:Addr) (tl:TE) (g:TG) (tb:TS):TS:=λ D σ H=>tl σ H λ x H1=>qF K ea g tb D σ x H1
theorem lJ {K:Frag}{ea:Addr}{tl:TE}{g:TG}{tb u:TS}{D:cb}{σ:St}{H:Hp}(h:tl σ H λ x H1=>qF K ea g tb {D with nx:=u D} σ x H1):bC (tForN K ea tl g tb) u D σ H:=h
theorem jj {ea:Addr}{tg l:Expr}{body:List Stmt}{tl:TE}{g:TG}{tb:TS}(hp:PassesOwn (model X.prog X.w) X.A X.env X.xe) (hh:X.A.handled=some (.ref ea)) (hl:PE X l tl) (hg:PG X tg g) (hb:jO X body tb)
  (hs:∀x,foldedSetIterable l X.env x=pure x:=by intro _;rfl):PS X (.For tg l body [] pos) (tForN X.K ea tl g tb):=by
 intro pins s σ H D I h;refine wpAny_For (bx (hl pins s σ H _ I h) λ v s1 ⟨x,H1,I1,r1,a,xs,cls,Pv,ex,hq,p0,hk,hs',hd⟩=>?_) hs;subst ex;cases r1;obtain ⟨its,rv,p,hz⟩:=I1.list hq;refine wpAny_pyIter_list p.isList ?_;have fp0:eB X pins H1 s1.heap.objs.size:=I1.fpOk (DS _) (I1.hok.fresh (DS _));have stat:∀{H':Hp},H' s1.heap.objs.size=none->eB X pins H' s1.heap.objs.size:=λ hn=>⟨hn,fp0.2⟩;refine codeAny_forLoop_any (λ n s'=> ∃i σ' H',au X pins σ' H' s'/\s'.heap.IsListIter s1.heap.objs.size a i/\H' s1.heap.objs.size=none/\n=xs.length - i/\i<=xs.length/\Pv i σ' H') ?_ xs.length ⟨0,σ,H1,I1.kept (t':=s1.toks) λ b o e=>Heap.get?_push_of_some _ e,⟨_,Heap.get?_push_size _ rfl,rfl,rfl⟩,fp0.1,by simp,DV _,p0⟩;rintro n s3 ⟨i,σ3,H3,I3,st3,fr3,rfl,hi,p3⟩;obtain ⟨hq3,he3⟩:=hk i σ3 H3 hi p3;obtain ⟨its3,rv3,pl3,_⟩:=I3.list hq3;have hlen:=rv3.length;obtain ⟨f0,f1,f2,f3,f4,f5⟩:=stat fr3
 by_cases hlt:i<xs.length
 ·have hx:xs[i]? =some xs[i]:=C4 hlt;obtain ⟨u,hu,ru⟩:=rv3.get hx;refine wpAny_passesOwn hp (wpAny_pyNext_list_item st3 pl3.isList (x:=u) (by simpa using hu) λ h' st' sb=>?_);have I4:au X pins σ3 H3 {s3 with heap:=h'}:=I3.turned (t':=s3.toks) (λ b o hb e=>(sb.2 b hb).trans e) f0 f1 f3 f4 f5;obtain ⟨o,eo,c,d⟩:=id st';refine wpAny_passesOwn hp (pV (s:={s3 with heap:=h'}) eo c d (by decide) ?_);have ob:∀b∈[s1.heap.objs.size],∃o,h'.get? b=some o/\∀v,o.data≠.cell v:=λ b hb=>by rw [C9.mp hb];exact ⟨o,eo,λ v z=>by rw [d] at z;cases z⟩
  have I5:=I4.pinned (fp:=[s1.heap.objs.size]) (λ b hb=>by rw [C9.mp hb];exact stat fr3) ob;refine wpAny_passesOwn hp (bx (hg _ _ σ3 H3 xs[i] u _ I5 ru (hs' i _ σ3 H3 hx p3)) λ _ s6 ⟨σ6,H6,I6,q6⟩=>?_);refine wpAny_passesOwn hp (bx (hb _ s6 σ6 H6 _ I6 q6) λ f s7 q7=>?_);have again:∀{σ7:St} {H7:Hp},au X (pins++dJ [s1.heap.objs.size] h') σ7 H7 s7->Pv (i+1) σ7 H7->∃m,m<xs.length - i/\∃i σ' H',au X pins σ' H' s7/\s7.heap.IsListIter s1.heap.objs.size a i/\H' s1.heap.objs.size=none/\m=xs.length - i/\i<=xs.length/\Pv i σ' H':=λ {σ7 H7} I7 n7=>by have pn:=I7.pin (s1.heap.objs.size,o) (C5 _ (C5 _ (db C3 eo)));exact ⟨xs.length - (i+1),by omega,i+1,σ7,H7,I7.unpinned,⟨o,pn.1,c,d⟩,pn.2.1,rfl,hlt,n7⟩
  cases f with
  | next=>obtain ⟨σ7,H7,I7,n7⟩:=q7;exact again I7 n7
  | cont=>obtain ⟨σ7,H7,I7,n7⟩:=q7;exact again I7 n7
  | brk=>obtain ⟨σ7,H7,I7,q7⟩:=q7;exact ⟨σ7,H7,I7.unpinned,q7⟩
  | ret v=>obtain ⟨x7,σ7,H7,I7,r7,q7⟩:=q7;exact ⟨x7,σ7,H7,I7.unpinned,r7,q7⟩
 ·have e:i=xs.length:=by omega
  subst e;have cx:=fL.ctx (I3.hok ea _ he3);have ne:s1.heap.objs.size≠ea:=λ z=>by rw [z,he3] at fr3;cases fr3
  refine wpAny_passesOwn hp (gN hh cx ne st3 pl3.isList (by simp;omega) λ h' eb=>?_);exact wpAny_execs_nil ⟨σ3,H3,I3.turned (t':=s3.toks) (λ b o hb e=>eb b o hb e) f0 f1 f3 f4 f5,hd σ3 H3 p3⟩
def pX (K:Frag) (ea:Addr) (n:Nat) (t:qH):TG:=λ v σ H Q=> ∃a xs cls,v=.ref a/\dQ K H a xs/\xs.length=n/\H ea=some (fL cls ea)/\t xs σ H Q
theorem ml {ea:Addr}{k:Nat}{t:qH}{n:Nat}(hh:X.A.handled=some (.ref ea)) (h:xC X es t)
  (hn:(assignEach es X.env).length=n:=by rfl) (hst:(assignEach es X.env).findIdx? (·.1)=none:=by rfl):PG X (.Tuple es k pos) (pX X.K ea n t):=by
 intro pins s σ H v u Q I r hw;obtain ⟨a,xs,cls,e1,hq,hl,he,hw⟩:=hw;subst e1;cases r;obtain ⟨its,rv,ht,hz⟩:=I.tuple hq;refine kY hh (fL.ctx (I.hok ea _ he)) ht (by simp [hn,<-hl,rv.length]) hst λ h' hx=>?_;have I1:au X pins σ H {s with heap:=h'}:=I.kept (t':=s.toks) λ b o e=>hx b o (DT (Heap.lt_size e)) e;exact h pins _ σ H xs _ Q I1 (by simpa using rv) hw
end
structure CU (P:Program) (w:World) (K:Frag) (mg:Str->Option Value) (base:Heap) (name:Str) (C:Addr) (ps:List Str) (k:Nat) (sp:Sp):Prop where
 ex:∃f fd,Mk K C f/\bp P w K mg base (jQ P w) k f fd ps sp/\mg name=some (.ref C)/\dq K fd ps []
def vE (K:Frag) (C C0:Addr) (sp:Sp) (i:Nat) (ta:TA) (ts:Addr->TS):TS:=λ D σ H=>ta σ H λ vs H1=> ∀x dx,H1 x=none->H1 dx=none->dx≠x->sp (.ref x::vs) (upd (upd H1 dx (.own x)) x (.ins C dx [])) (λ v H2=>v=.non/\D.nx σ H2) λ cls _ H2=>EN K cls (.ref C0)=some true/\
 ∀a,H2 a=none->ts a {nx:=λ _ _=>False,rt:=D.rt} (σ.set i (some (.ref a))) (upd H2 a (fL cls a))
section
variable {X:Cx}{e:Expr}{es:List Expr}{ta:TA}{ts:Addr->TS}{p pos bpos np hpos tpos:Pos}{sp:Sp}{k j i:Nat}{name xc n:Str}{ps:List Str}{C C0:Addr}{b₀:Stmt}{suite:List Stmt}
theorem nM {f:Addr}{fd:FuncData}{pins:List (Addr×Obj)}{σ:St}{H:Hp}{s:Shared}{Q:VK}{us:List Value}{vs:List V}{E:XK}{E':Value->Shared->Prop}(M:Mk X.K C f) (F:bp X.prog X.w X.K X.mg X.base (jQ X.prog X.w) k f fd ps sp) (hr:bQ (k+1) X.A) (hb:dq X.K fd ps [])
  (I:au X pins σ H s) (r:aF vs us)
  (h:∀x dx,H x=none->H dx=none->dx≠x->sp (.ref x::vs) (upd (upd H dx (.own x)) x (.ins C dx [])) (λ v H2=>v=.non/\Q (.ref x) H2) E)
  (hx:∀H1 s1 e s',au X pins σ H1 s1->jQ X.prog X.w X.stack H1 s1 E e s'->E' e s'):wpAny (model X.prog X.w) X.A (call (.ref C) us) (EP X pins σ Q) E' s:=by
 have hq:=h (s.heap.objs.size+1) s.heap.objs.size (I.hok.fresh (DX _)) (I.hok.fresh (DS _)) (DT (D4 _));have I2:=au.made (C:=C) I;have r2:aF (V.ref (s.heap.objs.size+1)::vs) (Value.ref (s.heap.objs.size+1)::us):=.cons rfl r;have hl:(Value.ref (s.heap.objs.size+1)::us++[]).length=ps.length:=by have e:=r2.length;rw [F.len _ _ _ _ hq] at e;rw [Dd];exact e.symm
 have hb':=hb _ (Value.ref (s.heap.objs.size+1)::us) I2.kIn hl;rw [Dd] at hb';refine wpAny_call (kE (f:=f) I.kIn M.makes M.init (beq_iff_eq.mp M.fn) (codeAny_mono (F.run _ X.stack _ _ ⟨Value.ref (s.heap.objs.size+1)::us,[]⟩ (Value.ref (s.heap.objs.size+1)::us) _ _ E (hr.make C us [])
  (I2.env0.make C us []) hb' r2 hq) λ r s' hq'=>?_))
 cases r with
 | error e=>exact hx _ _ e s' I2 hq'
 | ok fl=>
   cases fl with
   | ret u=>
     obtain ⟨v,H',I3,rv,ev,q3⟩:=I2.after hq';subst ev;exact ⟨rv,⟨V.ref (s.heap.objs.size+1),H',I3,rfl,q3⟩⟩
   | next=>exact False.elim hq'
   | brk=>exact False.elim hq'
   | cont=>exact False.elim hq'
theorem q8 (M:CU X.prog X.w X.K X.mg X.base name C ps k sp) (hr:bQ j X.A) (hn:∀e s,X.xe e s->False) (ha:PA X (e::es) ta) (hmc:X.mg xc=some (.ref C0)) (hN:X.N.Nodup) (hi:X.N[i]? =some n) (hs:∀a,jO (X.hand a) (b₀::suite) (ts a))
  (hkj:k+1<=j:=by decide) (hstk:X.stack=X.env::X.outer:=by rfl) (hfr:X.env.frame=some X.env.locals:=by rfl) (hx:X.env.scope.names.lookup n=some .local:=by rfl) (hgc:Gl X xc:=by rfl) (hg:Gl X name:=by rfl)
  (hdb:(name == ("__debug__":Str))=false:=by decide) (hdc:(xc == ("__debug__":Str))=false:=by decide) (hp:(e::es).all dt=true:=by rfl) (hsw:swapsWith (.Call (.Name name p) (e::es) [] pos) none bpos.line X.env=pure false:=by rfl):
  PS X (.Try [.Expr (.Call (.Name name p) (e::es) [] pos) bpos] [.ExceptHandler (some (.Name xc np)) (some n) (b₀::suite) hpos] [] [] tpos) (vE X.K C C0 sp i ta ts):=by
 intro pins s σ H D I h;obtain ⟨f,fd,MK,F,hm,hb⟩:=M.ex;have hp':=hp;rw [C8,Ef] at hp';refine wpAny_Try_except (wpAny_execs_cons (wpAny_Expr_any ?_ I.quiet hsw));refine wpAny_Call_Name_kw (dL I hg hm ?_ hdb);refine EL (h₀:=X.base) I.ok.mod.kin MK.kp (wpAny_mono (ha pos pins s σ H _ I h) (λ us s1 ⟨vs,H1,I1,r,q⟩=>⟨I1.kIn,?_⟩) λ _ _ z=>(hn _ _ z).elim) (cS hp'.1) (dn hp'.2);refine wpAny_mono (nM (Q:=λ _ H2=>D.nx σ H2) MK F (hr.mono hkj) hb I1 r q λ H2 s2 e s' I2 z=>?_) (λ v s2 ⟨_,H2,I2,_,z⟩=>wpAny_execs_nil (wpAny_execs_nil ⟨σ,H2,I2,z⟩)) λ _ _ z=>z;exact AJ I2 hn hstk hfr hgc hmc hN hi hx hs z (λ _ _ _ z=>z) hdc
end
section
variable {K:Frag}{C C0 ea:Addr}{sp:Sp}{i:Nat}{ta t:TA}{ts:Addr->TS}{u:TS}{D:cb}{σ:St}{H:Hp}{Q:VK}{vs:List V}
theorem we (h:Av ta σ H vs) (q:∀x dx,H x=none->H dx=none->dx≠x->sp (.ref x::vs) (upd (upd H dx (.own x)) x (.ins C dx [])) (λ v H2=>v=.non/\u D σ H2) λ cls _ H2=>EN K cls (.ref C0)=some true/\
  ∀a,H2 a=none->ts a {nx:=λ _ _=>False,rt:=D.rt} (σ.set i (some (.ref a))) (upd H2 a (fL cls a))):bC (vE K C C0 sp i ta ts) u D σ H:=h _ q
theorem rR (h:Av t σ H vs) (e:vs[0]? =some (.ref ea)) (q:sp vs H Q E0):qy ea sp t σ H Q:=h _ ⟨e,q⟩
end
end L2
namespace L2
open PySem PySem.Spec PyProof.Rows
section
variable {prog:Program}{w:World}{A:Around}{E:Value->Shared->Prop}{s:Shared}
variable {K:Type} [DecidableEq K] {knd:KeyKind prog w K}
end
end L2
namespace L2
open PySem
def Ris (xs:Array Nat):Prop:= ∀i j,i<j->j<xs.size->xs.getD i 0<xs.getD j 0
end L2
namespace L2
open PySem
def it5 (M:Nat):Nat->Nat->Nat
 | 0,i=>i
 | n+1,i=>it5 M n ((i*5+1) % M)
def orb (M:Nat):Nat->Nat->List Nat
 | 0,_=>[]
 | n+1,i=>i::orb M n ((i*5+1) % M)
def CW (M:Nat):Prop:=(∀e,e<M->e∈orb M M 0)/\it5 M M 0=0
def lp (mask:Nat) (h:Int):Nat->Nat×Nat
 | 0=>(SetTable.bits h % (mask+1),SetTable.bits h)
 | n+1=>SetTable.leap mask (lp mask h n).1 (lp mask h n).2
end L2
namespace L2
open PySem
def sl (mask:Nat) (h:Int) (n c:Nat):Nat:=(lp mask h n).1+c
def Lt2 (n c n' c':Nat):Prop:=n<n'\/(n=n'/\c<c')
def Ok2 (mask:Nat) (h:Int) (n c:Nat):Prop:=c<=SetTable.runEnd mask (lp mask h n).1 - (lp mask h n).1
end L2
namespace L2
open PySem
def xB (t:SetTable) (h:Int) (j:Nat):Prop:= ∃n c,Ok2 t.mask h n c/\sl t.mask h n c=j/\∀a b,Ok2 t.mask h a b->Lt2 a b n c->¬t.slot (sl t.mask h a b)=.empty
structure TGb (es:Array (Int×Value)) (t:SetTable):Prop where
 ps:t.place.size=es.size
 ris:Ris t.place
 nd:t.dummies= #[]
 full:CW (t.mask+1)
 odd:t.mask % 2=1
 fit:t.place.size<=t.mask
 pl:∀i,i<es.size->xB t (es.getD i (0,.none)).1 (t.place.getD i 0)
end L2
namespace L2
open PySem
end L2
namespace L2
open PySem
end L2
namespace L2
open PySem
section
variable {M:Model}{prog:Program}{w:World}{A:Around}{E:Value->Shared->Prop}{s:Shared}
end
section
variable {prog:Program}{w:World}{A:Around}{E:Value->Shared->Prop}{s:Shared}
end
end L2
namespace L2
open PySem
section
variable {prog:Program}{w:World}{A:Around}{E:Value->Shared->Prop}{s:Shared}
end
end L2
namespace L2
open PySem
section
variable {prog:Program}{w:World}
end
section
variable {prog:Program}{w:World}{A:Around}{E:Value->Shared->Prop}
end
section
variable {prog:Program}{w:World}{A:Around}{E:Value->Shared->Prop}{s:Shared}
end
end L2
namespace L2
open PySem
section
variable {prog:Program}{w:World}{A:Around}{E:Value->Shared->Prop}{s:Shared}
end
section
variable {prog:Program}{w:World}{κ:Type} [DecidableEq κ] {knd:KeyKind prog w κ}{A:Around}{E:Value->Shared->Prop}{s:Shared}
end
end L2
namespace L2
open PySem
section
variable {prog:Program}{w:World}{A:Around}{E:Value->Shared->Prop}{s:Shared}
def El (prog:Program) (w:World) (m:Addr->Prop) (h:Heap) (k:List Int) (e:Int×Value):Prop:= ∃a,m a/\e=(tupleKeyHash (intKind prog w) k,.ref a)/\IsTupleKey (intKind prog w) h k a
end
end L2
namespace L2
open PySem
section
variable {prog:Program}{w:World}{A:Around}{E:Value->Shared->Prop}{s:Shared}
def Rm (mask n:Nat):Prop:=(mask=7\/mask=31\/mask=127\/mask=511)/\n*5<mask*3
structure ST (prog:Program) (w:World) (m:Addr->Prop) (h:Heap) (es:Array (Int×Value)) (t:SetTable):Prop where
 el:∀e∈es.toList,∃k,El prog w m h k e
 nd:es.toList.Pairwise λ e e'=> ∀k,El prog w m h k e->¬El prog w m h k e'
 tg:TGb es t
 led:t.led= !w.params.followText "set-order"
 rm:Rm t.mask es.size
end
end L2
namespace L2
open PySem PySem.Spec PyProof.Rows
section
variable {prog:Program}{w:World}{A:Around}{R:Result->Shared->Prop}{I:Addr}{fp wr:List Addr}{G:Array GenState->Array GenState->Prop}{n:Nat}{Pt:Nat->Value->Prop}{St:Nat->Shared->Prop}{κ:Type} [DecidableEq κ] {knd:KeyKind prog w κ}
end
section
variable {prog:Program}{w:World}{A:Around}{E:Value->Shared->Prop}{s:Shared}{κ:Type} [DecidableEq κ] {knd:KeyKind prog w κ}
end
end L2
namespace L2
open PySem PySem.Spec PyProof.Rows
section
variable {prog:Program}{w:World}{A:Around}{R:Result->Shared->Prop}{I:Addr}{fp wr:List Addr}{G:Array GenState->Array GenState->Prop}{n:Nat}{Pt:Nat->Value->Prop}{St:Nat->Shared->Prop}
end
section
variable {prog:Program}{w:World}{A:Around}{E:Value->Shared->Prop}{s:Shared}
end
end L2
namespace L2
open PySem PySem.W PyProof.Rows
structure CS (n:Nat) (lt:Nat->Nat->Bool):Prop where
 tr:∀a b c,a<n->b<n->c<n->lt a b=true->lt b c=true->lt a c=true
 as:∀a b,a<n->b<n->lt a b=true->lt b a=false
 tt:∀a b,a<n->b<n->a≠b->lt a b=false->lt b a=true
section
variable {n:Nat}{lt:Nat->Nat->Bool}{s:Shared}{cmp:Nat->Nat->(Bool->Shared->Prop)->Shared->Prop}(O:CS n lt) (hc:∀i j (C:Bool->Shared->Prop),i<n->j<n->C (lt i j) s->cmp i j C s)
include O hc
omit O hc in
theorem Cw {p q:Array Nat}{n:Nat}(h:p.toList.Perm (List.range n)) (e:q.Perm p):q.toList.Perm (List.range n):=(Array.perm_iff_toList_perm.mp e).trans h
end
end L2
namespace L2
open PySem PySem.W PySem.Calls PyProof.Rows
section
variable {prog:Program}{w:World}{A:Around}{E:Value->Shared->Prop}{s:Shared}
end
end L2
namespace L2
open PySem PySem.Spec PyProof.Rows
section
variable {prog:Program}{w:World}{A:Around}{E:Value->Shared->Prop}{s:Shared}
end
end L2
namespace L2
open PySem PySem.Spec PyProof.Rows
section
variable {X:Cx}
end
section
variable {P:Program}{w:World}{K:Frag}{σ:St}{H:Hp}{Q:VK}{te:TE}
end
end L2
namespace L2
open PySem PySem.Spec PyProof.Rows
section
variable {X:Cx}{a b:Expr}{ta tb:TE}{pos:Pos}
end
section
variable {K:Frag}{σ:St}{H:Hp}{ta tb:TE}{x y:V}{k:Bool}{Q:VK}
end
section
variable {K:Frag}{σ:St}{H:Hp}{Q:VK}
end
end L2
namespace L2
open PySem PySem.W PySem.Calls PySem.Spec PyProof.Rows
section
variable {prog:Program}{w:World}{A:Around}{E:Value->Shared->Prop}{s:Shared}
end
end L2
namespace L2
open PySem PySem.W PySem.Calls PySem.Spec PyProof.Rows
section
variable {prog:Program}{w:World}{A:Around}{E:Value->Shared->Prop}{s:Shared}
end
end L2
namespace L2
open PySem PySem.W PySem.Calls PySem.Spec PyProof.Rows
section
variable {X:Cx}
end
end L2
namespace L2
open PySem PySem.Spec PyProof.Rows
section
variable {X:Cx}{a b c e o:Expr}{ta tb tc te to:TE}{p p2 pos:Pos}{es:List Expr}{t:TA}
end
section
variable {P:Program}{w:World}{K:Frag}{σ:St}{H:Hp}{Q:VK}{te to:TE}{D:cb}{u:TS}
end
end L2
namespace L2
open PySem PySem.Spec PyProof.Rows
section
variable {K:Frag}{c:Nat}{H:Hp}{Q:VK}
end
structure v6 where
 kd:Str
 so:Str
 ai:Str
 ax:Int
 up:Int
abbrev v6.vs (r:v6):List V:=[.str r.kd,.str r.so,.str r.ai,.int r.ax,.int r.up]
end L2
namespace L2
open PySem PySem.Spec PyProof.Rows
end L2
namespace L2
open PySem PySem.Spec PyProof.Rows
theorem Ag {t:TA}{σ:St}{H:Hp}{Q:VK}(q:t σ H (λ vs H2=>vs.length<=sizeLine/\∀p,H2 p=none->Q (.ref p) (upd H2 p (.tup vs)))):oE t σ H Q:=q
end L2
namespace L2
open PySem PySem.W PySem.Calls PySem.Spec PyProof.Rows
section
variable {X:Cx}
end
end L2
namespace L2
open PySem PySem.W PySem.Calls PySem.Spec PyProof.Rows
end L2
namespace L2
open PySem PySem.Spec PyProof.Rows
theorem fX {H H1 H':Hp}{x dx:Addr}{o1 o2:HO}(s:am H H1) (nx:H1 x=none) (nd:H1 dx=none) (sb:SameBut x (upd (upd H1 dx o1) x o2) H'):am H H':=λ b o e=>by have e1:=s b o e;have nbx:=aj e1 nx;have nbd:=aj e1 nd;exact sb b o (by rw [ak nbx,ak nbd];exact e1) nbx
theorem eK.imp {P:Program}{w:World}{K:Frag}{mg:Str->Option Value}{base:Heap}{name:Str}{ps:List Str}{k:Nat}{sp sp':Sp}(C:eK P w K mg base name ps k sp) (h:∀vs H Q E,sp' vs H Q E->sp vs H Q E):eK P w K mg base name ps k sp':=by obtain ⟨f,fd,F,a,b,c⟩:=C.ex;exact ⟨f,fd,F.imp h,a,b,c⟩
theorem xz {P:Program}{w:World}{K:Frag}{mg:Str->Option Value}{base:Heap}(C:eK P w K mg base "is_among" ["thing","least","most"] 2 fc):eK P w K mg base "is_among" ["thing","least","most"] 2 vK:=eK.imp C λ vs H Q E h=>by obtain ⟨t,a,b,rfl,q⟩:=h;exact ⟨.int t,a,b,rfl,trivial,q⟩
end L2
namespace L2
open PySem PySem.Spec PyProof.Rows
end L2
namespace L2
open PySem PySem.Spec PyProof.Rows
end L2
namespace L2
open PySem PySem.W PySem.Calls PySem.Spec PyProof.Rows
section
variable {prog:Program}{w:World}{A:Around}{E:Value->Shared->Prop}{s:Shared}
end
section
variable {X:Cx}
end
section
variable {X:Cx}{a b:Expr}{ta tb:TE}{pos:Pos}
end
end L2
namespace L2
open PySem PySem.Spec PyProof.Rows
end L2
namespace L2
open PySem PySem.Spec PyProof.Rows
end L2
namespace L2
open PySem PySem.Spec PyProof.Rows
section
variable {K:Frag}{σ:St}{H:Hp}{ta tb te:TE}
theorem xi {T:BT}{a:Addr}{xs:List V}(h:Ev te σ H (.ref a)) (ha:H a=some (.lst xs)):Ev (xo T te) σ H (.bl (cu .list T)):=λ Q q=>h _ (rE ha q)
theorem qd {a b:Addr}{k:Bool}(h1:Ev ta σ H (.ref a)) (h2:Ev tb σ H (.ref b)) (h:iI K H 20 (.ref a) (.ref b) k):Ev (dy K .NotEq ta tb) σ H (.bl (!k)):=λ Q q=>h1 _ (h2 _ ⟨k,h,q⟩)
theorem xl {op:CmpOp}{R:Bool->Hp->Prop}(h:ta σ H λ x H1=>tb σ H1 λ y H2=>aI K op x y H2 (cy R)):de (dy K op ta tb) σ H R:=h
end
theorem rM {K:Frag}{H:Hp}{n:Nat}{a b:Addr}(ha:H a=some (.lst [])) (hb:H b=some (.lst [])):iI K H (n+1) (.ref a) (.ref b) true:=by have z:=iI.lst (n:=n) (es:=λ _=>true) (aH.of (K:=K) ha) (aH.of hb) rfl (λ i x y hx=>by simp at hx);exact z
end L2
namespace L2
open PySem PySem.Spec PyProof.Rows
theorem lT {sp:Sp}{t:TA}{σ:St}{H:Hp}{R:Bool->Hp->Prop}{vs:List V}(h:Av t σ H vs) (q:sp vs H (cy λ c H1=>R (!c) H1) E0):jV (de (eW sp t)) σ H R:=h _ q
end L2
namespace L2
open PySem PySem.Spec PyProof.Rows
theorem cY {te:TE}{D:cb}{σ:St}{H:Hp}(h:te σ H D.rt):cU te D σ H:=h
end L2
namespace L2
open PySem PySem.Spec PyProof.Rows
end L2
namespace L2
open PySem PySem.Spec PyProof.Rows
theorem xy {ta tb:TE}{σ:St}{H:Hp}{Q:VK}(h:ta σ H (cy λ c H1=>if c=true then tb σ H1 Q else Q (.bl false) H1)):kX ta tb σ H Q:=h
theorem lO {K:Frag}{op:CmpOp}{ta tb:TE}{σ:St}{H:Hp}{Q:VK}(h:ta σ H λ x H1=>tb σ H1 λ y H2=>aI K op x y H2 Q):dy K op ta tb σ H Q:=h
theorem qx {sp:Sp}{t:TA}{σ:St}{H:Hp}{Q:VK}(h:t σ H λ vs H1=>sp vs H1 Q E0):eW sp t σ H Q:=h
theorem jJ {sp:Sp}{t:TA}{σ:St}{H:Hp}{R:Bool->Hp->Prop}(h:t σ H λ vs H1=>sp vs H1 (cy λ c H2=>R (!c) H2) E0):jV (de (eW sp t)) σ H R:=h
theorem xx {tb:TE}{σ:St}{H:Hp}{Q:VK}(h:tb σ H Q):cy (λ c H1=>if c=true then tb σ H1 Q else Q (.bl false) H1) (.bl true) H:=by show (if true=true then tb σ H Q else Q (.bl false) H);rw [if_pos rfl];exact h
end L2
namespace L2
open PySem PySem.Spec PyProof.Rows
def n8 (hi sd:Int):Int:=if sd=0 then hi - 1 else 0
def oW (K:Frag) (cB:Addr):Sp:=λ vs H Q _=> ∃(p:Addr) (wi hi:Int) (hs:List Int) (sd:Int),vs=[.ref p,.int sd]/\bF K cB H p wi hi hs/\Q (.int (n8 hi sd)) H
theorem mQ {K:Frag}{H:Hp}{n:Nat}{a b:Addr}{xs:List V}(ha:H a=some (.lst xs)) (hb:H b=some (.lst [])):iI K H (n+1) (.ref a) (.ref b) (decide (xs=[])):=by
 cases xs with
 | nil=>exact rM ha hb
 | cons x xs=>exact iI.len (aH.of ha) (aH.of hb) (by simp)
end L2
namespace L2
open PySem PySem.Spec PyProof.Rows
section
variable {K:Frag}{σ:St}{H:Hp}{ta tb te:TE}{x:V}
end
theorem wf {t u:TT}{σ:St}{H:Hp}{R:Bool->Hp->Prop}(h:t σ H λ c H1=>if c=true then u σ H1 R else R false H1):na t u σ H R:=h
end L2
namespace L2
open PySem PySem.Spec PyProof.Rows
theorem pR {K:Frag}{ta ti:TE}{σ:St}{H:Hp}{Q:VK}(h:ta σ H λ x H1=>ti σ H1 λ y H2=>w9 K x y H2 Q):xL K ta ti σ H Q:=h
end L2
namespace L2
open PySem PySem.Spec PyProof.Rows
end L2
namespace L2
open PySem PySem.Spec PyProof.Rows
end L2
namespace L2
open PySem PySem.Spec PyProof.Rows
theorem mr {C:Addr}{m:Str}{sp:Sp}{to:TE}{t:TA}{σ:St}{H:Hp}{Q:VK}{p:Addr}(ho:Ev to σ H (.ref p)) (hi:mZ C m H p) (q:t σ H λ vs H2=>sp (.ref p::vs) H2 Q E0):kW C m sp to t σ H Q:=ho _ ⟨hi,q⟩
end L2
namespace L2
open PySem PySem.Spec PyProof.Rows
end L2
namespace L2
open PySem PySem.Spec PyProof.Rows
end L2
namespace L2
open PySem PySem.Spec PyProof.Rows
theorem io:bootBuiltins "ValueError"=some (.type "ValueError"):=by decide+kernel
section
variable {X:Cx}{a b:Expr}{ta tb:TE}{pos:Pos}
end
structure AlC (mg:Str->Option Value) (K:Frag) (D:Addr) (b1 b2 b3 b4 b5 b6 b7 b8 b9:Bool):Prop where
 x:PySem.W.ExcC K D
 f1:∃c,mg "BadBoard"=some (.ref c)/\Ex K (.ref D) (.ref c)=some b1
 f2:∃c,mg "BadGame"=some (.ref c)/\Ex K (.ref D) (.ref c)=some b2
 f3:∃c,mg "BadLine"=some (.ref c)/\Ex K (.ref D) (.ref c)=some b3
 f4:∃c,mg "BadPlace"=some (.ref c)/\Ex K (.ref D) (.ref c)=some b4
 f5:∃c,mg "NoMove"=some (.ref c)/\Ex K (.ref D) (.ref c)=some b5
 f6:∃c,mg "TooWide"=some (.ref c)/\Ex K (.ref D) (.ref c)=some b6
 f7:∃c,mg "NoWord"=some (.ref c)/\Ex K (.ref D) (.ref c)=some b7
 f8:∃c,mg "Over"=some (.ref c)/\Ex K (.ref D) (.ref c)=some b8
 f9:∃c,mg "NothingBack"=some (.ref c)/\Ex K (.ref D) (.ref c)=some b9
 v:Ex K (.ref D) (.type "ValueError")=some true
 one:([V.bl b1,.bl b2,.bl b3,.bl b4,.bl b5,.bl b6,.bl b7,.bl b8,.bl b9].countP λ z=>eqV z (.bl true))=1
theorem lP {K:Frag}{D:Addr}{v:Value}{b:Bool}(h:EK K D v=some b):(PySem.W.clsIn K D).isSome=true:=by
 unfold EK at h;cases e:PySem.W.clsIn K D with
 | none=>rw [e] at h;cases h
 | some _=>rfl
theorem qS {c:Addr}:∀u,aK (.ref c) u->u=.ref c:=λ _ h=>h
theorem wq {n:String}:∀u,aK (.ty n) u->u=.type n:=λ _ h=>h
theorem gp.hu {k:Nat}{A:Around}(r:gp k A):A.units+20<cLine:=by have:=r.un;omega
end L2
namespace L2
open PySem PySem.Spec PyProof.Rows
end L2
namespace L2
open PySem PySem.Spec PyProof.Rows
end L2
namespace L2
open PySem PySem.Spec PyProof.Rows
section
variable {X:Cx}{a b:Expr}{ta tb:TE}{pos:Pos}
theorem qK:Str.empty=("":Str):=by decide+kernel
def ko:R2:=λ x y H Q=> ∃(z:Str) (b:Bool),x=.str z/\y=.int (if b=true then 1 else 0)/\Q (.str (if b=true then z else "")) H
theorem rp:eS X (binaryOp .Mult) ko:=by
 intro pins s σ H x y v u Q I rx ry h;obtain ⟨z,b,rfl,rfl,q⟩:=h;obtain ⟨t,rfl⟩:=rx;obtain ⟨t2,rfl⟩:=ry;cases b with
 | false=>
   refine PySem.P.mul_str_none (n:=0) (by decide) (by decide) ?_;rw [qK];exact ⟨.str "",H,I.tok _,⟨_,rfl⟩,q⟩
 | true=>
   refine PySem.P.mul_str (n:=1) (by decide) (λ _ h=>by simp at h) (λ _ h=>by simp at h) ?_;rw [if_neg (by decide),if_pos (by rfl)];exact ⟨.str z,H,I,⟨_,rfl⟩,q⟩
theorem pQ (ha:PE X a ta) (hb:PE X b tb):PE X (.BinOp a .Mult b pos) (wj ko ta tb):=vR rp ha hb
def pS (K:Frag):List V->Hp->VK->Prop:=λ vs H Q=> ∃(a D:Addr) (y:V) (cv:Value) (b:Bool),vs=[.ref a,y]/\(∀u,aK y u->u=cv)/\H a=some (fL (.ref D) a)/\PySem.W.ExcC K D/\Ex K (.ref D) cv=some b/\Q (.bl b) H
theorem bK (K:Frag) (hK:X.K=K:=by rfl):aP X (.builtin "isinstance") (pS K):=by subst hK;intro pins s σ H xs us Q I r h;obtain ⟨a,D,y,cv,b,rfl,hy,ha,F,hb,q⟩:=h;obtain ⟨u,v,rfl,ru,rv⟩:=r.two;cases ru;cases hy v rv;have hx:bi X.prog X.w H s.heap a (.ext λ h=> ∃o vs,h.get? a=some o/\o.cls=.ref D/\o.data=.fields vs/\vs[2]? =some .none):=I.hok a _ ha;obtain ⟨⟨o,vs,p1,p2,_⟩,_,_⟩:=hx;exact EB (PySem.W.kitx_exc F) I.kIn ⟨o,p1,p2⟩ hb (λ z=>nomatch z) λ tk=>⟨.bl b,H,I.tok tk,rfl,q⟩
end
section
variable {K:Frag}{σ:St}{H:Hp}{Q:VK}{ta tb te:TE}{z:Str}{b:Bool}
theorem mK (ha:Ev ta σ H (.str z)) (hb:Ev tb σ H (.int (if b=true then 1 else 0))):Ev (wj ko ta tb) σ H (.str (if b=true then z else "")):=λ Q q=>ha _ (hb _ ⟨z,b,rfl,rfl,q⟩)
theorem mM {t:TA}{a D:Addr}{y:V}{cv:Value}(h:Av t σ H [.ref a,y]) (hy:∀u,aK y u->u=cv) (ha:H a=some (fL (.ref D) a)) (F:PySem.W.ExcC K D) (hb:Ex K (.ref D) cv=some b):Ev (cB (pS K) t) σ H (.bl b):=λ Q q=>h _ ⟨a,D,y,cv,b,rfl,hy,ha,F,hb,q⟩
end
def wS (b:Bool) (z:Str):Str:=if b=true then z else ""
def l8 (D:Addr) (wd:Str):Sp:=λ vs H Q _=> ∃a,vs=[.ref a]/\H a=some (fL (.ref D) a)/\∀H',am H H'->Q (.str wd) H'
def bB (H:Hp) (v:V) (m:Int):Bool:=match lstOf H v with
 | some xs=>decide ((xs.length:Int)<m)&&xs.all (λ x=>aV x 0 (m - 1))&&decide ((xs.map λ x=>match x with | .int i=>i | _=>0).Nodup)
 | none=>false
def fb:Sp:=λ vs H Q _=> ∃(v:V) (m:Int),vs=[v,.int m]/\dF H 1 v/\m<=64/\∀H',am H H'->Q (.bl (bB H v m)) H'
def dM (H:Hp) (wv hv dv:V):Bool:=match wv,hv with
 | .int wi,.int hi=>decide (1<=wi/\wi<=8)&&decide (1<=hi/\hi<=8)&&bB H dv (wi*hi)
 | _,_=>false
def jZ (cB cN:Addr):Sp:=λ vs H _ E=> ∃(p dx:Addr) (wv hv dv:V),vs=[.ref p,wv,hv,dv]/\H p=some (.ins cB dx [])/\Thg H wv/\Thg H hv/\dF H 1 dv/\dM H wv hv dv=false/\∀H',am H H'->E (.ref cN) none H'
def md (wd:Str):Sp:=λ vs H Q _=> ∃(wv hv dv:V),vs=[wv,hv,dv]/\Thg H wv/\Thg H hv/\dF H 1 dv/\dM H wv hv dv=false/\∀H',am H H'->Q (.str wd) H'
theorem mD {m:Int}:∀{xs:List V},xs.all (λ x=>aV x 0 (m - 1))=true->∃hs:List Int,xs=hs.map V.int/\∀h∈hs,0<=h/\h<m
 | [],_=>⟨[],rfl,λ _ z=>nomatch z⟩
 | x::xs,h=>by
   rw [C8,Ef] at h;obtain ⟨hs,rfl,g⟩:=mD h.2;cases x with
   | int i=>
     have h1:0<=i/\i<=m - 1:=of_decide_eq_true h.1;refine ⟨i::hs,rfl,λ k hk=>?_⟩
     rcases C1.mp hk with rfl | hk
     ·omega
     ·exact g k hk
   | _=>exact absurd h.1 (by simp [aV])
end L2
namespace L2
open PySem PySem.Spec PyProof.Rows
section
variable {K:Frag}{tl te:TE}{tt:TT}{src:List (Option Nat)}{σ rest:St}{H:Hp}{Q:VK}
def gm (l:List Bool) (n:Nat):List Int:=((List.range n).filter λ i=>l.getD i false).map λ (i:Nat)=>(i:Int)
theorem gT {l:List Bool}{n:Nat}{b:Bool}(h:l[n]? =some b):gm l (n+1)=gm l n++(if b=true then [(n:Int)] else []):=by
 unfold gm;have e:l.getD n false=b:=by rw [Do,h];rfl
 rw [List.range_succ,List.filter_append,Dq,List.filter_cons,e];cases b<;>rfl
theorem oh {d:Addr}{l:List Bool}(hl:Ev tl σ H (.ref d)) (hx:H d=some (.lst (l.map V.bl))) (hz:l.length<=1000) (hs:dO src σ=none::none::rest)
  (q:∀H' d,am H H'->H' d=none->Q (.ref d) (upd H' d (.lst ((gm l l.length).map V.int)))):tComp (pT K tl) (rH K 2 (fv (gName 0) (fv (gName 1) pY))) (de (br 1)) (br 0) src σ H Q:=by
 refine hl _ ⟨⟨_,aH.of hx⟩,?_⟩;have ll:(l.map V.bl).length=l.length:=CZ ..;refine qr l.length (λ i ys σ' H'=>am H H'/\(∃o0 o1,σ'=o0::o1::rest)/\ys=(gm l i).map V.int) (DU hz (by decide)) (λ i ys σ H h=>?_)
  (λ i ys σ H' h hi=>⟨_,(l.map V.bl)[i]'(by rw [ll];exact hi),aH.of (h.1 _ _ hx),C4 (by rw [ll];exact hi)⟩) (λ ys σ H' h=>⟨_,aH.of (h.1 _ _ hx),by rw [ll];exact DS _⟩) ⟨am.refl H,⟨_,_,hs⟩,rfl⟩ ?_ ?_
 ·rw [h.2.2,CZ];unfold gm;rw [CZ];exact DU (Dz _ _) (by rw [Dg];exact DS _)
 ·rintro i ys _ H1 x H2 hi ⟨s1,⟨o0,o1,rfl⟩,rfl⟩ ⟨t,v,rfl,ht0,rfl,hyy⟩ Kt Kf kt kf;have ex:=hyy _ (aH.of (s1 _ _ hx));rw [Db,C4 hi] at ex;obtain rfl:V.bl l[i]=v:=Option.some.inj ex;have hb:l[i]? =some l[i]:=C4 hi;have s2:am H (upd H1 t (.tup [.int (i:Int),.bl l[i]])):=s1.upd ht0;refine ⟨t,_,rfl,dQ.of ac,rfl,_,_,rfl,_,_,rfl,rfl,?_⟩;show de (br 1) (some (.int (i:Int))::some (.bl l[i])::rest) _ _;refine (bz (te:=br 1) (b:=l[i]) (aa rfl)) _ ?_;cases hp:l[i] with
  | true=>
    refine gQ ((show Ev (br 0) _ _ (.int (i:Int)) from aa rfl) _ (kt _ _ _ ⟨by rw [<-hp];exact s2,⟨_,_,rfl⟩,?_⟩));rw [gT hb,hp,if_pos rfl,Dq];rfl
  | false=>
    refine ig (kf _ _ ⟨by rw [<-hp];exact s2,⟨_,_,rfl⟩,?_⟩);rw [gT hb,hp,if_neg (by decide),Dd]
 ·rintro ys σ' H' d ⟨s1,_,rfl⟩ hd;exact q H' d s1 hd
end
theorem qa {wi hi:Int}{hs:List Int}:gm (firmL wi hi hs) (firmL wi hi hs).length=((List.range (wi*hi).toNat).filter λ (s:Nat)=> !decide ((s:Int)∈hs)).map λ (i:Nat)=>(i:Int):=by unfold gm firmL;rw [CZ,Dg];congr 1;refine DM λ i hi=>?_;have:=Dr.mp hi;rw [Do,Db,Dv this];rfl
def cQ (wi hi:Int) (hs:List Int):List Int:=((List.range (wi*hi).toNat).filter λ (s:Nat)=> !decide ((s:Int)∈hs)).map λ (i:Nat)=>(i:Int)
def nX (wi hi:Int) (hs:List Int) (v:V):Bool:=match v with
 | .int i=>decide (0<=i/\i<=wi*hi - 1)&& !decide (i∈hs)
 | _=>false
def oU (K:Frag) (C:Addr):Sp:=λ vs H Q _=> ∃(p:Addr) (wi hi:Int) (hs:List Int) (v:V),vs=[.ref p,v]/\bF K C H p wi hi hs/\Thg H v/\Q (.bl (nX wi hi hs v)) H
def oX (K:Frag) (C:Addr):Sp:=λ vs H Q _=> ∃(p:Addr) (wi hi:Int) (hs:List Int),vs=[.ref p]/\bF K C H p wi hi hs/\∀(q:Addr) (H':Hp),H q=none->H' q=some (.lst ((cQ wi hi hs).map V.int))->am H H'->Q (.ref q) H'
def lh:Sp:=λ vs H Q _=> ∃(v:V) (m:Int),vs=[v,.int m]/\Thg H v/\Q (.bl (aV v 0 (m - 1))) H
def oV (K:Frag):Sp:=λ vs H Q _=> ∃(wi hi:Int) (d:Addr) (hs:List Int) (s ax up:Int),vs=[.int wi,.int hi,.ref d,.int s,.int ax,.int up]/\aH K H d (hs.map V.int)/\1<=wi/\wi<=8/\1<=hi/\hi<=8/\Q (oI (mvd wi hi hs s ax up)) H
def ma (K:Frag):Sp:=λ vs H Q _=> ∃(a b:Addr) (zs:List Int),vs=[.ref a,.ref b]/\H a=some (.lst (zs.map V.int))/\H b=some (.lst (zs.map V.int))/\zs.length<=1000/\∀H',am H H'->Q (.bl true) H'
theorem pN {wi hi:Int}{hs hs':List Int}{s ax up:Int}(h:hs.Perm hs'):mvd wi hi hs s ax up=mvd wi hi hs' s ax up:=by unfold mvd;simp only [h.mem_iff]
theorem lI {wi hi:Int}{hs hs':List Int}(h:hs.Perm hs'):cQ wi hi hs=cQ wi hi hs':=by unfold cQ;simp only [h.mem_iff]
theorem nW {wi hi:Int}{hs hs':List Int}{v:V}(h:hs.Perm hs'):nX wi hi hs v=nX wi hi hs' v:=by unfold nX;simp only [h.mem_iff]
def v5 (ta tb:TE):TE:=λ σ H Q=>ta σ H λ x H1=>tb σ H1 λ y H2=> ∃a b:Int,x=.int a/\y=.int b/\a<=b/\-(2 ^ 62)<=a/\b<2 ^ 62/\b - a<=1000/\∀q,H2 q=none->Q (.ref q) (upd H2 q (.lst ((List.range (b - a).toNat).map λ (i:Nat)=>V.int (a+i))))
theorem lY:∀{xs:List V}{us:List Value},xs.length=us.length->(∀(i:Nat) x u,xs[i]? =some x->us[i]? =some u->aK x u)->aF xs us
 | [],[],_,_=>.nil
 | x::xs,u::us,hl,h=>.cons (h 0 x u rfl rfl) (lY (by simpa using hl) λ i x u hx hu=>h (i+1) x u (by simpa using hx) (by simpa using hu))
 | [],_::_,hl,_=>by simp at hl
 | _::_,[],hl,_=>by simp at hl
section
variable {X:Cx}{a b:Expr}{ta tb:TE}
theorem rP {p p1 p2 pos:Pos}(hc:X.calm=true) (ha:PE X a ta) (hb:PE X b tb) (hml:X.mg "list"=none) (hm:X.mg "range"=none) (hgl:Gl X "list":=by rfl) (hg:Gl X "range":=by rfl)
  (hs:starEach [.Call (.Name "range" p1) [a,b] [] p2] X.env=(false,eval (.Call (.Name "range" p1) [a,b] [] p2) X.env)::starEach [] X.env:=by rfl) (hplain:(backTo pos (starEach [] X.env)).any (·.1)=false:=by rfl)
  (hs2:starEach [a,b] X.env=(false,eval a X.env)::starEach [b] X.env:=by rfl) (hs3:starEach [b] X.env=(false,eval b X.env)::starEach [] X.env:=by rfl) (hpl2:(backTo p2 (starEach [b] X.env)).any (·.1)=false:=by rfl):
  PE X (.Call (.Name "list" p) [.Call (.Name "range" p1) [a,b] [] p2] [] pos) (v5 ta tb):=by
 intro pins s σ H Q I h;refine wpAny_Call_Name_kw (d0 I hgl hml fH ?_ (by decide) (by decide));refine PyProof.Rows.callWith_type1 ?_ hs hplain;rw [hs];show wpAny _ _ (spliced ((false,eval (.Call (.Name "range" p1) [a,b] [] p2) X.env)::backTo pos (starEach [] X.env))) _ _ s;refine Calls.spliced_cons ?_;refine wpAny_Call_Name_kw (d0 I hg hm boot_range ?_ (by decide) (by decide));have hA:PA X [a,b] (aN ta (aN tb bY)):=pa_cons ha (pa_cons hb pa_nil hs3) hs2;refine PyProof.Rows.callWith_type1 (bx (hA p2 pins s σ H (λ vs H2=> ∃a b:Int,vs=[.int a,.int b]/\a<=b/\-(2 ^ 62)<=a/\b<2 ^ 62/\b - a<=1000/\∀q,H2 q=none->Q (.ref q) (upd H2 q (.lst ((List.range (b - a).toNat).map λ (i:Nat)=>V.int (a+i))))) I ?_) λ us s2 ⟨vs,H2,I2,r2,i,j,e2,h1,h2,h3,h4,q2⟩=>?_) hs2 hpl2
 ·show ta σ H λ x H1=>tb σ H1 λ y H2=> ∃a b:Int,[x,y]=[.int a,.int b]/\_;unfold v5 at h;have:(λ (x:V) (H1:Hp)=>tb σ H1 λ y H2=> ∃a b:Int,x=.int a/\y=.int b/\a<=b/\-(2 ^ 62)<=a/\b<2 ^ 62/\b - a<=1000/\∀q,H2 q=none->Q (.ref q) (upd H2 q (.lst ((List.range (b - a).toNat).map λ (i:Nat)=>V.int (a+i)))))=
   λ x H1=>tb σ H1 λ y H2=> ∃a b:Int,[x,y]=[.int a,.int b]/\a<=b/\-(2 ^ 62)<=a/\b<2 ^ 62/\b - a<=1000/\∀q,H2 q=none->Q (.ref q) (upd H2 q (.lst ((List.range (b - a).toNat).map λ (i:Nat)=>V.int (a+i)))):=by
   funext x H1;congr 1;funext y H2;apply propext
   constructor
   ·rintro ⟨a,b,rfl,rfl,z⟩;exact ⟨a,b,rfl,z⟩
   ·rintro ⟨a,b,e,z⟩;cases e;exact ⟨a,b,rfl,rfl,z⟩
  rw [this] at h;exact h
 ·subst e2;obtain ⟨u,v,rfl,ru,rv⟩:=r2.two;obtain ⟨t1,rfl⟩:=ru;obtain ⟨t2,rfl⟩:=rv;refine call_range_2 ?_;refine Calls.spliced_nil ?_;have n0:((j - i).toNat:Int)=j - i:=by omega
  have hsz:Builtin.Range.rangeSize i j 1=((j - i).toNat:Nat):=by
   unfold Builtin.Range.rangeSize;rw [if_pos (by decide)]
   by_cases z:i<j
   ·rw [if_pos z];omega
   ·rw [if_neg z];omega
  refine call_list_range (s:={s2 with heap:=s2.heap.push {cls:=.type "range",data:=.fields #[.int i t1,.int j t2,.int 1 s2.toks]},toks:=s2.toks+1}) (I.ok.hd hc) (IsRange.new s2.heap i j 1 t1 t2 s2.toks) ?_ hsz (by omega) λ h' tk acc c' hk hS hacc=>?_
  ·unfold Builtin.Range.small;rw [hsz];simp [Builtin.Range.rangeFitsLong];omega
  ·have sz:(s2.heap.push {cls:=.type "range",data:=.fields #[.int i t1,.int j t2,.int 1 s2.toks]}).objs.size=s2.heap.objs.size+1:=Heap.size_push ..;have kk:∀b u,s2.heap.get? b=some u->h'.get? b=some u:=λ b u q=>hk b u (Heap.get?_push_of_some _ q);have hn:H2 (s2.heap.objs.size+1)=none:=I2.hok.fresh (DX _);have hS':h'.get? (s2.heap.objs.size+1)=some {cls:=.type "list",dict:=none,data:=.seq acc c',slots:= #[]}:=by rw [<-sz];exact hS
   have rv:aF ((List.range (j - i).toNat).map λ (k:Nat)=>V.int (i+k)) acc.toList:=by
    refine lY (by rw [CZ,Dg,Eo];exact hacc.1.symm) λ k x u hx hu=>?_;rw [Db] at hx;have hk:k<(j - i).toNat:=by have:=(Dk.mp hu).1;rw [Eo,hacc.1] at this;exact this
    rw [Dv hk] at hx;obtain rfl:V.int (i+(k:Int))=x:=Option.some.inj hx;obtain ⟨t,rfl⟩:=hacc.2 k u (by simpa using hu);exact ⟨t,by rw [Int.mul_one]⟩
   have J:au X pins σ (upd H2 (s2.heap.objs.size+1) (.lst ((List.range (j - i).toNat).map λ (k:Nat)=>V.int (i+k)))) {s2 with heap:=h',toks:=tk}:=I2.laid kk (DX _) ⟨by rw [CZ,Dg,sizeLine_eq];omega,acc.toList,c',rv,by rw [hS']⟩;refine ⟨.ref (s2.heap.objs.size+1),_,J,?_,q2 _ hn⟩;show Value.ref _=Value.ref _;rw [sz]
end
end L2
local macro_rules | `(tactic| walk_at "rd")=> `(tactic| simp only [L2.bC,L2.iL,L2.cU,L2.tAsg,L2.gName,L2.gk,L2.gl,L2.br,L2.tC,L2.eR,L2.fI,L2.dy,L2.aI,L2.eqB,L2.de,L2.cy,L2.kX,L2.A6,L2.mV,L2.rS,L2.xo,L2.mB,L2.xL,L2.w9,L2.xn,L2.xH,L2.iC,L2.eE,L2.cB,L2.aN,L2.bY,L2.cSM,L2.A5,L2.eW,L2.jV,L2.na,L2.xG,L2.Bg,L2.g9,L2.fG,L2.lC,L2.pO,L2.oM,L2.kH,L2.swA,L2.upA,L2.cJR,DN,DO,DP,DQ])
seal L2.PE L2.PT L2.PA L2.PS L2.jO L2.PG L2.xC L2.PI L2.PO L2.kZ L2.PW L2.aP L2.MtR L2.eS L2.CQ L2.mY L2.oz
namespace L2
open PySem PySem.Spec PyProof.Rows
section
variable {P:Program}{w:World}{K:Frag}{mg:Str->Option Value}{base:Heap}
end
def lawAt (ns:List Int) (k:Int):Int:=((if 0<ns.length then ns.getD (k % (ns.length:Int)).toNat 0 else 0)+17*k)*48271 % 1000003
theorem fu (ns:List Int) (k:Int):0<=lawAt ns k/\lawAt ns k<1000003:=by unfold lawAt;exact ⟨D9 _ (by decide),Ea _ (by decide)⟩
theorem qB {α:Type}{xs:List α}{i:Int}(h0:0<=i) (h1:i<xs.length):∃v,k4 xs i=some v/\xs[i.toNat]? =some v:=by
 have hx:xs[i.toNat]? =some (xs[i.toNat]'(by omega)):=C4 (by omega);refine ⟨_,?_,hx⟩;have e:i=((i.toNat:Nat):Int):=by omega
 have:=fJ hx;rw [<-e] at this;exact this
def wm (K:Frag):Sp:=λ vs H Q _=> ∃a ns k,vs=[.ref a,.int k]/\aH K H a (ns.map V.int)/\0<=k/\k<=1000/\Q (.int (lawAt ns k)) H
theorem rb {xs:List V}{i:Int}{n:Nat}(hn:xs.length=n) (h0:0<=i) (h1:i<n):∃v,k4 xs i=some v/\v∈xs:=by obtain ⟨v,e1,e2⟩:=qB (xs:=xs) h0 (by rw [hn];exact h1);exact ⟨v,e1,Df e2⟩
theorem nP {n:Int}(h:n.natAbs<10 ^ 60):n.natAbs.log2<1920:=by
 have hz:n.natAbs<2 ^ 200:=by
  have:(10:Nat) ^ 60<2 ^ 200:=by decide
  omega
 by_cases hz0:n.natAbs=0
 ·rw [hz0];decide
 ·have:=(Nat.log2_lt hz0).mpr hz;omega
end L2
namespace K03
open PySem L2
def ce (i:Nat):Stmt:=PySem.Challenge.pw_playboard_k03_boards.main.body.getD i (.Pass ⟨0,0,0,0⟩)
abbrev cX:Stmt:=eH (ce 4) 0
abbrev cV:Stmt:=ce 12
theorem j2:aB ["thing"] ["thing"] (ao cV):=gb
abbrev cW:Stmt:=ce 13
theorem j3:aB ["thing","least","most"] ["thing","least","most"] (ao cW):=gb
abbrev cE:Stmt:=ce 15
theorem iP:aB ["wide","square"] ["wide","square"] (ao cE):=gb
abbrev dU:Stmt:=ce 16
theorem ni:aB ["wide","square"] ["wide","square"] (ao dU):=gb
abbrev cD:Stmt:=ce 17
theorem iO:aB ["wide","column","row"] ["wide","column","row"] (ao cD):=gb
abbrev cf:Stmt:=ce 20
theorem iQ:aB ["thing","many"] ["thing","many"] (ao cf):=gb
abbrev aX:Stmt:=eH (ce 21) 0
theorem dk:aB ["self","wide","high","holes"] ["self","wide","high","holes"] (ao aX):=gb
abbrev cJ:Stmt:=eH (ce 21) 1
theorem iT:aB ["self","square"] ["self","square"] (ao cJ):=gb
abbrev bt:Stmt:=eH (ce 21) 2
theorem fQ:aB ["self"] ["self"] (ao bt):=gb
abbrev bV:Stmt:=eH (ce 21) 3
theorem cj:aB ["self","square","across","up","column","row","goal"] ["self","square","across","up"] (ao bV):=gb
abbrev bJ:Stmt:=eH (ce 21) 4
theorem fR:aB ["self","side"] ["self","side"] (ao bJ):=gb
abbrev dD:Stmt:=ce 23
theorem eX:aB ["_law_script","_law_k","_law_cell"] ["_law_script","_law_k"] (ao dD):=gb
abbrev ck:Stmt:=ce 24
theorem hV:aB ["_law_thing"] ["_law_thing"] (ao ck):=gb
abbrev cF:Stmt:=ce 25
theorem aQ:aB ["_law_e","_law_word_here","_law_name","_law_fits"] ["_law_e"] (ao cF):=gb
abbrev cG:Stmt:=ce 26
theorem iR:aB ["_law_cell"] ["_law_cell"] (ao cG):=gb
abbrev cp:Stmt:=ce 27
theorem bA:aB ["_law_script","_law_k","_law_many","_law_count","_law_found","_law_j","_law_square"] ["_law_script","_law_k","_law_many"] (ao cp):=gb
abbrev bj:Stmt:=ce 28
theorem eM:aB ["_law_cell","_law_old"] ["_law_cell","_law_old"] (ao bj):=gb
abbrev aT:Stmt:=ce 29
theorem bc:aB ["_law_cell","_law_holes_here","_law_many","_law_at_here","_law_bad","_law_way","_law_twice"] ["_law_cell","_law_holes_here","_law_many"] (ao aT):=gb
abbrev cH:Stmt:=ce 30
theorem fg:aB ["_law_wide","_law_high","_law_holes_here","_law_e"] ["_law_wide","_law_high","_law_holes_here"] (ao cH):=gb
abbrev bI:Stmt:=ce 31
theorem fP:aB ["_law_thing","_law_many"] ["_law_thing","_law_many"] (ao bI):=gb
abbrev cI:Stmt:=ce 32
theorem dI:aB ["_law_wide","_law_high","_law_holes_here","_law_square","_law_across","_law_up","_law_column","_law_row"] ["_law_wide","_law_high","_law_holes_here","_law_square","_law_across","_law_up"] (ao cI):=gb
abbrev cg:Stmt:=ce 33
theorem iS:aB ["_law_found","_law_due"] ["_law_found","_law_due"] (ao cg):=gb
abbrev aW:Stmt:=ce 34
theorem aS:aB ["_law_board","_law_wide","_law_high","_law_holes_here","_law_some","_law_square","_law_across","_law_up","_law_found","_law_due"] ["_law_board","_law_wide","_law_high","_law_holes_here","_law_some"] (ao aW):=gb
abbrev aU:Stmt:=ce 35
theorem cC:aB ["_law_board","_law_wide","_law_high","_law_holes_here","_law_free"] ["_law_board","_law_wide","_law_high","_law_holes_here"] (ao aU):=gb
abbrev cn:Stmt:=ce 36
theorem bU:aB ["_law_board","_law_wide","_law_high","_law_holes_here","_law_things","_law_thing","_law_found","_law_due","_law_rows"] ["_law_board","_law_wide","_law_high","_law_holes_here","_law_things"] (ao cn):=gb
abbrev bD:Stmt:=ce 37
theorem dj:aB ["_law_board","_law_wide","_law_high","_law_holes_here","_law_things","_law_steps","_law_order","_law_which"] ["_law_board","_law_wide","_law_high","_law_holes_here","_law_things","_law_steps","_law_order"] (ao bD):=gb
abbrev eT:Stmt:=ce 38
theorem bL:aB ["_law_script","_law_wide","_law_high","_law_holes_here","_law_cell","_law_way","_law_bad","_law_handed","_law_board","_law_other","_law_far","_law_things","_law_steps","_law_kept","_law_order","_law_turn","_law_told"] ["_law_script"] (ao eT):=gb
structure Txt (mg:Str->Option Value):Prop where
 isinstance:mg "isinstance"=none
 int:mg "int"=none
 bool:mg "bool"=none
 str:mg "str"=none
 list:mg "list"=none
 tuple:mg "tuple"=none
 len:mg "len"=none
 range:mg "range"=none
 all:mg "all"=none
 set:mg "set"=none
 sorted:mg "sorted"=none
 min:mg "min"=none
 enumerate:mg "enumerate"=none
 ValueError:mg "ValueError"=none
 LONGEST:∃u,mg "LONGEST"=some u/\aK (.int 8) u
def j0 (K:Frag) (C:Addr):Sp:=λ vs H Q _=> ∃(p d dx:Addr) (wi hi:Int) (hs:List Int),vs=[.ref p,.int wi,.int hi,.ref d]/\H p=some (.ins C dx [])/\H d=some (.lst (hs.map V.int))/\1<=wi/\wi<=8/\1<=hi/\hi<=8/\(∀h∈hs,0<=h/\h<wi*hi)/\hs.Nodup/\(hs.length:Int)<wi*hi/\
 ∀(hs':List Int) H',hs'.Perm hs->bF K C H' p wi hi hs'->(∃dx ph pf,H' p=some (.ins C dx (df wi hi ph pf))/\H' ph=some (.lst (hs'.map V.int))/\H' pf=some (.lst ((firmL wi hi hs').map V.bl))/\H ph=none/\H pf=none)->SameBut p H H'->Q .non H'
section
variable {P:Program}{w:World}{K:Frag}{mg:Str->Option Value}{base:Heap}
theorem kA {f:Addr}{fd:FuncData}(F:bW K "is_whole" "is_whole" cV f fd) (T:Txt mg):bp P w K mg base dN 1 f fd ["thing"] dC:=by
 refine F.ok j2 (λ vs H Q E h=>?_) (λ cdv A outer s H vs Q E hr h=>?_)
 ·obtain ⟨v,rfl,_⟩:=h;rfl
 ·obtain ⟨v,rfl,t,q⟩:=h;refine ⟨_,(ap (aA (ez (wT .int T.isinstance T.int hG (cv 0)) (eZ (qu (wT .bool T.isinstance T.bool jL (cv 0))))))),?_⟩;show cU _ _ [some v] H;refine ba (dc (kM (aa rfl) t) (λ _=>qc (kM (aa rfl) t))) ?_;rw [jS t];exact q
theorem kC {f:Addr}{fd:FuncData}(F:bW K "is_among" "is_among" cW f fd) (T:Txt mg) (C:RG0 P w K mg base):bp P w K mg base dN 2 f fd ["thing","least","most"] fc:=by
 refine F.ok j3 (λ vs H Q E h=>?_) (λ cdv A outer s H vs Q E hr h=>?_)
 ·obtain ⟨v,a,b,rfl,_⟩:=h;rfl
 ·obtain ⟨v,a,b,rfl,t,q⟩:=h;have hu:=dh hr;refine ⟨_,(ap (aA (ez (aO C.is_whole hr (ar (cv 0) pa_nil)) (eZ (wY K hu (cv 1) (cv 0) (cv 2)))))),?_⟩;show cU _ _ [some v,oJ a,oJ b] H;have hc:=aR (sp:=dC) (σ:=[some v,oJ a,oJ b]) (H:=H) (ae (aa (n:=0) rfl) ay) (λ Q q=>⟨v,rfl,t,q⟩);cases v with
  | int i=>exact ba (dc hc (λ _=>rL (aa rfl) (aa rfl) (λ _=>aa rfl))) q
  | _=>exact ba (dc (b:=false) hc (λ h=>by cases h)) q
theorem jo {f:Addr}{fd:FuncData}(F:bW K "column_of" "column_of" cE f fd) (T:Txt mg):bp P w K mg base dN 1 f fd ["wide","square"] vJ:=by
 refine F.ok iP (λ vs H Q E h=>?_) (λ cdv A outer s H vs Q E hr h=>?_)
 ·obtain ⟨a,b,rfl,_⟩:=h;rfl
 ·obtain ⟨a,b,rfl,a0,q⟩:=h;refine ⟨_,(ap (aA (al (cv 1) (cv 0)))),?_⟩;show cU _ _ [oJ a,oJ b] H;exact ba (bo (aa rfl) (aa rfl) (a0)) q
theorem nI {f:Addr}{fd:FuncData}(F:bW K "row_of" "row_of" dU f fd) (T:Txt mg):bp P w K mg base dN 1 f fd ["wide","square"] vI:=by
 refine F.ok ni (λ vs H Q E h=>?_) (λ cdv A outer s H vs Q E hr h=>?_)
 ·obtain ⟨a,b,rfl,_⟩:=h;rfl
 ·obtain ⟨a,b,rfl,a0,a1,q⟩:=h;refine ⟨_,(ap (aA (al (cv 1) (cv 0)))),?_⟩;show cU _ _ [oJ a,oJ b] H;exact ba (bH (aa rfl) (aa rfl) (⟨a0,by omega⟩)) q
theorem jn {f:Addr}{fd:FuncData}(F:bW K "square_at" "square_at" cD f fd) (T:Txt mg):bp P w K mg base dN 1 f fd ["wide","column","row"] oQ:=by
 refine F.ok iO (λ vs H Q E h=>?_) (λ cdv A outer s H vs Q E hr h=>?_)
 ·obtain ⟨a,b,c,rfl,_⟩:=h;rfl
 ·obtain ⟨a,b,c,rfl,a0,a1,q⟩:=h;refine ⟨_,(ap (aA (al (al (cv 2) (cv 0)) (cv 1)))),?_⟩;show cU _ _ [oJ a,oJ b,oJ c] H;exact ba (bM (b0 (aa rfl) (aa rfl) (.inr ⟨by omega,by omega⟩)) (aa rfl)) q
theorem gJ {f cB:Addr}{fd:FuncData}(F:bW K "moved" "Board.moved" bV f fd) (T:Txt mg) (B:gj K cB) (C:CB P w K mg base):bp P w K mg base dN 2 f fd ["self","square","across","up"] (me K cB):=by
 refine F.ok cj (λ vs H Q E h=>?_) (λ cdv A outer s H vs Q E hr h=>?_)
 ·obtain ⟨p,wi,hi,hs,sq,ax,up,rfl,_⟩:=h;rfl
 ·obtain ⟨p,wi,hi,hs,sq,ax,up,rfl,O,k⟩:=h;have hu:=dh hr;have w1:=O.w1;have w8:=O.w8;have fw:=O.wide B;have fh:=O.high B;obtain ⟨pf,ff,hf⟩:=O.firm B;refine ⟨_,(af (aC (i:=4) cj.nd rfl (Or.inl rfl) (al (aO C.column_of hr (ar (eQ K (cv 0)) (ar (cv 1) pa_nil))) (cv 2)))
   (af (aC (i:=5) cj.nd rfl (Or.inl rfl) (al (aO C.row_of hr (ar (eQ K (cv 0)) (ar (cv 1) pa_nil))) (cv 3)))
   (af (bn (PW.pt (dE (bg (ms K hu ag (cv 4) (eQ K (cv 0)))) (cZ (bg (ms K hu ag (cv 5) (eQ K (cv 0))))))) (ap (aA da)) aE)
   (af (aC (i:=6) cj.nd rfl (Or.inl rfl) (aO C.square_at hr (ar (eQ K (cv 0)) (ar (cv 4) (ar (cv 5) pa_nil)))))
   (ap (aA (kv (be (mx K (eQ K (cv 0)) (cv 6))) (cv 6) da))))))),?_⟩
  show bC _ _ _ [oR p,oJ sq,oJ ax,oJ up,none,none,none] H;refine bG (bM (aR (ae (bT (aa rfl) (fw)) (ae (aa rfl) ay)) (λ Q q=>⟨wi,sq,rfl,by omega,q⟩)) (aa rfl)) ?_;refine bG (bM (aR (ae (bT (aa rfl) (fw)) (ae (aa rfl) ay)) (λ Q q=>⟨wi,sq,rfl,by omega,by omega,q⟩)) (aa rfl)) ?_;unfold mvd at k;generalize hc:sq % wi+ax=c at k;generalize hr':sq / wi+up=r at k;refine bZ (dA (bX (lZ aq (aa rfl) (λ _=>(bT (aa rfl) (fw))))) (λ _=>(bX (lZ aq (aa rfl) (λ _=>(bT (aa rfl) (fh))))))) (λ h=>?_) (λ h=>?_)
  ·show cU _ _ _ _;refine ba aq ?_;rw [if_neg (λ z=>by rw [decide_eq_true (⟨z.1,z.2.1⟩:0<=c/\c<wi),decide_eq_true (⟨z.2.2.1,z.2.2.2⟩:0<=r/\r<hi)] at h;cases h)] at k;exact k
  ·have h2:(0<=c/\c<wi)/\(0<=r/\r<hi):=by
    by_cases a:0<=c/\c<wi
    ·by_cases b:0<=r/\r<hi
     ·exact ⟨a,b⟩
     ·rw [decide_eq_true a,decide_eq_false b] at h;cases h
    ·rw [decide_eq_false a] at h;cases h
   rw [if_pos ⟨h2.1.1,h2.1.2,h2.2.1,h2.2.2⟩] at k;refine bG (aR (ae (bT (aa rfl) (fw)) (ae (aa rfl) (ae (aa rfl) ay))) (λ Q q=>⟨wi,c,r,rfl,by omega,by omega,q⟩)) ?_;have g0:0<=r*wi+c:=by have:=Int.mul_nonneg h2.2.1 (by omega:0<=wi);omega
   have g1:r*wi+c<wi*hi:=by
    have:r*wi<=(hi - 1)*wi:=Int.mul_le_mul_of_nonneg_right (by omega) (by omega);have e:(hi - 1)*wi=wi*hi - wi:=by rw [Int.sub_mul,Int.one_mul,Ec]
    omega
   show cU _ _ _ _;refine ba (v:=if (!decide (r*wi+c∈hs))=true then .int (r*wi+c) else .non) (v3 (bz (ej (bT (aa rfl) (ff)) (aa rfl) (.inl (aH.of hf)) (mJ g0 g1))) (λ _=>(aa rfl)) (λ _=>aq)) ?_
   by_cases m:r*wi+c∈hs
   ·rw [decide_eq_true m];rw [if_pos m] at k;exact k
   ·rw [decide_eq_false m];rw [if_neg m] at k;exact k
theorem fW {f cB:Addr}{fd:FuncData}(F:bW K "far_row" "Board.far_row" bJ f fd) (T:Txt mg) (B:gj K cB):bp P w K mg base dN 1 f fd ["self","side"] (oW K cB):=by
 refine F.ok fR (λ vs H Q E h=>?_) (λ cdv A outer s H vs Q E hr h=>?_)
 ·obtain ⟨p,wi,hi,hs,sd,rfl,_⟩:=h;rfl
 ·obtain ⟨p,wi,hi,hs,sd,rfl,O,q⟩:=h;have hu:=dh hr;refine ⟨_,(ap (aA (kv (bu K hu (cv 1) ag) (al (eQ K (cv 0)) ag) ag))),?_⟩;show cU _ _ [oR p,oJ sd] H;refine ba (v3 (bz (gn (aa rfl) aq)) (λ _=>du (bT (aa rfl) (O.high B)) aq) (λ _=>aq)) ?_;unfold n8 at q
  by_cases h:sd=0
  ·rw [decide_eq_true h];rw [if_pos h] at q;exact q
  ·rw [decide_eq_false h];rw [if_neg h] at q;exact q
structure CHg (P:Program) (w:World) (K:Frag) (mg:Str->Option Value) (base:Heap):Prop where
 is_among:eK P w K mg base "is_among" ["thing","least","most"] 2 fc
theorem hZ {f:Addr}{fd:FuncData}(F:bW K "are_holes" "are_holes" cf f fd) (T:Txt mg) (C:CHg P w K mg base):bp P w K mg base dN 3 f fd ["thing","many"] fb:=by
 refine F.ok iQ (λ vs H Q E h=>?_) (λ cdv A outer s H vs Q E hr h=>?_)
 ·obtain ⟨v,m,rfl,_⟩:=h;rfl
 ·obtain ⟨v,m,rfl,t,m64,k⟩:=h;have hu:=dh hr;refine ⟨_,(af (bn (PW.pt (dE (bg (be (wT .list T.isinstance T.list fH (cv 0)))) (cZ (bu K hu (kB (lF K) eA T.len (ar (cv 0) pa_nil)) (cv 1))))) (ap (aA bR)) aE)
   (af (bn (bg (be (kB (CF K) xu T.all (ar (gP (ey (N:=["hole","many"]) (src:=[none,some 1]) (ao cf) ["thing","many"]) (vU K (cv 0)) (λ _ _ _=>(cr (i:=0) ["hole","many"])) (λ _ _ _=>gI) (λ _ _ _=>(aO C.is_among hr (ar (cv 0) (ar ag (ar (al (cv 1) ag) pa_nil)))))) pa_nil)))) (ap (aA bR)) aE)
   (ap (aA (jw K hu (kB lS eA T.len (ar (vY (CC K hr) xr T.set (ar (cv 0) pa_nil)) pa_nil)) (kB (lF K) eA T.len (ar (cv 0) pa_nil))))))),?_⟩
  show bC _ _ _ [some v,oJ m] H;have hs:=kM (T:=.list) (te:=br 0) (σ:=[some v,oJ m]) (aa rfl) t.thg;rw [wQ t.thg] at hs;unfold bB at k;cases e:lstOf H v with
  | none=>
    rw [e] at hs k;exact bZ (b:=true) (λ Q q=>bX (bz hs) _ (gQ q)) (λ _=>ba aq (k H (am.refl H))) (λ h=>by cases h)
  | some xs=>
    rw [e] at hs k;obtain ⟨a,rfl,ha⟩:=lB e;have tx:=t.2 xs (.inr e);have k:∀H',am H H'->Q (.bl (decide ((xs.length:Int)<m)&&xs.all (λ x=>aV x 0 (m - 1))&&decide ((xs.map λ x=>match x with | .int i=>i | _=>0).Nodup))) H':=k
    refine bZ (b:=false||decide (m<=(xs.length:Int))) (dA (a:=false) (bX (bz hs)) (λ _=>bz (qe (jz (aa rfl) (.inl (aH.of ha))) (aa rfl)))) (λ h=>?_) (λ h=>?_)
    ·have h:m<=(xs.length:Int):=of_decide_eq_true h;have k:=k H (am.refl H);rw [decide_eq_false (by omega)] at k;exact ba aq k
    have h:¬m<=(xs.length:Int):=of_decide_eq_false h;rw [decide_eq_true (by omega:(xs.length:Int)<m)] at k;refine dH (λ b H'=>b=(!xs.all (λ x=>aV x 0 (m - 1)))/\am H H') (λ Q q=>?_) (λ H1 w=>?_) (λ H1 w=>?_)
    ·refine jC (d:=a) (xs:=xs) (rest:=[oJ m]) (aa rfl) (aH.of ha) (by rw [sizeLine_eq];omega) rfl (λ _=>true) (λ x=>.bl (aV x 0 (m - 1))) (λ x hx=>iK) (λ x hx _=>?_) (λ p hp=>?_)
     ·exact aR (ae (aa rfl) (ae aq (ae (du (aa rfl) aq) ay))) (λ Q q=>⟨x,0,m - 1,rfl,tx x hx,q⟩)
     ·refine ⟨xs.map λ x=>aV x 0 (m - 1),?_,?_⟩
      ·have e2:(xs.filter λ _=>true).map (λ x=>V.bl (aV x 0 (m - 1)))=(xs.map λ x=>aV x 0 (m - 1)).map V.bl:=by rw [DA.mpr (λ _ _=>rfl),Di];rfl
       rw [<-e2];exact aH.of ac
      ·have e3:(xs.map λ x=>aV x 0 (m - 1)).all id=xs.all (λ x=>aV x 0 (m - 1)):=by rw [List.all_map];rfl
       rw [e3];exact q _ _ ⟨rfl,(am.refl H).upd hp⟩
    ·have e0:xs.all (λ x=>aV x 0 (m - 1))=false:=by
      cases z:xs.all (λ x=>aV x 0 (m - 1))
      ·rfl
      ·rw [z] at w;cases w.1
     have k:=k H1 w.2;rw [e0] at k;exact ba aq k
    ·have e0:xs.all (λ x=>aV x 0 (m - 1))=true:=by
      cases z:xs.all (λ x=>aV x 0 (m - 1))
      ·rw [z] at w;cases w.1
      ·rfl
     rw [e0] at k;obtain ⟨hs',rfl,good⟩:=mD e0;have e5:((hs'.map V.int).map λ x=>match x with | .int i=>i | _=>0)=hs':=by
      rw [Di]
      conv=>rhs;rw [<-DF hs']
      exact Dp λ x _=>rfl
     rw [e5] at k;rw [CZ] at h;have hS1:=w.2.seq (aH.of (K:=K) ha);simp only [cU,dy,cB,aN,bY];refine evk (aa rfl) ?_;refine ⟨hs',hS1,by have:scanBound=4096:=rfl;omega,λ q hq=>?_⟩;refine ⟨_,_,ac,?_⟩;have s2:am H1 (upd H1 q (.set (λ k=>(jU hs').any (· == k)) (jU hs').length)):=(am.refl H1).upd hq;refine evk (v:=.ref a) (aa rfl) ⟨_,.inl (s2.seq hS1),?_⟩;show Q (.bl (decide ((((jU hs').length:Nat):Int)=(((hs'.map V.int).length:Nat):Int)))) _;have e4:decide ((((jU hs').length:Nat):Int)=(((hs'.map V.int).length:Nat):Int))=(true&&true&&decide hs'.Nodup):=by
      rw [CZ]
      by_cases hn:hs'.Nodup
      ·rw [decide_eq_true hn,decide_eq_true (by rw [(jT _).mpr hn])];rfl
      ·rw [decide_eq_false hn,decide_eq_false (λ z=>hn ((jT _).mp (by omega)))];rfl
     rw [e4];exact k _ (w.2.trans s2)
theorem gL {f cB:Addr}{fd:FuncData}(F:bW K "__init__" "Board.__init__" aX f fd) (T:Txt mg) (B:gj K cB) (C:CB2 P w K mg base):bp P w K mg base dN 4 f fd ["self","wide","high","holes"] (j0 K cB):=by
 refine F.ok dk (λ vs H Q E h=>?_) (λ cdv A outer s H vs Q E hr h=>?_)
 ·obtain ⟨p,d,dx,wi,hi,hs,rfl,_⟩:=h;rfl
 ·obtain ⟨p,d,dx,wi,hi,hs,rfl,hp,hd,w1,w8,h1,h8,good,nd,hl,k⟩:=h;have hu:=dh hr;have m1:wi*hi<=8*8:=D8 w8 h8 (by omega) (by omega);have m0:0<=wi*hi:=Int.mul_nonneg (by omega) (by omega);have npd:p≠d:=nJ hp hd (by intro z;cases z);refine ⟨_,(af (bn (PW.pt (dE (bg (be (aO C.is_among hr (ar (cv 1) (ar ag (ar (kg T.LONGEST) pa_nil)))))) (cZ (bg (be (aO C.is_among hr (ar (cv 2) (ar ag (ar (kg T.LONGEST) pa_nil))))))))) (ap ku) aE)
   (af (bn (bg (be (aO C.are_holes hr (ar (cv 3) (ar (al (cv 1) (cv 2)) pa_nil))))) (ap ku) aE)
   (af (mv K (cv 0) (cv 1))
   (af (mv K (cv 0) (cv 2))
   (af (mv K (cv 0) (kB (vT K) iD T.sorted (ar (cv 3) pa_nil)))
   (ap (mv K (cv 0) (gP (ey (N:=["square","self"]) (src:=[none,some 0]) (ao aX) ["self","wide","high","holes"]) (xK T.range (ar (al (cv 1) (cv 2)) pa_nil)) (λ _ _ _=>(cr (i:=0) ["square","self"])) (λ _ _ _=>gI) (λ _ _ _=>(jw K hu (cv 0) (eQ K (cv 1)))))))))))),?_⟩
  show bC _ _ _ [oR p,oJ wi,oJ hi,oR d] H;refine bZ (dA (bX (bz (aR (ae (aa rfl) (ae aq (ae aq ay))) (λ Q q=>⟨wi,1,8,rfl,q⟩)))) (λ _=>(bX (bz (aR (ae (aa rfl) (ae aq (ae aq ay))) (λ Q q=>⟨hi,1,8,rfl,q⟩)))))) (λ h=>?_) (λ _=>?_)
  ·rw [decide_eq_true (⟨w1,w8⟩:1<=wi/\wi<=8),decide_eq_true (⟨h1,h8⟩:1<=hi/\hi<=8)] at h;cases h
  refine dH (λ b H'=>b=false/\am H H') (λ Q q=>?_) (λ H' h=>by cases h.1) (λ H1 h=>?_)
  ·exact lU (ae (aa rfl) (ae (b0 (aa rfl) (aa rfl) (.inl ⟨by omega,by omega⟩)) ay)) ⟨d,wi*hi,hs,rfl,hd,good,nd,hl,by omega,λ H' s=>q _ _ ⟨rfl,s⟩⟩
  obtain ⟨_,s1⟩:=h;refine oO (aa rfl) (aa rfl) (s1 _ _ hp) B.cl B.wide (by decide) ?_;have a1:=cL "wide" (V.int wi) [];have a2:=cL "high" (V.int hi) (putF "wide" (V.int wi) []);simp only [List.length_nil] at a1;refine oO (aa rfl) (aa rfl) ac B.cl B.high (by omega) ?_;generalize hH3:upd (upd H1 p (HO.ins cB dx (putF "wide" (V.int wi) []))) p (HO.ins cB dx (putF "high" (V.int hi) (putF "wide" (V.int wi) [])))=H3;have p3:H3 p=some (.ins cB dx (putF "high" (V.int hi) (putF "wide" (V.int wi) []))):=hH3▸ac;have s3:SameBut p H H3:=hH3▸(s1.but.self.self);have d3:H3 d=some (.lst (hs.map V.int)):=s3 _ _ hd npd.symm;refine qO (λ v H'=> ∃(hs':List Int) (q:Addr),v=.ref q/\hs'.Perm hs/\hs'.Pairwise (·<=·)/\H3 q=none/\H'=upd H3 q (.lst (hs'.map V.int))) (λ Q q=>?_) p cB dx (λ H' Q q=>aa rfl Q q) B.cl B.holes ?_
  ·exact rZ (aa rfl) ⟨hs,aH.of d3,by omega,λ hs' q' h1 h2 h3=>q _ _ ⟨hs',q',rfl,h1,h2,h3,rfl⟩⟩
  rintro _ _ ⟨hs',q,rfl,pm,sr,hq,rfl⟩;have npq:p≠q:=aj p3 hq;have a3:=cL "holes" (V.ref q) (putF "high" (V.int hi) (putF "wide" (V.int wi) []));refine ⟨_,(by rw [ak npq];exact p3),(by omega),?_⟩;generalize hH4:upd (upd H3 q (HO.lst (hs'.map V.int))) p (HO.ins cB dx (putF "holes" (V.ref q) (putF "high" (V.int hi) (putF "wide" (V.int wi) []))))=H4;have p4:H4 p=some (.ins cB dx (putF "holes" (V.ref q) (putF "high" (V.int hi) (putF "wide" (V.int wi) [])))):=hH4▸ac;have q4:H4 q=some (.lst (hs'.map V.int)):=by rw [<-hH4,ak npq.symm,ac]
  have hqH:H q=none:=by
   cases e:H q with
   | none=>rfl
   | some o=>
     have:=s3 q o e npq.symm;rw [hq] at this;cases this
  have s4:SameBut p H H4:=hH4▸((s3.new hqH).self);have f4:Fl K H4 p "holes" (.ref q):=⟨cB,dx,_,p4,B.cl,B.holes,by rw [aD,if_pos rfl]⟩;refine qN (λ v H'=> ∃(pf:Addr),v=.ref pf/\H4 pf=none/\H'=upd H4 pf (.lst ((firmL wi hi hs').map V.bl))) (λ Q k'=>?_) p cB dx (λ H' Q q=>aa rfl Q q) B.cl B.firm ?_
  ·refine fC (n:=wi*hi) (rest:=[oR p]) (ae (b0 (aa rfl) (aa rfl) (.inl ⟨by omega,by omega⟩)) ay) m0 (by rw [sizeLine_eq];omega) (by omega) rfl (λ _=>true) (λ x=>match x with | .int i=>.bl (!decide (i∈hs')) | _=>.non) (λ i hi=>iK) (λ i hi _=>?_) (λ d' hd'=>?_)
   ·exact (gU (aa rfl) (bT (aa rfl) (f4)) (.inl (aH.of q4)))
   ·refine k' _ _ ⟨d',rfl,hd',?_⟩;have e:(((List.range (wi*hi).toNat).map λ (i:Nat)=>V.int (0+(i:Int))).filter λ _=>true).map (λ x=>match x with | .int i=>V.bl (!decide (i∈hs')) | _=>.non)=(firmL wi hi hs').map V.bl:=by rw [DA.mpr (λ _ _=>rfl),Di];unfold firmL;rw [Di];refine Dp λ i _=>?_;show V.bl (!decide (0+(i:Int)∈hs'))=V.bl (!decide ((i:Int)∈hs'));rw [Ed]
    rw [e]
  rintro _ _ ⟨pf,rfl,hpf,rfl⟩;have npf:p≠pf:=aj p4 hpf;have nqf:q≠pf:=aj q4 hpf;have hfH:H pf=none:=by
   cases e:H pf with
   | none=>rfl
   | some o=>
     have:=s4 pf o e npf.symm;rw [hpf] at this;cases this
  refine ⟨_,(by rw [ak npf];exact p4),(by omega),?_⟩;refine k hs' _ pm ⟨⟨dx,q,pf,ac,by rw [ak npq.symm,ak nqf];exact q4,by rw [ak npf.symm,ac]⟩,w1,w8,h1,h8,λ h hh=>good h (pm.mem_iff.mp hh),sr,pm.nodup_iff.mpr nd⟩ ⟨dx,q,pf,ac,by rw [ak npq.symm,ak nqf];exact q4,by rw [ak npf.symm,ac],hqH,hfH⟩ ((s4.new hfH).self)
structure CBx (P:Program) (w:World) (K:Frag) (mg:Str->Option Value) (base:Heap):Prop extends CHg P w K mg base where
 are_holes:eK P w K mg base "are_holes" ["thing","many"] 3 fb
theorem gK {f cB cN:Addr}{fd:FuncData}(F:bW K "__init__" "Board.__init__" aX f fd) (T:Txt mg) (m_BadBoard:mg "BadBoard"=some (.ref cN)) (q_BadBoard:EM K cN [.type "ValueError",.type "Exception",.type "BaseException",.type "object"] "ValueError.__new__"=true) (C:CBx P w K mg base):bp P w K mg base (jQ P w) 4 f fd ["self","wide","high","holes"] (jZ cB cN):=by
 refine F.okX2 dk (λ vs H Q E h=>?_) (λ cdv A outer s H vs Q E hr h=>?_)
 ·obtain ⟨p,dx,wv,hv,dv,rfl,_⟩:=h;rfl
 ·obtain ⟨p,dx,wv,hv,dv,rfl,hp,tw,th,td,bad,k⟩:=h;have hu:=dh hr;refine ⟨_,(af (bn (PW.pt (dE (bg (be (aO C.is_among hr (ar (cv 1) (ar ag (ar (kg T.LONGEST) pa_nil)))))) (cZ (bg (be (aO C.is_among hr (ar (cv 2) (ar ag (ar (kg T.LONGEST) pa_nil))))))))) (ap (kr PySem.F.excBase_ValueError rfl rfl m_BadBoard q_BadBoard (ar bP pa_nil) ft)) aE)
   (af (bn (bg (be (aO C.are_holes hr (ar (cv 3) (ar (al (cv 1) (cv 2)) pa_nil))))) (ap (kr PySem.F.excBase_ValueError rfl rfl m_BadBoard q_BadBoard (ar bP pa_nil) ft)) aE) ny)),?_⟩
  show bC _ _ _ [oR p,some wv,some hv,some dv] H;refine bZ (b:= !aV wv 1 8|| !aV hv 1 8) (dA (bX (bz (aR (ae (aa rfl) (ae aq (ae aq ay))) (λ Q q=>⟨wv,1,8,rfl,tw,q⟩)))) (λ _=>bX (bz (aR (ae (aa rfl) (ae aq (ae aq ay))) (λ Q q=>⟨hv,1,8,rfl,th,q⟩))))) (λ _=>?_) (λ h=>?_)
  ·exact ⟨by show 1<=sizeLine;decide,k _ (am.refl H)⟩
  rw [Em,En,En] at h;cases wv with
  | int wi=>
    cases hv with
    | int hi=>
      have hw:1<=wi/\wi<=8:=of_decide_eq_true h.1;have hh:1<=hi/\hi<=8:=of_decide_eq_true h.2;have m1:wi*hi<=8*8:=D8 hw.2 hh.2 (by omega) (by omega);have bad:(decide (1<=wi/\wi<=8)&&decide (1<=hi/\hi<=8)&&bB H dv (wi*hi))=false:=bad;rw [decide_eq_true hw,decide_eq_true hh] at bad;have bad:bB H dv (wi*hi)=false:=bad;refine dH (λ b H'=>b=true/\am H H') (λ Q q=>lU (ae (aa rfl) (ae (b0 (aa rfl) (aa rfl) (.inl ⟨by omega,by omega⟩)) ay)) ⟨dv,wi*hi,rfl,td,by omega,λ H' s=>?_⟩) (λ H1 w=>?_) (λ H1 w=>nomatch w.1)
      ·rw [bad];exact q _ _ ⟨rfl,s⟩
      ·exact ⟨by show 1<=sizeLine;decide,k _ w.2⟩
    | _=>exact absurd h.2 (by simp [aV])
  | _=>exact absurd h.1 (by simp [aV])
theorem ju {f cB:Addr}{fd:FuncData}(F:bW K "has" "Board.has" cJ f fd) (T:Txt mg) (B:gj K cB) (C:CHg P w K mg base):bp P w K mg base dN 3 f fd ["self","square"] (oU K cB):=by
 refine F.ok iT (λ vs H Q E h=>?_) (λ cdv A outer s H vs Q E hr h=>?_)
 ·obtain ⟨p,wi,hi,hs,v,rfl,_⟩:=h;rfl
 ·obtain ⟨p,wi,hi,hs,v,rfl,O,tv,k⟩:=h;have hu:=dh hr;obtain ⟨pf,ff,hf⟩:=O.firm B;have mm:=O.many;have hl:(((firmL wi hi hs).map V.bl).length:Int)=wi*hi:=by rw [CZ,kL];omega
  refine ⟨_,(ap (aA (ez (aO C.is_among hr (ar (cv 1) (ar ag (ar (al (kB (lF K) eA T.len (ar (eQ K (cv 0)) pa_nil)) ag) pa_nil)))) (eZ (mx K (eQ K (cv 0)) (cv 1)))))),?_⟩;show cU _ _ [oR p,some v] H;have hc:=aR (sp:=fc) (σ:=[oR p,some v]) (H:=H) (ae (aa (n:=1) rfl) (ae aq (ae (du (jz (K:=K) (bT (aa (n:=0) rfl) ff) (.inl (aH.of hf))) (show Ev (tC (.int 1)) _ _ (.int 1) from aq)) ay))) (λ Q q=>⟨v,0,_,rfl,tv,q⟩);rw [hl] at hc;cases v with
  | int sq=>
    refine ba (dc (b:= !decide (sq∈hs)) hc (λ h=>?_)) k;have h:0<=sq/\sq<=wi*hi - 1:=of_decide_eq_true h;exact ej (bT (aa rfl) ff) (aa rfl) (.inl (aH.of hf)) (mJ h.1 (by omega))
  | _=>exact ba (dc (b:=false) hc (λ h=>by cases h)) k
theorem fV {f cB:Addr}{fd:FuncData}(F:bW K "squares" "Board.squares" bt f fd) (T:Txt mg) (B:gj K cB):bp P w K mg base dN 1 f fd ["self"] (oX K cB):=by
 refine F.ok fQ (λ vs H Q E h=>?_) (λ cdv A outer s H vs Q E hr h=>?_)
 ·obtain ⟨p,wi,hi,hs,rfl,_⟩:=h;rfl
 ·obtain ⟨p,wi,hi,hs,rfl,O,k⟩:=h;have hu:=dh hr;obtain ⟨pf,ff,hf⟩:=O.firm B;have mm:=O.many;refine ⟨_,(ap (aA (gP (ey (N:=["square","firm"]) (src:=[none,none]) (ao bt) ["self"]) (AK K T.enumerate (eQ K (cv 0))) (λ _ _ _=>(kgt K (n:=2) (cK (cr (i:=0) ["square","firm"]) (cK (cr (i:=1) ["square","firm"]) gA)))) (λ _ _ _=>(dW (be (cv 1)))) (λ _ _ _=>(cv 0))))),?_⟩;show cU _ _ [oR p] H;refine cY (oh (l:=firmL wi hi hs) (rest:=[]) (bT (aa rfl) ff) hf (by rw [kL];omega) rfl λ H' d s hd=>?_);rw [qa];exact k d _ (s.free hd) ac (s.upd hd)
end
end K03
local macro_rules | `(tactic| walk_at "rd")=> `(tactic| simp only [L2.bC,L2.iL,L2.cU,L2.tAsg,L2.gName,L2.gk,L2.gl,L2.br,L2.tC,L2.eR,L2.dy,L2.de,L2.kX,L2.A6,L2.mV,L2.rS,L2.xo,L2.xL,L2.xn,L2.iC,L2.eE,L2.cB,L2.aN,L2.Bk,L2.bY,L2.cSM,L2.A5,L2.eW,L2.jV,L2.na,L2.xG,L2.Bg,L2.g9,L2.fG,L2.pA,L2.pd,L2.px,L2.pc,L2.qY,L2.qV,L2.qX,L2.qU,L2.jh,L2.iY,L2.ji,L2.iZ,L2.je,L2.iV,L2.ki,L2.j5,L2.jd,L2.iU,L2.km,L2.j7,L2.kn,L2.j8,L2.jg,L2.iX,L2.jf,L2.iW,L2.kj,L2.j6,L2.mh,L2.qT,L2.pi,L2.fS,L2.pw,L2.nw,L2.pe,L2.nk,L2.pv,L2.j4,L2.fk,L2.dP,L2.pr,L2.ke,L2.ja,L2.gr,L2.pk,L2.j9,L2.kh,L2.gG,L2.qW,L2.lq,L2.jc,L2.gu,L2.pq,L2.kb,L2.jb,L2.gt,L2.pp,L2.ka,L2.As,L2.wA,L2.pB,L2.Ah,L2.Am,L2.wz,L2.An,L2.Al,L2.Ap,L2.Aq,L2.Aj,L2.Ak,L2.wt,L2.wu,L2.Ao,L2.Ai,L2.wx,L2.wy,L2.Ar,L2.Ct,L2.ww,L2.Cs,L2.nr,L2.pj,L2.nu,L2.nn,L2.r_b,DN,DO,DP,DQ,CZ,Bool.not_true,Bool.not_false,Eh,if_true,if_false,decide_true,decide_false])
namespace K03
open PySem L2
def oS:Sp:=λ vs H Q _=> ∃c:Int,vs=[.int c]/\0<=c/\∀z:Int,1<=z->z<=8->Q (.int z) H
def jY (K:Frag):Sp:=λ vs H Q _=> ∃(a:Addr) (ns:List Int) (k m:Int),vs=[.ref a,.int k,.int m]/\aH K H a (ns.map V.int)/\0<=k/\k<=900/\1<=m/\m<=64/\
 ∀(q:Addr) (hs:List Int) (H':Hp),H q=none->H' q=some (.lst (hs.map V.int))->(∀h∈hs,0<=h/\h<m)->hs.Nodup->(hs.length:Int)<m->am H H'->Q (.ref q) H'
structure L1 (P:Program) (w:World) (K:Frag) (mg:Str->Option Value) (base:Heap):Prop where
 _law_at:eK P w K mg base "_law_at" ["_law_script","_law_k"] 1 (wm K)
structure CSd (P:Program) (w:World) (K:Frag) (mg:Str->Option Value) (base:Heap) (cB cN:Addr) (wd:Str):Prop where
 Board:CU P w K mg base "Board" cB ["self","wide","high","holes"] 4 (jZ cB cN)
 _law_word:xE P w K mg base "_law_word" ["_law_e"] 1 (l8 cN wd)
structure CWh (P:Program) (w:World) (K:Frag) (mg:Str->Option Value) (base:Heap):Prop where
 _law_whole:eK P w K mg base "_law_whole" ["_law_thing"] 1 dC
section
variable {P:Program}{w:World}{K:Frag}{mg:Str->Option Value}{base:Heap}
theorem lu {f:Addr}{fd:FuncData}(F:bW K "_law_at" "_law_at" dD f fd) (T:Txt mg):bp P w K mg base dN 1 f fd ["_law_script","_law_k"] (wm K):=by
 refine F.ok eX (λ vs H Q E h=>?_) (λ cdv A outer s H vs Q E hr h=>?_)
 ·obtain ⟨a,ns,k,rfl,_⟩:=h;rfl
 ·obtain ⟨a,ns,k,rfl,hS,h0,h1,q⟩:=h;have hu:=dh hr;refine ⟨_,(af (aC (i:=2) eX.nd rfl (Or.inl rfl) ag)
   (af (bn (bu K hu (kB (lF K) eA T.len (ar (cv 0) pa_nil)) ag) (ap (aC (i:=2) eX.nd rfl (Or.inl rfl) (mx K (cv 0) (al (cv 1) (kB (lF K) eA T.len (ar (cv 0) pa_nil)))))) aE)
   (ap (aA (al (al (al (cv 2) (al ag (cv 1))) ag) ag))))),?_⟩
  show bC _ _ _ [oR a,oJ k,none] H;unfold lawAt at q
  walk_at "rd"
  refine ⟨_,.inl hS,?_⟩;rw [CZ]
  by_cases hn:0<ns.length
  ·rw [decide_eq_true (by omega:(0:Int)<(ns.length:Int)),if_pos rfl];rw [if_pos hn] at q;refine ⟨_,.inl hS,?_⟩;rw [CZ];have hm0:=D9 k (by omega:(ns.length:Int)≠0);have hm1:=Ea k (by omega:(0:Int)<(ns.length:Int));obtain ⟨v,e1,e2⟩:=qB (xs:=ns.map V.int) hm0 (by rw [CZ];exact hm1);refine ⟨by omega,_,v,.inl hS,e1,?_⟩;have hv:v=.int (ns.getD (k % (ns.length:Int)).toNat 0):=by
    rw [Db] at e2;cases e:ns[(k % (ns.length:Int)).toNat]? with
    | none=>rw [e] at e2;cases e2
    | some z=>
      rw [e] at e2;rw [Do,e];exact (Option.some.inj e2).symm
   subst hv;exact ⟨.inl ⟨by decide,by decide⟩,.inr ⟨by decide,by decide⟩,by decide,q⟩
  ·rw [decide_eq_false (by omega:¬(0:Int)<(ns.length:Int))];rw [if_neg hn] at q;simp only [Eh,if_false];exact ⟨.inl ⟨by decide,by decide⟩,.inr ⟨by decide,by decide⟩,by decide,q⟩
theorem jq {f:Addr}{fd:FuncData}(F:bW K "_law_side" "_law_side" cG f fd) (T:Txt mg):bp P w K mg base dN 1 f fd ["_law_cell"] oS:=by
 refine F.ok iR (λ vs H Q E h=>?_) (λ cdv A outer s H vs Q E hr h=>?_)
 ·obtain ⟨v,rfl,_⟩:=h;rfl
 ·obtain ⟨c,rfl,c0,q⟩:=h;have hu:=dh hr;refine ⟨_,(af (bn (bu K hu (al (cv 0) ag) ag) (ap (aA (al ag (al (al (cv 0) ag) ag)))) aE)
   (ap (aA (al ag (al (al (cv 0) ag) ag))))),?_⟩
  show bC _ _ _ [oJ c] H;refine bZ (bz (gn (bo (aa rfl) aq (by decide)) aq)) (λ _=>?_) (λ _=>?_)
  ·exact ba (bM aq (bo (bH (aa rfl) aq ⟨by decide,by decide⟩) aq (by decide))) (q _ (by omega) (by omega))
  ·exact ba (bM aq (bo (bH (aa rfl) aq ⟨by decide,by decide⟩) aq (by decide))) (q _ (by omega) (by omega))
theorem ic {f:Addr}{fd:FuncData}(F:bW K "_law_holes" "_law_holes" cp f fd) (T:Txt mg) (C:L1 P w K mg base):bp P w K mg base dN 2 f fd ["_law_script","_law_k","_law_many"] (jY K):=by
 refine F.ok bA (λ vs H Q E h=>?_) (λ cdv A outer s H vs Q E hr h=>?_)
 ·obtain ⟨a,ns,k,m,rfl,_⟩:=h;rfl
 ·obtain ⟨a,ns,k,m,rfl,hS,k0,k1,m1,m64,q⟩:=h;have hu:=dh hr;have r0:=fu ns k;refine ⟨_,(af (aC (i:=3) bA.nd rfl (Or.inl rfl) (al (aO C._law_at hr (ar (cv 0) (ar (cv 1) pa_nil))) ag))
   (af (bn (bu K hu (cv 3) ag) (ap (aC (i:=3) bA.nd rfl (Or.inl rfl) ag)) aE)
   (af (bn (bu K hu (cv 3) ag) (ap (aC (i:=3) bA.nd rfl (Or.inl rfl) (al (al (aO C._law_at hr (ar (cv 0) (ar (cv 1) pa_nil))) ag) (cv 2)))) aE)
   (af (aC (i:=4) bA.nd rfl (Or.inl rfl) (aJ pa_nil))
   (af (eY PassesOwn.never rfl (xK T.range (ar (kB (om rfl) xt T.min (ar (cv 3) (ar (al (cv 2) ag) pa_nil))) pa_nil)) (bN (i:=5) bA.nd rfl (Or.inl rfl)) (af (aC (i:=6) bA.nd rfl (Or.inl rfl) (al (al (al (aO C._law_at hr (ar (cv 0) (ar (al (cv 1) ag) pa_nil))) (al (al ag (cv 5)) (cv 5))) (al ag (cv 5))) (cv 2)))
   (ap (bn (bu K hu (cv 6) (cv 4)) (ap (gy (jE (cv 4) (cv 6)))) aE))))
   (ap (aA (cv 4)))))))),?_⟩
  show bC _ _ _ [oR a,oJ k,oJ m,none,none,none,none] H;refine bG (bo (aR (ae (aa rfl) (ae (aa rfl) ay)) (λ Q q=>⟨a,ns,k,rfl,hS,k0,by omega,q⟩)) aq (by decide)) ?_;generalize hc0:lawAt ns k % 12=c0;have tail:∀c:Int,0<=c->c<1000003->∀(u:TS),u=u->True:=λ _ _ _ _ _=>True.intro;have hc00:0<=c0/\c0<12:=by omega
  refine di (λ σ' H'=> ∃c:Int,0<=c/\c<1000003/\σ'=[oR a,oJ k,oJ m,oJ c,none,none,none]/\H'=H) (λ K' hK=>?_) ?_
  ·refine eG (bz (A0 (aa rfl) aq)) (λ _=>?_) (λ _=>hK _ _ ⟨c0,by omega,by omega,rfl,rfl⟩);exact iM aq (hK _ _ ⟨0,by omega,by omega,rfl,rfl⟩)
  rintro _ H1 ⟨c1,c10,c11,rfl,rfl⟩;refine di (λ σ' H'=> ∃c:Int,0<=c/\c<1000003/\σ'=[oR a,oJ k,oJ m,oJ c,none,none,none]/\H'=H1) (λ K' hK=>?_) ?_
  ·refine eG (bz (gn (aa rfl) aq)) (λ _=>?_) (λ _=>hK _ _ ⟨c1,by omega,by omega,rfl,rfl⟩);refine iM (bo (bH (aR (ae (aa rfl) (ae (aa rfl) ay)) (λ Q q=>⟨a,ns,k,rfl,hS,k0,by omega,q⟩)) aq ⟨by decide,by decide⟩) (aa rfl) (by omega)) (hK _ _ ⟨_,?_,?_,rfl,rfl⟩)
   ·exact D9 _ (by omega)
   ·have:=Ea (lawAt ns k / 12) (by omega:0<m);omega
  rintro _ H2 ⟨c2,c20,c21,rfl,rfl⟩;refine oN λ q1 hq1=>?_;have sm:am H2 (upd H2 q1 (.lst [])):=(am.refl H2).upd hq1;refine di (λ σ' H'=> ∃hs:List Int,(∃o5 o6,σ'=[oR a,oJ k,oJ m,oJ c2,oR q1,o5,o6])/\H' q1=some (.lst (hs.map V.int))/\(∀h∈hs,0<=h/\h<m)/\hs.Nodup/\(hs.length:Int)<m/\am H2 H') (λ K' hK=>?_) ?_
  ·generalize hn:(if m - 1<c2 then m - 1 else c2)=n;have n0:0<=n/\n<=m - 1:=by
    by_cases h:m - 1<c2
    ·rw [if_pos h] at hn;omega
    ·rw [if_neg h] at hn;omega
   refine kK n (λ Q q=>(ae (xh (aa rfl) (du (aa rfl) aq)) ay) _ (by rw [hn];exact q)) (by omega) (by omega)
    (λ i σ' H'=> ∃hs:List Int,(∃o5 o6,σ'=[oR a,oJ k,oJ m,oJ c2,oR q1,o5,o6])/\H' q1=some (.lst (hs.map V.int))/\(∀h∈hs,0<=h/\h<m)/\hs.Nodup/\hs.length<=i/\am H2 H')
    ⟨[],⟨_,_,rfl⟩,ac,(λ h hh=>by cases hh),List.nodup_nil,DS _,sm⟩ ?_ (λ σ' H' h=>?_)
   ·rintro i _ H3 hi ⟨hs,⟨o5,o6,rfl⟩,h3,gd,nd,hl,s3⟩;show bC _ _ _ [oR a,oJ k,oJ m,oJ c2,oR q1,oJ (0+(i:Int)),o6] H3;have hS3:=s3.seq hS;have i64:0<=0+(i:Int)/\0+(i:Int)<64:=by omega
    generalize 0+(i:Int)=j at i64 ⊢;refine bG (bo (bM (bM (aR (ae (aa rfl) (ae (bM (aa rfl) aq) ay)) (λ Q q=>⟨a,ns,k+1,rfl,hS3,by omega,by omega,q⟩)) (b0 (b0 aq (aa rfl) (.inl ⟨by decide,by decide⟩)) (aa rfl) (.inr ⟨by omega,by omega⟩))) (b0 aq (aa rfl) (.inl ⟨by decide,by decide⟩))) (aa rfl) (by omega)) ?_;generalize hsq:(lawAt ns (k+1)+7*j*j+3*j) % m=sq;have sq0:0<=sq:=hsq▸D9 _ (by omega);have sq1:sq<m:=hsq▸Ea _ (by omega);refine eG (bz (gU (aa rfl) (aa rfl) (.inl (aH.of h3)))) (λ h=>?_) (λ _=>⟨hs,⟨_,_,rfl⟩,h3,gd,nd,by omega,s3⟩);have hni:¬sq∈hs:=λ z=>by rw [decide_eq_true z] at h;cases h
    refine qP (aa rfl) (aa rfl) h3 (by rw [CZ,sizeLine_eq];omega) ⟨hs++[sq],⟨_,_,rfl⟩,?_,λ h hh=>?_,?_,?_,s3.put hq1⟩
    ·rw [ac,Dq];rfl
    ·rcases De.mp hh with z | z
     ·exact gd h z
     ·rw [C9.mp z];exact ⟨sq0,sq1⟩
    ·rw [DD];refine ⟨nd,by simp,λ x hx y hy e=>?_⟩;rw [C9.mp hy] at e;exact hni (e▸hx)
    ·rw [Dc];show hs.length+1<=_;omega
   ·obtain ⟨hs,o,h3,gd,nd,hl,s3⟩:=h;exact hK _ _ ⟨hs,o,h3,gd,nd,by omega,s3⟩
  rintro _ H3 ⟨hs,⟨o5,o6,rfl⟩,h3,gd,nd,hl,s3⟩;show cU _ _ _ _;exact ba (aa rfl) (q q1 hs H3 hq1 h3 gd nd hl s3)
theorem jp {f D:Addr}{fd:FuncData}{b1 b2 b3 b4 b5 b6 b7 b8:Bool}(F:bW K "_law_word" "_law_word" cF f fd) (T:Txt mg) (L:AlC mg K D b1 b2 b3 b4 b5 b6 b7 b8 false):CY P w K mg base 1 f fd ["_law_e"] (l8 D ((((((((""++wS b1 "board")++wS b2 "game")++wS b3 "line")++wS b4 "place")++wS b5 "other")++wS b6 "other")++wS b7 "other")++wS b8 "other")):=by
 refine F.okH aQ (λ vs H Q E h=>?_) (λ cdv A outer s H vs Q ea hh hv hr h=>?_)
 ·obtain ⟨a,rfl,_⟩:=h;rfl
 ·obtain ⟨a,rfl,ha,k⟩:=h;obtain rfl:a=ea:=by injection hv with z;injection z
  have hu:=hr.hu;obtain ⟨c1,m_BadBoard,i1⟩:=L.f1;obtain ⟨c2,m_BadGame,i2⟩:=L.f2;obtain ⟨c3,m_BadLine,i3⟩:=L.f3;obtain ⟨c4,m_BadPlace,i4⟩:=L.f4;obtain ⟨c5,m_NoMove,i5⟩:=L.f5;obtain ⟨c6,m_TooWide,i6⟩:=L.f6;obtain ⟨c7,m_NoWord,i7⟩:=L.f7;obtain ⟨c8,m_Over,i8⟩:=L.f8;obtain ⟨c9,m_NothingBack,i9⟩:=L.f9;refine ⟨_,(af (aC (i:=1) aQ.nd rfl (Or.inl rfl) bP)
   (af (jj PassesOwn.never hh (aJ (ar (cM (ar bP (ar (kB (bK K) aL T.isinstance (ar (cv 0) (ar (kg (v:=.ref _) ⟨_,m_BadBoard,rfl⟩) pa_nil))) pa_nil))) (ar (cM (ar bP (ar (kB (bK K) aL T.isinstance (ar (cv 0) (ar (kg (v:=.ref _) ⟨_,m_BadGame,rfl⟩) pa_nil))) pa_nil))) pa_nil))) (ml (n:=2) hh (cK (bN (i:=2) aQ.nd rfl (Or.inl rfl)) (cK (bN (i:=3) aQ.nd rfl (Or.inl rfl)) gA))) (ap (aC (i:=1) aQ.nd rfl (Or.inl rfl) (al (cv 1) (pQ (cv 2) (vY gf hG T.int (ar (cv 3) pa_nil)))))))
   (af (jj PassesOwn.never hh (aJ (ar (cM (ar bP (ar (kB (bK K) aL T.isinstance (ar (cv 0) (ar (kg (v:=.ref _) ⟨_,m_BadLine,rfl⟩) pa_nil))) pa_nil))) (ar (cM (ar bP (ar (kB (bK K) aL T.isinstance (ar (cv 0) (ar (kg (v:=.ref _) ⟨_,m_BadPlace,rfl⟩) pa_nil))) pa_nil))) pa_nil))) (ml (n:=2) hh (cK (bN (i:=2) aQ.nd rfl (Or.inl rfl)) (cK (bN (i:=3) aQ.nd rfl (Or.inl rfl)) gA))) (ap (aC (i:=1) aQ.nd rfl (Or.inl rfl) (al (cv 1) (pQ (cv 2) (vY gf hG T.int (ar (cv 3) pa_nil)))))))
   (af (jj PassesOwn.never hh (aJ (ar (kB (bK K) aL T.isinstance (ar (cv 0) (ar (kg (v:=.ref _) ⟨_,m_NoMove,rfl⟩) pa_nil))) (ar (kB (bK K) aL T.isinstance (ar (cv 0) (ar (kg (v:=.ref _) ⟨_,m_TooWide,rfl⟩) pa_nil))) (ar (kB (bK K) aL T.isinstance (ar (cv 0) (ar (kg (v:=.ref _) ⟨_,m_NoWord,rfl⟩) pa_nil))) (ar (kB (bK K) aL T.isinstance (ar (cv 0) (ar (kg (v:=.ref _) ⟨_,m_Over,rfl⟩) pa_nil))) pa_nil))))) (bN (i:=3) aQ.nd rfl (Or.inl rfl)) (ap (aC (i:=1) aQ.nd rfl (Or.inl rfl) (al (cv 1) (pQ bP (vY gf hG T.int (ar (cv 3) pa_nil)))))))
   (af (bn (PW.pt (dE (be (kB (bK K) aL T.isinstance (ar (cv 0) (ar (kg (v:=.ref _) ⟨_,m_NothingBack,rfl⟩) pa_nil)))) (cZ (bg (be (kB (bK K) aL T.isinstance (ar (cv 0) (ar (mn (v:=.ty "ValueError") rfl T.ValueError io rfl) pa_nil)))))))) (ap (aC (i:=1) aQ.nd rfl (Or.inl rfl) (al (cv 1) bP))) aE)
   (ap (aA (cv 1)))))))),?_⟩
  show bC _ _ _ [oR a,none,none,none] H;have is:∀{σ:St} {H':Hp} {te:TE} {c:Addr} {b:Bool},am H H'->Ev te σ H' (.ref a)->Ex K (.ref D) (.ref c)=some b->Ev (cB (pS K) (aN te (aN (tC (.ref c)) bY))) σ H' (.bl b):=λ s e i=>mM (ae e (ae aq ay)) qS (s _ _ ha) L.x i;have s0:=am.refl H;have lw:∀(b:Bool) (z:Str),(wS b z).length<=z.length:=λ b z=>by
   unfold wS;split
   ·exact DS _
   ·rw [show ("":Str).length=0 by decide+kernel];exact DV _
  have lc:∀x y:Str,(x++y).length=x.length+y.length:=λ x y=>by rw [eF,qM,Dc];rfl
  have n5:("board":Str).length=5/\("game":Str).length=4/\("line":Str).length=4/\("place":Str).length=5/\("other":Str).length=5/\("":Str).length=0:=by decide+kernel
  obtain ⟨n1,n2,n3,n4,n6,n0⟩:=n5;have pairs:∀(acc z1 z2:Str) (x1 x2:Bool) (H1:Hp) (q t1 t2:Addr) (o2 o3:Option V) (u:TS) (D':cb),acc.length<=100->z1.length<=10->z2.length<=10->am H H1->H1 q=some (.lst [.ref t1,.ref t2])->H1 t1=some (.tup [.str z1,.bl x1])->H1 t2=some (.tup [.str z2,.bl x2])->
    (∀o2 o3 H2,am H H2->u D' [some (.ref a),some (.str ((acc++wS x1 z1)++wS x2 z2)),o2,o3] H2)->
    qF K a (pX K a 2 (fv (gName 2) (fv (gName 3) pY))) (tAsg (eR .Add (br 1) (wj ko (br 2) (cB kH (aN (br 3) bY)))) (gName 1)) {D' with nx:=u D'} [some (.ref a),some (.str acc),o2,o3] (.ref q) H1:=by
   intro acc z1 z2 x1 x2 H1 q t1 t2 o2 o3 u D' la l1 l2 s1 eq e1 e2 go;have step:∀(acc' z:Str) (x:Bool) (t:Addr) (o2 o3:Option V) (H2:Hp) (R:St->Hp->Prop),acc'.length<=110->z.length<=10->am H H2->H2 t=some (.tup [.str z,.bl x])->(∀o2 o3,R [some (.ref a),some (.str (acc'++wS x z)),o2,o3] H2)->
     pX K a 2 (fv (gName 2) (fv (gName 3) pY)) (.ref t) [some (.ref a),some (.str acc'),o2,o3] H2 λ σ2 H2=>eR .Add (br 1) (wj ko (br 2) (cB kH (aN (br 3) bY))) σ2 H2 λ v H3=>R (σ2.set 1 (some v)) H3:=by
    intro acc' z x t o2 o3 H2 R la lz s2 et go2;refine ⟨t,_,.ref D,rfl,dQ.of et,rfl,s2 _ _ ha,_,_,rfl,_,_,rfl,rfl,?_⟩;show eR _ _ _ [some (.ref a),some (.str acc'),some (.str z),some (.bl x)] H2 _;refine mP (z:=acc') (z':=wS x z) (aa rfl) (mK (aa rfl) (mO (aa rfl))) (by have:=lw x z;rw [sizeLine_eq];omega) _ ?_;exact go2 _ _
   refine ⟨q,_,.ref D,λ i σ' H'=>match i with
    | 0=>(∃o2 o3,σ'=[oR a,oT acc,o2,o3])/\am H1 H'
    | 1=>(∃o2 o3,σ'=[oR a,oT (acc++wS x1 z1),o2,o3])/\am H1 H'
    | _=>(∃o2 o3,σ'=[oR a,oT ((acc++wS x1 z1)++wS x2 z2),o2,o3])/\am H1 H',rfl,aH.of eq,⟨⟨_,_,rfl⟩,am.refl _⟩,?_,?_,?_⟩
   ·intro i σ' H' _ h;have sx:am H1 H':=by
     match i,h with
     | 0,h=>exact h.2
     | 1,h=>exact h.2
     | _+2,h=>exact h.2
    exact ⟨aH.of (sx _ _ eq),(s1.trans sx) _ _ ha⟩
   ·intro i x σ' H' hx h
    match i,hx,h with
    | 0,hx,⟨⟨o2,o3,e⟩,sx⟩=>
      subst e;cases hx;exact step acc z1 x1 t1 o2 o3 H' _ (by omega) l1 (s1.trans sx) (sx _ _ e1) λ p2 p3=>⟨⟨p2,p3,rfl⟩,sx⟩
    | 1,hx,⟨⟨o2,o3,e⟩,sx⟩=>
      subst e;cases hx;exact step _ z2 x2 t2 o2 o3 H' _ (by rw [lc];have:=lw x1 z1;omega) l2 (s1.trans sx) (sx _ _ e2) λ p2 p3=>⟨⟨p2,p3,rfl⟩,sx⟩
    | i+2,hx,_=>simp at hx
   ·rintro σ' H' ⟨⟨o2,o3,rfl⟩,sx⟩;exact go o2 o3 H' (s1.trans sx)
  refine bG aq ?_;show bC _ _ _ [oR a,oT (""),none,none] H;refine lJ (bS (aZ (dS aq (is s0 (aa rfl) i1) λ t1 h1=>?_)));have sa:=s0.upd (o:=.tup [.str "board",.bl b1]) h1;refine aZ (dS aq (is sa (aa rfl) i2) λ t2 h2=>?_);have sb:=sa.upd (o:=.tup [.str "game",.bl b2]) h2;refine bh ⟨by show 2<=sizeLine;decide,λ q hq=>?_⟩;have sc:=sb.upd (o:=.lst [.ref t1,.ref t2]) hq;refine pairs "" "board" "game" b1 b2 _ q t1 t2 _ _ _ _ (by omega) (by omega) (by omega) sc ac (by rw [ak (aj (by rw [ak (aj ac h2)];exact ac) hq),ak (aj ac h2)];exact ac) (by rw [ak (aj ac hq)];exact ac) λ o2 o3 H2 s2=>?_;refine lJ (bS (aZ (dS aq (is s2 (aa rfl) i3) λ t3 h3=>?_)));have sd:=s2.upd (o:=.tup [.str "line",.bl b3]) h3;refine aZ (dS aq (is sd (aa rfl) i4) λ t4 h4=>?_);have se:=sd.upd (o:=.tup [.str "place",.bl b4]) h4;refine bh ⟨by show 2<=sizeLine;decide,λ q2 hq2=>?_⟩;have sf:=se.upd (o:=.lst [.ref t3,.ref t4]) hq2;refine pairs ((""++wS b1 "board")++wS b2 "game") "line" "place" b3 b4 _ q2 t3 t4 _ _ _ _ (by rw [lc,lc];have:=lw b1 "board";have:=lw b2 "game";omega) (by omega) (by omega) sf ac (by rw [ak (aj (by rw [ak (aj ac h4)];exact ac) hq2),ak (aj ac h4)];exact ac) (by rw [ak (aj ac hq2)];exact ac) λ o2 o3 H3 s3=>?_;generalize hacc:((((""++wS b1 "board")++wS b2 "game")++wS b3 "line")++wS b4 "place")=acc at*;have lacc:acc.length<=18:=by rw [<-hacc,lc,lc,lc,lc];have:=lw b1 "board";have:=lw b2 "game";have:=lw b3 "line";have:=lw b4 "place";omega
  refine lJ (bS (aw (is s3 (aa rfl) i5) (aw (is s3 (aa rfl) i6) (aw (is s3 (aa rfl) i7) (aw (is s3 (aa rfl) i8) (bh ⟨by show 4<=sizeLine;decide,λ q3 hq3=>?_⟩))))));have sg:=s3.upd (o:=.lst [.bl b5,.bl b6,.bl b7,.bl b8]) hq3;have eq3:(upd H3 q3 (.lst [.bl b5,.bl b6,.bl b7,.bl b8])) q3=some (.lst [.bl b5,.bl b6,.bl b7,.bl b8]):=ac;generalize upd H3 q3 (.lst [.bl b5,.bl b6,.bl b7,.bl b8])=H4 at sg eq3 ⊢;have lens:∀(l:List Bool) (z:Str),(l.foldl (λ z b=>z++wS b "other") z).length<=z.length+5*l.length:=λ l=>by
   induction l with
   | nil=>intro z;exact DS _
   | cons b l ih=>
     intro z;have h1:=ih (z++wS b "other");rw [lc] at h1;have:=lw b "other";rw [List.foldl_cons,Dh];omega
  refine ⟨q3,_,.ref D,λ i σ' H'=>(∃o2 o3,σ'=[oR a,oT (([b5,b6,b7,b8].take i).foldl (λ z b=>z++wS b "other") acc),o2,o3])/\am H4 H',rfl,aH.of eq3,⟨⟨_,_,rfl⟩,am.refl _⟩,λ i σ' H' _ h=>⟨aH.of (h.2 _ _ eq3),(sg.trans h.2) _ _ ha⟩,?_,?_⟩
  ·rintro i x _ H5 hx ⟨⟨o2,o3,rfl⟩,s5⟩;have key:∃b:Bool,x=.bl b/\[b5,b6,b7,b8].take (i+1)=[b5,b6,b7,b8].take i++[b]:=by
    match i,hx with
    | 0,hx=>cases hx;exact ⟨_,rfl,rfl⟩
    | 1,hx=>cases hx;exact ⟨_,rfl,rfl⟩
    | 2,hx=>cases hx;exact ⟨_,rfl,rfl⟩
    | 3,hx=>cases hx;exact ⟨_,rfl,rfl⟩
    | i+4,hx=>simp at hx
   obtain ⟨b,rfl,et⟩:=key;have l5:=lens ([b5,b6,b7,b8].take i) acc;have l6:([b5,b6,b7,b8].take i).length<=4:=by rw [Dm];exact Nat.min_le_right _ _
   have l7:=lw b "other";show tAsg _ _ _ [some (.ref a),some (.str (([b5,b6,b7,b8].take i).foldl (λ z b=>z++wS b "other") acc)),o2,some (.bl b)] H5;refine iM (mP (z':=wS b "other") (aa rfl) (mK aq (mO (aa rfl))) (by rw [sizeLine_eq];omega)) ?_;refine ⟨⟨o2,some (.bl b),?_⟩,s5⟩;rw [et,List.foldl_append];rfl
  ·rintro _ H5 ⟨⟨o2,o3,rfl⟩,s5⟩;have s6:=sg.trans s5;show bC _ _ _ [oR a,oT ((((acc++wS b5 "other")++wS b6 "other")++wS b7 "other")++wS b8 "other"),o2,o3] H5;have iv:∀z:Str,Ev (cB (pS K) (aN (br 0) (aN (tC (.ty "ValueError")) bY))) [some (.ref a),some (.str z),o2,o3] H5 (.bl true):=λ z=>mM (ae (aa rfl) (ae aq ay)) wq (s6 _ _ ha) L.x L.v;have in9:∀z:Str,Ev (cB (pS K) (aN (br 0) (aN (tC (.ref c9)) bY))) [some (.ref a),some (.str z),o2,o3] H5 (.bl false):=λ z=>is s6 (aa rfl) i9;refine bZ (b:=false) (dA (a:=false) (b:=false) (bz (in9 _)) (λ _=>bX (b:=true) (bz (iv _)))) (λ h=>nomatch h) (λ _=>?_);exact ba (aa rfl) (k _ s6)
theorem ia {f:Addr}{fd:FuncData}(F:bW K "_law_whole" "_law_whole" ck f fd) (T:Txt mg):bp P w K mg base dN 1 f fd ["_law_thing"] dC:=by
 refine F.ok hV (λ vs H Q E h=>?_) (λ cdv A outer s H vs Q E hr h=>?_)
 ·obtain ⟨v,rfl,_⟩:=h;rfl
 ·obtain ⟨v,rfl,t,q⟩:=h;refine ⟨_,(ap (aA (ez (wT .int T.isinstance T.int hG (cv 0)) (eZ (qu (wT .bool T.isinstance T.bool jL (cv 0))))))),?_⟩;show cU _ _ [some v] H;refine ba (dc (kM (aa rfl) t) (λ _=>qc (kM (aa rfl) t))) ?_;rw [jS t];exact q
theorem js {f cB cN cP:Addr}{fd:FuncData}{wd:Str}(F:bW K "_law_said" "_law_said" cH f fd) (T:Txt mg) (m_PlayError:mg "PlayError"=some (.ref cP)) (x1:EN K (.ref cN) (.ref cP)=some true) (C:CSd P w K mg base cB cN wd):bp P w K mg base dN 6 f fd ["_law_wide","_law_high","_law_holes_here"] (md wd):=by
 refine F.ok fg (λ vs H Q E h=>?_) (λ cdv A outer s H vs Q E hr h=>?_)
 ·obtain ⟨wv,hv,dv,rfl,_⟩:=h;rfl
 ·obtain ⟨wv,hv,dv,rfl,tw,th,td,bad,k⟩:=h;have hu:=dh hr;refine ⟨_,(af (q8 (i:=3) C.Board hr (λ _ _ z=>z) (ar (cv 0) (ar (cv 1) (ar (cv 2) pa_nil))) m_PlayError fg.nd rfl (λ _=>(ap (aA (wZ C._law_word rfl (hr.n _) (ar (cv 3) pa_nil))))))
   (ap (aA bP))),?_⟩
  show bC _ _ _ [some wv,some hv,some dv,none] H;refine we (ae (aa rfl) (ae (aa rfl) (ae (aa rfl) ay))) λ x dx hx hdx ne=>?_;have s1:am H (upd (upd H dx (.own x)) x (.ins cB dx [])):=((am.refl H).upd hdx).upd (by rw [ak (Ne.symm ne)];exact hx);have bad':dM (upd (upd H dx (.own x)) x (.ins cB dx [])) wv hv dv=false:=by
   have e:∀m,bB (upd (upd H dx (.own x)) x (.ins cB dx [])) dv m=bB H dv m:=λ m=>by unfold bB;rw [gO td.thg s1]
   unfold dM at bad ⊢;split<;>simp_all
  refine ⟨x,dx,wv,hv,dv,rfl,ac,tw.same s1,th.same s1,td.same s1,bad',λ H' s2=>⟨x1,λ a ha=>?_⟩⟩;have sa:=(s1.trans s2).upd (o:=fL (.ref cN) a) ha;show cU _ _ [some wv,some hv,some dv,oR a] _;exact cY (rR (ae (aa rfl) ay) rfl ⟨a,rfl,ac,λ H3 s3=>k _ (sa.trans s3)⟩)
theorem fU {f:Addr}{fd:FuncData}(F:bW K "_law_is_among" "_law_is_among" bI f fd) (T:Txt mg) (C:CWh P w K mg base):bp P w K mg base dN 2 f fd ["_law_thing","_law_many"] lh:=by
 refine F.ok fP (λ vs H Q E h=>?_) (λ cdv A outer s H vs Q E hr h=>?_)
 ·obtain ⟨v,m,rfl,_⟩:=h;rfl
 ·obtain ⟨v,m,rfl,t,k⟩:=h;have hu:=dh hr;refine ⟨_,(ap (aA (ez (aO C._law_whole hr (ar (cv 0) pa_nil)) (ez (jw K hu ag (cv 0)) (eZ (jw K hu (cv 0) (cv 1))))))),?_⟩;show cU _ _ [some v,oJ m] H;have hc:=aR (sp:=dC) (σ:=[some v,oJ m]) (H:=H) (ae (aa (n:=0) rfl) ay) (λ Q q=>⟨v,rfl,t,q⟩);cases v with
  | int i=>
    refine ba (dc hc (λ _=>dc (AY aq (aa rfl)) (λ _=>mL (aa rfl) (aa rfl)))) ?_;have e:(k6 (.int i)&&(decide (0<=i)&&decide (i<m)))=aV (.int i) 0 (m - 1):=by show (true&&(decide (0<=i)&&decide (i<m)))=decide (0<=i/\i<=m - 1);rw [Bool.true_and,Eg];simp only [Ef,decide_eq_true_eq];omega
    rw [e];exact k
  | _=>exact ba (dc (b:=false) hc (λ h=>by cases h)) k
theorem jt {f:Addr}{fd:FuncData}(F:bW K "_law_goal" "_law_goal" cI f fd) (T:Txt mg):bp P w K mg base dN 1 f fd ["_law_wide","_law_high","_law_holes_here","_law_square","_law_across","_law_up"] (oV K):=by
 refine F.ok dI (λ vs H Q E h=>?_) (λ cdv A outer s H vs Q E hr h=>?_)
 ·obtain ⟨wi,hi,d,hs,sq,ax,up,rfl,_⟩:=h;rfl
 ·obtain ⟨wi,hi,d,hs,sq,ax,up,rfl,hS,w1,w8,h1,h8,k⟩:=h;have hu:=dh hr;refine ⟨_,(af (aC (i:=6) dI.nd rfl (Or.inl rfl) (al (al (cv 3) (cv 0)) (cv 4)))
   (af (aC (i:=7) dI.nd rfl (Or.inl rfl) (al (al (al (cv 3) (al (cv 3) (cv 0))) (cv 0)) (cv 5)))
   (af (bn (PW.pt (dE (bu K hu (cv 6) ag) (dE (bu K hu (cv 6) (cv 0)) (dE (bu K hu (cv 7) ag) (cZ (bu K hu (cv 7) (cv 1))))))) (ap (aA da)) aE)
   (af (bn (bu K hu (al (al (cv 0) (cv 7)) (cv 6)) (cv 2)) (ap (aA da)) aE)
   (ap (aA (al (al (cv 0) (cv 7)) (cv 6)))))))),?_⟩
  show bC _ _ _ [oJ wi,oJ hi,oR d,oJ sq,oJ ax,oJ up,none,none] H;have e0:(sq - sq % wi) / wi=sq / wi:=by have:=Int.mul_ediv_add_emod sq wi;rw [show sq - sq % wi=wi*(sq / wi) by omega];exact Int.mul_ediv_cancel_left _ (by omega)
  refine bG (bM (bo (aa rfl) (aa rfl) (by omega)) (aa rfl)) ?_;refine bG (bM (bH (du (aa rfl) (bo (aa rfl) (aa rfl) (by omega))) (aa rfl) ⟨by omega,by omega⟩) (aa rfl)) ?_;rw [e0];unfold mvd at k;generalize sq % wi+ax=c at k ⊢;generalize sq / wi+up=r at k ⊢;show bC _ _ _ [oJ wi,oJ hi,oR d,oJ sq,oJ ax,oJ up,oJ c,oJ r] H;refine bZ (dA (bz (mL (aa rfl) aq)) (λ _=>dA (bz (qe (aa rfl) (aa rfl))) (λ _=>dA (bz (mL (aa rfl) aq)) (λ _=>bz (qe (aa rfl) (aa rfl)))))) (λ h=>?_) (λ h=>?_)
  ·simp only [Bool.or_eq_true,decide_eq_true_eq] at h;rw [if_neg (by omega)] at k;exact ba aq k
  ·simp only [Em,decide_eq_false_iff_not] at h;rw [if_pos (by omega)] at k;rw [Ec r wi] at k;refine bZ (bz (AZ (bM (b0 (aa rfl) (aa rfl) (.inl ⟨by omega,by omega⟩)) (aa rfl)) (aa rfl) (.inl hS))) (λ h2=>?_) (λ h2=>?_)
   ·rw [if_pos (of_decide_eq_true h2)] at k;exact ba aq k
   ·rw [if_neg (of_decide_eq_false h2)] at k;exact ba (bM (b0 (aa rfl) (aa rfl) (.inl ⟨by omega,by omega⟩)) (aa rfl)) k
theorem jr {f:Addr}{fd:FuncData}(F:bW K "_law_same" "_law_same" cg f fd) (T:Txt mg) (C:CWh P w K mg base):bp P w K mg base dN 2 f fd ["_law_found","_law_due"] (ma K):=by
 refine F.ok iS (λ vs H Q E h=>?_) (λ cdv A outer s H vs Q E hr h=>?_)
 ·obtain ⟨a,b,zs,rfl,_⟩:=h;rfl
 ·obtain ⟨a,b,zs,rfl,ha,hb,lz,k⟩:=h;have hu:=dh hr;refine ⟨_,(af (bn (PW.pt (dE (bg (be (wT .list T.isinstance T.list fH (cv 0)))) (cZ (bu K hu (cv 0) (cv 1))))) (ap (aA bR)) aE)
   (ap (aA (jw K hu (gP (ey (N:=["_law_one"]) (src:=[none]) (ao cg) ["_law_found","_law_due"]) (vU K (cv 0)) (λ _ _ _=>(cr (i:=0) ["_law_one"])) (λ _ _ _=>(dW (bg (be (aO C._law_whole hr (ar (cv 0) pa_nil)))))) (λ _ _ _=>(cv 0))) (aJ pa_nil))))),?_⟩
  show bC _ _ _ [oR a,oR b] H;refine bZ (b:=false) (dA (a:=false) (b:=false) (bX (b:=true) (bz (xi (aa rfl) ha))) (λ _=>bz (qd (k:=true) (aa rfl) (aa rfl) (gX (n:=19) (aH.of ha) (aH.of hb))))) (λ h=>nomatch h) (λ _=>?_);refine cY (lO (jC (d:=a) (xs:=zs.map V.int) (rest:=[]) (aa rfl) (aH.of ha) (by rw [CZ,sizeLine_eq];omega) rfl (λ _=>false) (λ x=>x) (λ x hx=>?_) (λ x hx hp=>by cases hp) (λ d hd=>?_)))
  ·obtain ⟨z,_,rfl⟩:=C6.mp hx;exact bX (b:=true) (bz (aR (ae (aa rfl) ay) (λ Q q=>⟨.int z,rfl,trivial,q⟩)))
  ·have e:(((zs.map V.int).filter λ _=>false).map λ x=>x)=[]:=by simp
   rw [e];have s1:=(am.refl H).upd (o:=.lst []) hd;exact bS (bh ⟨DV _,λ r hr'=>⟨_,mQ (n:=19) (((am.refl _).upd (o:=.lst []) hr') _ _ ac) ac,k _ (s1.upd hr')⟩⟩)
end
end K03
namespace K03
open PySem L2
theorem iu:∀{l l':List Int},l.Perm l'->l.Pairwise (·<=·)->l'.Pairwise (·<=·)->l=l'
 | [],l',h,_,_=>(List.nil_perm.mp h).symm
 | a::l,[],h,_,_=>by have:=h.length_eq;simp at this
 | a::l,b::l',h,h1,h2=>by
   have p1:=DR.mp h1;have p2:=DR.mp h2;have e:a=b:=by
    have m1:a∈b::l':=h.mem_iff.mp C3;have m2:b∈a::l:=h.mem_iff.mpr C3
    rcases C1.mp m1 with e | m1
    ·exact e
    ·rcases C1.mp m2 with e | m2
     ·exact e.symm
     ·have:=p1.1 b m2;have:=p2.1 a m1;omega
   subst e;rw [iu (List.Perm.cons_inv h) p1.2 p2.2]
abbrev jk (ps:List ((Int×Int)×Addr)):List V:=ps.map λ z=>V.ref z.2
structure xF (K:Frag) (cB:Addr) (H:Hp) (b d:Addr) (wi hi:Int) (hs' hs:List Int):Prop where
 bd:bF K cB H b wi hi hs'
 pm:hs'.Perm hs
 hl:H d=some (.lst (hs.map V.int))
theorem xF.same {K:Frag}{cB:Addr}{H H':Hp}{b d:Addr}{wi hi:Int}{hs' hs:List Int}(h:xF K cB H b d wi hi hs' hs) (s:am H H'):xF K cB H' b d wi hi hs' hs:=⟨h.bd.same s,h.pm,s _ _ h.hl⟩
def iw (K:Frag) (cB:Addr):Sp:=λ vs H Q _=> ∃(b d:Addr) (wi hi:Int) (hs' hs:List Int),vs=[.ref b,.int wi,.int hi,.ref d]/\xF K cB H b d wi hi hs' hs/\hs.length<64/\∀H',am H H'->Q (.bl true) H'
def jX (K:Frag) (cB:Addr):Sp:=λ vs H Q _=> ∃(b d q:Addr) (wi hi:Int) (hs' hs:List Int) (xs:List V),vs=[.ref b,.int wi,.int hi,.ref d,.ref q]/\xF K cB H b d wi hi hs' hs/\H q=some (.lst xs)/\(∀x∈xs,Thg H x)/\∀H',am H H'->Q (.bl true) H'
def jW (K:Frag) (cB:Addr):Sp:=λ vs H Q _=> ∃(b d q:Addr) (wi hi:Int) (hs' hs:List Int) (ps:List ((Int×Int)×Addr)),vs=[.ref b,.int wi,.int hi,.ref d,.ref q]/\xF K cB H b d wi hi hs' hs/\H q=some (.lst (jk ps))/\(∀p∈ps,H p.2=some (.tup [.int p.1.1,.int p.1.2]))/\∀H',am H H'->Q (.bl true) H'
def oY (K:Frag) (cB:Addr):Sp:=λ vs H Q _=> ∃(b d q1 q2 q3:Addr) (wi hi:Int) (hs' hs:List Int) (xs:List V) (ps:List ((Int×Int)×Addr)) (os:List Int),vs=[.ref b,.int wi,.int hi,.ref d,.ref q1,.ref q2,.ref q3]/\xF K cB H b d wi hi hs' hs/\hs.length<64/\H q1=some (.lst xs)/\(∀x∈xs,Thg H x)/\H q2=some (.lst (jk ps))/\(∀p∈ps,H p.2=some (.tup [.int p.1.1,.int p.1.2]))/\H q3=some (.lst (os.map V.int))/\∀H',am H H'->Q (.bl true) H'
structure Bo (P:Program) (w:World) (K:Frag) (mg:Str->Option Value) (base:Heap) (cB:Addr):Prop extends CWh P w K mg base where
 _law_same:eK P w K mg base "_law_same" ["_law_found","_law_due"] 2 (ma K)
 _law_is_among:eK P w K mg base "_law_is_among" ["_law_thing","_law_many"] 2 lh
 _law_goal:eK P w K mg base "_law_goal" ["_law_wide","_law_high","_law_holes_here","_law_square","_law_across","_law_up"] 1 (oV K)
 Board_has:hR P w K mg base cB "has" ["self","square"] 3 (oU K cB)
 Board_squares:hR P w K mg base cB "squares" ["self"] 1 (oX K cB)
 Board_moved:hR P w K mg base cB "moved" ["self","square","across","up"] 2 (me K cB)
 Board_far_row:hR P w K mg base cB "far_row" ["self","side"] 1 (oW K cB)
structure CAr (P:Program) (w:World) (K:Frag) (mg:Str->Option Value) (base:Heap) (cB:Addr):Prop where
 _law_fields_right:eK P w K mg base "_law_fields_right" ["_law_board","_law_wide","_law_high","_law_holes_here"] 3 (iw K cB)
 _law_right:eK P w K mg base "_law_right" ["_law_board","_law_wide","_law_high","_law_holes_here","_law_things"] 4 (jX K cB)
 _law_steps_right:eK P w K mg base "_law_steps_right" ["_law_board","_law_wide","_law_high","_law_holes_here","_law_some"] 3 (jW K cB)
section
variable {P:Program}{w:World}{K:Frag}{mg:Str->Option Value}{base:Heap}
theorem dY {f cB:Addr}{fd:FuncData}(F:bW K "_law_fields_right" "_law_fields_right" aU f fd) (T:Txt mg) (B:gj K cB) (C:Bo P w K mg base cB):bp P w K mg base dN 3 f fd ["_law_board","_law_wide","_law_high","_law_holes_here"] (iw K cB):=by
 refine F.ok cC (λ vs H Q E h=>?_) (λ cdv A outer s H vs Q E hr h=>?_)
 ·obtain ⟨b,d,wi,hi,hs',hs,rfl,_⟩:=h;rfl
 ·obtain ⟨b,d,wi,hi,hs',hs,rfl,D,h64,k⟩:=h;have hu:=dh hr;have mm:=D.bd.many;have w1:=D.bd.w1;have w8:=D.bd.w8;refine ⟨_,(af (bn (PW.pt (dE (bg (be (aO C._law_whole hr (ar (eQ K (cv 0)) pa_nil)))) (cZ (bg (be (aO C._law_whole hr (ar (eQ K (cv 0)) pa_nil))))))) (ap (aA bR)) aE)
   (af (bn (bg (be (aO C._law_same hr (ar (eQ K (cv 0)) (ar (kB (vT K) iD T.sorted (ar (cv 3) pa_nil)) pa_nil))))) (ap (aA bR)) aE)
   (af (ra (i:=4) rfl (ey (N:=["_law_square","_law_holes_here"]) (src:=[none,some 3]) (ao aU) ["_law_board","_law_wide","_law_high","_law_holes_here","_law_free"]) (xK T.range (ar (al (cv 1) (cv 2)) pa_nil)) (λ _ _ _=>(cr (i:=0) ["_law_square","_law_holes_here"])) (λ _ _ _=>(dW (bu K hu (cv 0) (cv 1)))) (λ _ _ _=>(cv 0)) cC.nd rfl (Or.inl rfl) rfl (Or.inl rfl))
   (ap (aA (ez (jw K hu (cM (ar (eQ K (cv 0)) (ar (eQ K (cv 0)) pa_nil))) (cM (ar (cv 1) (ar (cv 2) pa_nil)))) (eZ (aO C._law_same hr (ar (lE C.Board_squares hr (cv 0)) (ar (cv 4) pa_nil)))))))))),?_⟩
  show bC _ _ _ [oR b,oJ wi,oJ hi,oR d,none] H;refine bZ (b:=false) (dA (a:=false) (b:=false) (bX (b:=true) (bz (aR (ae (bT (aa rfl) (D.bd.wide B)) ay) (λ Q q=>⟨.int wi,rfl,trivial,q⟩)))) (λ _=>bX (b:=true) (bz (aR (ae (bT (aa rfl) (D.bd.high B)) ay) (λ Q q=>⟨.int hi,rfl,trivial,q⟩))))) (λ h=>nomatch h) (λ _=>?_);obtain ⟨ph,fh,eh⟩:=D.bd.holes B;refine dH (λ z H'=>z=false/\am H H') (λ R z=>jJ (aw (bT (aa rfl) fh) (aZ (rZ (aa rfl) ⟨hs,aH.of D.hl,h64,λ zs q p1 p2 hq=>bh ?_⟩)))) (λ H' w=>nomatch w.1) (λ H1 w=>?_)
  ·have sa:=(am.refl H).upd (o:=.lst (zs.map V.int)) hq;have e:zs=hs':=iu (p1.trans D.pm.symm) p2 D.bd.srt;subst e;exact ⟨ph,q,zs,rfl,sa _ _ eh,ac,by have:=p1.length_eq;omega,λ H' s=>z _ _ ⟨rfl,sa.trans s⟩⟩
  have s1:=w.2;have D1:=D.same s1;refine ci (λ v H'=> ∃q,v=.ref q/\H' q=some (.lst ((cQ wi hi hs).map V.int))/\am H1 H') (λ Q q=>?_) ?_
  ·refine fC (n:=wi*hi) (rest:=[oR d]) (ae (b0 (aa rfl) (aa rfl) (.inl ⟨by omega,by omega⟩)) ay) (by omega) (by rw [sizeLine_eq];omega) (by omega) rfl (λ x=>match x with | .int i=> !decide (i∈hs) | _=>false) (λ x=>x) (λ i hi=>bz (gU (aa rfl) (aa rfl) (.inl (aH.of D1.hl)))) (λ i hi _=>aa rfl) (λ d' hd'=>?_)
   have e:(((List.range (wi*hi).toNat).map λ (i:Nat)=>V.int (0+(i:Int))).filter λ x=>match x with | .int i=> !decide (i∈hs) | _=>false).map (λ x=>x)=(cQ wi hi hs).map V.int:=by
    rw [List.map_id',List.filter_map,cQ,Di];have e2:∀i:Nat,((λ x=>match x with | V.int i=> !decide (i∈hs) | _=>false)∘λ (i:Nat)=>V.int (0+(i:Int))) i= !decide ((i:Int)∈hs):=λ i=>by show (!decide (0+(i:Int)∈hs))=_;rw [Ed]
    rw [DM λ i _=>e2 i];refine Dp λ i _=>?_;show V.int (0+(i:Int))=V.int (i:Int);rw [Ed]
   rw [e];exact q _ _ ⟨d',rfl,ac,(am.refl H1).upd hd'⟩
  rintro _ H2 ⟨q,rfl,eq,s2⟩;have D2:=D1.same s2;show cU _ _ [oR b,oJ wi,oJ hi,oR d,oR q] H2;refine cY (xy (lO (dS (bT (aa rfl) (D2.bd.wide B)) (bT (aa rfl) (D2.bd.high B)) λ t1 h1=>?_)));have sa:=(am.refl H2).upd (o:=.tup [.int wi,.int hi]) h1;refine dS (aa rfl) (aa rfl) λ t2 h2=>?_;have sb:=(am.refl _).upd (o:=.tup [.int wi,.int hi]) h2;refine ⟨_,qh (n:=19) (dQ.of (sb _ _ ac)) (dQ.of ac),?_⟩;rw [decide_eq_true ⟨rfl,rfl⟩];have s3:=sa.trans sb;have D3:=D2.same s3;refine xx (qx (aZ ((show Ev (br 0) _ _ (.ref b) from aa rfl) _ ⟨D3.bd.no,b,wi,hi,hs',rfl,D3.bd,λ q2 H4 a1 a2 a3=>aw (aa rfl) (bh ⟨q2,q,cQ wi hi hs,rfl,by rw [lI D.pm.symm];exact a2,(s3.trans a3) _ _ eq,?_,λ H5 s5=>k _ ((((s1.trans s2).trans s3).trans a3).trans s5)⟩)⟩)));unfold cQ;rw [CZ];exact DU (Dz _ _) (by rw [Dg];omega)
theorem ib {f cB:Addr}{fd:FuncData}(F:bW K "_law_right" "_law_right" cn f fd) (T:Txt mg) (B:gj K cB) (C:Bo P w K mg base cB):bp P w K mg base dN 4 f fd ["_law_board","_law_wide","_law_high","_law_holes_here","_law_things"] (jX K cB):=by
 refine F.ok bU (λ vs H Q E h=>?_) (λ cdv A outer s H vs Q E hr h=>?_)
 ·obtain ⟨b,d,q,wi,hi,hs',hs,xs,rfl,_⟩:=h;rfl
 ·obtain ⟨b,d,q,wi,hi,hs',hs,xs,rfl,D,hq,th,k⟩:=h;have hu:=dh hr;have mm:=D.bd.many;have w1:=D.bd.w1;have w8:=D.bd.w8;refine ⟨_,(af (eY PassesOwn.never rfl (vU K (cv 4)) (bN (i:=5) bU.nd rfl (Or.inl rfl)) (af (aC (i:=6) bU.nd rfl (Or.inl rfl) (mw C.Board_has hr (cv 0) (ar (cv 5) pa_nil)))
   (af (aC (i:=7) bU.nd rfl (Or.inl rfl) (ez (aO C._law_is_among hr (ar (cv 5) (ar (al (cv 1) (cv 2)) pa_nil))) (eZ (jw K hu (cv 5) (cv 3)))))
   (ap (bn (PW.pt (dE (bg (be (wT .bool T.isinstance T.bool jL (cv 6)))) (cZ (bu K hu (cv 6) (cv 7))))) (ap (aA bR)) aE)))))
   (af (aC (i:=8) bU.nd rfl (Or.inl rfl) (aJ (ar (mw C.Board_far_row hr (cv 0) (ar ag pa_nil)) (ar (mw C.Board_far_row hr (cv 0) (ar ag pa_nil)) pa_nil))))
   (ap (aA (aO C._law_same hr (ar (cv 8) (ar (aJ (ar (al (cv 2) ag) (ar ag pa_nil))) pa_nil))))))),?_⟩
  show bC _ _ _ [oR b,oJ wi,oJ hi,oR d,oR q,none,none,none,none] H;refine di (λ σ' H'=>(∃o5 o6 o7,σ'=[oR b,oJ wi,oJ hi,oR d,oR q,o5,o6,o7,none])/\am H H') (λ K' hK=>?_) ?_
  ·refine ef (λ v H'=>v=.ref q/\H=H') (λ Q z=>(aa rfl) _ (z _ _ ⟨rfl,rfl⟩)) ?_;rintro _ _ ⟨rfl,rfl⟩;refine ⟨q,xs,rfl,aH.of hq,λ i σ' H'=>(∃o5 o6 o7,σ'=[oR b,oJ wi,oJ hi,oR d,oR q,o5,o6,o7,none])/\am H H',⟨⟨_,_,_,rfl⟩,am.refl _⟩,λ i σ' H' _ h=>aH.of (h.2 _ _ hq),?_,λ σ' H' h=>hK _ _ h⟩;rintro i x _ H1 hx ⟨⟨o5,o6,o7,rfl⟩,s1⟩;have D1:=D.same s1;have tx:=(th x (Df hx)).same s1;show bC _ _ _ [oR b,oJ wi,oJ hi,oR d,oR q,some x,o6,o7,none] H1;refine bG (jy (x:=.bl (nX wi hi hs' x)) (aa rfl) D1.bd.no (ae (aa rfl) ay) (λ Q q=>⟨b,wi,hi,hs',x,rfl,D1.bd,tx,q⟩)) ?_;rw [nW D.pm];have hc:=aR (sp:=lh) (σ:=[oR b,oJ wi,oJ hi,oR d,oR q,some x,some (.bl (nX wi hi hs x)),o7,none]) (H:=H1) (ae (aa (n:=5) rfl) (ae (b0 (aa (n:=1) rfl) (aa (n:=2) rfl) (.inl ⟨by omega,by omega⟩)) ay)) (λ Q q=>⟨x,wi*hi,rfl,tx,q⟩);have fin:∀(z:Bool) {t:TS} {D':cb},D'.nx [some (.ref b),some (.int wi),some (.int hi),some (.ref d),some (.ref q),some x,some (.bl z),some (.bl z),none] H1->iL (xG (jV (de (xo .bool (br 6)))) (de (dy K .NotEq (br 6) (br 7)))) t gk D' [some (.ref b),some (.int wi),some (.int hi),some (.ref d),some (.ref q),some x,some (.bl z),some (.bl z),none] H1:=λ z _ _ h=>by refine eG (b:=false) (dA (a:=false) (b:=false) (bX (b:=true) (bz (λ Q q=>(show Ev (br 6) _ _ (.bl z) from aa rfl) _ q))) (λ _=>bz (λ Q q=>(show Ev (br 6) _ _ (.bl z) from aa rfl) _ ((show Ev (br 7) _ _ (.bl z) from aa rfl) _ ?_)))) (λ h=>nomatch h) (λ _=>h);show Q (.bl (!decide (z=z))) H1;rw [decide_eq_true rfl];exact q
   cases x with
   | int n=>
     refine bG (dc (b:= !decide (n∈hs)) hc (λ _=>gU (aa rfl) (aa rfl) (.inl (aH.of D1.hl)))) ?_;exact fin _ ⟨⟨_,_,_,rfl⟩,s1⟩
   | _=>
     refine bG (dc (b:=false) hc (λ h=>by cases h)) ?_;exact fin _ ⟨⟨_,_,_,rfl⟩,s1⟩
  rintro _ H1 ⟨⟨o5,o6,o7,rfl⟩,s1⟩;have D1:=D.same s1;have fr:∀{σ:St} {te:TE} (sd:Int) {H':Hp},am H1 H'->Ev te σ H' (.ref b)->Ev (kW cB "far_row" (oW K cB) te (aN (tC (.int sd)) bY)) σ H' (.int (n8 hi sd)):=λ sd _ s e=>jy (x:=.int (n8 hi sd)) e (D1.same s).bd.no (ae aq ay) (λ Q q=>⟨b,wi,hi,hs',sd,rfl,(D1.same s).bd,q⟩);refine ci (λ v H'=> ∃r,v=.ref r/\H' r=some (.lst [.int (n8 hi 0),.int (n8 hi 1)])/\am H1 H') (λ Q z=>bS (aw (fr 0 (am.refl H1) (aa rfl)) (aw (fr 1 (am.refl H1) (aa rfl)) (bh ⟨by show 2<=sizeLine;decide,λ r hr'=>z _ _ ⟨r,rfl,ac,(am.refl H1).upd hr'⟩⟩)))) ?_;rintro _ H2 ⟨r,rfl,er,s2⟩;refine cY (qx (aw (aa rfl) (aZ (bS (aw (du (aa rfl) aq) (aw aq (bh ⟨by show 2<=sizeLine;decide,λ r2 hr2=>bh ?_⟩)))))));have s3:=(am.refl H2).upd (o:=.lst [.int (hi - 1),.int 0]) hr2;exact ⟨r,r2,[hi - 1,0],rfl,s3 _ _ er,ac,by show 2<=1000;decide,λ H' s=>k _ (((s1.trans s2).trans s3).trans s)⟩
theorem eN {f cB:Addr}{fd:FuncData}(F:bW K "_law_steps_right" "_law_steps_right" aW f fd) (T:Txt mg) (B:gj K cB) (C:Bo P w K mg base cB):bp P w K mg base dN 3 f fd ["_law_board","_law_wide","_law_high","_law_holes_here","_law_some"] (jW K cB):=by
 refine F.ok aS (λ vs H Q E h=>?_) (λ cdv A outer s H vs Q E hr h=>?_)
 ·obtain ⟨b,d,q,wi,hi,hs',hs,ps,rfl,_⟩:=h;rfl
 ·obtain ⟨b,d,q,wi,hi,hs',hs,ps,rfl,D,hq,hp,k⟩:=h;have hu:=dh hr;have mm:=D.bd.many;have w1:=D.bd.w1;have w8:=D.bd.w8;have h1:=D.bd.h1;have h8:=D.bd.h8;refine ⟨_,(af (eY PassesOwn.never rfl (vU K (gP (ey (N:=["_law_one","_law_holes_here"]) (src:=[none,some 3]) (ao aW) ["_law_board","_law_wide","_law_high","_law_holes_here","_law_some","_law_square","_law_across","_law_up","_law_found","_law_due"]) (xK T.range (ar (al (cv 1) (cv 2)) pa_nil)) (λ _ _ _=>(cr (i:=0) ["_law_one","_law_holes_here"])) (λ _ _ _=>(dW (bu K hu (cv 0) (cv 1)))) (λ _ _ _=>(cv 0)))) (bN (i:=5) aS.nd rfl (Or.inl rfl)) (ap (eY PassesOwn.never rfl (vU K (cv 4)) (kgt K (n:=2) (cK (bN (i:=6) aS.nd rfl (Or.inl rfl)) (cK (bN (i:=7) aS.nd rfl (Or.inl rfl)) gA))) (af (aC (i:=8) aS.nd rfl (Or.inl rfl) (mw C.Board_moved hr (cv 0) (ar (cv 5) (ar (cv 6) (ar (cv 7) pa_nil)))))
   (af (aC (i:=9) aS.nd rfl (Or.inl rfl) (aO C._law_goal hr (ar (cv 1) (ar (cv 2) (ar (cv 3) (ar (cv 5) (ar (cv 6) (ar (cv 7) pa_nil))))))))
   (ap (bn (PW.pt (dE (bu K hu (cv 8) (cv 9)) (cZ (PW.pt (gH (bu K hu (cv 9) da) (fm (bg (be (aO C._law_whole hr (ar (cv 8) pa_nil)))))))))) (ap (aA bR)) aE)))))))
   (ap (aA bR))),?_⟩
  show bC _ _ _ [oR b,oJ wi,oJ hi,oR d,oR q,none,none,none,none,none] H;refine di (λ σ' H'=>am H H') (λ K' hK=>?_) (λ σ' H' s=>ba aq (k H' s));refine ef (λ v H'=> ∃(r:Addr) (zs:List Int),v=.ref r/\H' r=some (.lst (zs.map V.int))/\am H H') (λ Q z=>?_) ?_
  ·refine fC (n:=wi*hi) (rest:=[oR d]) (ae (b0 (aa rfl) (aa rfl) (.inl ⟨by omega,by omega⟩)) ay) (by omega) (by rw [sizeLine_eq];omega) (by omega) rfl (λ x=>match x with | .int i=> !decide (i∈hs) | _=>false) (λ x=>x) (λ i hi=>bz (gU (aa rfl) (aa rfl) (.inl (aH.of D.hl)))) (λ i hi _=>aa rfl) (λ d' hd'=>?_)
   have e:(((List.range (wi*hi).toNat).map λ (i:Nat)=>V.int (0+(i:Int))).filter λ x=>match x with | .int i=> !decide (i∈hs) | _=>false).map (λ x=>x)=(((List.range (wi*hi).toNat).filter λ (i:Nat)=> !decide (0+(i:Int)∈hs)).map λ (i:Nat)=>0+(i:Int)).map V.int:=by rw [List.map_id',List.filter_map,Di];rfl
   rw [e];exact z _ _ ⟨d',_,rfl,ac,(am.refl H).upd hd'⟩
  rintro _ H1 ⟨r,zs,rfl,er,s1⟩;refine ⟨r,zs.map V.int,rfl,aH.of er,λ i σ' H'=>(∃o5 o6 o7 o8 o9,σ'=[oR b,oJ wi,oJ hi,oR d,oR q,o5,o6,o7,o8,o9])/\am H1 H',⟨⟨_,_,_,_,_,rfl⟩,am.refl _⟩,λ i σ' H' _ h=>aH.of (h.2 _ _ er),?_,λ σ' H' h=>hK _ _ (s1.trans h.2)⟩;rintro i x _ H2 hx ⟨⟨o5,o6,o7,o8,o9,rfl⟩,s2⟩;obtain ⟨sq,_,rfl⟩:=C6.mp (Df hx);show tFor _ _ _ _ [oR b,oJ wi,oJ hi,oR d,oR q,oJ sq,o6,o7,o8,o9] H2;have s02:=s1.trans s2;refine ef (λ v H'=>v=.ref q/\H2=H') (λ Q z=>(aa rfl) _ (z _ _ ⟨rfl,rfl⟩)) ?_;rintro _ _ ⟨rfl,rfl⟩;refine ⟨q,jk ps,rfl,aH.of (s02 _ _ hq),λ i σ' H'=>(∃o6 o7 o8 o9,σ'=[oR b,oJ wi,oJ hi,oR d,oR q,oJ sq,o6,o7,o8,o9])/\am H2 H',⟨⟨_,_,_,_,rfl⟩,am.refl _⟩,λ i σ' H' _ h=>aH.of ((s02.trans h.2) _ _ hq),?_,λ σ' H' h=>?_⟩
  ·rintro j y _ H3 hy ⟨⟨p6,p7,p8,p9,rfl⟩,s3⟩;obtain ⟨z,hz,rfl⟩:=C6.mp (Df hy);have s03:=s02.trans s3;have D3:=D.same s03;refine AV (s03 _ _ (hp z hz)) ?_;show bC _ _ _ [oR b,oJ wi,oJ hi,oR d,oR q,oJ sq,oJ z.1.1,oJ z.1.2,p8,p9] H3;refine bG (jy (x:=oI (mvd wi hi hs' sq z.1.1 z.1.2)) (aa rfl) D3.bd.no (ae (aa rfl) (ae (aa rfl) (ae (aa rfl) ay))) (λ Q q=>⟨b,wi,hi,hs',sq,_,_,rfl,D3.bd,q⟩)) ?_;refine bG (aR (x:=oI (mvd wi hi hs sq z.1.1 z.1.2)) (ae (aa rfl) (ae (aa rfl) (ae (aa rfl) (ae (aa rfl) (ae (aa rfl) (ae (aa rfl) ay)))))) (λ Q q=>⟨wi,hi,d,hs,sq,_,_,rfl,aH.of D3.hl,w1,w8,h1,h8,q⟩)) ?_;rw [pN D.pm];have nx:(∃o6 o7 o8 o9,[some (.ref b),some (.int wi),some (.int hi),some (.ref d),some (.ref q),some (.int sq),some (.int z.1.1),some (.int z.1.2),some (oI (mvd wi hi hs sq z.1.1 z.1.2)),some (oI (mvd wi hi hs sq z.1.1 z.1.2))]=[some (.ref b),some (.int wi),some (.int hi),some (.ref d),some (.ref q),some (.int sq),o6,o7,o8,o9])/\am H2 H3:=⟨⟨_,_,_,_,rfl⟩,s3⟩;show iL _ _ _ _ [oR b,oJ wi,oJ hi,oR d,oR q,oJ sq,oJ z.1.1,oJ z.1.2,some (oI (mvd wi hi hs sq z.1.1 z.1.2)),some (oI (mvd wi hi hs sq z.1.1 z.1.2))] H3;cases em:mvd wi hi hs sq z.1.1 z.1.2 with
   | none=>
     rw [em] at nx;refine eG (b:=false) (dA (a:=false) (b:=false) (bz (λ Q q=>(show Ev (br 8) _ _ .non from aa rfl) _ ((show Ev (br 9) _ _ .non from aa rfl) _ q))) (λ _=>oB (a:=false) (b:=false) (bz (λ Q q=>(show Ev (br 9) _ _ .non from aa rfl) _ (aq _ q))) (λ h=>by cases h))) (λ h=>nomatch h) (λ _=>nx)
   | some g=>
     rw [em] at nx;refine eG (b:=false) (dA (a:=false) (b:=false) (bz ?_) (λ _=>oB (a:=true) (b:=false) (bz (λ Q q=>(show Ev (br 9) _ _ (.int g) from aa rfl) _ (aq _ q))) (λ _=>bX (b:=true) (bz (aR (ae (aa rfl) ay) (λ Q q=>⟨.int g,rfl,trivial,q⟩)))))) (λ h=>nomatch h) (λ _=>nx);have e:=AX (K:=K) (show Ev (br 8) [some (.ref b),some (.int wi),some (.int hi),some (.ref d),some (.ref q),some (.int sq),some (.int z.1.1),some (.int z.1.2),some (.int g),some (.int g)] H3 (.int g) from aa rfl) (show Ev (br 9) _ _ (.int g) from aa rfl);rw [decide_eq_true rfl] at e;exact e
  ·obtain ⟨⟨p6,p7,p8,p9,rfl⟩,s3⟩:=h;exact ⟨⟨_,_,_,_,_,rfl⟩,s2.trans s3⟩
theorem fo {f cB:Addr}{fd:FuncData}(F:bW K "_law_all_right" "_law_all_right" bD f fd) (T:Txt mg) (C:CAr P w K mg base cB):bp P w K mg base dN 5 f fd ["_law_board","_law_wide","_law_high","_law_holes_here","_law_things","_law_steps","_law_order"] (oY K cB):=by
 refine F.ok dj (λ vs H Q E h=>?_) (λ cdv A outer s H vs Q E hr h=>?_)
 ·obtain ⟨b,d,q1,q2,q3,wi,hi,hs',hs,xs,ps,os,rfl,_⟩:=h;rfl
 ·obtain ⟨b,d,q1,q2,q3,wi,hi,hs',hs,xs,ps,os,rfl,D,h64,e1,th,e2,hp,e3,k⟩:=h;have hu:=dh hr;refine ⟨_,(af (eY PassesOwn.never rfl (vU K (cv 6)) (bN (i:=7) dj.nd rfl (Or.inl rfl)) (af (bn (PW.pt (gH (bu K hu (cv 7) ag) (fm (bg (be (aO C._law_fields_right hr (ar (cv 0) (ar (cv 1) (ar (cv 2) (ar (cv 3) pa_nil)))))))))) (ap (aA bR)) aE)
   (af (bn (PW.pt (gH (bu K hu (cv 7) ag) (fm (bg (be (aO C._law_right hr (ar (cv 0) (ar (cv 1) (ar (cv 2) (ar (cv 3) (ar (cv 4) pa_nil))))))))))) (ap (aA bR)) aE)
   (ap (bn (PW.pt (gH (bu K hu (cv 7) ag) (fm (bg (be (aO C._law_steps_right hr (ar (cv 0) (ar (cv 1) (ar (cv 2) (ar (cv 3) (ar (cv 5) pa_nil))))))))))) (ap (aA bR)) aE)))))
   (ap (aA bR))),?_⟩
  show bC _ _ _ [oR b,oJ wi,oJ hi,oR d,oR q1,oR q2,oR q3,none] H;refine di (λ σ' H'=>am H H') (λ K' hK=>?_) (λ σ' H' s=>ba aq (k H' s));refine ef (λ v H'=>v=.ref q3/\H=H') (λ Q z=>(aa rfl) _ (z _ _ ⟨rfl,rfl⟩)) ?_;rintro _ _ ⟨rfl,rfl⟩;refine ⟨q3,os.map V.int,rfl,aH.of e3,λ i σ' H'=>(∃o7,σ'=[oR b,oJ wi,oJ hi,oR d,oR q1,oR q2,oR q3,o7])/\am H H',⟨⟨_,rfl⟩,am.refl _⟩,λ i σ' H' _ h=>aH.of (h.2 _ _ e3),?_,λ σ' H' h=>hK _ _ h.2⟩;rintro i x _ H1 hx ⟨⟨o7,rfl⟩,s1⟩;obtain ⟨n,_,rfl⟩:=C6.mp (Df hx);show bC _ _ _ [oR b,oJ wi,oJ hi,oR d,oR q1,oR q2,oR q3,oJ n] H1;have tst:∀(m:Int) {H':Hp} {u:TT} {R:Bool->Hp->Prop},R false H'->(u [some (.ref b),some (.int wi),some (.int hi),some (.ref d),some (.ref q1),some (.ref q2),some (.ref q3),some (.int n)] H' R)->na (de (dy K .Eq (br 7) (tC (.int m)))) u [some (.ref b),some (.int wi),some (.int hi),some (.ref d),some (.ref q1),some (.ref q2),some (.ref q3),some (.int n)] H' R:=λ m {H' u R} h0 h1=>by
   refine (bz (b:=decide (n=m)) (gn (aa rfl) aq)) _ ?_;show if decide (n=m)=true then _ else _;split
   ·exact h1
   ·exact h0
  refine dH (λ z H'=>z=false/\am H H') (λ R z=>tst 0 (z _ _ ⟨rfl,s1⟩) (lT (ae (aa rfl) (ae (aa rfl) (ae (aa rfl) (ae (aa rfl) ay)))) ⟨b,d,wi,hi,hs',hs,rfl,D.same s1,h64,λ H' s=>z _ _ ⟨rfl,s1.trans s⟩⟩)) (λ H' w=>nomatch w.1) (λ H2 w=>?_);have s2:=w.2;refine dH (λ z H'=>z=false/\am H H') (λ R z=>tst 1 (z _ _ ⟨rfl,s2⟩) (lT (ae (aa rfl) (ae (aa rfl) (ae (aa rfl) (ae (aa rfl) (ae (aa rfl) ay))))) ⟨b,d,q1,wi,hi,hs',hs,xs,rfl,D.same s2,s2 _ _ e1,λ x hx=>(th x hx).same s2,λ H' s=>z _ _ ⟨rfl,s2.trans s⟩⟩)) (λ H' w=>nomatch w.1) (λ H3 w=>?_);have s3:=w.2;exact wl (λ z H'=>z=false/\am H H') (λ R z=>tst 2 (z _ _ ⟨rfl,s3⟩) (lT (ae (aa rfl) (ae (aa rfl) (ae (aa rfl) (ae (aa rfl) (ae (aa rfl) ay))))) ⟨b,d,q2,wi,hi,hs',hs,ps,rfl,D.same s3,s3 _ _ e2,λ p hp'=>s3 _ _ (hp p hp'),λ H' s=>z _ _ ⟨rfl,s3.trans s⟩⟩)) (λ H' w=>nomatch w.1) (λ H' w=>⟨⟨_,rfl⟩,w.2⟩)
end
end K03
namespace K03
open PySem L2
def vG:Sp:=λ vs H Q _=> ∃c old:Int,vs=[.int c,.int old]/\1<=old/\old<=8/\∀(v:V) (H':Hp),am H H'->Thg H' v->aV v 1 8=false->Q v H'
def vH:Sp:=λ vs H Q _=> ∃(c m:Int) (d:Addr) (hs:List Int),vs=[.int c,.ref d,.int m]/\H d=some (.lst (hs.map V.int))/\(hs.length:Int)<m/\1<=m/\m<=64/\∀(v:V) (H':Hp),am H H'->(∀a,v=.ref a->H a=none)->dF H' 1 v->bB H' v m=false->Q v H'
theorem pL {old:Int}(h1:1<=old) (h8:old<=8):((toString old:String):Str).length<=1000:=by
 obtain rfl | rfl | rfl | rfl | rfl | rfl | rfl | rfl:old=1\/old=2\/old=3\/old=4\/old=5\/old=6\/old=7\/old=8:=by omega
 all_goals decide+kernel
theorem e8 {H:Hp}{v:V}(h:Thg H v) (f:dR H v=none) (g:lstOf H v=none):dF H 1 v:=⟨h,λ xs hx=>by
 rcases hx with z | z
 ·rw [f] at z;cases z
 ·rw [g] at z;cases z⟩
theorem gx {H:Hp}{a:Addr}{xs:List V}(h:H a=some (.lst xs)) (hx:∀x∈xs,Thg H x):dF H 1 (.ref a):=⟨.inl ⟨xs,h⟩,λ ys hy=>by
 rcases hy with z | z
 ·simp only [dR,h] at z;cases z
 ·simp only [lstOf,h] at z;cases z;exact hx⟩
theorem qJ {H:Hp}{a:Addr}{xs:List V}(h:H a=some (.tup xs)) (hx:∀x∈xs,Thg H x):dF H 1 (.ref a):=⟨.inr (.inl ⟨xs,h⟩),λ ys hy=>by
 rcases hy with z | z
 ·simp only [dR,h] at z;cases z;exact hx
 ·simp only [lstOf,h] at z;cases z⟩
theorem rO (hs:List Int) (j:Nat):gY (hs.map V.int) none (some (j:Int))=(hs.take j).map V.int:=by
 unfold gY;rw [HT.sIx_none,HT.sIx_nat,Nat.sub_zero,DC,List.map_take]
 by_cases h:j<=(hs.map V.int).length
 ·rw [Nat.min_eq_left h]
 ·rw [Nat.min_eq_right (by omega),Du (DS _),Du (by omega)]
theorem n9 (hs:List Int) (j:Nat) (h:j<=hs.length):gY (hs.map V.int) (some (j:Int)) none=(hs.drop j).map V.int:=by unfold gY;rw [HT.sIx_none,HT.sIx_nat,CZ,Nat.min_eq_left h,List.map_drop,Du (by rw [Dy,CZ];exact DS _)]
theorem lA {H:Hp}{a:Addr}{xs:List V}(h:H a=some (.lst xs)):lstOf H (.ref a)=some xs:=by simp only [lstOf,h]
section
variable {P:Program}{w:World}{K:Frag}{mg:Str->Option Value}{base:Heap}
theorem eO {f:Addr}{fd:FuncData}(F:bW K "_law_spoilt_side" "_law_spoilt_side" bj f fd) (T:Txt mg):bp P w K mg base dN 1 f fd ["_law_cell","_law_old"] vG:=by
 refine F.ok eM (λ vs H Q E h=>?_) (λ cdv A outer s H vs Q E hr h=>?_)
 ·obtain ⟨c,old,rfl,_⟩:=h;rfl
 ·obtain ⟨c,old,rfl,o1,o8,k⟩:=h;have hu:=dh hr;refine ⟨_,(ap (aA (mx K (aJ (ar ag (ar ag (ar (ge (cv 1)) (ar (al (cv 1) ag) (ar bR (ar da (ar (vY oi xp T.str (ar (cv 1) pa_nil)) (ar (aJ (ar (cv 1) pa_nil)) (ar (al (al ag ag) (cv 1)) (ar bR pa_nil))))))))))) (al (cv 0) ag)))),?_⟩;show cU _ _ [oJ c,oJ old] H;refine cY (pR (bS (aw aq (aw aq (aw (gW (aa rfl)) (aw (bM (aa rfl) aq) (aw aq (aw aq (aw (rK (aa rfl) (nP (by omega))) (aZ (bS (aw (aa rfl) (bh ⟨by show 1<=sizeLine;decide,λ p hp=>?_⟩)))))))))))));have sa:=(am.refl H).upd (o:=.lst [.int old]) hp;refine aw (bM (lK aq aq ⟨by decide,by decide,by decide⟩) (aa rfl)) (aw aq (bh ⟨by show 10<=sizeLine;decide,λ r hr'=>?_⟩));have sb:=(am.refl _).upd (o:=.lst [.int 0,.int 9,.int (-old),.int (old+8),.bl true,.non,.str (toString old),.ref p,.int (10 ^ (30:Int).toNat+old),.bl false]) hr';refine (bo (aa rfl) aq (by decide)) _ ?_;obtain ⟨v,e,hv⟩:=rb (xs:=[.int 0,.int 9,.int (-old),.int (old+8),.bl true,.non,.str (toString old),.ref p,.int (10 ^ (30:Int).toNat+old),.bl false]) (i:=c % 10) (n:=10) rfl (by omega) (by omega);have big:(10:Int) ^ (30:Int).toNat=1000000000000000000000000000000:=by decide
  refine ⟨_,v,.inl (aH.of ac),e,k v _ (sa.trans sb) ?_ ?_⟩
  ·simp only [C1,Da,or_false] at hv
   rcases hv with rfl | rfl | rfl | rfl | rfl | rfl | rfl | rfl | rfl | rfl
   ·trivial
   ·trivial
   ·trivial
   ·trivial
   ·trivial
   ·trivial
   ·exact pL o1 o8
   ·exact .inl ⟨_,sb _ _ ac⟩
   ·trivial
   ·trivial
  ·simp only [C1,Da,or_false] at hv
   rcases hv with rfl | rfl | rfl | rfl | rfl | rfl | rfl | rfl | rfl | rfl
   ·rfl
   ·rfl
   ·exact decide_eq_false (by omega)
   ·exact decide_eq_false (by omega)
   ·rfl
   ·rfl
   ·rfl
   ·rfl
   ·exact decide_eq_false (by rw [big];omega)
   ·rfl
theorem dX {f:Addr}{fd:FuncData}(F:bW K "_law_spoilt_holes" "_law_spoilt_holes" aT f fd) (T:Txt mg):bp P w K mg base dN 1 f fd ["_law_cell","_law_holes_here","_law_many"] vH:=by
 refine F.ok bc (λ vs H Q E h=>?_) (λ cdv A outer s H vs Q E hr h=>?_)
 ·obtain ⟨c,m,d,hs,rfl,_⟩:=h;rfl
 ·obtain ⟨c,m,d,hs,rfl,hd,hl,m1,m64,k⟩:=h;have hu:=dh hr;have ll:(hs.map V.int).length=hs.length:=CZ ..;refine ⟨_,(af (aC (i:=3) bc.nd rfl (Or.inl rfl) (al (al (cv 0) ag) (al (kB (lF K) eA T.len (ar (cv 1) pa_nil)) ag)))
   (af (aC (i:=4) bc.nd rfl (Or.inl rfl) (aJ (ar (ge ag) (ar (cv 2) (ar bR (ar da (ar bP (ar (aJ (ar ag pa_nil)) (ar (al ag ag) (ar (ge (cv 2)) (ar (cM (ar ag pa_nil)) (ar bR pa_nil))))))))))))
   (af (aC (i:=5) bc.nd rfl (Or.inl rfl) (al (cv 0) ag))
   (af (bn (bu K hu (cv 5) ag) (ap (aA (mx K (aJ (ar (vY (wR K) qz T.tuple (ar (cv 1) pa_nil)) (ar da (ar pI (ar bP (ar ag pa_nil)))))) (al (al (cv 0) ag) ag)))) aE)
   (af (bn (bu K hu (cv 5) ag) (ap (aA (gP (ey (N:=["_law_square","_law_many","_law_cell"]) (src:=[none,some 2,some 0]) (ao aT) ["_law_cell","_law_holes_here","_law_many","_law_at_here","_law_bad","_law_way","_law_twice"]) (xK T.range (ar (cv 2) pa_nil)) (λ _ _ _=>(cr (i:=0) ["_law_square","_law_many","_law_cell"])) (λ _ _ _=>gI) (λ _ _ _=>(al (al (cv 0) (al (cv 2) ag)) (cv 1)))))) aE)
   (af (bn (PW.pt (gH (bu K hu (cv 5) ag) (fm (bu K hu (cv 1) (aJ pa_nil))))) (af (aC (i:=6) bc.nd rfl (Or.inl rfl) (mx K (cv 1) (al (al (cv 0) ag) (kB (lF K) eA T.len (ar (cv 1) pa_nil)))))
   (ap (aA (al (al (Bi K (cv 1) gz (gC (cv 3))) (aJ (ar (cv 6) pa_nil))) (Bi K (cv 1) (gC (cv 3)) gz))))) aE)
   (ap (aA (al (al (Bi K (cv 1) gz (gC (cv 3))) (aJ (ar (mx K (cv 4) (al (al (cv 0) ag) ag)) pa_nil))) (Bi K (cv 1) (gC (cv 3)) gz)))))))))),?_⟩
  show bC _ _ _ [oJ c,oR d,oJ m,none,none,none,none] H;refine bG (bo (bH (aa rfl) aq ⟨by omega,by omega⟩) (bM (jz (aa rfl) (.inl (aH.of hd))) aq) (by omega)) ?_;rw [ll];have at0:=D9 (c / 12) (by omega:((hs.length:Int)+1)≠0);have at1:=Ea (c / 12) (by omega:(0:Int)<(hs.length:Int)+1);generalize c / 12 % ((hs.length:Int)+1)=ah0 at at0 at1 ⊢;obtain ⟨ah,rfl⟩:∃ah:Nat,ah0=(ah:Int):=⟨ah0.toNat,by omega⟩;have big:(10:Int) ^ (30:Int).toNat=1000000000000000000000000000000:=by decide
  refine ci (λ v H'=> ∃(q p t:Addr),v=.ref q/\H' q=some (.lst [.int (-1),.int m,.bl true,.non,.str "0",.ref p,.int (10 ^ (30:Int).toNat),.int (-m),.ref t,.bl false])/\(∃xs,H' p=some (.lst xs))/\(∃xs,H' t=some (.tup xs))/\am H H') (λ Q z=>?_) ?_
  ·refine bS (aw (gW aq) (aw (aa rfl) (aw aq (aw aq (aw aq (aZ (bS (aw aq (bh ⟨by show 1<=sizeLine;decide,λ p hp=>?_⟩)))))))));have sa:=(am.refl H).upd (o:=.lst [.int 0]) hp;refine aw (lK aq aq ⟨by decide,by decide,by decide⟩) (aw (gW (aa rfl)) (aZ (Ag (aw aq (bh ⟨by show 1<=sizeLine;decide,λ t ht=>?_⟩)))));have sb:=(am.refl _).upd (o:=.tup [.int 0]) ht;refine aw aq (bh ⟨by show 10<=sizeLine;decide,λ q hq=>?_⟩);have sc:=(am.refl _).upd (o:=.lst [.int (-1),.int m,.bl true,.non,.str "0",.ref p,.int (10 ^ (30:Int).toNat),.int (-m),.ref t,.bl false]) hq;exact z _ _ ⟨q,p,t,rfl,ac,⟨_,(sb.trans sc) _ _ ac⟩,⟨_,sc _ _ ac⟩,(sa.trans sb).trans sc⟩
  rintro _ H1 ⟨qb,p,t,rfl,eb,ep,et,s1⟩;have hd1:=s1 _ _ hd;refine bG (bo (aa rfl) aq (by decide)) ?_;generalize c % 4=way;show bC _ _ _ [oJ c,oR d,oJ m,oJ (ah:Int),oR qb,oJ way,none] H1;have ins:∀(v:V) (H':Hp) (q:Addr) (xs ys:List Int),Thg H' v->H' q=some (.lst (xs.map V.int++[v]++ys.map V.int))->dF H' 1 (.ref q):=λ v H' q xs ys tv e=>by
   refine gx e λ x hx=>?_
   rcases De.mp hx with hx | hx
   ·rcases De.mp hx with hx | hx
    ·obtain ⟨n,_,rfl⟩:=C6.mp hx
     trivial
    ·rw [C9.mp hx];exact tv
   ·obtain ⟨n,_,rfl⟩:=C6.mp hx
    trivial
  have cut:∀(v:V) {ti:TE} {σ:St} {H2:Hp} {Q':VK},am H1 H2->σ[1]? =some (some (V.ref d))->σ[3]? =some (some (V.int (ah:Int)))->(∀H3,am H2 H3->Ev ti σ H3 v)->
    (∀(q:Addr) (xs ys:List Int) (H3:Hp),am H2 H3->H2 q=none->H3 q=some (.lst (xs.map V.int++[v]++ys.map V.int))->xs++ys=hs->Q' (.ref q) H3)->
    eR .Add (eR .Add (xn K (br 1) eE (iC (br 3))) (oH (aN ti bY))) (xn K (br 1) (iC (br 3)) eE) σ H2 Q':=λ v {ti σ H2 Q'} s2 e1 e3 hti go=>by
   have hdn:=s2 _ _ hd1;have z1:∀{H':Hp},am H2 H'->aH K H' d (hs.map V.int):=λ s=>aH.of (s _ _ hdn);refine mU (mU (vL (aa e1) vP (vQ (aa e3)) (z1 (am.refl H2)) λ p1 h1=>?_));rw [rO];have sa:=(am.refl H2).upd (o:=.lst ((hs.take ah).map V.int)) h1;have ea:(upd H2 p1 (.lst ((hs.take ah).map V.int))) p1=some (.lst ((hs.take ah).map V.int)):=ac;generalize upd H2 p1 (.lst ((hs.take ah).map V.int))=H3 at sa ea ⊢;refine bS (aw (hti _ sa) (bh ⟨by show 1<=sizeLine;decide,λ p2 h2=>?_⟩));have sb:=(am.refl H3).upd (o:=.lst [v]) h2;have eb2:(upd H3 p2 (.lst [v])) p2=some (.lst [v]):=ac;have ea2:=sb _ _ ea;generalize upd H3 p2 (.lst [v])=H4 at sb eb2 ea2 ⊢;refine gD ea2 eb2 (by rw [CZ,Dm];show _+1<=1000;omega) λ p3 h3=>?_;have sc:=(am.refl H4).upd (o:=.lst ((hs.take ah).map V.int++[v])) h3;have ec:(upd H4 p3 (.lst ((hs.take ah).map V.int++[v]))) p3=some (.lst ((hs.take ah).map V.int++[v])):=ac;generalize upd H4 p3 (.lst ((hs.take ah).map V.int++[v]))=H5 at sc ec ⊢;have s25:=(sa.trans sb).trans sc;refine vL (aa e1) (vQ (aa e3)) vP (z1 s25) λ p4 h4=>?_;rw [n9 _ _ (by omega)];have sd:=(am.refl H5).upd (o:=.lst ((hs.drop ah).map V.int)) h4;refine gD (sd _ _ ec) ac (by rw [Dc,CZ,CZ,Dm,Dy];show _+1+_<=1000;omega) λ p5 h5=>?_;exact go p5 (hs.take ah) (hs.drop ah) _ ((s25.trans sd).upd h5) ((s25.trans sd).free h5) ac (List.take_append_drop _ _)
  refine bZ (bz (gn (aa rfl) aq)) (λ h=>?_) (λ h0=>?_)
  ·refine cY (pR (bS (aZ (rZ (aa rfl) ⟨_,.inl ⟨aH.of hd1,λ l hl=>?_⟩⟩))));have sa:=(am.refl H1).upd (o:=.tup (hs.map V.int)) hl;refine aw aq (aZ λ q hq=>?_);have sb:=(am.refl _).upd (o:=.dK []) hq;refine aw aq (aw aq (bh ⟨by show 5<=sizeLine;decide,λ r hr'=>?_⟩));have sc:=(am.refl _).upd (o:=.lst [.ref l,.non,.ref q,.str "",.int 0]) hr';refine (bo (bH (aa rfl) aq ⟨by decide,by decide⟩) aq (by decide)) _ ?_;obtain ⟨v,e,hv⟩:=rb (xs:=[.ref l,.non,.ref q,.str "",.int 0]) (i:=c / 4 % 5) (n:=5) rfl (by omega) (by omega);have el:=(sb.trans sc) _ _ (ac (H:=H1) (a:=l) (o:=.tup (hs.map V.int)));have eq:=sc _ _ (ac (a:=q) (o:=.dK []));refine ⟨_,v,.inl (aH.of ac),e,k v _ (((s1.trans sa).trans sb).trans sc) ?_ ?_ ?_⟩
   ·intro a' ea;subst ea;simp only [C1,Da,or_false,reduceCtorEq,false_or,V.ref.injEq] at hv
    rcases hv with rfl | rfl
    ·exact s1.free hl
    ·exact (s1.trans sa).free hq
   ·simp only [C1,Da,or_false] at hv
    rcases hv with rfl | rfl | rfl | rfl | rfl
    ·exact qJ el λ x hx=>by obtain ⟨n,_,rfl⟩:=C6.mp hx;trivial
    ·exact e8 trivial rfl rfl
    ·exact e8 (.inr (.inr ⟨_,eq⟩)) (by simp only [dR,eq]) (by simp only [lstOf,eq])
    ·exact e8 (by show ("":Str).length<=1000;decide+kernel) rfl rfl
    ·exact e8 trivial rfl rfl
   ·simp only [C1,Da,or_false] at hv
    rcases hv with rfl | rfl | rfl | rfl | rfl
    ·simp only [bB,lstOf,el]
    ·rfl
    ·simp only [bB,lstOf,eq]
    ·rfl
    ·rfl
  refine bZ (bz (gn (aa rfl) aq)) (λ h=>?_) (λ h1=>?_)
  ·refine cY (fC (n:=m) (rest:=[oJ m,oJ c]) (ae (aa rfl) ay) (by omega) (by rw [sizeLine_eq];omega) (by omega) rfl (λ _=>true) (λ x=>match x with | .int i=>.int ((i+c / 4) % m) | _=>.non) (λ i hi=>iK) (λ i hi _=>bo (bM (aa rfl) (bH (aa rfl) aq ⟨by decide,by decide⟩)) (aa rfl) (by omega)) (λ q hq=>?_))
   have sa:=(am.refl H1).upd (o:=.lst ((((List.range m.toNat).map λ (i:Nat)=>V.int (0+(i:Int))).filter λ _=>true).map (λ x=>match x with | .int i=>.int ((i+c / 4) % m) | _=>.non))) hq
   refine k _ _ (s1.trans sa) (λ a' ea=>by cases ea;exact s1.free hq) (gx ac λ x hx=>?_) ?_
   ·rw [DA.mpr (λ _ _=>rfl),Di] at hx;obtain ⟨i,_,rfl⟩:=C6.mp hx
    trivial
   ·unfold bB;rw [lA ac];dsimp only;rw [decide_eq_false (by rw [CZ,DA.mpr (λ _ _=>rfl),CZ,Dg];omega)];rfl
  refine dH (λ b H'=>(b=true->¬hs=[])/\am H1 H') (λ R z=>wf ((bz (b:=decide (way=2)) (gn (aa rfl) aq)) _ ?_)) (λ H2 w=>?_) (λ H2 w=>?_)
  ·show if decide (way=2)=true then _ else R false H1;split
   ·refine xl ((show Ev (br 1) _ _ (.ref d) from aa rfl) _ (bS (bh ⟨DV _,λ r hr'=>⟨_,mQ (n:=19) (((am.refl H1).upd (o:=.lst []) hr') _ _ hd1) ac,z _ _ ⟨λ hb=>?_,(am.refl H1).upd hr'⟩⟩⟩)));rw [Ej] at hb;have:=of_decide_eq_false hb;exact λ e=>this (by rw [e];rfl)
   ·exact z _ _ ⟨(λ h=>by cases h),am.refl H1⟩
  ·have hne:=w.1 rfl;have hd2:=w.2 _ _ hd1;have lp:0<hs.length:=List.length_pos_iff.mpr hne;obtain ⟨n,en,hn⟩:=Ax (ns:=hs) (i:=c / 4 % (hs.length:Int)) (D9 _ (by omega)) (Ea _ (by omega));refine bG (ej (x:=.int n) (aa rfl) (bo (bH (aa rfl) aq ⟨by decide,by decide⟩) (jz (aa rfl) (.inl (aH.of hd2))) (by rw [ll];omega)) (.inl (aH.of hd2)) (by rw [ll];exact en)) ?_;refine cY (cut (.int n) w.2 rfl rfl (λ H3 s3=>aa rfl) λ q xs ys H3 s3 fq eq e=>?_);refine k _ _ ((s1.trans w.2).trans s3) (λ a' ea=>by cases ea;exact (s1.trans w.2).free fq) (ins (.int n) H3 q xs ys trivial eq) ?_;unfold bB;rw [lA eq];dsimp only;have key:∀(g:V->Int),(∀i,g (.int i)=i)->((xs.map V.int++[V.int n]++ys.map V.int).map g)=xs++[n]++ys:=λ g hg=>by
    rw [show xs.map V.int++[V.int n]++ys.map V.int=(xs++[n]++ys).map V.int by simp,Di]
    conv=>rhs;rw [<-DF (xs++[n]++ys)]
    exact Dp λ x _=>hg x
   rw [Bool.and_eq_false_iff];refine .inr (decide_eq_false λ nd=>?_);rw [key _ (λ _=>rfl)] at nd;rw [<-e] at hn;rw [List.append_assoc,DD] at nd;obtain ⟨_,n2,n3⟩:=nd;rw [List.singleton_append,Dt] at n2
   rcases De.mp hn with z | z
   ·exact n3 n z n (by simp) rfl
   ·exact n2.1 z
  ·have hd2:=w.2 _ _ hd1;have eb2:=w.2 _ _ eb;obtain ⟨v,en,hv⟩:=rb (xs:=[.int (-1),.int m,.bl true,.non,.str "0",.ref p,.int (10 ^ (30:Int).toNat),.int (-m),.ref t,.bl false]) (i:=c / 4 % 10) (n:=10) rfl (by omega) (by omega);have tv:∀H3,am H2 H3->Thg H3 v:=λ H3 s3=>by
    simp only [C1,Da,or_false] at hv
    rcases hv with rfl | rfl | rfl | rfl | rfl | rfl | rfl | rfl | rfl | rfl
    ·trivial
    ·trivial
    ·trivial
    ·trivial
    ·show ("0":Str).length<=1000;decide+kernel
    ·obtain ⟨xs,e⟩:=ep;exact .inl ⟨xs,(w.2.trans s3) _ _ e⟩
    ·trivial
    ·trivial
    ·obtain ⟨xs,e⟩:=et;exact .inr (.inl ⟨xs,(w.2.trans s3) _ _ e⟩)
    ·trivial
   have av:aV v 0 (m - 1)=false:=by
    simp only [C1,Da,or_false] at hv
    rcases hv with rfl | rfl | rfl | rfl | rfl | rfl | rfl | rfl | rfl | rfl
    ·show decide ((0:Int)<=-1/\(-1:Int)<=m - 1)=false;exact decide_eq_false (by omega)
    ·exact decide_eq_false (by omega)
    ·rfl
    ·rfl
    ·rfl
    ·rfl
    ·exact decide_eq_false (by rw [big];omega)
    ·exact decide_eq_false (by omega)
    ·rfl
    ·rfl
   refine cY (cut v w.2 rfl rfl (λ H3 s3=>ej (aa rfl) (bo (bH (aa rfl) aq ⟨by decide,by decide⟩) aq (by decide)) (.inl (aH.of (s3 _ _ eb2))) en) λ q xs ys H3 s3 fq eq e=>?_);refine k _ _ ((s1.trans w.2).trans s3) (λ a' ea=>by cases ea;exact (s1.trans w.2).free fq) (ins v H3 q xs ys (tv H3 s3) eq) ?_;unfold bB;rw [lA eq];dsimp only;rw [List.all_append,List.all_append,show [v].all (λ x=>aV x 0 (m - 1))=false by rw [C8,av];rfl];simp
end
end K03
namespace K03
open PySem L2
def Cp:Str:=(((((((""++wS true "board")++wS false "game")++wS false "line")++wS false "place")++wS false "other")++wS false "other")++wS false "other")++wS false "other"
theorem v9:Cp="board":=by decide+kernel
def mf (K:Frag):Sp:=λ vs H Q _=> ∃(a:Addr) (ns:List Int),vs=[.ref a]/\aH K H a (ns.map V.int)/\ns.length<=63/\∀H',Q (.bl true) H'
structure CL (P:Program) (w:World) (K:Frag) (mg:Str->Option Value) (base:Heap) (cB:Addr):Prop extends CAr P w K mg base cB where
 _law_at:eK P w K mg base "_law_at" ["_law_script","_law_k"] 1 (wm K)
 _law_side:eK P w K mg base "_law_side" ["_law_cell"] 1 oS
 _law_holes:eK P w K mg base "_law_holes" ["_law_script","_law_k","_law_many"] 2 (jY K)
 _law_spoilt_side:eK P w K mg base "_law_spoilt_side" ["_law_cell","_law_old"] 1 vG
 _law_spoilt_holes:eK P w K mg base "_law_spoilt_holes" ["_law_cell","_law_holes_here","_law_many"] 1 vH
 _law_said:eK P w K mg base "_law_said" ["_law_wide","_law_high","_law_holes_here"] 6 (md Cp)
 _law_all_right:eK P w K mg base "_law_all_right" ["_law_board","_law_wide","_law_high","_law_holes_here","_law_things","_law_steps","_law_order"] 5 (oY K cB)
 Board:qD P w K mg base "Board" cB ["self","wide","high","holes"] 4 (j0 K cB)
 Board_squares:hR P w K mg base cB "squares" ["self"] 1 (oX K cB)
theorem gw {H:Hp}{q:Addr}{ys:List V}{v:V}(h:Thg H v):Thg (upd H q (.lst ys)) v:=by
 cases v with
 | ref b=>
   by_cases e:b=q
   ·subst e;exact .inl ⟨ys,ac⟩
   ·rcases h with ⟨xs,z⟩ | ⟨xs,z⟩ | ⟨xs,z⟩
    ·exact .inl ⟨xs,by rw [ak e];exact z⟩
    ·exact .inr (.inl ⟨xs,by rw [ak e];exact z⟩)
    ·exact .inr (.inr ⟨xs,by rw [ak e];exact z⟩)
 | _=>exact h
theorem pM {H:Hp}{q b:Addr}{o:HO}(h:b≠q):dR (upd H q o) (.ref b)=dR H (.ref b)/\lstOf (upd H q o) (.ref b)=lstOf H (.ref b):=by simp only [dR,lstOf,ak h,and_self]
theorem l4 {H:Hp}{q:Addr}{ys:List V}{v:V}(h:dF H 1 v) (n:∀b,v=.ref b->b≠q):dF (upd H q (.lst ys)) 1 v:=by
 refine ⟨gw h.1,λ xs hx x hm=>gw (h.2 xs ?_ x hm)⟩;cases v with
 | ref b=>
   obtain ⟨e1,e2⟩:=pM (H:=H) (o:=.lst ys) (n b rfl);rw [e1,e2] at hx;exact hx
 | _=>exact hx
theorem nT {H:Hp}{q:Addr}{ys:List V}{v:V}{m:Int}(n:∀b,v=.ref b->b≠q):bB (upd H q (.lst ys)) v m=bB H v m:=by
 unfold bB;cases v with
 | ref b=>rw [(pM (H:=H) (o:=.lst ys) (n b rfl)).2]
 | _=>rfl
theorem rT {H:Hp}{x y z:V}(h:aV x 1 8=false):dM H x y z=false:=by
 unfold dM;split
 ·rename_i wi hi;have h:decide (1<=wi/\wi<=8)=false:=h;rw [h];rfl
 ·rfl
theorem rV {H:Hp}{x y z:V}(h:aV y 1 8=false):dM H x y z=false:=by
 unfold dM;split
 ·rename_i wi hi;have h:decide (1<=hi/\hi<=8)=false:=h;rw [h,Ei];rfl
 ·rfl
theorem pD {H:Hp}:∀{xs:List V},(∀x∈xs,∃t i j,x=.ref t/\H t=some (.tup [.int i,.int j]))->∃ps:List ((Int×Int)×Addr),xs=jk ps/\∀p∈ps,H p.2=some (.tup [.int p.1.1,.int p.1.2])
 | [],_=>⟨[],rfl,λ _ z=>nomatch z⟩
 | x::xs,h=>by
   obtain ⟨t,i,j,rfl,e⟩:=h x C3;obtain ⟨ps,rfl,g⟩:=pD λ y hy=>h y (C7 _ hy);refine ⟨((i,j),t)::ps,rfl,λ p hp=>?_⟩
   rcases C1.mp hp with rfl | hp
   ·exact e
   ·exact g p hp
theorem fX {H H1 H':Hp}{x dx:Addr}{o1 o2:HO}(s:am H H1) (nx:H1 x=none) (nd:H1 dx=none) (sb:SameBut x (upd (upd H1 dx o1) x o2) H'):am H H':=λ b o e=>by have e1:=s b o e;have nbx:=aj e1 nx;have nbd:=aj e1 nd;exact sb b o (by rw [ak nbx,ak nbd];exact e1) nbx
theorem og {ta:TA}{σ:St}{H:Hp}{vs:List V}{R:List V->Hp->Prop}(hz:vs.length<=1000) (q:∀q H',am H H'->H' q=some (.lst vs)->ta σ H' λ xs H2=>R (.ref q::xs) H2):aN (oH (Bk vs)) ta σ H R:=
 ⟨DU hz (by decide),λ p hp=>q p _ ((am.refl H).upd hp) ac⟩
theorem mW {K:Frag}{C:Addr}{H0 H:Hp}{p l:Addr}{wi hi:Int}{hs:List Int}{o:HO}(O:bF K C H p wi hi hs) (f:∃dx ph pf,H p=some (.ins C dx (df wi hi ph pf))/\H ph=some (.lst (hs.map V.int))/\H pf=some (.lst ((firmL wi hi hs).map V.bl))/\H0 ph=none/\H0 pf=none) (hl:H0 l≠none) (np:p≠l):bF K C (upd H l o) p wi hi hs:=by obtain ⟨dx,ph,pf,a1,a2,a3,a4,a5⟩:=f;have n1:ph≠l:=λ e=>hl (by rw [<-e];exact a4);have n2:pf≠l:=λ e=>hl (by rw [<-e];exact a5);exact ⟨⟨dx,ph,pf,by rw [ak np];exact a1,by rw [ak n1];exact a2,by rw [ak n2];exact a3⟩,O.w1,O.w8,O.h1,O.h8,O.good,O.srt,O.nd⟩
def rN (H:Hp) (ps:List Addr):Hp:=λ x=>if x∈ps then none else H x
theorem qk {H:Hp}{ps:List Addr}{x:Addr}(h:x∈ps):rN H ps x=none:=if_pos h
theorem fA {H:Hp}{ps:List Addr}{x:Addr}(h:¬x∈ps):rN H ps x=H x:=if_neg h
theorem nR {G H:Hp}{kl q c t:Addr}{es:List V}{zs:List Int}(ps:List Addr) (s:am G H) (k:cA G kl es) (gq:G q=none) (hps:∀p∈ps,G p=none/\p≠q/\∃o,H p=some o)
  (hc:(upd H q (.lst (zs.map V.int))) c=none) (ht:(upd (upd H q (.lst (zs.map V.int))) c (.lst (zs.map V.int))) t=none):
  ∃G',am G' (upd (upd (upd (upd H q (.lst (zs.map V.int))) c (.lst (zs.map V.int))) t (.tup [.ref q,.ref c])) kl (.lst (es++[.ref t])))/\cA G' kl (es++[.ref t])/\∀p∈ps,G' p=none:=by
 have kq:(upd H q (.lst (zs.map V.int))) q=some (.lst (zs.map V.int)):=ac;have s1:am G (upd H q (.lst (zs.map V.int))):=s.put gq;have o1:∀p∈ps,∃o,(upd H q (.lst (zs.map V.int))) p=some o:=λ p hp=>by obtain ⟨_,n,o,e⟩:=hps p hp;exact ⟨o,by rw [ak n];exact e⟩
 generalize upd H q (.lst (zs.map V.int))=H1 at*;have s2:am H1 (upd H1 c (.lst (zs.map V.int))):=(am.refl H1).upd hc;have kc:(upd H1 c (.lst (zs.map V.int))) c=some (.lst (zs.map V.int)):=ac;generalize upd H1 c (.lst (zs.map V.int))=H2 at*;have s3:am H2 (upd H2 t (.tup [.ref q,.ref c])):=(am.refl H2).upd ht;have kt:(upd H2 t (.tup [.ref q,.ref c])) t=some (.tup [.ref q,.ref c]):=ac;generalize upd H2 t (.tup [.ref q,.ref c])=H3 at*;have s13:=(s1.trans s2).trans s3;have sd:am G (rN H3 ps):=λ x o h=>by rw [fA λ m=>by rw [(hps x m).1] at h;cases h];exact s13 _ _ h
 have k1:=s1 _ _ k.at_;have nq:q≠kl:=(aj k.at_ gq).symm;have nc:c≠kl:=(aj k1 hc).symm;have nt:t≠kl:=(aj (s2 _ _ k1) ht).symm;have cq:¬q∈ps:=λ m=>(hps q m).2.1 rfl;have cc:¬c∈ps:=λ m=>by obtain ⟨o,e⟩:=o1 c m;rw [hc] at e;cases e
 have ct:¬t∈ps:=λ m=>by obtain ⟨o,e⟩:=o1 t m;rw [s2 _ _ e] at ht;cases ht
 refine ⟨upd (rN H3 ps) kl (.lst (es++[.ref t])),λ x o h=>?_,k.add sd nt nq nc (by rw [fA ct];exact kt) (by rw [fA cq];exact s3 _ _ (s2 _ _ kq)) (by rw [fA cc];exact s3 _ _ kc),λ p hp=>?_⟩
 ·by_cases e:x=kl
  ·subst e;rw [ac] at h ⊢;exact h
  ·rw [ak e] at h ⊢
   by_cases m:x∈ps
   ·rw [qk m] at h;cases h
   ·rw [fA m] at h;exact h
 ·have n:p≠kl:=λ e=>by have:=(hps p hp).1;rw [e,k.at_] at this;cases this
  rw [ak n];exact qk hp
theorem my {H:Hp}{kl q c t p:Addr}{o L T E:HO}(h:H p=some o) (n1:p≠q) (n2:p≠kl) (hc:(upd H q L) c=none) (ht:(upd (upd H q L) c L) t=none):(upd (upd (upd (upd H q L) c L) t T) kl E) p=some o:=by
 have h1:(upd H q L) p=some o:=by rw [ak n1];exact h
 have h2:(upd (upd H q L) c L) p=some o:=by rw [ak (aj h1 hc)];exact h1
 rw [ak n2,ak (aj h2 ht)];exact h2
theorem kJ {wi hi:Int}{hs:List Int}(h:wi*hi<=64):(cQ wi hi hs).length<=64:=by unfold cQ;rw [CZ];refine DU (Dz _ _) ?_;rw [Dg];omega
theorem CK {g:V->Int}(h:∀i,g (.int i)=i) {hs:List Int}:(hs.map V.int).map g=hs:=by rw [Di];exact (Dp λ x _=>h x).trans (DF _)
theorem nU {P:Program}{w:World}{K:Frag}{mg:Str->Option Value}{base:Heap}(C:eK P w K mg base "are_holes" ["thing","many"] 3 fb):eK P w K mg base "are_holes" ["thing","many"] 3 gF:=by
 obtain ⟨f,fd,F,z1,z2,z3⟩:=C.ex;refine ⟨f,fd,⟨λ vs H Q E h=>by obtain ⟨d,m,hs,rfl,_⟩:=h;rfl,?_⟩,z1,z2,z3⟩;have im:∀vs H Q E,gF vs H Q E->fb vs H Q E:=λ vs H Q E h=>by
  obtain ⟨d,m,hs,rfl,e,gd,nd,ln,m64,q⟩:=h;have hb:bB H (.ref d) m=true:=by simp only [bB,lstOf,e];rw [CK λ _=>rfl,CZ,decide_eq_true ln,decide_eq_true nd,Bool.true_and,Bool.and_true,Dn];intro x hx;obtain ⟨i,hi,rfl⟩:=C6.mp hx;have:=gd i hi;show decide (0<=i/\i<=m - 1)=true;exact decide_eq_true (by omega)
  refine ⟨.ref d,m,rfl,gx e λ x hx=>by obtain ⟨n,_,rfl⟩:=C6.mp hx;trivial,m64,λ H' s=>?_⟩;rw [hb];exact q H' s
 exact (F.imp im).run
theorem orK {a b:TT}{σ:St}{H:Hp}{R:Bool->Hp->Prop}(h:a σ H λ c H1=>if c=true then R true H1 else b σ H1 R):xG a b σ H R:=h
theorem Cy {u:TT}{σ:St}{H:Hp}{R:Bool->Hp->Prop}(h:u σ H R):cy (λ c H1=>if (!c)=true then R true H1 else u σ H1 R) (.bl true) H:=by show if (!true)=true then R true H else u σ H R;rw [if_neg (by decide)];exact h
theorem mkK {C:Addr}{sp:Sp}{t:TA}{σ:St}{H:Hp}{Q:VK}(h:t σ H λ vs H1=> ∀x dx,H1 x=none->H1 dx=none->dx≠x->sp (.ref x::vs) (upd (upd H1 dx (.own x)) x (.ins C dx [])) (λ v H2=>v=.non/\Q (.ref x) H2) E0):v4 C sp t σ H Q:=h
section
variable {P:Program}{w:World}{K:Frag}{mg:Str->Option Value}{base:Heap}
theorem wP {f cB:Addr}{fd:FuncData}(F:bW K "law" "law" eT f fd) (T:Txt mg) (C:CL P w K mg base cB):bp P w K mg base dN 7 f fd ["_law_script"] (mf K):=by
 refine F.ok bL (λ vs H Q E h=>?_) (λ cdv A outer s H vs Q E hr h=>?_)
 ·obtain ⟨a,ns,rfl,_⟩:=h;rfl
 ·obtain ⟨a,ns,rfl,hS,hlen,k⟩:=h;have hu:=dh hr;refine ⟨_,(af (aC (i:=1) bL.nd rfl (Or.inl rfl) (aO C._law_side hr (ar (aO C._law_at hr (ar (cv 0) (ar ag pa_nil))) pa_nil)))
   (af (aC (i:=2) bL.nd rfl (Or.inl rfl) (aO C._law_side hr (ar (aO C._law_at hr (ar (cv 0) (ar ag pa_nil))) pa_nil)))
   (af (aC (i:=3) bL.nd rfl (Or.inl rfl) (aO C._law_holes hr (ar (cv 0) (ar ag (ar (al (cv 1) (cv 2)) pa_nil)))))
   (af (aC (i:=4) bL.nd rfl (Or.inl rfl) (aO C._law_at hr (ar (cv 0) (ar ag pa_nil))))
   (af (bn (bu K hu (al (cv 4) ag) ag) (af (aC (i:=5) bL.nd rfl (Or.inl rfl) (al (al (cv 4) ag) ag))
   (af (aC (i:=6) bL.nd rfl (Or.inl rfl) (aJ (ar (cv 1) (ar (cv 2) (ar (cv 3) pa_nil)))))
   (af (bn (bu K hu (cv 5) ag) (ap (pC (aO C._law_spoilt_side hr (ar (al (cv 4) ag) (ar (mx K (cv 6) (cv 5)) pa_nil))) (pF (cv 6) (cv 5) j1))) (ap (pC (aO C._law_spoilt_holes hr (ar (al (cv 4) ag) (ar (cv 3) (ar (al (cv 1) (cv 2)) pa_nil)))) (pF (cv 6) ag j1))))
   (ap (aA (jw K hu (aO C._law_said hr (ar (mx K (cv 6) ag) (ar (mx K (cv 6) ag) (ar (mx K (cv 6) ag) pa_nil)))) bP)))))) aE)
   (af (aC (i:=7) bL.nd rfl (Or.inl rfl) (vY (vW K) fH T.list (ar (cv 3) pa_nil)))
   (af (aC (i:=8) bL.nd rfl (Or.inl rfl) (vV C.Board hr (ar (cv 1) (ar (cv 2) (ar (cv 7) pa_nil)))))
   (af (bn (bu K hu (cv 7) (cv 3)) (ap (aA bR)) aE)
   (af (aC (i:=9) bL.nd rfl (Or.inl rfl) (vV C.Board hr (ar (cv 2) (ar (cv 1) (ar (aJ pa_nil) pa_nil)))))
   (af (gy (jE (cv 7) da))
   (af (aC (i:=10) bL.nd rfl (Or.inl rfl) (al (al ag ag) (cv 4)))
   (af (aC (i:=11) bL.nd rfl (Or.inl rfl) (al (rP rfl (ge ag) (al (al (cv 1) (cv 2)) ag) T.list T.range) (aJ (ar bR (ar bR (ar da (ar bP (ar bP (ar (aJ (ar ag pa_nil)) (ar (cM (ar ag pa_nil)) (ar (cv 10) (ar (ge (cv 10)) pa_nil))))))))))))
   (af (aC (i:=12) bL.nd rfl (Or.inl rfl) (aJ (ar (cM (ar (al (al (al (cv 4) ag) ag) ag) (ar (al (al (al (cv 4) ag) ag) ag) pa_nil))) (ar (cM (ar (al (al (al (cv 4) ag) ag) ag) (ar (al (al (al (cv 4) ag) ag) ag) pa_nil))) pa_nil))))
   (af (aC (i:=12) bL.nd rfl (Or.inl rfl) (al (cv 12) (aJ (rl rfl rfl))))
   (af (aC (i:=13) bL.nd rfl (Or.inl rfl) (aJ pa_nil))
   (af (aC (i:=14) bL.nd rfl (Or.inl rfl) (mx K (aJ (ar (aJ (cT rfl)) (ar (aJ (cT rfl)) (ar (aJ (cT rfl)) (ar (aJ (cT rfl)) (ar (aJ (cT rfl)) (ar (aJ (cT rfl)) pa_nil))))))) (al (al (cv 4) ag) ag)))
   (af (eY PassesOwn.never rfl (xK T.range (ar ag pa_nil)) (bN (i:=15) bL.nd rfl (Or.inl rfl)) (af (bn (bg (be (aO C._law_all_right hr (ar (cv 8) (ar (cv 1) (ar (cv 2) (ar (cv 3) (ar (cv 11) (ar (cv 12) (ar (cv 14) pa_nil)))))))))) (ap (aA bR)) aE)
   (af (bn (PW.pt (dE (bg (be (aO C._law_right hr (ar (cv 9) (ar (cv 2) (ar (cv 1) (ar (aJ pa_nil) (ar (cv 11) pa_nil)))))))) (cZ (bg (be (aO C._law_fields_right hr (ar (cv 9) (ar (cv 2) (ar (cv 1) (ar (aJ pa_nil) pa_nil)))))))))) (ap (aA bR)) aE)
   (ap (eY PassesOwn.never rfl (vU K (aJ (ar (lE C.Board_squares hr (cv 8)) (ar (lE C.Board_squares hr (cv 9)) pa_nil)))) (bN (i:=16) bL.nd rfl (Or.inl rfl)) (af (gy (jE (cv 16) (cv 15)))
   (ap (gy (jE (cv 13) (cM (ar (cv 16) (ar (vY (vW K) fH T.list (ar (cv 16) pa_nil)) pa_nil))))))))))))
   (ap (aA (jw K hu (gP (ey (N:=["_law_pair"]) (src:=[none]) (ao eT) ["_law_script","_law_wide","_law_high","_law_holes_here","_law_cell","_law_way","_law_bad","_law_handed","_law_board","_law_other","_law_far","_law_things","_law_steps","_law_kept","_law_order","_law_turn","_law_told"]) (vU K (cv 13)) (λ _ _ _=>(cr (i:=0) ["_law_pair"])) (λ _ _ _=>(dW (bu K hu (mx K (cv 0) ag) (mx K (cv 0) ag)))) (λ _ _ _=>(cv 0))) (aJ pa_nil))))))))))))))))))))),?_⟩
  show bC _ _ _ [oR a,none,none,none,none,none,none,none,none,none,none,none,none,none,none,none,none] H;refine ci (λ v H'=> ∃z:Int,v=.int z/\1<=z/\z<=8/\H'=H) (λ Q q=>g8 (ae (aR (ae (aa rfl) (ae aq ay)) (λ Q q=>⟨a,ns,0,rfl,hS,by decide,by decide,q⟩)) ay) ⟨_,rfl,(fu ns 0).1,λ z a b=>q _ _ ⟨z,rfl,a,b,rfl⟩⟩) ?_;rintro _ H1 ⟨wi,rfl,w1,w8,rfl⟩;refine ci (λ v H'=> ∃z:Int,v=.int z/\1<=z/\z<=8/\H'=H1) (λ Q q=>g8 (ae (aR (ae (aa rfl) (ae aq ay)) (λ Q q=>⟨a,ns,1,rfl,hS,by decide,by decide,q⟩)) ay) ⟨_,rfl,(fu ns 1).1,λ z a b=>q _ _ ⟨z,rfl,a,b,rfl⟩⟩) ?_;rintro _ H2 ⟨hi,rfl,h1,h8,rfl⟩;have m1:wi*hi<=8*8:=D8 w8 h8 (by omega) (by omega);have m0:1*1<=wi*hi:=D8 w1 h1 (by omega) (by omega);refine ci (λ v H'=> ∃(d:Addr) (hs:List Int),v=.ref d/\H2 d=none/\H' d=some (.lst (hs.map V.int))/\(∀h∈hs,0<=h/\h<wi*hi)/\hs.Nodup/\(hs.length:Int)<wi*hi/\am H2 H') (λ Q q=>?_) ?_
  ·exact g8 (ae (aa rfl) (ae aq (ae (b0 (aa rfl) (aa rfl) (.inl ⟨by omega,by omega⟩)) ay))) ⟨a,ns,2,wi*hi,rfl,hS,by decide,by decide,by omega,by omega,λ d hs H' z1 z2 z3 z4 z5 z6=>q _ _ ⟨d,hs,rfl,z1,z2,z3,z4,z5,z6⟩⟩
  rintro _ H3 ⟨d3,hs,rfl,n3,e3,gd,nd,ln,s3⟩;have hS3:=s3.seq hS;refine bG (aR (ae (aa rfl) (ae aq ay)) (λ Q q=>⟨a,ns,4,rfl,hS3,by decide,by decide,q⟩)) ?_;have c0:=(fu ns 4).1;generalize lawAt ns 4=c at c0 ⊢;show bC _ _ _ [oR a,oJ wi,oJ hi,oR d3,oJ c,none,none,none,none,none,none,none,none,none,none,none,none] H3;have intsX:∀{H':Hp} {q:Addr} {zs:List Int},H' q=some (.lst (zs.map V.int))->dF H' 1 (.ref q):=λ e=>gx e λ x hx=>by obtain ⟨n,_,rfl⟩:=C6.mp hx;trivial
  refine bZ (bz (gn (bo (aa rfl) aq (by decide)) aq)) (λ _=>?_) (λ _=>?_)
  ·refine bG (bo (bH (aa rfl) aq ⟨by decide,by decide⟩) aq (by decide)) ?_;have w0:0<=c / 3 % 4/\c / 3 % 4<4:=by omega
   generalize c / 3 % 4=way at w0 ⊢;refine ci (λ v H'=> ∃q,v=.ref q/\H3 q=none/\H' q=some (.lst [.int wi,.int hi,.ref d3])/\am H3 H') (λ Q z=>bS (aw (aa rfl) (aw (aa rfl) (aw (aa rfl) (bh ⟨by show 3<=sizeLine;decide,λ q hq=>z _ _ ⟨q,rfl,hq,ac,(am.refl H3).upd hq⟩⟩))))) ?_;rintro _ H4 ⟨q,rfl,nq,eq,s4⟩;have e34:=s4 _ _ e3;have ndq:d3≠q:=λ e=>by rw [e,nq] at e3;cases e3
   refine di (λ σ' H'=>σ'=[oR a,oJ wi,oJ hi,oR d3,oJ c,oJ way,oR q,none,none,none,none,none,none,none,none,none,none]/\∃v0 v1 v2,H' q=some (.lst [v0,v1,v2])/\Thg H' v0/\Thg H' v1/\dF H' 1 v2/\dM H' v0 v1 v2=false) (λ K' hK=>?_) ?_
   ·refine (bz (b:=decide (way<2)) (mL (aa rfl) aq)) _ ?_
    by_cases hw:way<2
    ·rw [decide_eq_true hw];refine gQ ?_;refine vO (l:=q) (i:=way) (P:=λ v H'=>Thg H' v/\aV v 1 8=false/\am H4 H') (λ Q z=>?_) ?_
     ·have hw2:way=0\/way=1:=by omega
      rcases hw2 with rfl | rfl
      ·exact g8 (ae (bH (aa rfl) aq ⟨by decide,by decide⟩) (ae (ej (x:=.int wi) (aa rfl) (aa rfl) (.inl (aH.of eq)) rfl) ay)) ⟨c / 12,wi,rfl,w1,w8,λ v H' s t b=>z _ _ ⟨t,b,s⟩⟩
      ·exact g8 (ae (bH (aa rfl) aq ⟨by decide,by decide⟩) (ae (ej (x:=.int hi) (aa rfl) (aa rfl) (.inl (aH.of eq)) rfl) ay)) ⟨c / 12,hi,rfl,h1,h8,λ v H' s t b=>z _ _ ⟨t,b,s⟩⟩
     ·rintro v H5 ⟨tv,bv,s5⟩;refine ⟨aa rfl,aa rfl,_,s5 _ _ eq,w0.1,by show way<3;omega,?_⟩;have td:∀{ys:List V},dF (upd H5 q (.lst ys)) 1 (.ref d3):=λ {ys}=>l4 (intsX (s5 _ _ e34)) λ b e=>by cases e;exact ndq
      have hw2:way=0\/way=1:=by omega
      rcases hw2 with rfl | rfl
      ·exact hK _ _ ⟨rfl,v,.int hi,.ref d3,ac,gw tv,trivial,td,rT bv⟩
      ·exact hK _ _ ⟨rfl,.int wi,v,.ref d3,ac,trivial,gw tv,td,rV bv⟩
    ·rw [decide_eq_false hw];refine ig ?_;refine vO (l:=q) (i:=2) (P:=λ v H'=>dF H' 1 v/\(∀b,v=.ref b->b≠q)/\bB H' v (wi*hi)=false/\am H4 H') (λ Q z=>?_) ?_
     ·exact g8 (ae (bH (aa rfl) aq ⟨by decide,by decide⟩) (ae (aa rfl) (ae (b0 (aa rfl) (aa rfl) (.inl ⟨by omega,by omega⟩)) ay))) ⟨c / 12,wi*hi,d3,hs,rfl,e34,ln,by omega,by omega,λ v H' s fr t b=>z _ _ ⟨t,(λ b' e' z'=>by have:=fr b' e';rw [z',eq] at this;cases this),b,s⟩⟩
     ·rintro v H5 ⟨tv,nv,bv,s5⟩;refine ⟨aa rfl,aq,_,s5 _ _ eq,by decide,by show (2:Int)<3;decide,hK _ _ ⟨rfl,.int wi,.int hi,v,ac,trivial,trivial,l4 tv nv,?_⟩⟩;show (decide (1<=wi/\wi<=8)&&decide (1<=hi/\hi<=8)&&bB _ v (wi*hi))=false;rw [nT nv,bv,Ei]
   rintro _ H5 ⟨rfl,v0,v1,v2,e5,t0,t1,t2,bb⟩;refine cY (lO (g8 (ae (ej (x:=v0) (aa rfl) aq (.inl (aH.of e5)) rfl) (ae (ej (x:=v1) (aa rfl) aq (.inl (aH.of e5)) rfl) (ae (ej (x:=v2) (aa rfl) aq (.inl (aH.of e5)) rfl) ay))) ⟨v0,v1,v2,rfl,t0,t1,t2,bb,λ H' s=>aq _ ?_⟩));show Q (.bl (decide (Cp="board"))) H';rw [decide_eq_true v9];exact k H'
  refine ci (λ v H'=> ∃l,v=.ref l/\H3 l=none/\H' l=some (.lst (hs.map V.int))/\am H3 H') (λ Q z=>rZ (aa rfl) ⟨_,.inl (aH.of e3),λ l hl=>z _ _ ⟨l,rfl,hl,ac,(am.refl H3).upd hl⟩⟩) ?_;rintro _ H4 ⟨l,rfl,nl,el,s4⟩;refine ci (λ v H'=> ∃(x:Addr) (hs':List Int),v=.ref x/\hs'.Perm hs/\bF K cB H' x wi hi hs'/\(∃dx ph pf,H' x=some (.ins cB dx (df wi hi ph pf))/\H' ph=some (.lst (hs'.map V.int))/\H' pf=some (.lst ((firmL wi hi hs').map V.bl))/\H4 ph=none/\H4 pf=none)/\H4 x=none/\am H4 H') (λ Q q=>?_) ?_
  ·refine (ae (aa rfl) (ae (aa rfl) (ae (aa rfl) ay))) _ λ x dx nx ndx ne=>?_;refine ⟨x,l,dx,wi,hi,hs,rfl,ac,by rw [ak (aj el nx),ak (aj el ndx)];exact el,w1,w8,h1,h8,gd,nd,ln,λ hs' H' pm O fr sb=>⟨rfl,q _ _ ⟨x,hs',rfl,pm,O,?_,nx,fX (am.refl H4) nx ndx sb⟩⟩⟩;obtain ⟨dx',ph,pf,a1,a2,a3,a4,a5⟩:=fr;have old:∀b,(upd (upd H4 dx (.own x)) x (.ins cB dx [])) b=none->H4 b=none:=λ b hb=>by
    cases e:H4 b with
    | none=>rfl
    | some o=>
      rw [ak (aj e nx),ak (aj e ndx),e] at hb;cases hb
   exact ⟨dx',ph,pf,a1,a2,a3,old _ a4,old _ a5⟩
  rintro _ H5 ⟨b5,hs5,rfl,pm5,O5,fr5,nb5,s5⟩;have e35:=(s4.trans s5) _ _ e3;refine bZ (b:=false) (bz (qd (k:=true) (aa rfl) (aa rfl) (gX (n:=19) (aH.of (s5 _ _ el)) (aH.of e35)))) (λ h=>nomatch h) (λ _=>?_);refine ci (λ v H'=> ∃(x:Addr) (hs':List Int),v=.ref x/\hs'.Perm []/\bF K cB H' x hi wi hs'/\(∃dx ph pf,H' x=some (.ins cB dx (df hi wi ph pf))/\H' ph=some (.lst (hs'.map V.int))/\H' pf=some (.lst ((firmL hi wi hs').map V.bl))/\H5 ph=none/\H5 pf=none)/\H5 x=none/\am H5 H') (λ Q q=>?_) ?_
  ·refine mkK (aw (aa rfl) (aw (aa rfl) (aZ (bS (bh ⟨DV _,λ e0 he0=>bh λ x dx nx ndx ne=>?_⟩)))));have ee:(upd H5 e0 (.lst [])) e0=some (.lst (([]:List Int).map V.int)):=ac;have cm:hi*wi=wi*hi:=Ec _ _;have se:=(am.refl H5).upd (o:=.lst []) he0;refine ⟨x,e0,dx,hi,wi,[],rfl,ac,by rw [ak (aj ee nx),ak (aj ee ndx)];exact ee,h1,h8,w1,w8,(λ h hh=>by cases hh),List.nodup_nil,by rw [cm];show (0:Int)<_;omega,λ hs' H' pm O fr sb=>⟨rfl,q _ _ ⟨x,hs',rfl,pm,O,?_,se.free nx,fX se nx ndx sb⟩⟩⟩;obtain ⟨dx',ph,pf,a1,a2,a3,a4,a5⟩:=fr;have old:∀b,(upd (upd (upd H5 e0 (.lst [])) dx (.own x)) x (.ins cB dx [])) b=none->H5 b=none:=λ b hb=>by
    cases e:H5 b with
    | none=>rfl
    | some o=>
      have e':=se _ _ e;rw [ak (aj e' nx),ak (aj e' ndx),e'] at hb;cases hb
   exact ⟨dx',ph,pf,a1,a2,a3,old _ a4,old _ a5⟩
  rintro _ H6 ⟨b6,hs6,rfl,pm6,O6,fr6,nb6,s6⟩;have el6:=(s5.trans s6) _ _ el;refine oP (aa rfl) aq el6 (by rw [CZ,sizeLine_eq];omega) ?_;have n5:b5≠l:=λ e=>by rw [e,el] at nb5;cases nb5
  have n6:b6≠l:=λ e=>by rw [e,s5 _ _ el] at nb6;cases nb6
  have O5':bF K cB (upd H6 l (.lst (hs.map V.int++[.non]))) b5 wi hi hs5:=by obtain ⟨dx,ph,pf,a1,a2,a3,a4,a5⟩:=fr5;exact mW (H0:=H4) (O5.same s6) ⟨dx,ph,pf,s6 _ _ a1,s6 _ _ a2,s6 _ _ a3,a4,a5⟩ (by rw [el];exact λ z=>nomatch z) n5
  have O6':bF K cB (upd H6 l (.lst (hs.map V.int++[.non]))) b6 hi wi hs6:=mW (H0:=H5) O6 fr6 (by rw [s5 _ _ el];exact λ z=>nomatch z) n6;have s37:am H3 (upd H6 l (.lst (hs.map V.int++[.non]))):=((s4.trans s5).trans s6).put nl;generalize upd H6 l (.lst (hs.map V.int++[.non]))=H7 at O5' O6' s37 ⊢;have e37:=s37 _ _ e3;refine bG (bM (lK aq aq ⟨by decide,by decide,by decide⟩) (aa rfl)) ?_;generalize (10:Int) ^ (20:Int).toNat+c=far;refine ci (λ v H'=> ∃(q:Addr) (xs:List V),v=.ref q/\H' q=some (.lst xs)/\(∀x∈xs,Thg H' x)/\am H7 H') (λ Q z=>?_) ?_
  ·refine mU ((gW aq) _ ((bM (b0 (aa rfl) (aa rfl) (.inl ⟨by omega,by omega⟩)) aq) _ ⟨_,_,rfl,rfl,by omega,by omega,by omega,by omega,λ r hr'=>?_⟩));have sa:=(am.refl H7).upd (o:=.lst ((List.range (wi*hi+2 - -2).toNat).map λ (i:Nat)=>V.int (-2+i))) hr';have ea:(upd H7 r (.lst ((List.range (wi*hi+2 - -2).toNat).map λ (i:Nat)=>V.int (-2+i)))) r=some (.lst ((List.range (wi*hi+2 - -2).toNat).map λ (i:Nat)=>V.int (-2+i))):=ac;generalize upd H7 r (.lst ((List.range (wi*hi+2 - -2).toNat).map λ (i:Nat)=>V.int (-2+i)))=H8 at sa ea ⊢;refine bS (aw aq (aw aq (aw aq (aw aq (aw aq (aZ (bS (aw aq (bh ⟨by show 1<=sizeLine;decide,λ p hp=>?_⟩)))))))));have sb:=(am.refl H8).upd (o:=.lst [.int 0]) hp;refine aZ (Ag (aw aq (bh ⟨by show 1<=sizeLine;decide,λ t ht=>?_⟩)));have sc:=(am.refl _).upd (o:=.tup [.int 0]) ht;refine aw (aa rfl) (aw (gW (aa rfl)) (bh ⟨by show 9<=sizeLine;decide,λ r2 hr2=>?_⟩));have sd:=(am.refl _).upd (o:=.lst [.bl true,.bl false,.non,.str "0",.str "a1",.ref p,.ref t,.int far,.int (-far)]) hr2;have s8:=(sb.trans sc).trans sd;refine gD (s8 _ _ ea) ac (by rw [CZ,Dg];show _+9<=1000;omega) λ r3 hr3=>?_;have se:=(am.refl _).upd (o:=.lst (((List.range (wi*hi+2 - -2).toNat).map λ (i:Nat)=>V.int (-2+i))++[.bl true,.bl false,.non,.str "0",.str "a1",.ref p,.ref t,.int far,.int (-far)])) hr3;refine z _ _ ⟨r3,_,rfl,ac,λ x hx=>?_,(sa.trans s8).trans se⟩
   rcases De.mp hx with hx | hx
   ·obtain ⟨i,_,rfl⟩:=C6.mp hx
    trivial
   ·simp only [C1,Da,or_false] at hx
    rcases hx with rfl | rfl | rfl | rfl | rfl | rfl | rfl | rfl | rfl
    ·trivial
    ·trivial
    ·trivial
    ·show ("0":Str).length<=1000;decide+kernel
    ·show ("a1":Str).length<=1000;decide+kernel
    ·exact .inl ⟨_,((sc.trans sd).trans se) _ _ ac⟩
    ·exact .inr (.inl ⟨_,(sd.trans se) _ _ ac⟩)
    ·trivial
    ·trivial
  rintro _ H8 ⟨qt,xs,rfl,eqt,th,s8⟩;refine ci (λ v H'=> ∃(q:Addr) (ys:List V),v=.ref q/\H' q=some (.lst ys)/\(∀x∈ys,∃t i j,x=.ref t/\H' t=some (.tup [.int i,.int j]))/\ys.length<=100/\am H8 H') (λ Q z=>?_) ?_
  ·refine bS (aZ (dS (du (bo (bH (aa rfl) aq ⟨by decide,by decide⟩) aq (by decide)) aq) (du (bo (bH (aa rfl) aq ⟨by decide,by decide⟩) aq (by decide)) aq) λ t1 h1'=>?_));have sa:=(am.refl H8).upd (o:=.tup [.int (c / 3 % 17 - 8),.int (c / 51 % 17 - 8)]) h1';refine aZ (dS (du (bo (bH (aa rfl) aq ⟨by decide,by decide⟩) aq (by decide)) aq) (du (bo (bH (aa rfl) aq ⟨by decide,by decide⟩) aq (by decide)) aq) λ t2 h2'=>?_);have sb:=(am.refl _).upd (o:=.tup [.int (c / 867 % 7 - 3),.int (c / 6069 % 7 - 3)]) h2';refine bh ⟨by show 2<=sizeLine;decide,λ r hr'=>?_⟩;have sc:=(am.refl _).upd (o:=.lst [.ref t1,.ref t2]) hr';refine z _ _ ⟨r,_,rfl,ac,λ x hx=>?_,by show 2<=100;decide,(sa.trans sb).trans sc⟩;simp only [C1,Da,or_false] at hx
   rcases hx with rfl | rfl
   ·exact ⟨t1,_,_,rfl,(sb.trans sc) _ _ ac⟩
   ·exact ⟨t2,_,_,rfl,sc _ _ ac⟩
  rintro _ H9 ⟨q9,ys,rfl,e9,py,l9,s9⟩;refine ci (λ v H'=> ∃(q:Addr) (ys:List V),v=.ref q/\H' q=some (.lst ys)/\(∀x∈ys,∃t i j,x=.ref t/\H' t=some (.tup [.int i,.int j]))/\am H9 H') (λ Q z=>?_) ?_
  ·refine mU ((show Ev (br 12) _ _ (.ref q9) from aa rfl) _ ?_);intro qs H10 hl hq s10;have hl:qs.length=8:=hl;refine ⟨by rw [CZ,hl];decide,λ d hd=>?_⟩;have sd:=(am.refl H10).upd (o:=.lst (qs.map V.ref)) hd;refine gD ((s10.trans sd) _ _ e9) ac (by rw [CZ,hl];omega) λ r hr'=>?_;have se:=(am.refl _).upd (o:=.lst (ys++qs.map V.ref)) hr';refine z _ _ ⟨r,_,rfl,ac,λ x hx=>?_,(s10.trans sd).trans se⟩
   rcases De.mp hx with hx | hx
   ·obtain ⟨t,i,j,rfl,e⟩:=py x hx;exact ⟨t,i,j,rfl,((s10.trans sd).trans se) _ _ e⟩
   ·obtain ⟨q',hq',rfl⟩:=C6.mp hx;obtain ⟨j,hj⟩:=List.getElem?_of_mem hq';obtain ⟨tv,h1',h2'⟩:=hq j q' hj;have h1':([[.int 1,.int 0],[.int (-1),.int 0],[.int 0,.int 1],[.int 0,.int (-1)],[.int 1,.int 1],[.int 1,.int (-1)],[.int (-1),.int 1],[.int (-1),.int (-1)]]:List (List V))[j]? =some tv:=h1';have hm:=Df h1';have e2:=(sd.trans se) _ _ h2';simp only [C1,Da,or_false] at hm
    rcases hm with rfl | rfl | rfl | rfl | rfl | rfl | rfl | rfl
    all_goals exact ⟨q',_,_,rfl,e2⟩
  rintro _ H10 ⟨qs,zs,rfl,eqs,pz,s10⟩;obtain ⟨ps,rfl,hps⟩:=pD pz;refine oN λ kl hkl=>?_;have sk:am H10 (upd H10 kl (.lst [])):=(am.refl H10).upd hkl;have ek:(upd H10 kl (.lst [])) kl=some (.lst []):=ac;generalize upd H10 kl (.lst [])=H11 at sk ek ⊢;refine ci (λ v H'=> ∃(q:Addr) (os:List Int),v=.ref q/\os≠[]/\H' q=some (.lst (os.map V.int))/\am H11 H') (λ Q z=>?_) ?_
  ·refine pR (bS (og (by decide) λ p1 G1 r1 f1=>og (by decide) λ p2 G2 r2 f2=>og (by decide) λ p3 G3 r3 f3=>og (by decide) λ p4 G4 r4 f4=>og (by decide) λ p5 G5 r5 f5=>og (by decide) λ p6 G6 r6 f6=>bh ⟨by show 6<=sizeLine;decide,λ d hd=>?_⟩));have sd:=(am.refl G6).upd (o:=.lst [.ref p1,.ref p2,.ref p3,.ref p4,.ref p5,.ref p6]) hd;refine (bo (bH (aa rfl) aq ⟨by decide,by decide⟩) aq (by decide)) _ ?_;obtain ⟨v,e,hv⟩:=rb (xs:=[.ref p1,.ref p2,.ref p3,.ref p4,.ref p5,.ref p6]) (i:=c / 12 % 6) (n:=6) rfl (by omega) (by omega);have sAll:=(((((r1.trans r2).trans r3).trans r4).trans r5).trans r6).trans sd;refine ⟨_,v,.inl (aH.of ac),e,?_⟩;simp only [C1,Da,or_false] at hv
   rcases hv with rfl | rfl | rfl | rfl | rfl | rfl
   ·exact z _ _ ⟨p1,[0,1,2],rfl,by decide,(((((r2.trans r3).trans r4).trans r5).trans r6).trans sd) _ _ f1,sAll⟩
   ·exact z _ _ ⟨p2,[1,2,0],rfl,by decide,((((r3.trans r4).trans r5).trans r6).trans sd) _ _ f2,sAll⟩
   ·exact z _ _ ⟨p3,[2,0,1],rfl,by decide,(((r4.trans r5).trans r6).trans sd) _ _ f3,sAll⟩
   ·exact z _ _ ⟨p4,[2,1,0],rfl,by decide,((r5.trans r6).trans sd) _ _ f4,sAll⟩
   ·exact z _ _ ⟨p5,[1,0,2],rfl,by decide,(r6.trans sd) _ _ f5,sAll⟩
   ·exact z _ _ ⟨p6,[0,2,1],rfl,by decide,sd _ _ f6,sAll⟩
  rintro _ H12 ⟨qo,os,rfl,ono,eo,s12⟩;have s710:=(s8.trans s9).trans s10;have O5a:=O5'.same s710;have O6a:=O6'.same s710;have e3a:=s710 _ _ e37;have eqa:=(s9.trans s10) _ _ eqt;have tha:∀x∈xs,Thg H10 x:=λ x hx=>(th x hx).same (s9.trans s10);have ekl:=s12 _ _ ek;have nqk:qo≠kl:=λ e=>by
   rw [e,ekl] at eo;injection eo with eo;injection eo with eo;cases os with
   | nil=>exact ono rfl
   | cons x ys=>cases eo
  have m64:wi*hi<=64:=by omega
  have m64':hi*wi<=64:=by rw [Ec];omega
  have sB:am H10 H12:=sk.trans s12;refine di (λ σ' H'=> ∃es o15 o16,σ'=[oR a,oJ wi,oJ hi,oR d3,oJ c,none,none,oR l,oR b5,oR b6,oJ far,oR qt,oR qs,oR kl,oR qo,o15,o16]/\cA H' kl es/\es.length<=4) (λ K' hK=>?_) ?_
  ·refine kK 2 (λ Q q=>(ae aq ay) _ q) (by decide) (by decide)
    (λ i σ' H'=> ∃es o15 o16,σ'=[oR a,oJ wi,oJ hi,oR d3,oJ c,none,none,oR l,oR b5,oR b6,oJ far,oR qt,oR qs,oR kl,oR qo,o15,o16]/\am H10 H'/\H' qo=some (.lst (os.map V.int))/\cA H' kl es/\es.length<=2*i)
    ⟨[],_,_,rfl,sB,eo,⟨ekl,λ e he=>by cases he⟩,DS _⟩ ?_ (λ σ' H' h=>?_)
   ·rintro i _ G0 hi' ⟨es,o15,o16,rfl,t0,eo0,KO,l0⟩;have i2:i<2:=hi';show bC _ _ _ [oR a,oJ wi,oJ hi,oR d3,oJ c,none,none,oR l,oR b5,oR b6,oJ far,oR qt,oR qs,oR kl,oR qo,oJ (0+(i:Int)),o16] G0;generalize 0+(i:Int)=turn;refine dH (λ b H'=>b=false/\am G0 H') (λ Q q=>?_) (λ H' h=>by cases h.1) (λ G1 h=>?_)
    ·exact lU (ae (aa rfl) (ae (aa rfl) (ae (aa rfl) (ae (aa rfl) (ae (aa rfl) (ae (aa rfl) (ae (aa rfl) ay))))))) ⟨b5,d3,qt,qs,qo,wi,hi,hs5,hs,xs,ps,os,rfl,⟨O5a.same t0,pm5,t0 _ _ e3a⟩,by omega,t0 _ _ eqa,λ x hx=>(tha x hx).same t0,t0 _ _ eqs,λ p hp=>t0 _ _ (hps p hp),eo0,λ H' s=>q _ _ ⟨rfl,s⟩⟩
    obtain ⟨_,s1⟩:=h;have t1:=t0.trans s1;refine dH (λ b H'=>b=false/\am G1 H') (λ Q q=>?_) (λ H' h=>by cases h.1) (λ G2 h=>?_)
    ·refine orK (jJ (aw (aa rfl) (aw (aa rfl) (aw (aa rfl) (aZ (bS (bh ⟨DV _,λ r hr'=>aw (aa rfl) (bh ?_)⟩)))))));have sa:=(am.refl G1).upd (o:=.lst []) hr';have ta:=t1.trans sa;refine ⟨b6,r,qt,hi,wi,hs6,[],xs,rfl,⟨O6a.same ta,pm6,ac⟩,ta _ _ eqa,λ x hx=>(tha x hx).same ta,λ H' sb=>?_⟩;refine Cy (jJ (aw (aa rfl) (aw (aa rfl) (aw (aa rfl) (aZ (bS (bh ⟨DV _,λ r2 hr2=>bh ?_⟩)))))));have sc:=(sa.trans sb).upd (o:=.lst []) hr2;exact ⟨b6,r2,hi,wi,hs6,[],rfl,⟨O6a.same (t1.trans sc),pm6,ac⟩,by decide,λ H2 sd=>q _ _ ⟨rfl,sc.trans sd⟩⟩
    obtain ⟨_,s2⟩:=h;have t2:=t1.trans s2;have s02:=s1.trans s2;have KO2:=KO.same s02;refine ef (K:=K) (λ v H'=> ∃(d q1 q2:Addr),v=.ref d/\G2 d=none/\G2 q1=none/\G2 q2=none/\d≠q1/\d≠q2/\q2≠q1/\H' d=some (.lst [.ref q1,.ref q2])/\H' q1=some (.lst ((cQ wi hi hs5).map V.int))/\H' q2=some (.lst ((cQ hi wi hs6).map V.int))/\am G2 H') (λ Q q=>?_) ?_
    ·refine bS (aZ (mr (aa rfl) (O5a.same t2).no (bh ⟨b5,wi,hi,hs5,rfl,O5a.same t2,λ q1 G3 n1 e1 s3=>aZ (mr (aa rfl) (O6a.same (t2.trans s3)).no (bh ⟨b6,hi,wi,hs6,rfl,O6a.same (t2.trans s3),λ q2 G4 n2 e2 s4=>bh ⟨by show 2<=sizeLine;decide,λ d hd=>?_⟩⟩))⟩)));have z1:=s4 _ _ e1;have s24:=s3.trans s4;exact q _ _ ⟨d,q1,q2,rfl,s24.free hd,n1,s3.free n2,(aj z1 hd).symm,(aj e2 hd).symm,(aj e1 n2).symm,ac,by rw [ak (aj z1 hd)];exact z1,by rw [ak (aj e2 hd)];exact e2,s24.upd hd⟩
    ·rintro _ G3 ⟨d,q1,q2,rfl,nd0,n1,n2,dq1,dq2,q21,ed,e1,e2,s3⟩;refine ⟨d,[.ref q1,.ref q2],rfl,aH.of ed,(λ j σ' H'=> ∃es' o16,σ'=[oR a,oJ wi,oJ hi,oR d3,oJ c,none,none,oR l,oR b5,oR b6,oJ far,oR qt,oR qs,oR kl,oR qo,oJ turn,o16]/\H' d=some (.lst [.ref q1,.ref q2])/\es'.length<=es.length+j/\am H10 H'/\H' qo=some (.lst (os.map V.int))/\(∃G,am G H'/\cA G kl es'/\G d=none/\(j=0->G q1=none/\G q2=none/\H' q1=some (.lst ((cQ wi hi hs5).map V.int))/\H' q2=some (.lst ((cQ hi wi hs6).map V.int)))/\(j=1->G q2=none/\H' q2=some (.lst ((cQ hi wi hs6).map V.int))))),?_,?_,?_,?_⟩
     ·exact ⟨es,_,rfl,ed,DS _,t2.trans s3,(s02.trans s3) _ _ eo0,G2,s3,KO2,nd0,λ _=>⟨n1,n2,e1,e2⟩,λ h=>by cases h⟩
     ·rintro j σ' H' _ ⟨es',o,_,z,_⟩;exact aH.of z
     ·have step:∀(D:cb) (tq:Addr) (zs:List Int) (pl:List Addr) (es':List V) (G H':Hp),zs.length<=64->es'.length<=500->am G H'->am H10 H'->H' qo=some (.lst (os.map V.int))->cA G kl es'->G tq=none->G2 tq=none->H' tq=some (.lst (zs.map V.int))->(∀p∈pl,G p=none/\p≠tq/\∃o,H' p=some o)->
        (∀G' H4 tt,am G' H4->cA G' kl (es'++[.ref tt])->am H10 H4->H4 qo=some (.lst (os.map V.int))->(∀p∈pl,G' p=none/\H4 p=H' p)->D.nx [some (.ref a),some (.int wi),some (.int hi),some (.ref d3),some (.int c),none,none,some (.ref l),some (.ref b5),some (.ref b6),some (.int far),some (.ref qt),some (.ref qs),some (.ref kl),some (.ref qo),some (.int turn),some (.ref tq)] H4)->
        bC (gl (ou (br 16) (br 15))) (gl (ou (br 13) (oE (aN (br 16) (aN (L2.cB (kF K) (aN (br 16) bY)) bY))))) D [some (.ref a),some (.int wi),some (.int hi),some (.ref d3),some (.int c),none,none,some (.ref l),some (.ref b5),some (.ref b6),some (.int far),some (.ref qt),some (.ref qs),some (.ref kl),some (.ref qo),some (.int turn),some (.ref tq)] H':=by
       intro D tq zs pl es' G H' hz he sg s2' eqo kg gq g2q eq hp fin;refine oP (aa rfl) (aa rfl) eq (by rw [CZ,sizeLine_eq];omega) ?_;have eL:zs.map V.int++[V.int turn]=(zs++[turn]).map V.int:=by rw [Dq];rfl
       rw [eL];have ky:=(sg.put (o:=.lst ((zs++[turn]).map V.int)) gq) _ _ kg.at_;refine A9 (aa rfl) ⟨_,ky⟩ (wc (aa rfl) (aa rfl) (.inl (aH.of ac)) λ cc hcc tt htt=>?_);obtain ⟨G',r1,r2,r3⟩:=nR pl sg kg gq hp hcc htt;have kz:(upd (upd (upd H' tq (.lst ((zs++[turn]).map V.int))) cc (.lst ((zs++[turn]).map V.int))) tt (.tup [.ref tq,.ref cc])) kl=some (.lst es'):=(((sg.put gq).upd hcc).upd htt) _ _ kg.at_;refine ⟨es',kz,by rw [sizeLine_eq];omega,fin G' _ tt r1 r2 ((((s2'.put (t2.free g2q)).upd hcc).upd htt).put hkl) (my eqo (aj (s02 _ _ eo0) g2q) nqk hcc htt) λ p m=>⟨r3 p m,?_⟩⟩;obtain ⟨m1,m2,o,m3⟩:=hp p m;rw [m3];exact my m3 m2 (aj kg.at_ m1).symm hcc htt
      rintro j x σ' H' hx ⟨es',o,rfl,z1,z2,z3,z4,G,y1,y2,y4,y5,y6⟩
      match j,hx with
      | 0,hx=>
        cases hx;obtain ⟨g1,g2,f1,f2⟩:=y5 rfl;refine step _ q1 _ [q2,d] es' G H' (kJ m64) (by omega) y1 z3 z4 y2 g1 n1 f1 (λ p hp=>?_) λ G' H4 tt r1 r2 r3 r4 r5=>?_
        ·simp only [C1,Da,or_false] at hp
         rcases hp with rfl | rfl
         ·exact ⟨g2,q21,_,f2⟩
         ·exact ⟨y4,dq1,_,z1⟩
        ·have a1:=r5 q2 (C3 ..);have a2:=r5 d (C7 _ (C3 ..));exact ⟨_,_,rfl,a2.2.trans z1,by rw [Dc];show es'.length+1<=_;omega,r3,r4,G',r1,r2,a2.1,(λ h=>by cases h),λ _=>⟨a1.1,a1.2.trans f2⟩⟩
      | 1,hx=>
        cases hx;obtain ⟨g2,f2⟩:=y6 rfl;refine step _ q2 _ [d] es' G H' (kJ m64') (by omega) y1 z3 z4 y2 g2 n2 f2 (λ p hp=>?_) λ G' H4 tt r1 r2 r3 r4 r5=>?_
        ·simp only [C1,Da,or_false] at hp;subst hp;exact ⟨y4,dq2,_,z1⟩
        ·have a2:=r5 d (C3 ..);exact ⟨_,_,rfl,a2.2.trans z1,by rw [Dc];show es'.length+1<=_;omega,r3,r4,G',r1,r2,a2.1,(λ h=>by cases h),λ h=>by cases h⟩
     ·rintro σ' H' ⟨es',o,rfl,z1,z2,z3,z4,G,y1,y2,y4,y5,y6⟩;have z2:es'.length<=es.length+2:=z2;exact ⟨es',_,_,rfl,z3,z4,y2.same y1,by omega⟩
   ·obtain ⟨es,o15,o16,e,_,_,b,z⟩:=h;exact hK _ _ ⟨es,o15,o16,e,b,by have:(2:Int).toNat=2:=rfl;omega⟩
  rintro _ H13 ⟨es,o15,o16,rfl,KO,l10⟩;show cU _ _ _ _;refine jC (d:=kl) (xs:=es) (rest:=[]) (aa rfl) (aH.of KO.at_) (by rw [sizeLine_eq];omega) rfl (λ _=>false) (λ v=>v) (λ x hx=>?_) (λ x hx h=>by cases h) (λ d' hd'=>?_)
  ·obtain ⟨t,f,c,zs,rfl,_,_,_,h5,h6,h7⟩:=KO.all x hx;show Tv _ _ _ (!true);exact bz (xg (ej (aa rfl) aq (.inr (dQ.of h5)) (fJ (j:=0) rfl)) (ej (aa rfl) aq (.inr (dQ.of h5)) (fJ (j:=1) rfl)) (gX (aH.of h6) (aH.of h7)))
  ·have e:(es.filter λ _=>false).map (λ v=>v)=[]:=by simp
   rw [e];refine ⟨DV _,λ q2 hq2=>?_⟩;show aI K .Eq (V.ref d') (V.ref q2) _ _;rw [mh];have ne:d'≠q2:=aj ac hq2;exact ⟨true,kN (xs:=[]) (aH.of (by rw [ak ne,ac])) (aH.of ac) rfl,k _⟩
end
end K03
namespace L2
open PySem PySem.W PyProof.Rows
theorem oA {q:Program}{loose:List Str}{XP:(Str->Option Value)->Heap->Prop}{YP:World->Heap->Prop}{α:Type}{Yf:Shared->α}{Ya:World->α}{r:RowW}{d:DefRec}{kwd:List (Str×Expr)}{run:Value->List Value->Sem Value}
  (hY:∀(w:World) (s₀ s₁:Shared),Yf s₀=Ya w->(∀b o,s₀.heap.get? b=some o->s₁.heap.get? b=some o)->YP w s₁.heap) (h:WalkO q loose XP YP r d kwd run):PySem.W.WalkX q loose XP Yf Ya r d kwd run:=
 λ w s₀ s₁ mg mb G y a o pm cd doc dV kV ho hd hcd hD hmg hg args vals as L hpre hlay hrd hwl hlo=>h w s₀ s₁ mg mb G (hY w s₀ s₁ y L.keeps) a o pm cd doc dV kV ho hd hcd hD hmg hg args vals as hpre hlay hrd hwl hlo
theorem xJ {P:List Value->Prop}(h:∀a0:Value,P [a0]):∀us:List Value,us.length=1->P us
 | [a0],_=>h a0
theorem rB {P:List Value->Prop}(h:∀a0 a1:Value,P [a0,a1]):∀us:List Value,us.length=2->P us
 | [a0,a1],_=>h a0 a1
theorem AH {P:List Value->Prop}(h:∀a0 a1 a2:Value,P [a0,a1,a2]):∀us:List Value,us.length=3->P us
 | [a0,a1,a2],_=>h a0 a1 a2
theorem Cz {P:List Value->Prop}(h:∀a0 a1 a2 a3:Value,P [a0,a1,a2,a3]):∀us:List Value,us.length=4->P us
 | [a0,a1,a2,a3],_=>h a0 a1 a2 a3
theorem ln5 {P:List Value->Prop}(h:∀a0 a1 a2 a3 a4:Value,P [a0,a1,a2,a3,a4]):∀us:List Value,us.length=5->P us
 | [a0,a1,a2,a3,a4],_=>h a0 a1 a2 a3 a4
theorem ln6 {P:List Value->Prop}(h:∀a0 a1 a2 a3 a4 a5:Value,P [a0,a1,a2,a3,a4,a5]):∀us:List Value,us.length=6->P us
 | [a0,a1,a2,a3,a4,a5],_=>h a0 a1 a2 a3 a4 a5
theorem ln7 {P:List Value->Prop}(h:∀a0 a1 a2 a3 a4 a5 a6:Value,P [a0,a1,a2,a3,a4,a5,a6]):∀us:List Value,us.length=7->P us
 | [a0,a1,a2,a3,a4,a5,a6],_=>h a0 a1 a2 a3 a4 a5 a6
end L2
namespace L2
open PySem PySem.W PyProof.Rows
def lg:Nat->List Obj->Nat->Nat->PySem.W.BT
 | 0,_,_,_=>.nil
 | f+1,l,a,b=>(l[b]?).elim .nil λ o=>.node o (lg f l (2*a) (a+b)) (lg f l (2*a) (2*a+b))
def toT (s:Shared):SharedT:=⟨lg 12 s.heap.objs.toList 1 0,s.heap.objs.size,s.heap.life,s.gens,s.drawn,s.toks,s.os⟩
theorem AI {p q:Program}{loose:List Str}{Xt:Shared->Bool}{α:Type}{Yf:Shared->α}{Ya:World->α}{N:Nat}{g0:Bool}{H₀:Params->Heap}{gs₀:Array GenState}{d₀:Drawn}{k₀ m₀:Nat}{ann:Option Value}{n0 nb n nf:Nat}
  {b:List Stmt} {env:Env} {qp p0 p1 p2:Pos} {sa:World->OsState->Shared} {sb sc:World->OsState->SharedT} {sf:World->OsState->Shared}
  (open_:∀w:World,(fencedOpening treeTable p w N).map (λ s=>(s.heap,s.gens,s.drawn,s.toks))=some (H₀ w.params,gs₀,d₀,k₀))
  (size:∀w:World,((H₀ w.params).isNs mainGlobals&&gs₀.size == 0,(H₀ w.params).objs.size,(H₀ w.params).nsMap mainGlobals "__annotations__")=(true,m₀,ann))
  (pre:∀w os,topGo treeTable p w m₀ ann n0 ⟨H₀ w.params,gs₀,d₀,k₀,os⟩ (topStub p)=some (sa w os,⟨denote treeTable (.body b env),.body b env,p0,[topFrame qp]⟩))
  (block:∀w os,segRun treeTable p w m₀ ann 1 nb (sa w os) (blockOf b env (.body b env) p0 [topFrame qp])=some (.next,(sb w os).abs,.body b env,p1))
  (main:∀w os,segRunT treeTable p w m₀ ann 1 n (sb w os) (piecesOf b env (.body b env) p1 [topFrame qp])=some (.next,sc w os,.body b env,p2))
  (fin:∀w os,topRun treeTable p w m₀ ann nf (sc w os).abs ⟨doneF .next,.body b env,p2,[topFrame qp]⟩=some (sf w os))
  (le:Nat.ble (n0+(nb+(n+nf))) N=true)
  (looks:∀w os,((staticsOk (importedModules p.main.body) (H₀ w.params) (sf w os).heap&&namesBound p (sf w os).heap&&gensDone (sf w os)&&laidKept (H₀ w.params) (sf w os).heap),
    openSeen q loose (importedModules p.main.body) Xt g0 (sf w os),Yf (sf w os))=(true,openGood q loose,Ya w)):LeftO p q loose Xt Yf Ya N g0:=λ w=>by
 obtain ⟨⟨h,gs,d,k,os⟩,e,e'⟩:=Es.mp (open_ w);obtain ⟨rfl,rfl,rfl,rfl⟩:h=H₀ w.params/\gs=gs₀/\d=d₀/\k=k₀:=by simpa using e'
 obtain ⟨z1,z2,z3⟩:_/\_/\_:=by simpa only [Prod.mk.injEq] using size w
 obtain ⟨l1,l2,l3⟩:_/\_/\_:=by simpa only [Prod.mk.injEq] using looks w os
 have r1:=piece_app (rest:=[]) (segRun_of (main w os)) (piece_nil (fin w os));rw [Dd] at r1;have r3:=go_top (pre w os) (piece_block (block w os) r1);have r:=topRun_mono (N - (n0+(nb+(n+nf)))) _ _ _ _ r3;rw [show n0+(nb+(n+nf))+(N - (n0+(nb+(n+nf))))=N by have:=D7 le;omega] at r;have t:topFrom treeTable p w N ⟨H₀ w.params,gs,d,k,os⟩=some (sf w os):=by
  unfold topFrom;dsimp only;rw [z1,z2,z3,r];show (match staticsOk (importedModules p.main.body) (H₀ w.params) (sf w os).heap&&namesBound p (sf w os).heap&&gensDone (sf w os)&&laidKept (H₀ w.params) (sf w os).heap with | true=>_ | false=>_)=_
  rw [l1]
 unfold openEnds;rw [e];show (topFrom treeTable p w N _).map _=_;rw [t];exact congrArg some (Prod.ext l2 l3)
abbrev AW (name qual:Str) (params:Arguments) (body:List Stmt) (scope:Scope) (globals:Addr) (closure:List (Str×Addr)) (dV kV doc pm:Value) (an:Option Addr) (cdv ct:Value) (bl:Addr):FuncData:=
 {name,qualname:=qual,params,body:=.stmts body,scope,globals,closure,defaults:=dV,kwdefaults:=kV,doc,pyModule:=pm,annotations:=an,code:=cdv,closureTuple:=ct,builtins:=bl}
noncomputable def stT (t:PySem.W.BT) (n k:Nat) (P:Params) (os:OsState):SharedT:=⟨t,n,(boot_heap P).life,Array.mk [],boot_drawn,k,os⟩
theorem nQ {p q:Program}{loose:List Str}{Xt:Shared->Bool}{α:Type}{Yf:Shared->α}{Ya:World->α}{N:Nat}{g0:Bool}{H₀:Params->Heap}{gs₀:Array GenState}{d₀:Drawn}{k₀ m₀:Nat}{ann:Option Value}{n0 nb n:Nat}
  {b:List Stmt} {env:Env} {qp p0 p1:Pos} {sa:World->OsState->Shared} {sb:World->OsState->SharedT} {sf:World->OsState->Shared}
  (open_:∀w:World,(fencedOpening treeTable p w N).map (λ s=>(s.heap,s.gens,s.drawn,s.toks))=some (H₀ w.params,gs₀,d₀,k₀))
  (size:∀w:World,((H₀ w.params).isNs mainGlobals&&gs₀.size == 0,(H₀ w.params).objs.size,(H₀ w.params).nsMap mainGlobals "__annotations__")=(true,m₀,ann))
  (pre:∀w os,topGo treeTable p w m₀ ann n0 ⟨H₀ w.params,gs₀,d₀,k₀,os⟩ (topStub p)=some (sa w os,⟨denote treeTable (.body b env),.body b env,p0,[topFrame qp]⟩))
  (block:∀w os,segRun treeTable p w m₀ ann 1 nb (sa w os) (blockOf b env (.body b env) p0 [topFrame qp])=some (.next,(sb w os).abs,.body b env,p1))
  (main:∀w os,topRun treeTable p w m₀ ann n (sb w os).abs (restOf b env (.body b env) p1 [topFrame qp])=some (sf w os))
  (le:Nat.ble (n0+(nb+n)) N=true)
  (looks:∀w os,((staticsOk (importedModules p.main.body) (H₀ w.params) (sf w os).heap&&namesBound p (sf w os).heap&&gensDone (sf w os)&&laidKept (H₀ w.params) (sf w os).heap),
    openSeen q loose (importedModules p.main.body) Xt g0 (sf w os),Yf (sf w os))=(true,openGood q loose,Ya w)):LeftO p q loose Xt Yf Ya N g0:=λ w=>by
 obtain ⟨⟨h,gs,d,k,os⟩,e,e'⟩:=Es.mp (open_ w);obtain ⟨rfl,rfl,rfl,rfl⟩:h=H₀ w.params/\gs=gs₀/\d=d₀/\k=k₀:=by simpa using e'
 obtain ⟨z1,z2,z3⟩:_/\_/\_:=by simpa only [Prod.mk.injEq] using size w
 obtain ⟨l1,l2,l3⟩:_/\_/\_:=by simpa only [Prod.mk.injEq] using looks w os
 have r3:=go_top (pre w os) (piece_block (block w os) (main w os));have r:=topRun_mono (N - (n0+(nb+n))) _ _ _ _ r3;rw [show n0+(nb+n)+(N - (n0+(nb+n)))=N by have:=D7 le;omega] at r;have t:topFrom treeTable p w N ⟨H₀ w.params,gs,d,k,os⟩=some (sf w os):=by
  unfold topFrom;dsimp only;rw [z1,z2,z3,r];show (match staticsOk (importedModules p.main.body) (H₀ w.params) (sf w os).heap&&namesBound p (sf w os).heap&&gensDone (sf w os)&&laidKept (H₀ w.params) (sf w os).heap with | true=>_ | false=>_)=_
  rw [l1]
 unfold openEnds;rw [e];show (topFrom treeTable p w N _).map _=_;rw [t];exact congrArg some (Prod.ext l2 l3)
def mI (as:List Addr) (s:Shared):List (Option Obj):=as.map s.heap.get?
def mH (K:Params->Frag) (w:World):List (Option Obj):=(K w.params).map λ p=>some p.2
theorem AQ {K:Params->Frag}{as:List Addr}(e:∀P,as=(K P).map (·.1)) (w:World) (s₀ s₁:Shared) (y:mI as s₀=mH K w) (k:∀b o,s₀.heap.get? b=some o->s₁.heap.get? b=some o):(K w.params).In s₁.heap:=
 InK.keeps w s₀.heap s₁.heap (InK.of e w s₀ y) k
end L2
namespace K03
open PySem L2
abbrev bf (x:Array Value) (n:Nat):Obj:=⟨.type "tuple",none,.seq x n,#[]⟩
noncomputable abbrev fM (a b:Str) (s:Stmt):Obj:=⟨.none,none,.func (L2.AW a b (dm s) (cw s) (ao s) 0 [] .none .none .none .none none .none .none 0),#[]⟩
abbrev iq (a b:Str) (n m l:Nat) (i j k o:Int) (r:Nat) (f:Bool) (p:Int) (q x y z:Nat) (u v:Int) (e:Nat):Obj:=⟨.type "code",none,.fields #[.str a n,.str b m,.str "/claim/cut.py" l,.int i 0,.int j 0,.int 0 0,.int k 0,.int o 0,.ref r,.bool f,.int p 0,.ref q,.none,.ref x,.ref y,.ref z,.int u 0,.int v 0,.str "/claim/cut.py" e],#[]⟩
abbrev oy (a b:Str) (n m l:Nat) (i j k o:Int) (r:Nat) (f:Bool) (p:Int) (q:Nat) (u v:Int) (e:Nat):Obj:=⟨.type "code",none,.fields #[.str a n,.str b m,.str "/claim/cut.py" l,.int i 0,.int j 0,.int 0 0,.int k 0,.int o 0,.ref r,.bool f,.int p 0,.ref q,.none,.none,.none,.none,.int u 0,.int v 0,.str "/claim/cut.py" e],#[]⟩
noncomputable abbrev fN (a b:Str) (s:Stmt) (m:Str) (n c:Nat):Obj:=⟨.type "function",none,.func (EF a b (dm s) (cw s) (ao s) .none .none .none (.str m n) none (.ref c) .none),#[]⟩
abbrev dG (x:Array Value):Obj:=⟨.none,none,.fields x,#[]⟩
abbrev su (x:Array Value):Obj:=⟨.type "code",none,.fields x,#[]⟩
abbrev aG (P:Params) (x:Str) (n:Nat) (v:Value):DictEntry:=⟨PyData.keyHash P x,.str x n,v⟩
abbrev aM (x:Obj):PySem.W.BT:=.node x .nil .nil
abbrev az (x:Obj) (a b:PySem.W.BT):PySem.W.BT:=.node x a b
abbrev cR:Value:=.int 0 0
abbrev jR (n:Nat):Value:=.str "/claim/cut.py" n
abbrev bq (n:Int):Value:=.int n 0
abbrev hP:Program:=PySem.Challenge.pw_playboard_k03_boards
noncomputable def hQ:Program:={hP with main:={hP.main with body:=ce 1::ce 2::ce 3::ce 4::ce 5::ce 6::ce 7::ce 8::ce 9::ce 10::ce 12::ce 13::ce 15::ce 16::ce 17::ce 19::ce 20::ce 21::ce 23::ce 24::ce 25::ce 26::ce 27::ce 28::ce 29::ce 30::ce 31::ce 32::ce 33::ce 34::ce 35::ce 36::ce 37::ce 38::[]}}
noncomputable section
variable (P:Params)
def zo3:Obj:=⟨(.type "dict"),none,(.dict #[aG P "__name__" 165 (.str "law_playboard_k03_boards" 480),aG P "__doc__" 166 .none,aG P "__package__" 167 .none,aG P "__loader__" 168 (.builtin "__main__.__loader__#opaque"),aG P "__spec__" 169 .none,aG P "__annotations__" 170 (.ref 6),aG P "__builtins__" 171 (.ref 4),aG P "__file__" 173 (jR 172),aG P "__cached__" 174 .none,aG P "PlayError" 206 (.ref 24),aG P "BadBoard" 222 (.ref 37),aG P "BadGame" 238 (.ref 49),aG P "BadLine" 263 (.ref 68),aG P "BadPlace" 279 (.ref 80),aG P "NoMove" 295 (.ref 92),aG P "TooWide" 311 (.ref 104),aG P "NoWord" 327 (.ref 116),aG P "Over" 343 (.ref 128),aG P "NothingBack" 359 (.ref 140),aG P "is_whole" 368 (.ref 149),aG P "is_among" 377 (.ref 156),aG P "column_of" 387 (.ref 163),aG P "row_of" 395 (.ref 170),aG P "square_at" 404 (.ref 177),aG P "LONGEST" 408 (.int 8 407),aG P "are_holes" 414 (.ref 182),aG P "Board" 479 (.ref 223),aG P "_law_at" 490 (.ref 234),aG P "_law_whole" 497 (.ref 241),aG P "_law_word" 507 (.ref 248),aG P "_law_side" 514 (.ref 255),aG P "_law_holes" 527 (.ref 262),aG P "_law_spoilt_side" 535 (.ref 269),aG P "_law_spoilt_holes" 541 (.ref 274),aG P "_law_said" 551 (.ref 281),aG P "_law_is_among" 559 (.ref 288),aG P "_law_goal" 573 (.ref 295),aG P "_law_same" 579 (.ref 300),aG P "_law_steps_right" 585 (.ref 305),aG P "_law_fields_right" 591 (.ref 310),aG P "_law_right" 606 (.ref 317),aG P "_law_all_right" 620 (.ref 324),aG P "law" 626 (.ref 329)] 43),#[]⟩
def Co:Obj:=bf #[] 0
def Cn:Obj:=dG #[(bq 2),cR,(.ref 20),(bq 4),cR,(.ref 33),(bq 6),cR,(.ref 45),(bq 8),cR,(.ref 57),(bq 13),cR,(.ref 76),(bq 15),cR,(.ref 88),(bq 17),cR,(.ref 100),(bq 19),cR,(.ref 112),(bq 21),cR,(.ref 124),(bq 23),cR,(.ref 136),(bq 26),cR,(.ref 148),(bq 28),cR,(.ref 155),(bq 31),cR,(.ref 162),(bq 33),cR,(.ref 169),(bq 35),cR,(.ref 176),(bq 39),cR,(.ref 181),(bq 45),cR,(.ref 188),(bq 74),cR,(.ref 233),(bq 79),cR,(.ref 240),(bq 81),cR,(.ref 247),(bq 92),cR,(.ref 254),(bq 96),cR,(.ref 261),(bq 108),cR,(.ref 268),(bq 110),cR,(.ref 273),(bq 122),cR,(.ref 280),(bq 128),cR,(.ref 287),(bq 130),cR,(.ref 294),(bq 138),cR,(.ref 299),(bq 142),cR,(.ref 304),(bq 150),cR,(.ref 309),(bq 157),cR,(.ref 316),(bq 165),cR,(.ref 323),(bq 174),cR,(.ref 328)]
def Cm:Obj:=oy "<module>" "<module>" 182 183 184 1 0 0 0 11 false 181 12 185 1 186
def Ck:Obj:=⟨(.type "frame"),none,.plain,#[(some (.ref 13)),(some (.ref 3)),(some (.ref 3)),none,(some (.str "__main__" 164)),none,(some (.ref 0))]⟩
def zA:Obj:=bf #[(.type "ValueError")] 0
def Cj:Obj:=⟨(.type "builtin_function_or_method"),none,(.fields #[(.builtin "type.__prepare__"),(.type "type")]),#[]⟩
def Ci:Obj:=⟨(.type "dict"),none,(.dict #[aG P "__module__" 196 (.str "playboard.errors" 187),aG P "__qualname__" 198 (.str "PlayError" 197),aG P "__firstlineno__" 200 (.int 2 199),aG P "__static_attributes__" 201 (.ref 22)] 4),#[]⟩
def Ch:Obj:=bf #[] 0
def Cg:Obj:=dG #[]
def Cf:Obj:=oy "PlayError" "PlayError" 191 192 193 2 0 0 0 18 false 181 19 194 2 195
def Ce:Obj:=⟨(.type "frame"),none,.plain,#[(some (.ref 20)),(some (.ref 3)),(some (.ref 17)),none,(some (.str "playboard.errors" 187)),none,(some (.ref 0))]⟩
def y7:Obj:=bf #[] 0
def yY:Obj:=⟨(.type "dict"),none,(.dict #[aG P "__module__" 196 (.str "playboard.errors" 187),aG P "__firstlineno__" 200 (.int 2 199),aG P "__static_attributes__" 201 (.ref 22),aG P "__weakref__" 203 (.ref 25),aG P "__doc__" 204 .none] 3),#[]⟩
def yU:Obj:=⟨(.type "type"),none,(.cls ⟨"PlayError",[(.type "ValueError")],[(.ref 24),(.type "ValueError"),(.type "Exception"),(.type "BaseException"),(.type "object")],23,"PlayError",true,[],[(.ref 37),(.ref 49),(.ref 68),(.ref 80),(.ref 92),(.ref 104),(.ref 116),(.ref 128),(.ref 140)],false,none,false⟩),#[(some (.ref 15)),none,(some (.str "PlayError" 189)),(some (.str "PlayError" 197)),(some (.builtin "ValueError.__new__")),(some (.bool true))]⟩
def yR:Obj:=⟨(.type "getset_descriptor"),none,(.fields #[(.str "__weakref__" 202),(.ref 24),(.builtin "ExceptionGroup.__weakref__"),.none]),#[]⟩
def Cd:Obj:=⟨(.type "super"),none,(.fields #[(.ref 24),(.ref 24),(.ref 24)]),#[]⟩
def Cc:Obj:=⟨(.type "builtin_function_or_method"),none,(.fields #[(.builtin "object.__init_subclass__"),(.ref 24)]),#[]⟩
def yE:Obj:=bf #[(.ref 24)] 0
def Cb:Obj:=⟨(.type "builtin_function_or_method"),none,(.fields #[(.builtin "type.__prepare__"),(.type "type")]),#[]⟩
def Ca:Obj:=⟨(.type "dict"),none,(.dict #[aG P "__module__" 214 (.str "playboard.errors" 187),aG P "__qualname__" 216 (.str "BadBoard" 215),aG P "__firstlineno__" 218 (.int 4 217),aG P "__static_attributes__" 219 (.ref 35)] 4),#[]⟩
def B9:Obj:=bf #[] 0
def B8:Obj:=dG #[]
def B7:Obj:=oy "BadBoard" "BadBoard" 209 210 211 4 0 0 0 31 false 181 32 212 4 213
def B6:Obj:=⟨(.type "frame"),none,.plain,#[(some (.ref 33)),(some (.ref 3)),(some (.ref 30)),none,(some (.str "playboard.errors" 187)),none,(some (.ref 0))]⟩
def yj:Obj:=bf #[] 0
def yi:Obj:=⟨(.type "dict"),none,(.dict #[aG P "__module__" 214 (.str "playboard.errors" 187),aG P "__firstlineno__" 218 (.int 4 217),aG P "__static_attributes__" 219 (.ref 35),aG P "__doc__" 220 .none] 2),#[]⟩
def yh:Obj:=⟨(.type "type"),none,(.cls ⟨"BadBoard",[(.ref 24)],[(.ref 37),(.ref 24),(.type "ValueError"),(.type "Exception"),(.type "BaseException"),(.type "object")],36,"BadBoard",true,[],[],false,none,false⟩),#[(some (.ref 28)),none,(some (.str "BadBoard" 207)),(some (.str "BadBoard" 215)),(some (.builtin "ValueError.__new__")),(some (.bool true))]⟩
def B5:Obj:=⟨(.type "super"),none,(.fields #[(.ref 37),(.ref 37),(.ref 37)]),#[]⟩
def B4:Obj:=⟨(.type "builtin_function_or_method"),none,(.fields #[(.builtin "object.__init_subclass__"),(.ref 37)]),#[]⟩
def yg:Obj:=bf #[(.ref 24)] 0
def B3:Obj:=⟨(.type "builtin_function_or_method"),none,(.fields #[(.builtin "type.__prepare__"),(.type "type")]),#[]⟩
def B2:Obj:=⟨(.type "dict"),none,(.dict #[aG P "__module__" 230 (.str "playboard.errors" 187),aG P "__qualname__" 232 (.str "BadGame" 231),aG P "__firstlineno__" 234 (.int 6 233),aG P "__static_attributes__" 235 (.ref 47)] 4),#[]⟩
def B1:Obj:=bf #[] 0
def B0:Obj:=dG #[]
def BZ:Obj:=oy "BadGame" "BadGame" 225 226 227 6 0 0 0 43 false 181 44 228 6 229
def BY:Obj:=⟨(.type "frame"),none,.plain,#[(some (.ref 45)),(some (.ref 3)),(some (.ref 42)),none,(some (.str "playboard.errors" 187)),none,(some (.ref 0))]⟩
def yf:Obj:=bf #[] 0
def yd:Obj:=⟨(.type "dict"),none,(.dict #[aG P "__module__" 230 (.str "playboard.errors" 187),aG P "__firstlineno__" 234 (.int 6 233),aG P "__static_attributes__" 235 (.ref 47),aG P "__doc__" 236 .none] 2),#[]⟩
def yb:Obj:=⟨(.type "type"),none,(.cls ⟨"BadGame",[(.ref 24)],[(.ref 49),(.ref 24),(.type "ValueError"),(.type "Exception"),(.type "BaseException"),(.type "object")],48,"BadGame",true,[],[],false,none,false⟩),#[(some (.ref 40)),none,(some (.str "BadGame" 223)),(some (.str "BadGame" 231)),(some (.builtin "ValueError.__new__")),(some (.bool true))]⟩
def BX:Obj:=⟨(.type "super"),none,(.fields #[(.ref 49),(.ref 49),(.ref 49)]),#[]⟩
def BW:Obj:=⟨(.type "builtin_function_or_method"),none,(.fields #[(.builtin "object.__init_subclass__"),(.ref 49)]),#[]⟩
def ya:Obj:=bf #[(.ref 24)] 0
def BV:Obj:=⟨(.type "builtin_function_or_method"),none,(.fields #[(.builtin "type.__prepare__"),(.type "type")]),#[]⟩
def BS:Obj:=⟨(.type "dict"),none,(.dict #[aG P "__module__" 246 (.str "playboard.errors" 187),aG P "__qualname__" 248 (.str "BadLine" 247),aG P "__firstlineno__" 250 (.int 8 249),aG P "__init__" 258 (.ref 65),aG P "__static_attributes__" 260 (.ref 66)] 5),#[]⟩
def BR:Obj:=bf #[] 0
def BQ:Obj:=dG #[(bq 10),(bq 4),(.ref 64)]
def BP:Obj:=oy "BadLine" "BadLine" 241 242 243 8 0 0 0 55 false 181 56 244 8 245
def BO:Obj:=⟨(.type "frame"),none,.plain,#[(some (.ref 57)),(some (.ref 3)),(some (.ref 54)),none,(some (.str "playboard.errors" 187)),none,(some (.ref 0))]⟩
def x9:Obj:=bf #[] 0
def BN:Obj:=dG #[]
def x8:Obj:=bf #[(.str "self" 254),(.str "at" 255)] 0
def x6:Obj:=bf #[] 0
def BM:Obj:=fM "__init__" "BadLine.__init__" cX
def x5:Obj:=iq "__init__" "BadLine.__init__" 251 252 253 10 2 0 3 59 true 181 60 61 62 63 256 10 257
def x0:Obj:=fN "__init__" "BadLine.__init__" cX "playboard.errors" 187 64
def xZ:Obj:=bf #[(.str "at" 259)] 0
def xY:Obj:=⟨(.type "dict"),none,(.dict #[aG P "__module__" 246 (.str "playboard.errors" 187),aG P "__firstlineno__" 250 (.int 8 249),aG P "__init__" 258 (.ref 65),aG P "__static_attributes__" 260 (.ref 66),aG P "__doc__" 261 .none] 2),#[]⟩
def xX:Obj:=⟨(.type "type"),none,(.cls ⟨"BadLine",[(.ref 24)],[(.ref 68),(.ref 24),(.type "ValueError"),(.type "Exception"),(.type "BaseException"),(.type "object")],67,"BadLine",true,[],[],false,none,false⟩),#[(some (.ref 52)),none,(some (.str "BadLine" 239)),(some (.str "BadLine" 247)),(some (.builtin "ValueError.__new__")),(some (.bool true))]⟩
def BL:Obj:=⟨(.type "super"),none,(.fields #[(.ref 68),(.ref 68),(.ref 68)]),#[]⟩
def BK:Obj:=⟨(.type "builtin_function_or_method"),none,(.fields #[(.builtin "object.__init_subclass__"),(.ref 68)]),#[]⟩
def xW:Obj:=bf #[(.ref 24)] 0
def BJ:Obj:=⟨(.type "builtin_function_or_method"),none,(.fields #[(.builtin "type.__prepare__"),(.type "type")]),#[]⟩
def BI:Obj:=⟨(.type "dict"),none,(.dict #[aG P "__module__" 271 (.str "playboard.errors" 187),aG P "__qualname__" 273 (.str "BadPlace" 272),aG P "__firstlineno__" 275 (.int 13 274),aG P "__static_attributes__" 276 (.ref 78)] 4),#[]⟩
def BH:Obj:=bf #[] 0
def BG:Obj:=dG #[]
def BF:Obj:=oy "BadPlace" "BadPlace" 266 267 268 13 0 0 0 74 false 181 75 269 13 270
def BE:Obj:=⟨(.type "frame"),none,.plain,#[(some (.ref 76)),(some (.ref 3)),(some (.ref 73)),none,(some (.str "playboard.errors" 187)),none,(some (.ref 0))]⟩
def xV:Obj:=bf #[] 0
def xU:Obj:=⟨(.type "dict"),none,(.dict #[aG P "__module__" 271 (.str "playboard.errors" 187),aG P "__firstlineno__" 275 (.int 13 274),aG P "__static_attributes__" 276 (.ref 78),aG P "__doc__" 277 .none] 2),#[]⟩
def xT:Obj:=⟨(.type "type"),none,(.cls ⟨"BadPlace",[(.ref 24)],[(.ref 80),(.ref 24),(.type "ValueError"),(.type "Exception"),(.type "BaseException"),(.type "object")],79,"BadPlace",true,[],[],false,none,false⟩),#[(some (.ref 71)),none,(some (.str "BadPlace" 264)),(some (.str "BadPlace" 272)),(some (.builtin "ValueError.__new__")),(some (.bool true))]⟩
def BD:Obj:=⟨(.type "super"),none,(.fields #[(.ref 80),(.ref 80),(.ref 80)]),#[]⟩
def BB:Obj:=⟨(.type "builtin_function_or_method"),none,(.fields #[(.builtin "object.__init_subclass__"),(.ref 80)]),#[]⟩
def xS:Obj:=bf #[(.ref 24)] 0
def BA:Obj:=⟨(.type "builtin_function_or_method"),none,(.fields #[(.builtin "type.__prepare__"),(.type "type")]),#[]⟩
def Bz:Obj:=⟨(.type "dict"),none,(.dict #[aG P "__module__" 287 (.str "playboard.errors" 187),aG P "__qualname__" 289 (.str "NoMove" 288),aG P "__firstlineno__" 291 (.int 15 290),aG P "__static_attributes__" 292 (.ref 90)] 4),#[]⟩
def By:Obj:=bf #[] 0
def Bx:Obj:=dG #[]
def Bw:Obj:=oy "NoMove" "NoMove" 282 283 284 15 0 0 0 86 false 181 87 285 15 286
def Bv:Obj:=⟨(.type "frame"),none,.plain,#[(some (.ref 88)),(some (.ref 3)),(some (.ref 85)),none,(some (.str "playboard.errors" 187)),none,(some (.ref 0))]⟩
def xR:Obj:=bf #[] 0
def xQ:Obj:=⟨(.type "dict"),none,(.dict #[aG P "__module__" 287 (.str "playboard.errors" 187),aG P "__firstlineno__" 291 (.int 15 290),aG P "__static_attributes__" 292 (.ref 90),aG P "__doc__" 293 .none] 2),#[]⟩
def xP:Obj:=⟨(.type "type"),none,(.cls ⟨"NoMove",[(.ref 24)],[(.ref 92),(.ref 24),(.type "ValueError"),(.type "Exception"),(.type "BaseException"),(.type "object")],91,"NoMove",true,[],[],false,none,false⟩),#[(some (.ref 83)),none,(some (.str "NoMove" 280)),(some (.str "NoMove" 288)),(some (.builtin "ValueError.__new__")),(some (.bool true))]⟩
def Bu:Obj:=⟨(.type "super"),none,(.fields #[(.ref 92),(.ref 92),(.ref 92)]),#[]⟩
def Bt:Obj:=⟨(.type "builtin_function_or_method"),none,(.fields #[(.builtin "object.__init_subclass__"),(.ref 92)]),#[]⟩
def xO:Obj:=bf #[(.ref 24)] 0
def Bs:Obj:=⟨(.type "builtin_function_or_method"),none,(.fields #[(.builtin "type.__prepare__"),(.type "type")]),#[]⟩
def Br:Obj:=⟨(.type "dict"),none,(.dict #[aG P "__module__" 303 (.str "playboard.errors" 187),aG P "__qualname__" 305 (.str "TooWide" 304),aG P "__firstlineno__" 307 (.int 17 306),aG P "__static_attributes__" 308 (.ref 102)] 4),#[]⟩
def Bq:Obj:=bf #[] 0
def Bp:Obj:=dG #[]
def Ae:Obj:=oy "TooWide" "TooWide" 298 299 300 17 0 0 0 98 false 181 99 301 17 302
def Ad:Obj:=⟨(.type "frame"),none,.plain,#[(some (.ref 100)),(some (.ref 3)),(some (.ref 97)),none,(some (.str "playboard.errors" 187)),none,(some (.ref 0))]⟩
def vC:Obj:=bf #[] 0
def vB:Obj:=⟨(.type "dict"),none,(.dict #[aG P "__module__" 303 (.str "playboard.errors" 187),aG P "__firstlineno__" 307 (.int 17 306),aG P "__static_attributes__" 308 (.ref 102),aG P "__doc__" 309 .none] 2),#[]⟩
def vA:Obj:=⟨(.type "type"),none,(.cls ⟨"TooWide",[(.ref 24)],[(.ref 104),(.ref 24),(.type "ValueError"),(.type "Exception"),(.type "BaseException"),(.type "object")],103,"TooWide",true,[],[],false,none,false⟩),#[(some (.ref 95)),none,(some (.str "TooWide" 296)),(some (.str "TooWide" 304)),(some (.builtin "ValueError.__new__")),(some (.bool true))]⟩
def Ac:Obj:=⟨(.type "super"),none,(.fields #[(.ref 104),(.ref 104),(.ref 104)]),#[]⟩
def Ab:Obj:=⟨(.type "builtin_function_or_method"),none,(.fields #[(.builtin "object.__init_subclass__"),(.ref 104)]),#[]⟩
def vz:Obj:=bf #[(.ref 24)] 0
def Aa:Obj:=⟨(.type "builtin_function_or_method"),none,(.fields #[(.builtin "type.__prepare__"),(.type "type")]),#[]⟩
def zZ:Obj:=⟨(.type "dict"),none,(.dict #[aG P "__module__" 319 (.str "playboard.errors" 187),aG P "__qualname__" 321 (.str "NoWord" 320),aG P "__firstlineno__" 323 (.int 19 322),aG P "__static_attributes__" 324 (.ref 114)] 4),#[]⟩
def zY:Obj:=bf #[] 0
def zX:Obj:=dG #[]
def zW:Obj:=oy "NoWord" "NoWord" 314 315 316 19 0 0 0 110 false 181 111 317 19 318
def zV:Obj:=⟨(.type "frame"),none,.plain,#[(some (.ref 112)),(some (.ref 3)),(some (.ref 109)),none,(some (.str "playboard.errors" 187)),none,(some (.ref 0))]⟩
def vy:Obj:=bf #[] 0
def vx:Obj:=⟨(.type "dict"),none,(.dict #[aG P "__module__" 319 (.str "playboard.errors" 187),aG P "__firstlineno__" 323 (.int 19 322),aG P "__static_attributes__" 324 (.ref 114),aG P "__doc__" 325 .none] 2),#[]⟩
def vw:Obj:=⟨(.type "type"),none,(.cls ⟨"NoWord",[(.ref 24)],[(.ref 116),(.ref 24),(.type "ValueError"),(.type "Exception"),(.type "BaseException"),(.type "object")],115,"NoWord",true,[],[],false,none,false⟩),#[(some (.ref 107)),none,(some (.str "NoWord" 312)),(some (.str "NoWord" 320)),(some (.builtin "ValueError.__new__")),(some (.bool true))]⟩
def zU:Obj:=⟨(.type "super"),none,(.fields #[(.ref 116),(.ref 116),(.ref 116)]),#[]⟩
def zT:Obj:=⟨(.type "builtin_function_or_method"),none,(.fields #[(.builtin "object.__init_subclass__"),(.ref 116)]),#[]⟩
def vv:Obj:=bf #[(.ref 24)] 0
def zS:Obj:=⟨(.type "builtin_function_or_method"),none,(.fields #[(.builtin "type.__prepare__"),(.type "type")]),#[]⟩
def zR:Obj:=⟨(.type "dict"),none,(.dict #[aG P "__module__" 335 (.str "playboard.errors" 187),aG P "__qualname__" 337 (.str "Over" 336),aG P "__firstlineno__" 339 (.int 21 338),aG P "__static_attributes__" 340 (.ref 126)] 4),#[]⟩
def zQ:Obj:=bf #[] 0
def zP:Obj:=dG #[]
def zO:Obj:=oy "Over" "Over" 330 331 332 21 0 0 0 122 false 181 123 333 21 334
def zN:Obj:=⟨(.type "frame"),none,.plain,#[(some (.ref 124)),(some (.ref 3)),(some (.ref 121)),none,(some (.str "playboard.errors" 187)),none,(some (.ref 0))]⟩
def vt:Obj:=bf #[] 0
def vq:Obj:=⟨(.type "dict"),none,(.dict #[aG P "__module__" 335 (.str "playboard.errors" 187),aG P "__firstlineno__" 339 (.int 21 338),aG P "__static_attributes__" 340 (.ref 126),aG P "__doc__" 341 .none] 2),#[]⟩
def vp:Obj:=⟨(.type "type"),none,(.cls ⟨"Over",[(.ref 24)],[(.ref 128),(.ref 24),(.type "ValueError"),(.type "Exception"),(.type "BaseException"),(.type "object")],127,"Over",true,[],[],false,none,false⟩),#[(some (.ref 119)),none,(some (.str "Over" 328)),(some (.str "Over" 336)),(some (.builtin "ValueError.__new__")),(some (.bool true))]⟩
def zM:Obj:=⟨(.type "super"),none,(.fields #[(.ref 128),(.ref 128),(.ref 128)]),#[]⟩
def zL:Obj:=⟨(.type "builtin_function_or_method"),none,(.fields #[(.builtin "object.__init_subclass__"),(.ref 128)]),#[]⟩
def vo:Obj:=bf #[(.ref 24)] 0
def zK:Obj:=⟨(.type "builtin_function_or_method"),none,(.fields #[(.builtin "type.__prepare__"),(.type "type")]),#[]⟩
def zJ:Obj:=⟨(.type "dict"),none,(.dict #[aG P "__module__" 351 (.str "playboard.errors" 187),aG P "__qualname__" 353 (.str "NothingBack" 352),aG P "__firstlineno__" 355 (.int 23 354),aG P "__static_attributes__" 356 (.ref 138)] 4),#[]⟩
def zI:Obj:=bf #[] 0
def zH:Obj:=dG #[]
def zG:Obj:=oy "NothingBack" "NothingBack" 346 347 348 23 0 0 0 134 false 181 135 349 23 350
def zF:Obj:=⟨(.type "frame"),none,.plain,#[(some (.ref 136)),(some (.ref 3)),(some (.ref 133)),none,(some (.str "playboard.errors" 187)),none,(some (.ref 0))]⟩
def vn:Obj:=bf #[] 0
def vm:Obj:=⟨(.type "dict"),none,(.dict #[aG P "__module__" 351 (.str "playboard.errors" 187),aG P "__firstlineno__" 355 (.int 23 354),aG P "__static_attributes__" 356 (.ref 138),aG P "__doc__" 357 .none] 2),#[]⟩
def vk:Obj:=⟨(.type "type"),none,(.cls ⟨"NothingBack",[(.ref 24)],[(.ref 140),(.ref 24),(.type "ValueError"),(.type "Exception"),(.type "BaseException"),(.type "object")],139,"NothingBack",true,[],[],false,none,false⟩),#[(some (.ref 131)),none,(some (.str "NothingBack" 344)),(some (.str "NothingBack" 352)),(some (.builtin "ValueError.__new__")),(some (.bool true))]⟩
def zE:Obj:=⟨(.type "super"),none,(.fields #[(.ref 140),(.ref 140),(.ref 140)]),#[]⟩
def zD:Obj:=⟨(.type "builtin_function_or_method"),none,(.fields #[(.builtin "object.__init_subclass__"),(.ref 140)]),#[]⟩
def vj:Obj:=bf #[] 0
def zC:Obj:=dG #[]
def vi:Obj:=bf #[(.str "thing" 365)] 0
def vh:Obj:=bf #[] 0
def zB:Obj:=fM "is_whole" "is_whole" cV
def vg:Obj:=iq "is_whole" "is_whole" 362 363 364 26 1 0 3 143 true 181 144 145 146 147 366 26 367
def vf:Obj:=fN "is_whole" "is_whole" cV "playboard.words" 360 148
def ve:Obj:=bf #[] 0
def zz:Obj:=dG #[]
def vd:Obj:=bf #[(.str "thing" 372),(.str "least" 373),(.str "most" 374)] 0
def vc:Obj:=bf #[] 0
def zy:Obj:=fM "is_among" "is_among" cW
def vb:Obj:=iq "is_among" "is_among" 369 370 371 28 3 0 3 150 true 181 151 152 153 154 375 28 376
def u9:Obj:=fN "is_among" "is_among" cW "playboard.words" 360 155
def u7:Obj:=bf #[] 0
def zx:Obj:=dG #[]
def u3:Obj:=bf #[(.str "wide" 383),(.str "square" 384)] 0
def u2:Obj:=bf #[] 0
def zw:Obj:=fM "column_of" "column_of" cE
def u1:Obj:=iq "column_of" "column_of" 380 381 382 31 2 0 3 157 true 181 158 159 160 161 385 31 386
def uZ:Obj:=fN "column_of" "column_of" cE "playboard.squares" 378 162
def uY:Obj:=bf #[] 0
def zv:Obj:=dG #[]
def uX:Obj:=bf #[(.str "wide" 391),(.str "square" 392)] 0
def uW:Obj:=bf #[] 0
def zu:Obj:=fM "row_of" "row_of" dU
def uV:Obj:=iq "row_of" "row_of" 388 389 390 33 2 0 3 164 true 181 165 166 167 168 393 33 394
def uU:Obj:=fN "row_of" "row_of" dU "playboard.squares" 378 169
def uT:Obj:=bf #[] 0
def zt:Obj:=dG #[]
def uS:Obj:=bf #[(.str "wide" 399),(.str "column" 400),(.str "row" 401)] 0
def uR:Obj:=bf #[] 0
def zr:Obj:=fM "square_at" "square_at" cD
def uQ:Obj:=iq "square_at" "square_at" 396 397 398 35 3 0 3 171 true 181 172 173 174 175 402 35 403
def uP:Obj:=fN "square_at" "square_at" cD "playboard.squares" 378 176
def uO:Obj:=bf #[] 0
def zq:Obj:=dG #[]
def zp:Obj:=fM "are_holes" "are_holes" cf
def uN:Obj:=su #[(.str "are_holes" 409),(.str "are_holes" 410),(jR 411),(bq 39),(bq 2),cR,cR,(bq 3),(.ref 178),(.bool true),(bq 181),(.ref 179),.none,.none,.none,(.ref 180),(bq 412),(bq 39),(jR 413)]
def uM:Obj:=fN "are_holes" "are_holes" cf "playboard.boards" 405 181
def zo:Obj:=bf #[] 0
def zn:Obj:=⟨(.type "builtin_function_or_method"),none,(.fields #[(.builtin "type.__prepare__"),(.type "type")]),#[]⟩
def zm:Obj:=⟨(.type "dict"),none,(.dict #[aG P "__module__" 422 (.str "playboard.boards" 405),aG P "__qualname__" 424 (.str "Board" 423),aG P "__firstlineno__" 426 (.int 45 425),aG P "__init__" 432 (.ref 194),aG P "has" 440 (.ref 201),aG P "squares" 446 (.ref 206),aG P "moved" 459 (.ref 213),aG P "far_row" 467 (.ref 220),aG P "__static_attributes__" 472 (.ref 221)] 9),#[]⟩
def zl:Obj:=bf #[] 0
def zk:Obj:=dG #[(bq 47),(bq 4),(.ref 193),(bq 57),(bq 4),(.ref 200),(bq 60),(bq 4),(.ref 205),(bq 63),(bq 4),(.ref 212),(bq 71),(bq 4),(.ref 219)]
def zj:Obj:=oy "Board" "Board" 417 418 419 45 0 0 0 186 false 181 187 420 45 421
def zi:Obj:=⟨(.type "frame"),none,.plain,#[(some (.ref 188)),(some (.ref 3)),(some (.ref 185)),none,(some (.str "playboard.boards" 405)),none,(some (.ref 0))]⟩
def uL:Obj:=bf #[] 0
def zh:Obj:=dG #[]
def zg:Obj:=fM "__init__" "Board.__init__" aX
def uK:Obj:=su #[(.str "__init__" 427),(.str "Board.__init__" 428),(jR 429),(bq 47),(bq 4),cR,cR,(bq 3),(.ref 190),(.bool true),(bq 181),(.ref 191),.none,.none,.none,(.ref 192),(bq 430),(bq 47),(jR 431)]
def uJ:Obj:=fN "__init__" "Board.__init__" aX "playboard.boards" 405 193
def uI:Obj:=bf #[] 0
def zf:Obj:=dG #[]
def uH:Obj:=bf #[(.str "self" 436),(.str "square" 437)] 0
def uG:Obj:=bf #[] 0
def ze:Obj:=fM "has" "Board.has" cJ
def uF:Obj:=iq "has" "Board.has" 433 434 435 57 2 0 3 195 true 181 196 197 198 199 438 57 439
def uE:Obj:=fN "has" "Board.has" cJ "playboard.boards" 405 200
def uD:Obj:=bf #[] 0
def zd:Obj:=dG #[]
def zc:Obj:=fM "squares" "Board.squares" bt
def uC:Obj:=su #[(.str "squares" 441),(.str "Board.squares" 442),(jR 443),(bq 60),(bq 1),cR,cR,(bq 3),(.ref 202),(.bool true),(bq 181),(.ref 203),.none,.none,.none,(.ref 204),(bq 444),(bq 60),(jR 445)]
def uB:Obj:=fN "squares" "Board.squares" bt "playboard.boards" 405 205
def uA:Obj:=bf #[] 0
def zb:Obj:=dG #[]
def uz:Obj:=bf #[(.str "self" 450),(.str "square" 451),(.str "across" 452),(.str "up" 453),(.str "column" 454),(.str "row" 455),(.str "goal" 456)] 0
def uy:Obj:=bf #[] 0
def za:Obj:=fM "moved" "Board.moved" bV
def ux:Obj:=iq "moved" "Board.moved" 447 448 449 63 4 0 3 207 true 181 208 209 210 211 457 63 458
def uw:Obj:=fN "moved" "Board.moved" bV "playboard.boards" 405 212
def uv:Obj:=bf #[] 0
def y9:Obj:=dG #[]
def uu:Obj:=bf #[(.str "self" 463),(.str "side" 464)] 0
def ut:Obj:=bf #[] 0
def y8:Obj:=fM "far_row" "Board.far_row" bJ
def ur:Obj:=iq "far_row" "Board.far_row" 460 461 462 71 2 0 3 214 true 181 215 216 217 218 465 71 466
def uq:Obj:=fN "far_row" "Board.far_row" bJ "playboard.boards" 405 219
def uo:Obj:=bf #[(.str "firm" 468),(.str "high" 469),(.str "holes" 470),(.str "wide" 471)] 0
def um:Obj:=⟨(.type "dict"),none,(.dict #[aG P "__module__" 422 (.str "playboard.boards" 405),aG P "__firstlineno__" 426 (.int 45 425),aG P "__init__" 432 (.ref 194),aG P "has" 440 (.ref 201),aG P "squares" 446 (.ref 206),aG P "moved" 459 (.ref 213),aG P "far_row" 467 (.ref 220),aG P "__static_attributes__" 472 (.ref 221),aG P "__dict__" 474 (.ref 224),aG P "__weakref__" 476 (.ref 225),aG P "__doc__" 477 .none] 4),#[]⟩
def ul:Obj:=⟨(.type "type"),none,(.cls ⟨"Board",[(.type "object")],[(.ref 223),(.type "object")],222,"Board",true,[],[],false,none,false⟩),#[none,none,(some (.str "Board" 415)),(some (.str "Board" 423)),(some (.builtin "object.__new__")),(some (.bool true))]⟩
def uk:Obj:=⟨(.type "getset_descriptor"),none,(.fields #[(.str "__dict__" 473),(.ref 223),(.builtin "function.__dict__"),(.builtin "function.__dict__#set")]),#[]⟩
def uj:Obj:=⟨(.type "getset_descriptor"),none,(.fields #[(.str "__weakref__" 475),(.ref 223),(.builtin "ExceptionGroup.__weakref__"),.none]),#[]⟩
def y3:Obj:=⟨(.type "super"),none,(.fields #[(.ref 223),(.ref 223),(.ref 223)]),#[]⟩
def y0:Obj:=⟨(.type "builtin_function_or_method"),none,(.fields #[(.builtin "object.__init_subclass__"),(.ref 223)]),#[]⟩
def ui:Obj:=bf #[] 0
def yZ:Obj:=dG #[]
def uh:Obj:=bf #[(.str "_law_script" 485),(.str "_law_k" 486),(.str "_law_cell" 487)] 0
def ug:Obj:=bf #[] 0
def yX:Obj:=fM "_law_at" "_law_at" dD
def uf:Obj:=iq "_law_at" "_law_at" 482 483 484 74 2 0 3 228 true 181 229 230 231 232 488 74 489
def ue:Obj:=fN "_law_at" "_law_at" dD "law_playboard_k03_boards" 480 233
def ud:Obj:=bf #[] 0
def yW:Obj:=dG #[]
def uc:Obj:=bf #[(.str "_law_thing" 494)] 0
def ub:Obj:=bf #[] 0
def yV:Obj:=fM "_law_whole" "_law_whole" ck
def ua:Obj:=iq "_law_whole" "_law_whole" 491 492 493 79 1 0 3 235 true 181 236 237 238 239 495 79 496
def t9:Obj:=fN "_law_whole" "_law_whole" ck "law_playboard_k03_boards" 480 240
def t8:Obj:=bf #[] 0
def yT:Obj:=dG #[]
def t7:Obj:=bf #[(.str "_law_e" 501),(.str "_law_word_here" 502),(.str "_law_name" 503),(.str "_law_fits" 504)] 0
def t6:Obj:=bf #[] 0
def yS:Obj:=fM "_law_word" "_law_word" cF
def t5:Obj:=iq "_law_word" "_law_word" 498 499 500 81 1 0 3 242 true 181 243 244 245 246 505 81 506
def tZ:Obj:=fN "_law_word" "_law_word" cF "law_playboard_k03_boards" 480 247
def tY:Obj:=bf #[] 0
def yQ:Obj:=dG #[]
def tX:Obj:=bf #[(.str "_law_cell" 511)] 0
def tW:Obj:=bf #[] 0
def yO:Obj:=fM "_law_side" "_law_side" cG
def tV:Obj:=iq "_law_side" "_law_side" 508 509 510 92 1 0 3 249 true 181 250 251 252 253 512 92 513
def tU:Obj:=fN "_law_side" "_law_side" cG "law_playboard_k03_boards" 480 254
def tT:Obj:=bf #[] 0
def yN:Obj:=dG #[]
def tS:Obj:=bf #[(.str "_law_script" 518),(.str "_law_k" 519),(.str "_law_many" 520),(.str "_law_count" 521),(.str "_law_found" 522),(.str "_law_j" 523),(.str "_law_square" 524)] 0
def tR:Obj:=bf #[] 0
def yM:Obj:=fM "_law_holes" "_law_holes" cp
def tQ:Obj:=iq "_law_holes" "_law_holes" 515 516 517 96 3 0 3 256 true 181 257 258 259 260 525 96 526
def tP:Obj:=fN "_law_holes" "_law_holes" cp "law_playboard_k03_boards" 480 261
def tO:Obj:=bf #[] 0
def yL:Obj:=dG #[]
def tN:Obj:=bf #[(.str "_law_cell" 531),(.str "_law_old" 532)] 0
def tM:Obj:=bf #[] 0
def yJ:Obj:=fM "_law_spoilt_side" "_law_spoilt_side" bj
def tL:Obj:=iq "_law_spoilt_side" "_law_spoilt_side" 528 529 530 108 2 0 3 263 true 181 264 265 266 267 533 108 534
def tK:Obj:=fN "_law_spoilt_side" "_law_spoilt_side" bj "law_playboard_k03_boards" 480 268
def tJ:Obj:=bf #[] 0
def yI:Obj:=dG #[]
def yH:Obj:=fM "_law_spoilt_holes" "_law_spoilt_holes" aT
def tI:Obj:=su #[(.str "_law_spoilt_holes" 536),(.str "_law_spoilt_holes" 537),(jR 538),(bq 110),(bq 3),cR,cR,(bq 3),(.ref 270),(.bool true),(bq 181),(.ref 271),.none,.none,.none,(.ref 272),(bq 539),(bq 110),(jR 540)]
def tH:Obj:=fN "_law_spoilt_holes" "_law_spoilt_holes" aT "law_playboard_k03_boards" 480 273
def tG:Obj:=bf #[] 0
def yG:Obj:=dG #[]
def tF:Obj:=bf #[(.str "_law_wide" 545),(.str "_law_high" 546),(.str "_law_holes_here" 547),(.str "_law_e" 548)] 0
def tE:Obj:=bf #[] 0
def yF:Obj:=fM "_law_said" "_law_said" cH
def tD:Obj:=iq "_law_said" "_law_said" 542 543 544 122 3 0 3 275 true 181 276 277 278 279 549 122 550
def tz:Obj:=fN "_law_said" "_law_said" cH "law_playboard_k03_boards" 480 280
def tu:Obj:=bf #[] 0
def yD:Obj:=dG #[]
def tm:Obj:=bf #[(.str "_law_thing" 555),(.str "_law_many" 556)] 0
def tj:Obj:=bf #[] 0
def yB:Obj:=fM "_law_is_among" "_law_is_among" bI
def tf:Obj:=iq "_law_is_among" "_law_is_among" 552 553 554 128 2 0 3 282 true 181 283 284 285 286 557 128 558
def sZ:Obj:=fN "_law_is_among" "_law_is_among" bI "law_playboard_k03_boards" 480 287
def sY:Obj:=bf #[] 0
def yz:Obj:=dG #[]
def sX:Obj:=bf #[(.str "_law_wide" 563),(.str "_law_high" 564),(.str "_law_holes_here" 565),(.str "_law_square" 566),(.str "_law_across" 567),(.str "_law_up" 568),(.str "_law_column" 569),(.str "_law_row" 570)] 0
def sW:Obj:=bf #[] 0
def yy:Obj:=fM "_law_goal" "_law_goal" cI
def sV:Obj:=iq "_law_goal" "_law_goal" 560 561 562 130 6 0 3 289 true 181 290 291 292 293 571 130 572
def sU:Obj:=fN "_law_goal" "_law_goal" cI "law_playboard_k03_boards" 480 294
def sT:Obj:=bf #[] 0
def yx:Obj:=dG #[]
def yv:Obj:=fM "_law_same" "_law_same" cg
def sS:Obj:=su #[(.str "_law_same" 574),(.str "_law_same" 575),(jR 576),(bq 138),(bq 2),cR,cR,(bq 3),(.ref 296),(.bool true),(bq 181),(.ref 297),.none,.none,.none,(.ref 298),(bq 577),(bq 138),(jR 578)]
def sR:Obj:=fN "_law_same" "_law_same" cg "law_playboard_k03_boards" 480 299
def sQ:Obj:=bf #[] 0
def yu:Obj:=dG #[]
def yt:Obj:=fM "_law_steps_right" "_law_steps_right" aW
def sP:Obj:=su #[(.str "_law_steps_right" 580),(.str "_law_steps_right" 581),(jR 582),(bq 142),(bq 5),cR,cR,(bq 3),(.ref 301),(.bool true),(bq 181),(.ref 302),.none,.none,.none,(.ref 303),(bq 583),(bq 142),(jR 584)]
def sO:Obj:=fN "_law_steps_right" "_law_steps_right" aW "law_playboard_k03_boards" 480 304
def sN:Obj:=bf #[] 0
def yr:Obj:=dG #[]
def yq:Obj:=fM "_law_fields_right" "_law_fields_right" aU
def sM:Obj:=su #[(.str "_law_fields_right" 586),(.str "_law_fields_right" 587),(jR 588),(bq 150),(bq 4),cR,cR,(bq 3),(.ref 306),(.bool true),(bq 181),(.ref 307),.none,.none,.none,(.ref 308),(bq 589),(bq 150),(jR 590)]
def sL:Obj:=fN "_law_fields_right" "_law_fields_right" aU "law_playboard_k03_boards" 480 309
def sK:Obj:=bf #[] 0
def yp:Obj:=dG #[]
def sJ:Obj:=bf #[(.str "_law_board" 595),(.str "_law_wide" 596),(.str "_law_high" 597),(.str "_law_holes_here" 598),(.str "_law_things" 599),(.str "_law_thing" 600),(.str "_law_found" 601),(.str "_law_due" 602),(.str "_law_rows" 603)] 0
def sI:Obj:=bf #[] 0
def yo:Obj:=fM "_law_right" "_law_right" cn
def sH:Obj:=iq "_law_right" "_law_right" 592 593 594 157 5 0 3 311 true 181 312 313 314 315 604 157 605
def sG:Obj:=fN "_law_right" "_law_right" cn "law_playboard_k03_boards" 480 316
def sF:Obj:=bf #[] 0
def yn:Obj:=dG #[]
def sE:Obj:=bf #[(.str "_law_board" 610),(.str "_law_wide" 611),(.str "_law_high" 612),(.str "_law_holes_here" 613),(.str "_law_things" 614),(.str "_law_steps" 615),(.str "_law_order" 616),(.str "_law_which" 617)] 0
def sD:Obj:=bf #[] 0
def ym:Obj:=fM "_law_all_right" "_law_all_right" bD
def sC:Obj:=iq "_law_all_right" "_law_all_right" 607 608 609 165 7 0 3 318 true 181 319 320 321 322 618 165 619
def sA:Obj:=fN "_law_all_right" "_law_all_right" bD "law_playboard_k03_boards" 480 323
def sy:Obj:=bf #[] 0
def yl:Obj:=dG #[]
def yk:Obj:=fM "law" "law" eT
def sw:Obj:=su #[(.str "law" 621),(.str "law" 622),(jR 623),(bq 174),(bq 1),cR,cR,(bq 3),(.ref 325),(.bool true),(bq 181),(.ref 326),.none,.none,.none,(.ref 327),(bq 624),(bq 174),(jR 625)]
def sv:Obj:=fN "law" "law" eT "law_playboard_k03_boards" 480 328
end
noncomputable def hK (P:Params):Frag:=(nat_lit 2,Fa P)::(nat_lit 3,zo3 P)::(nat_lit 15,zA)::(nat_lit 22,y7)::(nat_lit 23,yY P)::(nat_lit 24,yU)::(nat_lit 25,yR)::(nat_lit 28,yE)::(nat_lit 35,yj)::(nat_lit 36,yi P)::(nat_lit 37,yh)::(nat_lit 40,yg)::(nat_lit 47,yf)::(nat_lit 48,yd P)::(nat_lit 49,yb)::(nat_lit 52,ya)::(nat_lit 59,x9)::(nat_lit 61,x8)::(nat_lit 62,x6)::(nat_lit 64,x5)::(nat_lit 65,x0)::(nat_lit 66,xZ)::(nat_lit 67,xY P)::(nat_lit 68,xX)::(nat_lit 71,xW)::(nat_lit 78,xV)::(nat_lit 79,xU P)::(nat_lit 80,xT)::(nat_lit 83,xS)::(nat_lit 90,xR)::(nat_lit 91,xQ P)::(nat_lit 92,xP)::(nat_lit 95,xO)::(nat_lit 102,vC)::(nat_lit 103,vB P)::(nat_lit 104,vA)::(nat_lit 107,vz)::(nat_lit 114,vy)::(nat_lit 115,vx P)::(nat_lit 116,vw)::(nat_lit 119,vv)::(nat_lit 126,vt)::(nat_lit 127,vq P)::(nat_lit 128,vp)::(nat_lit 131,vo)::(nat_lit 138,vn)::(nat_lit 139,vm P)::(nat_lit 140,vk)::(nat_lit 143,vj)::(nat_lit 145,vi)::(nat_lit 146,vh)::(nat_lit 148,vg)::(nat_lit 149,vf)::(nat_lit 150,ve)::(nat_lit 152,vd)::(nat_lit 153,vc)::(nat_lit 155,vb)::(nat_lit 156,u9)::(nat_lit 157,u7)::(nat_lit 159,u3)::(nat_lit 160,u2)::(nat_lit 162,u1)::(nat_lit 163,uZ)::(nat_lit 164,uY)::(nat_lit 166,uX)::(nat_lit 167,uW)::(nat_lit 169,uV)::(nat_lit 170,uU)::(nat_lit 171,uT)::(nat_lit 173,uS)::(nat_lit 174,uR)::(nat_lit 176,uQ)::(nat_lit 177,uP)::(nat_lit 178,uO)::(nat_lit 181,uN)::(nat_lit 182,uM)::(nat_lit 190,uL)::(nat_lit 193,uK)::(nat_lit 194,uJ)::(nat_lit 195,uI)::(nat_lit 197,uH)::(nat_lit 198,uG)::(nat_lit 200,uF)::(nat_lit 201,uE)::(nat_lit 202,uD)::(nat_lit 205,uC)::(nat_lit 206,uB)::(nat_lit 207,uA)::(nat_lit 209,uz)::(nat_lit 210,uy)::(nat_lit 212,ux)::(nat_lit 213,uw)::(nat_lit 214,uv)::(nat_lit 216,uu)::(nat_lit 217,ut)::(nat_lit 219,ur)::(nat_lit 220,uq)::(nat_lit 221,uo)::(nat_lit 222,um P)::(nat_lit 223,ul)::(nat_lit 224,uk)::(nat_lit 225,uj)::(nat_lit 228,ui)::(nat_lit 230,uh)::(nat_lit 231,ug)::(nat_lit 233,uf)::(nat_lit 234,ue)::(nat_lit 235,ud)::(nat_lit 237,uc)::(nat_lit 238,ub)::(nat_lit 240,ua)::(nat_lit 241,t9)::(nat_lit 242,t8)::(nat_lit 244,t7)::(nat_lit 245,t6)::(nat_lit 247,t5)::(nat_lit 248,tZ)::(nat_lit 249,tY)::(nat_lit 251,tX)::(nat_lit 252,tW)::(nat_lit 254,tV)::(nat_lit 255,tU)::(nat_lit 256,tT)::(nat_lit 258,tS)::(nat_lit 259,tR)::(nat_lit 261,tQ)::(nat_lit 262,tP)::(nat_lit 263,tO)::(nat_lit 265,tN)::(nat_lit 266,tM)::(nat_lit 268,tL)::(nat_lit 269,tK)::(nat_lit 270,tJ)::(nat_lit 273,tI)::(nat_lit 274,tH)::(nat_lit 275,tG)::(nat_lit 277,tF)::(nat_lit 278,tE)::(nat_lit 280,tD)::(nat_lit 281,tz)::(nat_lit 282,tu)::(nat_lit 284,tm)::(nat_lit 285,tj)::(nat_lit 287,tf)::(nat_lit 288,sZ)::(nat_lit 289,sY)::(nat_lit 291,sX)::(nat_lit 292,sW)::(nat_lit 294,sV)::(nat_lit 295,sU)::(nat_lit 296,sT)::(nat_lit 299,sS)::(nat_lit 300,sR)::(nat_lit 301,sQ)::(nat_lit 304,sP)::(nat_lit 305,sO)::(nat_lit 306,sN)::(nat_lit 309,sM)::(nat_lit 310,sL)::(nat_lit 311,sK)::(nat_lit 313,sJ)::(nat_lit 314,sI)::(nat_lit 316,sH)::(nat_lit 317,sG)::(nat_lit 318,sF)::(nat_lit 320,sE)::(nat_lit 321,sD)::(nat_lit 323,sC)::(nat_lit 324,sA)::(nat_lit 325,sy)::(nat_lit 328,sw)::(nat_lit 329,sv)::[]
noncomputable def hA:List Addr:=nat_lit 2::nat_lit 3::nat_lit 15::nat_lit 22::nat_lit 23::nat_lit 24::nat_lit 25::nat_lit 28::nat_lit 35::nat_lit 36::nat_lit 37::nat_lit 40::nat_lit 47::nat_lit 48::nat_lit 49::nat_lit 52::nat_lit 59::nat_lit 61::nat_lit 62::nat_lit 64::nat_lit 65::nat_lit 66::nat_lit 67::nat_lit 68::nat_lit 71::nat_lit 78::nat_lit 79::nat_lit 80::nat_lit 83::nat_lit 90::nat_lit 91::nat_lit 92::nat_lit 95::nat_lit 102::nat_lit 103::nat_lit 104::nat_lit 107::nat_lit 114::nat_lit 115::nat_lit 116::nat_lit 119::nat_lit 126::nat_lit 127::nat_lit 128::nat_lit 131::nat_lit 138::nat_lit 139::nat_lit 140::nat_lit 143::nat_lit 145::nat_lit 146::nat_lit 148::nat_lit 149::nat_lit 150::nat_lit 152::nat_lit 153::nat_lit 155::nat_lit 156::nat_lit 157::nat_lit 159::nat_lit 160::nat_lit 162::nat_lit 163::nat_lit 164::nat_lit 166::nat_lit 167::nat_lit 169::nat_lit 170::nat_lit 171::nat_lit 173::nat_lit 174::nat_lit 176::nat_lit 177::nat_lit 178::nat_lit 181::nat_lit 182::nat_lit 190::nat_lit 193::nat_lit 194::nat_lit 195::nat_lit 197::nat_lit 198::nat_lit 200::nat_lit 201::nat_lit 202::nat_lit 205::nat_lit 206::nat_lit 207::nat_lit 209::nat_lit 210::nat_lit 212::nat_lit 213::nat_lit 214::nat_lit 216::nat_lit 217::nat_lit 219::nat_lit 220::nat_lit 221::nat_lit 222::nat_lit 223::nat_lit 224::nat_lit 225::nat_lit 228::nat_lit 230::nat_lit 231::nat_lit 233::nat_lit 234::nat_lit 235::nat_lit 237::nat_lit 238::nat_lit 240::nat_lit 241::nat_lit 242::nat_lit 244::nat_lit 245::nat_lit 247::nat_lit 248::nat_lit 249::nat_lit 251::nat_lit 252::nat_lit 254::nat_lit 255::nat_lit 256::nat_lit 258::nat_lit 259::nat_lit 261::nat_lit 262::nat_lit 263::nat_lit 265::nat_lit 266::nat_lit 268::nat_lit 269::nat_lit 270::nat_lit 273::nat_lit 274::nat_lit 275::nat_lit 277::nat_lit 278::nat_lit 280::nat_lit 281::nat_lit 282::nat_lit 284::nat_lit 285::nat_lit 287::nat_lit 288::nat_lit 289::nat_lit 291::nat_lit 292::nat_lit 294::nat_lit 295::nat_lit 296::nat_lit 299::nat_lit 300::nat_lit 301::nat_lit 304::nat_lit 305::nat_lit 306::nat_lit 309::nat_lit 310::nat_lit 311::nat_lit 313::nat_lit 314::nat_lit 316::nat_lit 317::nat_lit 318::nat_lit 320::nat_lit 321::nat_lit 323::nat_lit 324::nat_lit 325::nat_lit 328::nat_lit 329::[]
noncomputable def hE:Env:={scope:=hP.main.scope,locals:=mainNs,globals:=mainNs,cells:=[],code:=(.ref 13),frame:=some 14}
noncomputable def hB:List Stmt:=PySem.W.behindTheImports hP
noncomputable abbrev hC:Code:=.body hB hE
noncomputable abbrev hN:Option Value:=(some (.ref 6))
noncomputable abbrev hF:List Frame:=[PySem.W.topFrame ⟨0,0,0,0⟩]
noncomputable def hS (w:World) (os:OsState):Shared:=⟨ES w.params,Array.mk [],PySem.W.boot_drawn,PySem.W.boot_toks,os⟩
noncomputable def AU (w:World) (os:OsState):Shared:=(PySem.W.topGo treeTable hP w 11 hN 12 (hS w os) (Fb hP)).elim (hS w os) λ x=>x.1
noncomputable def AT (w:World) (os:OsState):PySem.W.SharedT:=toT ((Fc treeTable hP w 11 hN 1 1 (AU w os) (Fd hB hE hC ⟨0,0,0,0⟩ hF)).elim (AU w os) λ x=>x.2.1)
theorem hpre (w:World) (os:OsState):PySem.W.topGo treeTable hP w 11 hN 12 (hS w os) (Fb hP)=some (AU w os,⟨denote treeTable hC,hC,⟨0,0,0,0⟩,hF⟩):=by kernel_rfl
theorem CI (w:World) (os:OsState):Fc treeTable hP w 11 hN 1 1 (AU w os) (Fd hB hE hC ⟨0,0,0,0⟩ hF)=some (.next,(AT w os).abs,hC,⟨0,0,0,0⟩):=by kernel_rfl
noncomputable def hL1 (P:Params):PySem.W.BT:=az (PySem.W.boot_o_0 P) (az (PySem.W.boot_o_1 P) (az (zo3 P) (az (PySem.W.boot_o_7 P) (az zA (az B9 (az BM (az (vq P) (aM tU) .nil) (az zh (aM yn) .nil)) (az xO (az u3 (aM tf) .nil) (aM ul))) (az yf (az (xU P) (az vj (aM yI) .nil) (aM uA)) (az zX (az zr (aM yt) .nil) (aM yV)))) (az (yY P) (az B4 (az xW (az zH (aM tO) .nil) (az ze (aM yk) .nil)) (az (vB P) (az uW (aM sU) .nil) (aM ug))) (az BR (az Bx (az zz (aM yF) .nil) (aM y9)) (az vv (az zo (aM sK) .nil) (aM t5))))) (az Co (az Cg (az yj (az (xY P) (az vo (aM tR) .nil) (az uI (aM sC) .nil)) (az Bp (az uZ (aM sX) .nil) (aM y0))) (az BW (az xS (az zB (aM tG) .nil) (aM za)) (az (vx P) (az zq (aM yr) .nil) (aM yT)))) (az Cc (az B1 (az BG (az (vm P) (aM yJ) .nil) (aM zd)) (az vz (az uT (aM sS) .nil) (aM ud))) (az x9 (az (xQ P) (az vb (aM yD) .nil) (aM ur)) (az zP (az zk (aM yo) .nil) (aM tX)))))) (az (PySem.W.boot_o_5 P) (az (PySem.W.boot_o_9 P) (az (Ci P) (az B7 (az x0 (az zM (aM yN) .nil) (az uK (aM sD) .nil)) (az (Br P) (az zw (aM sY) .nil) (aM uj))) (az yb (az BD (az vi (aM tI) .nil) (aM uz)) (az zV (az uP (aM sO) .nil) (aM t9)))) (az yR (az B3 (az (BI P) (az zF (aM tN) .nil) (az uE (aM sv) .nil)) (az Ac (az uV (aM yx) .nil) (aM uf))) (az BP (az Bv (az vc (aM tz) .nil) (aM ut)) (az (zR P) (az (zm P) (aM sJ) .nil) (aM tY))))) (az Cm (az Ce (az yh (az BL (az (zJ P) (aM tQ) .nil) (az uH (aM sy) .nil)) (az Ad (az zv (aM yy) .nil) (aM yZ))) (az BV (az (Bz P) (az vf (aM tF) .nil) (aM uw)) (az zU (az uN (aM sM) .nil) (aM t6)))) (az Cb (az BZ (az BE (az zE (aM tK) .nil) (aM uC)) (az (zZ P) (az uS (aM sQ) .nil) (aM uc))) (az x8 (az Bu (az u7 (aM tj) .nil) (aM uo)) (az zN (az zi (aM sG) .nil) (aM yO))))))) (az (Fa P) (az (PySem.W.boot_o_4 P) (az (PySem.W.boot_o_8 P) (az Cj (az B8 (az x5 (az vp (aM tT) .nil) (az zg (aM sE) .nil)) (az Bs (az u2 (aM sZ) .nil) (aM uk))) (az (yd P) (az xT (az zC (aM yH) .nil) (aM zb)) (az zW (az uQ (aM sP) .nil) (aM ua)))) (az yU (az yg (az BJ (az zG (aM yL) .nil) (az uF (aM sw) .nil)) (az vA (az zu (aM sT) .nil) (aM yX))) (az BQ (az Bw (az vd (aM tD) .nil) (aM uu)) (az zS (az zn (aM yp) .nil) (aM tZ))))) (az Cn (az Cf (az (yi P) (az xX (az zK (aM yM) .nil) (az zf (aM sA) .nil)) (az Ae (az uY (aM sW) .nil) (aM ui))) (az ya (az BA (az vg (aM yG) .nil) (aM ux)) (az vw (az zp (aM yq) .nil) (aM t7)))) (az yE (az B0 (az BF (az vk (aM tL) .nil) (aM zc)) (az Aa (az zt (aM sR) .nil) (aM yW))) (az BN (az xP (az u9 (aM tm) .nil) (aM uq)) (az zO (az zj (aM sH) .nil) (aM tW)))))) (az (PySem.W.boot_o_6 P) (az (PySem.W.boot_o_10 P) (az Ch (az B6 (az xZ (az zL (aM tS) .nil) (az uJ (aM ym) .nil)) (az Bq (az u1 (aM yz) .nil) (aM y3))) (az BX (az BB (az vh (aM tH) .nil) (aM uy)) (az vy (az uO (aM sN) .nil) (aM t8)))) (az Cd (az (B2 P) (az BH (az vn (aM tM) .nil) (aM uD)) (az Ab (az uU (aM yv) .nil) (aM ue))) (az BO (az xR (az zy (aM tu) .nil) (aM y8)) (az zQ (az zl (aM sI) .nil) (aM yQ))))) (az Ck (az y7 (az B5 (az BK (az zI (aM tP) .nil) (az uG (aM yl) .nil)) (az vC (az uX (aM sV) .nil) (aM uh))) (az (BS P) (az By (az ve (aM tE) .nil) (aM uv)) (az zT (az uM (aM sL) .nil) (aM yS)))) (az (Ca P) (az BY (az xV (az zD (aM tJ) .nil) (aM uB)) (az zY (az uR (aM yu) .nil) (aM ub))) (az x6 (az Bt (az zx (aM yB) .nil) (aM (um P))) (az vt (az uL (aM sF) .nil) (aM tV)))))))
noncomputable def CJ (w:World) (os:OsState):PySem.W.SharedT:=stT (hL1 w.params) 330 627 w.params os
noncomputable def hT1:List Stmt:=(hB.drop 0).take 39
theorem AO (w:World):(λ os=>PySem.W.segRunT treeTable hP w 11 hN 1 3204 (AT w os) ⟨(execs hT1 hE).wrap EZ PySem.W.deadEnd id id,hC,⟨0,0,0,0⟩,hF⟩)=λ os=>some (Flow.next,(CJ w os),hC,⟨174,0,207,87⟩):=by
 rw [PySem.W.Fast.te10110043849684766642,PySem.W.Fast.te12563942051412417395,PySem.W.Fast.te14364793385576792824]
 kernel_rfl
noncomputable def rF (tr:(String->Option Builtin)->Program->World->Nat->Option Value->Nat->Shared->Thread->Option Shared) (tb:String->Option Builtin) (w:World) (os:OsState):Shared:=
 (tr tb hP w 11 hN 2 (CJ w os).abs ⟨EZ .next,hC,⟨174,0,207,87⟩,hF⟩).elim (hS w os) id
noncomputable def hX (s:Shared):Bool:=PySem.W.xlAt hQ [] s&&PySem.W.recOk (PySem.W.RowW.records PySem.Challenge.rw_playboard_k03_boards.row.toRowW) s
theorem CH (w:World):(λ os=>EC treeTable hP w 11 hN 2 (CJ w os).abs ⟨EZ .next,hC,⟨174,0,207,87⟩,hF⟩)=λ os=>some (rF EC treeTable w os):=by
 rw [PySem.W.Fast.te14364793385576792824,PySem.W.Fast.te14082659384304107361]
 kernel_rfl
theorem xf (w:World):(λ os=>(PySem.W.staticsOk (importedModules hP.main.body) (ES w.params) (rF EC treeTable w os).heap&&PySem.W.namesBound hP (rF EC treeTable w os).heap&&PySem.W.gensDone (rF EC treeTable w os)&&PySem.W.laidKept (ES w.params) (rF EC treeTable w os).heap))=λ os=>true:=by
 rw [PySem.W.Fast.te14364793385576792824,PySem.W.Fast.te14082659384304107361,PySem.W.Fast.te5923862056798008813]
 kernel_rfl
theorem xb (w:World):(λ os=>PySem.W.openSeen hQ [] (importedModules hP.main.body) hX true (rF EC treeTable w os))=λ os=>PySem.W.openGood hQ []:=by
 rw [PySem.W.Fast.te14364793385576792824,PySem.W.Fast.te14082659384304107361,PySem.W.Fast.te4187177175401517315,PySem.W.Fast.te5923862056798008813]
 kernel_rfl
theorem xa (w:World):(λ os=>mI hA (rF EC treeTable w os))=λ os=>mH hK w:=by
 rw [PySem.W.Fast.te14364793385576792824,PySem.W.Fast.te14082659384304107361]
 kernel_rfl
theorem hBe:hB=(hT1++[]):=by kernel_rfl
theorem AS (w:World) (os:OsState):EC treeTable hP w 11 hN (3204+2) (AT w os).abs (Fe hB hE hC ⟨0,0,0,0⟩ hF)=some (rF EC treeTable w os):=by have r:=PySem.W.piece_nil (env:=hE) (congrFun (CH w) os);have r:=PySem.W.piece_app (PySem.W.segRun_of (congrFun (AO w) os)) r;exact (congrArg (λ l=>EC treeTable hP w 11 hN (3204+2) (AT w os).abs (Fe l hE hC ⟨0,0,0,0⟩ hF)) hBe).trans r
theorem hleft:PySem.W.LeftO hP hQ [] hX (mI hA) (mH hK) 6532:=
 nQ (n0:=12) (nb:=1) (n:=(3204+2)) (qp:=⟨0,0,0,0⟩) (p0:=⟨0,0,0,0⟩) (p1:=⟨0,0,0,0⟩) (H₀:=ES) (m₀:=11) (ann:=hN) (b:=hB) (env:=hE) (sa:=AU) (sb:=AT) (sf:=λ w os=>(rF EC treeTable w os))
  (PySem.W.boot_open (by kernel_rfl) (by decide+kernel) (λ s=>by kernel_rfl)) (λ w=>by kernel_rfl) hpre CI AS (by decide+kernel) (λ w os=>by rw [congrFun (xf w) os,congrFun (xb w) os,congrFun (xa w) os])
end K03
namespace K03
open PySem L2
theorem mC (P:Program) (w:World) (base:Heap) {K:Frag}{h:Heap}{mg:Str->Option Value}{name q:Str}{st:Stmt}{ps:List Str}{k:Nat}{sp:Sp}{f:Addr}{fd:FuncData}(X:K.In h) (G:h.Ns mainGlobals mg) (a:Ew K mainGlobals name=some (some (.ref f))) (F:bW K name q st f fd) (b:dq K fd ps []) (o:bp P w K mg base dN k f fd ps sp):eK P w K mg base name ps k sp:=⟨f,_,o,Ez X G a,F.kp,b⟩
noncomputable abbrev ζL (o:Value) (d:Option Addr) (a b:Str) (s:Stmt) (k c p:Value) (n:Option Addr) (e t:Value) (l:Array (Option Value)):Obj:=⟨o,d,.func (EF a b (dm s) (cw s) (ao s) .none k c p n e t),l⟩
theorem all_mk {l:PySem.W.OpenLaw}{w:World}{K:Frag}{h:Heap}{mg:Str->Option Value}{fa f1 f2 f3 f4 f5 f6 f7 f8 f9 f10 f11 f12 f13 f14 f15 f16 f17 f18 f19 f20 f21 f22 f23 f24 f25 f26 f27 cBoard cPlayError cBadBoard cBadGame cBadLine cBadPlace cNoMove cTooWide cNoWord cOver cNothingBack:Addr}(X:K.In h) (G:h.Ns mainGlobals mg) (hfa:mg "law"=some (.ref fa))
  {od27 an27:Option Addr} {sl27:Array (Option Value)} {oc27 kV27 dc27 pm27 cd27 ct27:Value} {d1 d2 d3 d4 d5 d6 d7 d8 d9 d10 d11 d12 d13 d14 d15 d16 d17 d18 d19 d20 d21 d22 d23 d24 d25 d26:FuncData} {u0:Value}
  (aCBoard:Ew K mainGlobals "Board"=some (some (.ref cBoard)))
  (aEPlayError:Ew K mainGlobals "PlayError"=some (some (.ref cPlayError)))
  (aEBadBoard:Ew K mainGlobals "BadBoard"=some (some (.ref cBadBoard)))
  (aEBadGame:Ew K mainGlobals "BadGame"=some (some (.ref cBadGame)))
  (aEBadLine:Ew K mainGlobals "BadLine"=some (some (.ref cBadLine)))
  (aEBadPlace:Ew K mainGlobals "BadPlace"=some (some (.ref cBadPlace)))
  (aENoMove:Ew K mainGlobals "NoMove"=some (some (.ref cNoMove)))
  (aETooWide:Ew K mainGlobals "TooWide"=some (some (.ref cTooWide)))
  (aENoWord:Ew K mainGlobals "NoWord"=some (some (.ref cNoWord)))
  (aEOver:Ew K mainGlobals "Over"=some (some (.ref cOver)))
  (aENothingBack:Ew K mainGlobals "NothingBack"=some (some (.ref cNothingBack)))
  (a1:Ew K mainGlobals "is_whole"=some (some (.ref f1)))
  (F1:bW K "is_whole" "is_whole" cV f1 d1)
  (a2:Ew K mainGlobals "is_among"=some (some (.ref f2)))
  (F2:bW K "is_among" "is_among" cW f2 d2)
  (a3:Ew K mainGlobals "column_of"=some (some (.ref f3)))
  (F3:bW K "column_of" "column_of" cE f3 d3)
  (a4:Ew K mainGlobals "row_of"=some (some (.ref f4)))
  (F4:bW K "row_of" "row_of" dU f4 d4)
  (a5:Ew K mainGlobals "square_at"=some (some (.ref f5)))
  (F5:bW K "square_at" "square_at" cD f5 d5)
  (a6:Ew K mainGlobals "are_holes"=some (some (.ref f6)))
  (F6:bW K "are_holes" "are_holes" cf f6 d6)
  (a7:Ey K (.ref cBoard) "__init__"=some (some (.ref f7))) (iF7:EH K (.ref f7)=true)
  (F7:bW K "__init__" "Board.__init__" aX f7 d7)
  (a8:Ey K (.ref cBoard) "has"=some (some (.ref f8))) (iF8:EH K (.ref f8)=true)
  (F8:bW K "has" "Board.has" cJ f8 d8)
  (a9:Ey K (.ref cBoard) "squares"=some (some (.ref f9))) (iF9:EH K (.ref f9)=true)
  (F9:bW K "squares" "Board.squares" bt f9 d9)
  (a10:Ey K (.ref cBoard) "moved"=some (some (.ref f10))) (iF10:EH K (.ref f10)=true)
  (F10:bW K "moved" "Board.moved" bV f10 d10)
  (a11:Ey K (.ref cBoard) "far_row"=some (some (.ref f11))) (iF11:EH K (.ref f11)=true)
  (F11:bW K "far_row" "Board.far_row" bJ f11 d11)
  (a12:Ew K mainGlobals "_law_at"=some (some (.ref f12)))
  (F12:bW K "_law_at" "_law_at" dD f12 d12)
  (a13:Ew K mainGlobals "_law_whole"=some (some (.ref f13)))
  (F13:bW K "_law_whole" "_law_whole" ck f13 d13)
  (a14:Ew K mainGlobals "_law_word"=some (some (.ref f14)))
  (F14:bW K "_law_word" "_law_word" cF f14 d14)
  (a15:Ew K mainGlobals "_law_side"=some (some (.ref f15)))
  (F15:bW K "_law_side" "_law_side" cG f15 d15)
  (a16:Ew K mainGlobals "_law_holes"=some (some (.ref f16)))
  (F16:bW K "_law_holes" "_law_holes" cp f16 d16)
  (a17:Ew K mainGlobals "_law_spoilt_side"=some (some (.ref f17)))
  (F17:bW K "_law_spoilt_side" "_law_spoilt_side" bj f17 d17)
  (a18:Ew K mainGlobals "_law_spoilt_holes"=some (some (.ref f18)))
  (F18:bW K "_law_spoilt_holes" "_law_spoilt_holes" aT f18 d18)
  (a19:Ew K mainGlobals "_law_said"=some (some (.ref f19)))
  (F19:bW K "_law_said" "_law_said" cH f19 d19)
  (a20:Ew K mainGlobals "_law_is_among"=some (some (.ref f20)))
  (F20:bW K "_law_is_among" "_law_is_among" bI f20 d20)
  (a21:Ew K mainGlobals "_law_goal"=some (some (.ref f21)))
  (F21:bW K "_law_goal" "_law_goal" cI f21 d21)
  (a22:Ew K mainGlobals "_law_same"=some (some (.ref f22)))
  (F22:bW K "_law_same" "_law_same" cg f22 d22)
  (a23:Ew K mainGlobals "_law_steps_right"=some (some (.ref f23)))
  (F23:bW K "_law_steps_right" "_law_steps_right" aW f23 d23)
  (a24:Ew K mainGlobals "_law_fields_right"=some (some (.ref f24)))
  (F24:bW K "_law_fields_right" "_law_fields_right" aU f24 d24)
  (a25:Ew K mainGlobals "_law_right"=some (some (.ref f25)))
  (F25:bW K "_law_right" "_law_right" cn f25 d25)
  (a26:Ew K mainGlobals "_law_all_right"=some (some (.ref f26)))
  (F26:bW K "_law_all_right" "_law_all_right" bD f26 d26)
  (a27:Ew K mainGlobals "law"=some (some (.ref f27)))
  (l27:K.lookup f27=some (ζL oc27 od27 "law" "law" eT kV27 dc27 pm27 an27 cd27 ct27 sl27)) (c27:ER K cd27 "law"=true) (k27:EE K (.ref f27)=true)
  (pgXBoard:EJ K cBoard Str.empty=true)
  (hdXBoard:EQ K cBoard=true)
  (poXBoard:EV K cBoard=true)
  (saXBoard:Ey K (.ref cBoard) "__setattr__"=some (some (.builtin "object.__setattr__")))
  (mkXBoard:EX K cBoard=true)
  (kcXBoard:EE K (.ref cBoard)=true)
  (naBoardwide:Ey K (.ref cBoard) "wide"=some none)
  (naBoardhigh:Ey K (.ref cBoard) "high"=some none)
  (naBoardholes:Ey K (.ref cBoard) "holes"=some none)
  (naBoardfirm:Ey K (.ref cBoard) "firm"=some none)
  (xq:EM K cBadBoard [.type "ValueError",.type "Exception",.type "BaseException",.type "object"] "ValueError.__new__"=true)
  (xga:Ey K (.ref cBadBoard) "__getattribute__"=some (some (.builtin "BaseException.__getattribute__")))
  (xgh:Ey K (.ref cBadBoard) "__getattr__"=some none)
  (xha:Ey K (.ref cBadBoard) "__class__"=some (some (.builtin "object.__class__")))
  (xhn:E4 K (.builtin "object.__class__") "__get__"=some (some (.builtin "getset_descriptor.__get__")))
  (xtk:E5 K (.builtin "object.__class__")=some true)
  (xhm:EK K cBadBoard (.type "object")=some true)
  (xhb:EK K cBadBoard (.type "BaseException")=some true)
  (xem:EN K (.ref cBadBoard) (.ref cPlayError)=some true)
  (xv:Ex K (.ref cBadBoard) (.type "ValueError")=some true)
  (xkBadBoard:Ex K (.ref cBadBoard) (.ref cBadBoard)=some true)
  (xkBadGame:Ex K (.ref cBadBoard) (.ref cBadGame)=some false)
  (xkBadLine:Ex K (.ref cBadBoard) (.ref cBadLine)=some false)
  (xkBadPlace:Ex K (.ref cBadBoard) (.ref cBadPlace)=some false)
  (xkNoMove:Ex K (.ref cBadBoard) (.ref cNoMove)=some false)
  (xkTooWide:Ex K (.ref cBadBoard) (.ref cTooWide)=some false)
  (xkNoWord:Ex K (.ref cBadBoard) (.ref cNoWord)=some false)
  (xkOver:Ex K (.ref cBadBoard) (.ref cOver)=some false)
  (xkNothingBack:Ex K (.ref cBadBoard) (.ref cNothingBack)=some false)
  (z0:Ew K mainGlobals "isinstance"=some none)
  (z1:Ew K mainGlobals "int"=some none)
  (z2:Ew K mainGlobals "bool"=some none)
  (z3:Ew K mainGlobals "str"=some none)
  (z4:Ew K mainGlobals "list"=some none)
  (z5:Ew K mainGlobals "tuple"=some none)
  (z6:Ew K mainGlobals "len"=some none)
  (z7:Ew K mainGlobals "range"=some none)
  (z8:Ew K mainGlobals "all"=some none)
  (z9:Ew K mainGlobals "set"=some none)
  (z10:Ew K mainGlobals "sorted"=some none)
  (z11:Ew K mainGlobals "min"=some none)
  (z12:Ew K mainGlobals "enumerate"=some none)
  (z13:Ew K mainGlobals "ValueError"=some none)
  (kg0:Ew K mainGlobals "LONGEST"=some (some u0)) (rv0:aK (.int 8) u0):
  ∃fd:FuncData,(∀(s:Shared) (v:Value),BindsTo s fd ⟨[v],[]⟩ [("_law_script",v)])/\∀base:Heap,K.In base->base.Ns mainGlobals mg->bp l.prog w K mg base dN 7 fa fd ["_law_script"] (mf K):=by
 have e:=hfa.symm.trans (Ez X G a27);cases e;have T:Txt mg:=⟨EA X G z0,EA X G z1,EA X G z2,EA X G z3,EA X G z4,EA X G z5,EA X G z6,EA X G z7,EA X G z8,EA X G z9,EA X G z10,EA X G z11,EA X G z12,EA X G z13,⟨_,Ez X G kg0,rv0⟩⟩;have b1:=F1.binds (ps:=["thing"]) λ _ _ _ _ _ _=>L2.xJ (λ _=>rfl);have b2:=F2.binds (ps:=["thing","least","most"]) λ _ _ _ _ _ _=>L2.AH (λ _ _ _=>rfl);have b3:=F3.binds (ps:=["wide","square"]) λ _ _ _ _ _ _=>L2.rB (λ _ _=>rfl);have b4:=F4.binds (ps:=["wide","square"]) λ _ _ _ _ _ _=>L2.rB (λ _ _=>rfl);have b5:=F5.binds (ps:=["wide","column","row"]) λ _ _ _ _ _ _=>L2.AH (λ _ _ _=>rfl);have b6:=F6.binds (ps:=["thing","many"]) λ _ _ _ _ _ _=>L2.rB (λ _ _=>rfl);have b7:=F7.binds (ps:=["self","wide","high","holes"]) λ _ _ _ _ _ _=>L2.Cz (λ _ _ _ _=>rfl);have b8:=F8.binds (ps:=["self","square"]) λ _ _ _ _ _ _=>L2.rB (λ _ _=>rfl);have b9:=F9.binds (ps:=["self"]) λ _ _ _ _ _ _=>L2.xJ (λ _=>rfl);have b10:=F10.binds (ps:=["self","square","across","up"]) λ _ _ _ _ _ _=>L2.Cz (λ _ _ _ _=>rfl);have b11:=F11.binds (ps:=["self","side"]) λ _ _ _ _ _ _=>L2.rB (λ _ _=>rfl);have b12:=F12.binds (ps:=["_law_script","_law_k"]) λ _ _ _ _ _ _=>L2.rB (λ _ _=>rfl);have b13:=F13.binds (ps:=["_law_thing"]) λ _ _ _ _ _ _=>L2.xJ (λ _=>rfl);have b14:=F14.binds (ps:=["_law_e"]) λ _ _ _ _ _ _=>L2.xJ (λ _=>rfl);have b15:=F15.binds (ps:=["_law_cell"]) λ _ _ _ _ _ _=>L2.xJ (λ _=>rfl);have b16:=F16.binds (ps:=["_law_script","_law_k","_law_many"]) λ _ _ _ _ _ _=>L2.AH (λ _ _ _=>rfl);have b17:=F17.binds (ps:=["_law_cell","_law_old"]) λ _ _ _ _ _ _=>L2.rB (λ _ _=>rfl);have b18:=F18.binds (ps:=["_law_cell","_law_holes_here","_law_many"]) λ _ _ _ _ _ _=>L2.AH (λ _ _ _=>rfl);have b19:=F19.binds (ps:=["_law_wide","_law_high","_law_holes_here"]) λ _ _ _ _ _ _=>L2.AH (λ _ _ _=>rfl);have b20:=F20.binds (ps:=["_law_thing","_law_many"]) λ _ _ _ _ _ _=>L2.rB (λ _ _=>rfl);have b21:=F21.binds (ps:=["_law_wide","_law_high","_law_holes_here","_law_square","_law_across","_law_up"]) λ _ _ _ _ _ _=>L2.ln6 (λ _ _ _ _ _ _=>rfl);have b22:=F22.binds (ps:=["_law_found","_law_due"]) λ _ _ _ _ _ _=>L2.rB (λ _ _=>rfl);have b23:=F23.binds (ps:=["_law_board","_law_wide","_law_high","_law_holes_here","_law_some"]) λ _ _ _ _ _ _=>L2.ln5 (λ _ _ _ _ _=>rfl);have b24:=F24.binds (ps:=["_law_board","_law_wide","_law_high","_law_holes_here"]) λ _ _ _ _ _ _=>L2.Cz (λ _ _ _ _=>rfl);have b25:=F25.binds (ps:=["_law_board","_law_wide","_law_high","_law_holes_here","_law_things"]) λ _ _ _ _ _ _=>L2.ln5 (λ _ _ _ _ _=>rfl);have b26:=F26.binds (ps:=["_law_board","_law_wide","_law_high","_law_holes_here","_law_things","_law_steps","_law_order"]) λ _ _ _ _ _ _=>L2.ln7 (λ _ _ _ _ _ _ _=>rfl);have F27:=aY (st:=eT) l27 c27 k27;have b27:=F27.binds (ps:=["_law_script"]) λ _ _ _ _ _ _=>L2.xJ (λ _=>rfl);have cl_Board:m5 K cBoard:=⟨pgXBoard,hdXBoard,poXBoard,saXBoard⟩;refine ⟨EF "law" "law" (dm eT) (cw eT) (ao eT) .none kV27 dc27 pm27 an27 cd27 ct27,λ s v=>.of_eq rfl,λ base _ _=>?_⟩;have C_is_whole:=mC l.prog w base X G a1 F1 b1 (kA F1 T);have C_is_among:=mC l.prog w base X G a2 F2 b2 (kC F2 T ⟨C_is_whole⟩);have C_column_of:=mC l.prog w base X G a3 F3 b3 (jo F3 T);have C_row_of:=mC l.prog w base X G a4 F4 b4 (nI F4 T);have C_square_at:=mC l.prog w base X G a5 F5 b5 (jn F5 T);have HG:CHg l.prog w K mg base:=⟨C_is_among⟩;have C_are_holes:=mC l.prog w base X G a6 F6 b6 (hZ F6 T HG);have BC:gj K cBoard:=⟨cl_Board,naBoardwide,naBoardhigh,naBoardholes,naBoardfirm⟩;have DB2:CB2 l.prog w K mg base:={toCA:=⟨xz C_is_among⟩,are_holes:=nU C_are_holes};have C_Board:qD l.prog w K mg base "Board" cBoard _ _ _:=⟨f7,_,⟨mkXBoard,a7,iF7,kcXBoard⟩,gL F7 T BC DB2,Ez X G aCBoard,b7⟩;have X_Board:CU l.prog w K mg base "Board" cBoard _ _ _:=⟨f7,_,⟨mkXBoard,a7,iF7,kcXBoard⟩,gK (cB:=cBoard) F7 T (Ez X G aEBadBoard) xq {toCHg:=HG,are_holes:=C_are_holes},Ez X G aCBoard,b7⟩;have C_Board_has:hR l.prog w K mg base cBoard "has" _ _ _:=⟨⟨f8,_,ju F8 T BC HG,⟨a8,iF8,F8.kp⟩,b8⟩,cl_Board⟩;have C_Board_squares:hR l.prog w K mg base cBoard "squares" _ _ _:=⟨⟨f9,_,fV F9 T BC,⟨a9,iF9,F9.kp⟩,b9⟩,cl_Board⟩;have C_Board_moved:hR l.prog w K mg base cBoard "moved" _ _ _:=⟨⟨f10,_,gJ F10 T BC ⟨C_column_of,C_row_of,C_square_at⟩,⟨a10,iF10,F10.kp⟩,b10⟩,cl_Board⟩;have C_Board_far_row:hR l.prog w K mg base cBoard "far_row" _ _ _:=⟨⟨f11,_,fW F11 T BC,⟨a11,iF11,F11.kp⟩,b11⟩,cl_Board⟩;have C__law_at:=mC l.prog w base X G a12 F12 b12 (lu F12 T);have C__law_whole:=mC l.prog w base X G a13 F13 b13 (ia F13 T);have C__law_side:=mC l.prog w base X G a15 F15 b15 (jq F15 T);have C__law_holes:=mC l.prog w base X G a16 F16 b16 (ic F16 T ⟨C__law_at⟩);have XC:PySem.W.ExcC K cBadBoard:=⟨xga,xgh,xha,xhn,xtk,xhm,xhb,lP xhm⟩;have AL:AlC mg K cBadBoard true false false false false false false false false:=⟨XC,⟨_,Ez X G aEBadBoard,xkBadBoard⟩,⟨_,Ez X G aEBadGame,xkBadGame⟩,⟨_,Ez X G aEBadLine,xkBadLine⟩,⟨_,Ez X G aEBadPlace,xkBadPlace⟩,⟨_,Ez X G aENoMove,xkNoMove⟩,⟨_,Ez X G aETooWide,xkTooWide⟩,⟨_,Ez X G aENoWord,xkNoWord⟩,⟨_,Ez X G aEOver,xkOver⟩,⟨_,Ez X G aENothingBack,xkNothingBack⟩,xv,rfl⟩;have N__law_word:xE l.prog w K mg base "_law_word" _ _ _:=⟨f14,_,jp F14 T AL,Ez X G a14,F14.kp,b14⟩;have C__law_said:=mC l.prog w base X G a19 F19 b19 (js F19 T (Ez X G aEPlayError) xem ⟨X_Board,N__law_word⟩);have C__law_spoilt_side:=mC l.prog w base X G a17 F17 b17 (eO F17 T);have C__law_spoilt_holes:=mC l.prog w base X G a18 F18 b18 (dX F18 T);have WH:CWh l.prog w K mg base:=⟨C__law_whole⟩;have C__law_is_among:=mC l.prog w base X G a20 F20 b20 (fU F20 T WH);have C__law_goal:=mC l.prog w base X G a21 F21 b21 (jt F21 T);have C__law_same:=mC l.prog w base X G a22 F22 b22 (jr F22 T WH);have FR:Bo l.prog w K mg base cBoard:={toCWh:=WH,_law_same:=C__law_same,_law_is_among:=C__law_is_among,_law_goal:=C__law_goal,Board_has:=C_Board_has,Board_squares:=C_Board_squares,Board_moved:=C_Board_moved,Board_far_row:=C_Board_far_row};have C__law_fields_right:=mC l.prog w base X G a24 F24 b24 (dY F24 T BC FR);have C__law_right:=mC l.prog w base X G a25 F25 b25 (ib F25 T BC FR);have C__law_steps_right:=mC l.prog w base X G a23 F23 b23 (eN F23 T BC FR);have AR:CAr l.prog w K mg base cBoard:=⟨C__law_fields_right,C__law_right,C__law_steps_right⟩;have C__law_all_right:=mC l.prog w base X G a26 F26 b26 (fo F26 T AR);have C:CL l.prog w K mg base cBoard:={toCAr:=AR,_law_at:=C__law_at,_law_side:=C__law_side,_law_holes:=C__law_holes,_law_spoilt_side:=C__law_spoilt_side,_law_spoilt_holes:=C__law_spoilt_holes,_law_said:=C__law_said,_law_all_right:=C__law_all_right,Board:=C_Board,Board_squares:=C_Board_squares};exact wP F27 T C
theorem walk {l:PySem.W.OpenLaw}{q:Program}{loose:List Str}{XP:(Str->Option Value)->Heap->Prop}{YP:World->Heap->Prop}{d:DefRec}{K:Params->Frag}(hn:l.most=some 63) (hdf:d.params.defaults=[])
  (hY:∀(w:World) (h:Heap),YP w h->(K w.params).In h)
  (F:∀(w:World) (mg:Str->Option Value) (fa:Addr) (h:Heap),(K w.params).In h->h.Ns mainGlobals mg->mg d.name=some (.ref fa)->
   ∃fd:FuncData,(∀(s:Shared) (u:Value),BindsTo s fd ⟨[u],[]⟩ [("_law_script",u)])/\∀base:Heap,(K w.params).In base->base.Ns mainGlobals mg->bp l.prog w (K w.params) mg base dN 7 fa fd ["_law_script"] (mf (K w.params))):
  PySem.W.WalkO q loose XP YP l.row.toRowW d [] (λ f vs=>PySem.call f vs):=
 L2.qI (n:=63) (k:=7) (x:="_law_script") (CX:=λ _=>dN) (sp:=λ w=>mf (K w.params)) hn (by decide) hdf ⟨rfl,by decide,by decide⟩ hY F (λ _ _ a ns hl _ hS=>⟨a,ns,rfl,hS,hl,λ _=>rfl⟩) λ _ _ _ _ _ z=>z
end K03
open PySem PySem.W PyProof.Rows
set_option maxRecDepth 100000 in
set_option maxHeartbeats 0 in
theorem PySem.Challenge.cw_playboard_k03_boards_holds : PySem.Challenge.rw_playboard_k03_boards.Holds := by
 w_on
 o_law
 refine PySem.W.holds_openX (q:=K03.hQ) (loose:=[]) (Xt:=K03.hX) (XP:=PySem.W.XL K03.hQ []) (Yf:=L2.mI K03.hA) (Ya:=L2.mH K03.hK) K03.hleft (λ s e=>PySem.W.xl_of s (Ek.mp e).1) PySem.W.XL.keeps (by rfl) (by rfl) (by rfl) (λ s e=>PySem.W.recFacts_of (Ek.mp e).2) (by rfl) (by first | assumption | decide+kernel) (by decide+kernel) ⟨rfl,rfl,rfl,rfl,rfl,by decide+kernel⟩ ?hw ?hc
 (case hw=>w_witness2)
 k_fill
 refine L2.oA (L2.AQ (λ _=>by kernel_rfl)) ?_;refine K03.walk (l:=PySem.Challenge.rw_playboard_k03_boards) rfl rfl (λ w h Y=>Y) ?F
 case F=>
  intro w mg fa h KX G hmg
  refine' K03.all_mk KX G hmg ?aCBoard ?aEPlayError ?aEBadBoard ?aEBadGame ?aEBadLine ?aEBadPlace ?aENoMove ?aETooWide ?aENoWord ?aEOver ?aENothingBack ?a1 ?F1 ?a2 ?F2 ?a3 ?F3 ?a4 ?F4 ?a5 ?F5 ?a6 ?F6 ?a7 ?iF7 ?F7 ?a8 ?iF8 ?F8 ?a9 ?iF9 ?F9 ?a10 ?iF10 ?F10 ?a11 ?iF11 ?F11 ?a12 ?F12 ?a13 ?F13 ?a14 ?F14 ?a15 ?F15 ?a16 ?F16 ?a17 ?F17 ?a18 ?F18 ?a19 ?F19 ?a20 ?F20 ?a21 ?F21 ?a22 ?F22 ?a23 ?F23 ?a24 ?F24 ?a25 ?F25 ?a26 ?F26 ?a27 ?l27 ?c27 ?k27 ?pgXBoard ?hdXBoard ?poXBoard ?saXBoard ?mkXBoard ?kcXBoard ?naBoardwide ?naBoardhigh ?naBoardholes ?naBoardfirm ?xq ?xga ?xgh ?xha ?xhn ?xtk ?xhm ?xhb ?xem ?xv ?xkBadBoard ?xkBadGame ?xkBadLine ?xkBadPlace ?xkNoMove ?xkTooWide ?xkNoWord ?xkOver ?xkNothingBack ?z0 ?z1 ?z2 ?z3 ?z4 ?z5 ?z6 ?z7 ?z8 ?z9 ?z10 ?z11 ?z12 ?z13 ?kg0 ?rv0
  (case aCBoard=>k_is)
  (case aEPlayError=>k_is)
  (case aEBadBoard=>k_is)
  (case aEBadGame=>k_is)
  (case aEBadLine=>k_is)
  (case aEBadPlace=>k_is)
  (case aENoMove=>k_is)
  (case aETooWide=>k_is)
  (case aENoWord=>k_is)
  (case aEOver=>k_is)
  (case aENothingBack=>k_is)
  (case a1=>k_is)
  (case F1=>exact L2.aY (by k_is) (by k_is) (by k_is))
  (case a2=>k_is)
  (case F2=>exact L2.aY (by k_is) (by k_is) (by k_is))
  (case a3=>k_is)
  (case F3=>exact L2.aY (by k_is) (by k_is) (by k_is))
  (case a4=>k_is)
  (case F4=>exact L2.aY (by k_is) (by k_is) (by k_is))
  (case a5=>k_is)
  (case F5=>exact L2.aY (by k_is) (by k_is) (by k_is))
  (case a6=>k_is)
  (case F6=>exact L2.aY (by k_is) (by k_is) (by k_is))
  (case a7=>k_is)
  (case iF7=>k_is)
  (case F7=>exact L2.aY (by k_is) (by k_is) (by k_is))
  (case a8=>k_is)
  (case iF8=>k_is)
  (case F8=>exact L2.aY (by k_is) (by k_is) (by k_is))
  (case a9=>k_is)
  (case iF9=>k_is)
  (case F9=>exact L2.aY (by k_is) (by k_is) (by k_is))
  (case a10=>k_is)
  (case iF10=>k_is)
  (case F10=>exact L2.aY (by k_is) (by k_is) (by k_is))
  (case a11=>k_is)
  (case iF11=>k_is)
  (case F11=>exact L2.aY (by k_is) (by k_is) (by k_is))
  (case a12=>k_is)
  (case F12=>exact L2.aY (by k_is) (by k_is) (by k_is))
  (case a13=>k_is)
  (case F13=>exact L2.aY (by k_is) (by k_is) (by k_is))
  (case a14=>k_is)
  (case F14=>exact L2.aY (by k_is) (by k_is) (by k_is))
  (case a15=>k_is)
  (case F15=>exact L2.aY (by k_is) (by k_is) (by k_is))
  (case a16=>k_is)
  (case F16=>exact L2.aY (by k_is) (by k_is) (by k_is))
  (case a17=>k_is)
  (case F17=>exact L2.aY (by k_is) (by k_is) (by k_is))
  (case a18=>k_is)
  (case F18=>exact L2.aY (by k_is) (by k_is) (by k_is))
  (case a19=>k_is)
  (case F19=>exact L2.aY (by k_is) (by k_is) (by k_is))
  (case a20=>k_is)
  (case F20=>exact L2.aY (by k_is) (by k_is) (by k_is))
  (case a21=>k_is)
  (case F21=>exact L2.aY (by k_is) (by k_is) (by k_is))
  (case a22=>k_is)
  (case F22=>exact L2.aY (by k_is) (by k_is) (by k_is))
  (case a23=>k_is)
  (case F23=>exact L2.aY (by k_is) (by k_is) (by k_is))
  (case a24=>k_is)
  (case F24=>exact L2.aY (by k_is) (by k_is) (by k_is))
  (case a25=>k_is)
  (case F25=>exact L2.aY (by k_is) (by k_is) (by k_is))
  (case a26=>k_is)
  (case F26=>exact L2.aY (by k_is) (by k_is) (by k_is))
  (case a27=>k_is)
  (case l27=>k_is)
  (case c27=>k_is)
  (case k27=>k_is)
  (case pgXBoard=>k_is)
  (case hdXBoard=>k_is)
  (case poXBoard=>k_is)
  (case saXBoard=>k_is)
  (case mkXBoard=>k_is)
  (case kcXBoard=>k_is)
  (case naBoardwide=>k_is)
  (case naBoardhigh=>k_is)
  (case naBoardholes=>k_is)
  (case naBoardfirm=>k_is)
  (case xq=>kernel_rfl)
  (case xga=>k_is)
  (case xgh=>k_is)
  (case xha=>k_is)
  (case xhn=>k_is)
  (case xtk=>k_is)
  (case xhm=>k_is)
  (case xhb=>k_is)
  (case xem=>kernel_rfl)
  (case xv=>kernel_rfl)
  (case xkBadBoard=>kernel_rfl)
  (case xkBadGame=>kernel_rfl)
  (case xkBadLine=>kernel_rfl)
  (case xkBadPlace=>kernel_rfl)
  (case xkNoMove=>kernel_rfl)
  (case xkTooWide=>kernel_rfl)
  (case xkNoWord=>kernel_rfl)
  (case xkOver=>kernel_rfl)
  (case xkNothingBack=>kernel_rfl)
  (case z0=>k_is)
  (case z1=>k_is)
  (case z2=>k_is)
  (case z3=>k_is)
  (case z4=>k_is)
  (case z5=>k_is)
  (case z6=>k_is)
  (case z7=>k_is)
  (case z8=>k_is)
  (case z9=>k_is)
  (case z10=>k_is)
  (case z11=>k_is)
  (case z12=>k_is)
  (case z13=>k_is)
  (case kg0=>k_is)
  (case rv0=>exact ⟨_,rfl⟩)
